import PyProof.Rows.All
import Wide.All
import OpenK.AllK
import Wide.FinOn
import PyProof.EqAt
import PyProof.EqKinds
import PyProof.TupleCall
import KE.KExcInit
import KE.KExcIs
import HandS.ForMost
import HandS.ForExc
import HandS.IsInst
import HandS.ExcValue
import HandS.ExcField
import HandS.ExcOwn
import HandS.Codes
import HandS.Head0
import HandS.Head1
import HandS.Head2
import KE.KDictDisplayH
import HandS.HeadHook1
import HandS.Walk
import HandS.Dict
import HandS.ExcIs
import HandS.Wide
import HandS.Zip
import HandS.Style
import HandS.CallLocal
import HandS.Strs
import HandS.More
import HandS.Ends
import HandS.Words
import PySem.Challenge.RW_figuredeeds_k07_looks_known_and_shared
set_option Elab.async false
set_option linter.all false
set_option maxRecDepth 100000
set_option maxHeartbeats 2000000
namespace PySem
namespace FellX
open PySem.W PySem.Calls PyProof.Rows PySem.HandSPX Builtin Builtin.ObjectAttr
abbrev rtTail : List Value := [.type "RuntimeError", .type "Exception", .type "BaseException", .type "object"]
/-- a first field of a fresh error whose class stands straight under RuntimeError -/
theorem rt_osa {prog : Program} {w : World} {A : Around} {R : Result → Shared → Prop} {hp : Heap} {gs : Array GenState} {dr : Drawn} {n : Nat} {os : OsState}
    {K : W.Frag} {f : Str} {tk : Tok} {v : Value} {x C : Addr} {fv : Array Value} {cd : ClassData} (X : K.In hp)
    (hx : hp.get? x = some { cls := .ref C, data := .fields fv }) (hcd : W.clsIn K C = some cd) (hm : cd.mro = .ref C :: rtTail) (hh : cd.hasDict = true)
    (ha : W.findIn K (.ref C) f = some none)
    (hq : ∀ h' tk' dx, (∀ b o, b ≠ x → hp.get? b = some o → h'.get? b = some o) → hp.objs.size ≤ dx → dx ≠ x →
      h'.get? x = some { cls := .ref C, dict := some dx, data := .fields fv } → h'.Ns1 dx (fun y => if y = f then some v else none) →
      R (.ok (.ret .none)) ⟨h', gs, dr, tk', os⟩) :
    codeAny (model prog w) A (.call (.builtin "object.__setattr__") ⟨[.ref x, .str f tk, v], []⟩) R ⟨hp, gs, dr, n, os⟩ := by
  have J : W.InstAt hp x { cls := .ref C, data := .fields fv } C none := ⟨hx, rfl, rfl, trivial⟩
  have S := F.store_object
  have hob : cd.mro.contains (.type "object") = true := by
    rw [hm, List.contains_cons, show rtTail.contains (.type "object") = true by decide +kernel, Bool.or_true]
  have xs : x ≠ hp.objs.size := Nat.ne_of_lt (Heap.lt_size hx)
  have su : W.Looks (model prog w) hp (isInstance (.ref x) (.type "object")) true := J.type.andThen
    (W.looks_mroIn X (by unfold W.mroIn; rw [hcd, Option.bind_some, if_neg (by rw [hm]; intro z; cases z), hob]))
  refine codeAny_call_builtin S.slot.plain S.entry
    (@W.check_slot (model prog w) _ _ ⟨hp, gs, dr, n, os⟩ "object.__setattr__" "object" "__setattr__" (.ref x) [.str f tk, v] [] _ S.kind S.split su
      (S.args (.ref x) (.str f tk) v) ?_)
  have lm : W.Looks (model prog w) hp (mroOf (.ref C)) cd.mro := (W.looks_clsIn X hcd).andThen .now
  have lt : W.Looks (model prog w) hp (storeTaker? none) none := .now
  have lc : W.Looks (model prog w) hp (classData C) cd := W.looks_clsIn X hcd
  rw [W.osa_eq, refuse_eq]
  refine wpAny_bind (wpAny_bind (J.type.at (wpAny_bind (lm.at ?_))))
  rw [hm, refuseLoop_ref, show refuseLoop (Value.ref x) "__setattr__" rtTail = pure () from F.store_RuntimeError.passes _]
  refine wpAny_pure (wpAny_bind (J.type.at (wpAny_bind
    ((W.looks_findIn X ha).at (wpAny_bind (lt.at ?_))))))
  show wpAny _ _ (storeInOwnDict (.ref x) (.ref C) (.str f tk) f v false) _ _ _
  obtain ⟨_, _, mro, _, _, hd, _, _, _, _, _⟩ := cd
  dsimp only at hh
  subst hh
  unfold storeInOwnDict ownDictForStores
  repeat (first
    | with_reducible refine store_in_new ?_ ?_
    | with_reducible refine wpAny_loadPart_at hx ?_
    | with_reducible refine lc.at ?_
    | wp_step)
  · exact ⟨_, #[], _, (Heap.get?_update_ne _ _ _ _ xs.symm).trans (Heap.get?_push_at rfl rfl), rfl,
      fun e he => absurd he (by simp), fun _ => rfl⟩
  · intro h' tk' hn' hs
    have hx' : (hp.push { cls := .type "dict", data := .dict #[] }).get? x = some { cls := .ref C, data := .fields fv } :=
      Heap.get?_push_of_some _ hx
    refine hq h' tk' hp.objs.size (fun b o nb e => ?_) (Nat.le_refl _) xs.symm ?_ hn'
    · exact (hs.2 b (Nat.ne_of_lt (Heap.lt_size e))).trans
        ((Heap.get?_update_ne _ _ _ _ nb).trans (Heap.get?_push_of_some _ e))
    · exact (hs.2 x xs).trans (Heap.get?_update_self _ hx' rfl)
end FellX
end PySem
namespace PySem
namespace FellX
open PySem.W PySem.Calls PyProof.Rows PySem.HandSPX
/-! ### the text of __init__ -/
def iA (p1 p2 : Pos) : Arguments := { posonlyargs := [], args := [{ arg := "self", annotation := none, pos := p1 }, { arg := "word", annotation := none, pos := p2 }], vararg := none, kwonlyargs := [], kw_defaults := [], kwarg := none, defaults := [] }
def iB (q1 q2 q3 q4 : Pos) : List Stmt := [.Assign [.Attribute (.Name "self" q1) "word" q2] (.Name "word" q3) q4]
def iS : Scope := { kind := .function, names := [(PySem.Str.ofString "self", .local), (PySem.Str.ofString "word", .local)], isGenerator := false, isCoroutine := false, more := [] }
/-- what the written part says of Fell, at C, and of its __init__, at fI -/
structure FellTxt (K : Frag) (mg : Str → Option Value) (C fI : Addr) : Prop where
  gC : mg "Fell" = some (.ref C)
  cls : ∃ nm q N bs bm sn sub ab col dd k0 k1 k2 k3 k5, K.lookup C = some (excClassObj nm q C N bs bm true sn sub ab col dd k0 k1 k2 k3 k5 "RuntimeError.__new__") ∧ bm = rtTail
  sa : findIn K (.ref C) "__setattr__" = some (some (.builtin "object.__setattr__"))
  ga : findIn K (.ref C) "__getattribute__" = some (some (.builtin "BaseException.__getattribute__"))
  gg : findIn K (.ref C) "__getattr__" = some none
  noN : findIn K (.ref C) "word" = some none
  iC : findIn K (.ref C) "__init__" = some (some (.ref fI))
  tC : typeIn K (.ref fI) = some (.type "function")
  kC : keepIn K (.ref C) = true
  exC : subIn K (.ref C) (.type "BaseException") = some true
  tyC : typeIn K (.ref C) = some (.type "type")
  hdC : hasDictIn K C = true
  te : exmOne K (.ref C) (.ref C) = some true
  fn : ∃ (oc : Value) (od : Option Addr) (doc pm : Value) (an : Option Addr) (cdv ct : Value) (osl : Array (Option Value)) (p1 p2 q1 q2 q3 q4 : Pos),
    K.lookup fI = some ⟨oc, od, .func (fnOf "__init__" "Fell.__init__" (iA p1 p2) (iB q1 q2 q3 q4) iS .none .none doc pm an cdv ct), osl⟩ ∧ codeIn K cdv "Fell.__init__" = true
theorem one_size (v : Value) : [v].length ≤ sizeLine := by
  rw [sizeLine_eq]
  exact (by decide : 1 ≤ 16777216)
theorem kept_but {K : Frag} {h h' : Heap} {x : Addr} (X : K.In h) (hx : K.lookup x = none) (k : ∀ b o, b ≠ x → h.get? b = some o → h'.get? b = some o) : K.In h' := fun a o e =>
  k a o (fun z => by rw [z, hx] at e; cases e) (X a o e)
theorem ldC {M : Model} {s : Shared} {name : Str} {scope : Scope} {L a : Addr} {cd : Value} {m : Str → Option Value} {x : Str} {pos : Pos} {v : Value} {Q : Value → Shared → Prop} {A : Around} {E : Value → Shared → Prop} (hn : s.heap.Ns L m) (hv : m x = some v) (h : Q v s)
    (hk : scope.kind = .function := by rfl) (hl : (envOfC name scope L a cd).kindOf x = some .local := by rfl) (hd : (x == ("__debug__" : Str)) = false := by decide) :
    wpAny M A (eval (.Name x pos) (envOfC name scope L a cd)) Q E s := wpAny_Name (wpAny_loadName_local hk hl hn hv h) hd
/-- what __init__ leaves of a fresh exception at x -/
structure InitEnd (h h' : Heap) (x C dx t1 : Addr) (v : Value) : Prop where
  keep : ∀ b o, b ≠ x → h.get? b = some o → h'.get? b = some o
  obj : h'.get? x = some { cls := .ref C, dict := some dx, data := .fields #[.ref t1, .none, .none, .none, .bool false, .none] }
  dbig : h.objs.size ≤ dx
  dne : dx ≠ x
  ns : h'.Ns1 dx (fun y => if y = "word" then some v else none)
/-- a made Fell -/
structure OwnMade (h h' : Heap) (e C d : Addr) (v : Value) : Prop where
  keep : ∀ b o, h.get? b = some o → h'.get? b = some o
  new : h.objs.size ≤ e
  obj : ∃ oe vs, h'.get? e = some oe ∧ oe.cls = .ref C ∧ oe.dict = some d ∧ oe.data = .fields vs ∧ vs[1]? = some .none
  dbig : h.objs.size ≤ d
  dne : d ≠ e
  ns : h'.Ns1 d (fun y => if y = "word" then some v else none)
section
variable {prog : Program} {w : World} {A : Around} {E : Value → Shared → Prop} {R : Result → Shared → Prop} {s : Shared} {K : Frag} {mg : Str → Option Value} {C fI : Addr}
theorem fell_init (T : FellTxt K mg C fI) {x t0 : Addr} {v : Value} (X : K.In s.heap) (hlim : s.heap.NoLimit) (hx : s.heap.get? x = some (excO C t0)) (hnx : K.lookup x = none) (hroom : A.depth < recursionLimit)
    (hq : ∀ h' tk dx, InitEnd s.heap h' x C dx t0 v → R (.ok (.ret .none)) { s with heap := h', toks := tk }) :
    codeAny (model prog w) A (.call (.ref fI) ⟨[.ref x, v], []⟩) R s := by
  obtain ⟨oc, od, doc, pm, an, cdv, ct, osl, p1, p2, q1, q2, q3, q4, ho, hcd⟩ := T.fn
  obtain ⟨nm, q, N, bs, bm, sn, sub, ab, col, dd, k0, k1, k2, k3, k5, hC, hbm⟩ := T.cls
  have hcl : clsIn K C = some { name := nm, bases := bs, mro := .ref C :: bm, ns := N, qualname := q, hasDict := true, slotNames := sn, subclasses := sub, abstract := ab, collection := col, hasDel := false } := by unfold clsIn; rw [hC] <;> rfl
  refine Att.call_fn (binds := [("self", .ref x), ("word", v)]) X hlim ho hcd hroom (BindsTo.of_eq (by first | rfl | with_unfolding_all rfl)) (by first | rfl | decide | with_unfolding_all rfl) (fun s₁ IC => ?_) rfl rfl rfl
  obtain ⟨h₁, tk₁, rfl⟩ := IC.toInCall.same
  have k : ∀ b o, s.heap.get? b = some o → h₁.get? b = some o := IC.toInCall.keep
  have hn := IC.toInCall.ns
  have hxL : s.heap.objs.size ≠ x := Nat.ne_of_gt (Heap.lt_size hx)
  have X₁ : K.In h₁ := X.keeps k
  have hx₁ := k _ _ hx
  -- self.by = by
  show wpAny _ _ (execs _ _) _ _ _
  refine wpAny_execs_cons (plainObj_wpAny_Assign_Attribute ?_)
  refine ldC (v := v) hn (by first | rfl | with_unfolding_all rfl | kernel_rfl) (ldC (v := .ref x) hn (by first | rfl | with_unfolding_all rfl | kernel_rfl) ?_)
  refine set_plain X₁ (ox := excO C t0) (od := none) ⟨hx₁, rfl, rfl, trivial⟩ T.sa ?_
  refine rt_osa X₁ hx₁ hcl (show (Value.ref C :: bm) = .ref C :: rtTail by rw [hbm]) rfl T.noN (fun h₃ tk₃ dx k₃ dn dne hx₃ hn₃ => ?_)
  show wpAny _ _ (execs _ _) _ _ _
  have z : s.heap.objs.size < h₁.objs.size := hn.lt
  exact wpAny_execs_nil (hq h₃ tk₃ dx ⟨fun b o hb e => k₃ b o hb (k b o e), hx₃, Nat.le_of_lt (Nat.lt_of_lt_of_le z dn), dne, hn₃⟩)
theorem fell_made (T : FellTxt K mg C fI) {v : Value} (X : K.In s.heap) (hlim : s.heap.NoLimit) (hroom : A.depth + 1 < recursionLimit)
    (hq : ∀ h' tk e d, OwnMade s.heap h' e C d v → R (.ok (.ret (.ref e))) { s with heap := h', toks := tk }) :
    codeAny (model prog w) A (.call (.ref C) ⟨[v], []⟩) R s := by
  obtain ⟨nm, q, N, bs, bm, sn, sub, ab, col, dd, k0, k1, k2, k3, k5, hC, hbm⟩ := T.cls
  obtain ⟨hp, g, dr, tk, os⟩ := s
  have k : ∀ b o, hp.get? b = some o → ((hp.push (kdv_tup [v])).push (excO C hp.objs.size)).get? b = some o := fun b o e => Heap.get?_push_of_some _ (Heap.get?_push_of_some _ e)
  have hget : ((hp.push (kdv_tup [v])).push (excO C hp.objs.size)).get? (hp.objs.size + 1) = some (excO C hp.objs.size) := by heap_get
  have hnx : K.lookup (hp.objs.size + 1) = none := by
    cases e : K.lookup (hp.objs.size + 1) with
    | none => rfl
    | some o =>
      have z : hp.get? (hp.objs.size + 1) = some o := X _ _ e
      exact absurd (Nat.lt_of_succ_lt (Heap.lt_size z)) (Nat.lt_irrefl _)
  refine call_own F.excBase_RuntimeError (fun X => by rw [hbm]) (X _ _ hC) (looks_findIn X T.iC) (fun self => bind_fn X self T.tC) (one_size v) ?_
  refine fell_init (s := ⟨(hp.push (kdv_tup [v])).push (excO C hp.objs.size), g, dr, tk, os⟩) T (X.keeps k) (hlim.keeps k) hget hnx ?_ fun h' tk' dx ⟨k', hx, dn, dne, hns⟩ => ?_
  · show A.depth + 1 < recursionLimit
    exact hroom
  · have old : ∀ b o, hp.get? b = some o → h'.get? b = some o := fun b o e => k' b o (Nat.ne_of_lt (Nat.lt_succ_of_lt (Heap.lt_size e))) (k b o e)
    have z : hp.objs.size + 1 + 1 ≤ dx := by
      first
        | (simpa only [Heap.size_push] using dn)
        | exact dn
        | (have q := dn; rw [Heap.size_push, Heap.size_push] at q; exact q)
    exact ⟨rfl, hq h' tk' (hp.objs.size + 1) dx ⟨old, Nat.le_succ _, ⟨_, _, hx, rfl, rfl, rfl, rfl⟩, Nat.le_trans (Nat.le_trans (Nat.le_succ _) (Nat.le_succ _)) z, dne, hns⟩⟩
end
end FellX
end PySem
namespace L2
open PySem PySem.Spec PyProof.Rows
theorem relO_fell {v : V} {v' : Value} (r : RelV v v') (f : Str) : RelO (List.lookup f [(("word" : Str), v)]) (if f = "word" then some v' else none) := by
  by_cases hw : f = "word"
  · subst hw
    rw [if_pos rfl]
    have q : List.lookup ("word" : Str) [(("word" : Str), v)] = some v := by simp [List.lookup]
    rw [q]
    exact r
  · rw [if_neg hw]
    have qw : (f == ("word" : Str)) = false := by simpa using hw
    have q2 : List.lookup f [(("word" : Str), v)] = none := by simp [List.lookup, qw]
    rw [q2]
    trivial
section
variable {X : Cx} {C fI : Addr}
/-- Fell(e) -/
def tMkFell (C : Addr) (ta : TA) : St → Hp → XK → Prop := fun σ H Q => ta σ H fun vs H1 => ∃ v, vs = [v] ∧ ∀ d, H1 d = none → Q (.ref C) (some d) (upd H1 d (.xd [(("word" : Str), v)]))
theorem pmk_fell {a : Expr} {ta : TA} {p pos : Pos} {k : Nat} (T : PySem.FellX.FellTxt X.K X.mg C fI) (hr : Room k X.A) (ha : PA X [a] ta) (hg : Gl X "Fell" := by rfl)
    (he : starEach (a :: []) X.env = (false, eval a X.env) :: starEach [] X.env := by rfl) (hpl : (backTo pos (starEach [] X.env)).any (·.1) = false := by rfl) :
    PMk X (.Call (.Name "Fell" p) [a] [] pos) (tMkFell C ta) := by
  intro pins s σ H Q I h
  refine wpAny_Call_Name_kw (ld_glob I hg T.gC ?_)
  refine PySem.W.callWith_K (h₀ := X.base) I.ok.mod.kin T.kC (thn (ha.run pos pins s σ H _ I h) fun us s1 hh => ?_) he hpl
  obtain ⟨vs, H1, I1, r1, v, ev, q1⟩ := hh
  subst ev
  refine ⟨I1.kIn, ?_⟩
  cases r1 with
  | cons rv rn =>
    rename_i v' us'
    cases rn
    show wpAny _ _ (call (.ref C) [v']) _ _ _
    have hlim := I1.nolimit
    obtain ⟨hp, g, dr, tk, os⟩ := s1
    refine wpAny_call (PySem.FellX.fell_made T I1.kIn hlim (by have := hr.dp; omega) fun h' tk' e d M => ?_)
    show MkP X pins σ Q (.ref e) ⟨h', g, dr, tk', os⟩
    obtain ⟨oe, fv, hoe, hc, hd, hdat, h1⟩ := M.obj
    have hns := M.ns
    obtain ⟨G', g1, g2⟩ := restrict h' fun b => decide (b ≠ e)
    have gk : ∀ b, b ≠ e → G'.get? b = h'.get? b := fun b hb => g1 b (decide_eq_true hb)
    have ge : G'.get? e = none := g2 e (by simp)
    have old : ∀ b o, hp.get? b = some o → G'.get? b = some o := fun b o q => (gk b (Nat.ne_of_lt (Nat.lt_of_lt_of_le (Heap.lt_size q) M.new))).trans (M.keep b o q)
    have ob : ObjOk X.prog X.w (upd H1 d (.xd [(("word" : Str), v)])) G' d (.xd [(("word" : Str), v)]) :=
      ⟨_, hns.at (fun o q => (gk d M.dne).trans q), fun f => relO_fell rv f⟩
    have J : Inv X pins σ (upd H1 d (.xd [(("word" : Str), v)])) ⟨G', g, dr, tk', os⟩ := I1.laid (t' := tk') old M.dbig ob
    refine ⟨e, oe, fv, ⟨G', g, dr, tk', os⟩, _, .ref C, some d, rfl, J, fun b o q => ?_, ge, hoe, ⟨hc, hd⟩, hdat, h1, ?_, rfl, I1.bare, raises_own T.exC T.tyC, q1 d (I1.hok.fresh M.dbig)⟩
    · by_cases hb : b = e
      · have q' : G'.get? b = some o := q
        rw [hb, ge] at q'; cases q'
      · exact (gk b hb).symm.trans q
    · rw [upd_ne (Ne.symm M.dne)]
      exact I1.hok.fresh M.new
/-- raise Fell(e) -/
def tRaiseFell (C : Addr) (W : WX) (ta : TA) : TS := fun _ σ H => tMkFell C ta σ H fun cls d H' => W cls d σ H'
theorem ps_raiseFell {a : Expr} {ta : TA} {W : WX} {p pos pos2 : Pos} {k : Nat} (hc : X.calm = true) (T : PySem.FellX.FellTxt X.K X.mg C fI) (hr : Room k X.A) (tk : Takes X W) (ha : PA X [a] ta) (hg : Gl X "Fell" := by rfl)
    (he : starEach (a :: []) X.env = (false, eval a X.env) :: starEach [] X.env := by rfl) (hpl : (backTo pos (starEach [] X.env)).any (·.1) = false := by rfl) :
    PS X (.Raise (some (.Call (.Name "Fell" p) [a] [] pos)) none pos2) (tRaiseFell C W ta) := ps_raise hc tk (pmk_fell T hr ha hg he hpl)
/-- low.by, low the exception that the suite holds (at a; its class cls, its dict d) -/
def tWord (C : Addr) (a : Addr) (cls : Value) (d : Option Addr) (te : TE) : TE := fun σ H Q => te σ H fun x H1 => x = .ref a ∧ cls = .ref C ∧ ∃ (dd : Addr) (v : V), d = some dd ∧ H1 dd = some (.xd [(("word" : Str), v)]) ∧ Q v H1
theorem pe_word {a : Addr} {oe : Obj} {cls : Value} {d : Option Addr} {pn : List (Addr × Obj)} {e : Expr} {te : TE} {pos : Pos} (T : PySem.FellX.FellTxt X.K X.mg C fI) (hz : Zc cls d oe) (hf : ∃ vs, oe.data = .fields vs) (he : PE (X.suite a ((a, oe) :: pn)) e te)
    (hb : attributeBase e "word" X.env (eval e X.env) = eval e X.env := by rfl) :
    PE (X.suite a ((a, oe) :: pn)) (.Attribute e "word" pos) (tWord C a cls d te) := by
  refine ⟨fun pins s σ H Q I h => ?_⟩
  refine attr_of hb (thn (he.run pins s σ H _ I h) fun u s1 hh => ?_)
  obtain ⟨x, H1, I1, rx, ex, ec, dd, v, ed, ea, q⟩ := hh
  subst ex
  obtain rfl : u = Value.ref a := rx
  subst ec
  subst ed
  obtain ⟨ha, _⟩ := I1.pin (a, oe) (List.mem_append_left _ List.mem_cons_self)
  obtain ⟨vs, hd⟩ := hf
  have hx : ObjOk X.prog X.w H1 s1.heap dd (.xd [(("word" : Str), v)]) := I1.hok dd _ ea
  obtain ⟨mA, hns, hr⟩ := hx
  obtain ⟨od, ho, hl⟩ := lookIn_ns hns
  have l : List.lookup ("word" : Str) [(("word" : Str), v)] = some v := by simp [List.lookup]
  obtain ⟨u, hu, ru⟩ := RelO.some_of (v := v) (o := mA "word") (by rw [← l]; exact hr "word")
  have J : PySem.W.InstAt s1.heap a oe C (some od) := ⟨ha, hz.1, by unfold PySem.W.notCls; rw [hd] <;> rfl, by rw [hz.2]; exact ho⟩
  exact HandSPX.exc_get I1.kIn J T.ga T.gg T.exC (PySem.W.findObj_own T.hdC T.noN rfl (by rw [hl, hu])) (handed_of ru) ⟨v, H1, I1.tok _, ru, q⟩
end
end L2


set_option Elab.async false
set_option linter.all false
set_option maxRecDepth 100000
set_option maxHeartbeats 2000000
/-! A try whose suite keeps the error by another name: behind it the error is tracked, its class and its fields are read. -/
namespace L2
open PySem PySem.Spec PyProof.Rows
/-- a caught error at a: its class, its own dict -/
def ErrO (cls : Value) (d : Option Addr) (a : Addr) : HO :=
  .ext fun h => ∃ (oe : Obj) (vs : Array Value), h.get? a = some oe ∧ Zc cls d oe ∧ oe.data = .fields vs
theorem errO_at {P : Program} {w : World} {H : Hp} {h : Heap} {a : Addr} {cls : Value} {d : Option Addr}
    (hk : HOk P w H h) (e : H a = some (ErrO cls d a)) : ∃ (oe : Obj) (vs : Array Value), h.get? a = some oe ∧ Zc cls d oe ∧ oe.data = .fields vs :=
  (show ObjOk P w H h a (ErrO cls d a) from hk a _ e).1
section
variable {X : Cx} {pins : List (Addr × Obj)} {σ : St} {H : Hp} {s : Shared}
/-- what was pinned is tracked from here on -/
theorem Inv.track {a : Addr} {oe : Obj} {cls : Value} {d : Option Addr} (I : Inv X ((a, oe) :: pins) σ H s) (hz : Zc cls d oe) (hf : ∃ vs, oe.data = .fields vs)
    (h0 : ∀ o, X.s_0.heap.get? a = some o → a ∉ X.ex → False) (hp : ∀ p ∈ X.pn ++ pins, p.1 ≠ a) : Inv X pins σ (upd H a (ErrO cls d a)) s := by
  have mem : (a, oe) ∈ X.pn ++ (a, oe) :: pins := List.mem_append_right _ List.mem_cons_self
  obtain ⟨ga, na, nl, nf, nc⟩ := I.pin _ mem
  dsimp only at ga na nl nf nc
  obtain ⟨vs, hv⟩ := hf
  have ne : ∀ {b : Addr} {o : HO}, H b = some o → b ≠ a := fun q => ne_of_none q na
  refine ⟨I.ok, I.os, I.bare, ⟨I.base.keep, I.base.slot, fun b o e n hx => ?_, I.base.there, fun b xs q => ?_, fun b o u q => ?_, fun b ps q => ?_⟩,
    I.loc, I.cell, ?_, fun x c e => ?_, fun p hm => ?_, ?_, I.len⟩
  · by_cases hb : b = a
    · subst hb
      exact (h0 o e hx).elim
    · rw [upd_ne hb]
      exact I.base.free b o e n hx
  · have q' := I.base.tups b xs q
    rw [upd_ne (ne q')]
    exact q'
  · have q' := I.base.frzs b o u q
    rw [upd_ne (ne q')]
    exact q'
  · obtain ⟨more, q'⟩ := I.base.tbls b ps q
    exact ⟨more, by rw [upd_ne (ne q')]; exact q'⟩
  · rw [upd_ne nl.symm]
    exact I.free
  · have nca : c ≠ a := fun z => by
      obtain ⟨v, o, go, hd⟩ := I.cell x c e
      rw [z, ga] at go
      cases go
      exact nc _ hd
    rw [upd_ne nca]
    exact I.freeC x c e
  · have hm' : p ∈ X.pn ++ (a, oe) :: pins := by
      rcases List.mem_append.mp hm with z | z
      · exact List.mem_append_left _ z
      · exact List.mem_append_right _ (List.mem_cons_of_mem _ z)
    obtain ⟨g1, n1, r1⟩ := I.pin p hm'
    exact ⟨g1, by rw [upd_ne (hp p hm)]; exact n1, r1⟩
  · exact I.hok.laidN (fun _ _ q => q) na ⟨⟨oe, vs, ga, hz, hv⟩, ⟨oe, ga⟩, fun _ _ ⟨o, v, q, r⟩ k => ⟨o, v, k o q, r⟩⟩
end
/-- what «except x as n» wishes of an error of the body, the error being tracked behind the suite -/
def wKeep (K : PySem.W.Frag) (c : Value) (i : Nat) (ts : Addr → Value → Option Addr → TS) (Wout : WX) (D : Ends) : WX := fun cls d σ H =>
  ∃ b, PySem.W.exmOne K cls c = some b ∧ (b = false → Wout cls d σ H) ∧ (b = true → ∀ a, H a = none →
    ts a cls d ({ nx := fun σ' H' => H' a = none → D.nx (σ'.set i none) (upd H' a (ErrO cls d a)), rt := fun _ _ => False, bk := fun _ _ => False, ct := fun _ _ => False } : Ends) (σ.set i (some (.ref a))) H)
section
variable {X : Cx} {x n : Str} {c : Value} {i : Nat} {body suite : List Stmt} {b₀ : Stmt} {np pos pos' : Pos} {tb : WX → TS} {ts : Addr → Value → Option Addr → TS} {Wout : WX}
theorem ps_try_keep (hs : X.stack = X.env :: X.outer) (hf : X.env.frame = some X.env.locals) (hN : X.N.Nodup) (hi : X.N[i]? = some n)
    (hln : X.env.kindOf n = some .local) (hc : Names X x c) (tk : Takes X Wout)
    (hb : ∀ (W : WX) (pn : List (Addr × Obj)) (xe : Value → Shared → Prop), Takes (X.tr pn xe) W →
      PassesOwn (model X.prog X.w) X.A X.env xe → PSs (X.tr pn xe) body (tb W))
    (hsu : ∀ (a : Addr) (oe : Obj) (cls : Value) (d : Option Addr) (pn : List (Addr × Obj)), Zc cls d oe → (∃ vs, oe.data = .fields vs) →
      PSs (X.suite a ((a, oe) :: pn)) (b₀ :: suite) (ts a cls d)) :
    PS X (.Try body [.ExceptHandler (some (.Name x np)) (some n) (b₀ :: suite) pos'] [] [] pos) (fun D σ H => tb (wKeep X.K c i ts Wout D) D σ H) := by
  refine ⟨fun pins s σ H D I h => ?_⟩
  have fr : X.A.frames = some (X.env :: X.outer) := by rw [I.ok.frames, hs]
  refine wpAny_Try_except ?_
  refine wpAny_mono ((hb (wKeep X.K c i ts Wout D) (X.pn ++ pins)
    (fun e s₁ => wpAny (model X.prog X.w) X.A (noteFrame e X.env) (fun _ s₂ =>
      wpAny (model X.prog X.w) X.A (setFlight e none) (fun _ s₃ =>
        wpAny (model X.prog X.w) X.A (handleBy e X.env [.ExceptHandler (some (.Name x np)) (some n) (b₀ :: suite) pos'])
          (SP X pins D) X.xe s₃) X.xe s₂) X.xe s₁)
    (fun u s' xx => ?_) PassesOwn.looking).run [] s σ H D (I.toTry _) h) (fun f s1 end1 => ?_) (fun e s1 he => he)
  · obtain ⟨a, B, sI, pi', σ1, H1, cls, d, rfl, I1', nb, up, sky, na, os, ag, b, hb1, hno, hyes⟩ := xx
    have I1 : Inv X pins σ1 H1 sI := I1'.ofTry I.ok
    have sk : Sky B (X.env :: X.outer) a (Zc cls d) X.env.locals s'.heap := by rw [← hs]; exact sky
    show wpAny (model X.prog X.w) X.A (noteFrame (.ref a) X.env) _ _ _
    refine Sky.land Zc.steady fr hf sk fun h3 fl up3 => ?_
    have I3 : Inv X pins σ1 H1 { s' with heap := h3 } := I1.landed nb fl.1 (up.trans up3) os ag
    obtain ⟨o3, v3, g3, z3, d3⟩ := fl.there
    have nfr : a ∉ frs (X.env :: X.outer) := fun hm => by
      obtain ⟨_, o', e', hnf⟩ := fl.2.2.1.mem hm
      rw [g3] at e'
      cases e'
      exact hnf _ d3
    have nL : a ≠ X.env.locals := fun z => nfr (List.mem_filterMap.mpr ⟨X.env, List.mem_cons_self, by rw [hf, z]⟩)
    have nF : a ∉ X.fs := fun hm => by
      obtain ⟨e, he, q⟩ := List.mem_filterMap.mp hm
      exact nfr (List.mem_filterMap.mpr ⟨e, List.mem_cons_of_mem _ he, q⟩)
    have nB : B.get? a = none := by
      rcases sky with z | z | z
      · exact z.2.1
      · exact z.2.1
      · exact z.2.1
    have gone : ∀ {b : Addr} {o : Obj}, sI.heap.get? b = some o → b ∉ frs X.stack → b ≠ a := fun {b o} q hb z => by
      have q' := nb b o q hb
      rw [z, nB] at q'
      cases q'
    have h0 : ∀ o, X.s_0.heap.get? a = some o → a ∉ X.ex → False := fun o q hx => by
      obtain ⟨o', q'⟩ := I1.base.there a o q hx
      exact gone q' (by rw [hs]; exact nfr) rfl
    have hp : ∀ p ∈ X.pn ++ pins, p.1 ≠ a := fun p hm => by
      obtain ⟨g, _, nl, nf, _⟩ := I1.pin p hm
      refine gone g fun hq => ?_
      rcases List.mem_cons.mp (I1.stkSub _ hq) with z | z
      · exact nl z
      · exact nf z
    have S3 := I3.suite g3 d3 na nL nF
    refine wpAny_handleBy_cons (codeAny_handlers_test ?_) (by intro q; cases q)
    have LT : PySem.W.Looks (model X.prog X.w) h3 (typeOf (.ref a)) cls := fun _ _ _ _ k q =>
      wpAny_typeOf_ref (k _ _ g3) (by rw [z3.1]; exact q)
    have LM := PySem.W.exm_one (M := model X.prog X.w) I3.kIn LT hb1
    have nameIs : ∀ {Q : Value → Shared → Prop} {E : Value → Shared → Prop}, Q c { s' with heap := h3 } →
        wpAny (model X.prog X.w) (X.A.mark (some (.ref a))) (eval (.Name x np) X.env) Q E { s' with heap := h3 } := fun {Q E} q => by
      obtain ⟨hg, hdbg, hm | ⟨hm, hv, hnn⟩⟩ := hc
      · exact ld_glob (X := X.suite a ((a, o3) :: (X.pn ++ pins))) S3 hg hm q hdbg
      · exact ld_blt (X := X.suite a ((a, o3) :: (X.pn ++ pins))) S3 hg hm hv q hnn hdbg
    refine nameIs (LM.here ?_)
    cases b with
    | true =>
      refine codeAny_handlers_suite_as ?_
      refine HandSPX.lands_againZ fl fun h4 fl4 up4 => ?_
      have I4 : Inv X pins σ1 H1 { s' with heap := h4 } := I1.landed nb fl4.1 ((up.trans up3).trans up4) os ag
      obtain ⟨o4, v4, g4, z4, d4⟩ := fl4.there
      have S4 := I4.suite g4 d4 na nL nF
      refine store_ok (X := X.suite a ((a, o4) :: (X.pn ++ pins))) (v := .ref a) S4 hN hi (.inl hln) rfl (fun s5 S5 => ?_) (.inr hln)
      refine wpAny_mono ((hsu a o4 cls d (X.pn ++ pins) z4 ⟨_, d4⟩).run [] s5 _ H1 _ S5 (hyes rfl a na)) (fun f s6 e6 => ?_) (fun _ _ z => False.elim z)
      cases f with
      | next =>
        obtain ⟨σ6, H6, S6, q6⟩ := e6
        have K6 : Inv X ((a, o4) :: pins) σ6 H6 s6 := ⟨I.ok, S6.os, S6.bare, S6.base, S6.loc, S6.cell, S6.free, S6.freeC, fun p hm => S6.pin p (by
          rw [List.append_nil]
          rcases List.mem_append.mp hm with z | z
          · exact List.mem_cons_of_mem _ (List.mem_append_left _ z)
          · rcases List.mem_cons.mp z with z | z
            · rw [z]; exact List.mem_cons_self
            · exact List.mem_cons_of_mem _ (List.mem_append_right _ z)), S6.hok, S6.len⟩
        have n6 : H6 a = none := (S6.pin (a, o4) (List.mem_append_left _ List.mem_cons_self)).2.1
        exact gone_ok K6 hN hi hln fun s7 K7 => ⟨_, _, K7.track z4 ⟨_, d4⟩ h0 hp, q6 n6⟩
      | brk => obtain ⟨_, _, _, q6⟩ := e6; exact q6.elim
      | cont => obtain ⟨_, _, _, q6⟩ := e6; exact q6.elim
      | ret u => obtain ⟨_, _, _, _, _, q6⟩ := e6; exact q6.elim
    | false =>
      show wpAny _ X.A (handleBy (.ref a) X.env []) _ _ _
      refine wpAny_handleBy_nil ?_
      obtain ⟨k1, k2, k3, oe, vs, T, oT, ts', he, hz, hd, h1, hr⟩ := id fl
      unfold PySem.passOn
      refine wpAny_bind (wpAny_field he hd h1 ?_)
      rw [if_neg (show ¬ ((Value.ref T == Value.none) = true) from by simp)]
      have fin : wpAny (model X.prog X.w) X.A (setFlight (.ref a) X.env.frame) (fun _ s4 =>
          wpAny (model X.prog X.w) X.A (throw (.ref a) : Sem Flow) (SP X pins D) X.xe s4) X.xe { s' with heap := h3 } := by
        rw [hf]
        refine HandSPX.setFlight_upZ fl fun h4 hh4 up4 => wpAny_throw (tk _ _ ?_)
        exact ⟨a, B, sI, pins, σ1, H1, cls, d, rfl, I1, nb, (up.trans up3).trans up4,
          .inr (.inr (by rw [hs]; exact hh4)), na, os, ag, hno rfl⟩
      first
        | exact wpAny_bind (wpAny_pure (wpAny_bind fin))
        | exact wpAny_bind fin
  · cases f with
    | next => obtain ⟨σ', H', J', q⟩ := end1; exact wpAny_execs_nil ⟨σ', H', J'.ofTry I.ok, q⟩
    | brk => obtain ⟨σ', H', J', q⟩ := end1; exact ⟨σ', H', J'.ofTry I.ok, q⟩
    | cont => obtain ⟨σ', H', J', q⟩ := end1; exact ⟨σ', H', J'.ofTry I.ok, q⟩
    | ret u => obtain ⟨v, σ', H', J', r, q⟩ := end1; exact ⟨v, σ', H', J'.ofTry I.ok, r, q⟩
end
/-! ### what a tracked error tells -/
/-- what its class says -/
structure ErrC (K : PySem.W.Frag) (C : Addr) : Prop extends XfC K C where
  ac : PySem.W.findIn K (.ref C) "__class__" = some (some (.builtin "object.__class__"))
  sg : PySem.W.specialIn K (.builtin "object.__class__") "__get__" = some (some (.builtin "getset_descriptor.__get__"))
  tk : PySem.W.takesIn K (.builtin "object.__class__") = some true
  mo : PySem.W.mroIn K C (.type "object") = some true
section
variable {X : Cx} {pins : List (Addr × Obj)} {σ : St} {H : Hp} {s : Shared} {C a d : Addr} {fs : List (Str × V)}
theorem errO_inst (I : Inv X pins σ H s) (ea : H a = some (ErrO (.ref C) (some d) a)) (ed : H d = some (.xd fs)) :
    ∃ (oe : Obj) (od : Obj), PySem.W.InstAt s.heap a oe C (some od) ∧ ∃ mA : Str → Option Value, (∀ n, PySem.W.lookIn n od = some (mA n)) ∧ ∀ f, RelO (fs.lookup f) (mA f) := by
  obtain ⟨oe, vs, g, hz, hv⟩ := errO_at I.hok ea
  obtain ⟨mA, hns, hr⟩ := (show ObjOk X.prog X.w H s.heap d (.xd fs) from I.hok d _ ed)
  obtain ⟨od, ho, hl⟩ := lookIn_ns hns
  exact ⟨oe, od, ⟨g, hz.1, by unfold PySem.W.notCls; rw [hv] <;> rfl, by rw [hz.2]; exact ho⟩, mA, hl, hr⟩
/-- e.f of a tracked error -/
def tErrF (C : Addr) (f : Str) (te : TE) : TE := fun σ H Q => te σ H fun x H1 => ∃ (a d : Addr) (fs : List (Str × V)) (v : V),
  x = .ref a ∧ H1 a = some (ErrO (.ref C) (some d) a) ∧ H1 d = some (.xd fs) ∧ fs.lookup f = some v ∧ Q v H1
theorem pe_errF {e : Expr} {te : TE} {pos : Pos} {n : Str} (T : ErrC X.K C) (hno : PySem.W.findIn X.K (.ref C) n = some none) (he : PE X e te)
    (hb : attributeBase e n X.env (eval e X.env) = eval e X.env := by rfl) : PE X (.Attribute e n pos) (tErrF C n te) := by
  refine ⟨fun pins s σ H Q I h => attr_of hb (thn (he.run pins s σ H _ I h) fun u s1 hh => ?_)⟩
  obtain ⟨x, H1, I1, rx, a, d, fs, v, rfl, ea, ed, l, q⟩ := hh
  obtain rfl : u = Value.ref a := rx
  obtain ⟨oe, od, J, mA, hl, hr⟩ := errO_inst I1 ea ed
  obtain ⟨u, hu, ru⟩ := RelO.some_of (v := v) (o := mA n) (by rw [← l]; exact hr n)
  exact HandSPX.exc_get I1.kIn J T.ga T.gg T.exC (PySem.W.findObj_own T.hdC hno rfl (by rw [hl, hu])) (handed_of ru) ⟨v, H1, I1.tok _, ru, q⟩
/-- isinstance(e, T) of a tracked error, T a built-in class -/
def rIsErr (K : PySem.W.Frag) (C : Addr) : List V → Hp → VK → Prop := fun xs H Q => ∃ (a d : Addr) (fs : List (Str × V)) (n : String) (b : Bool),
  xs = [.ref a, .ty n] ∧ H a = some (ErrO (.ref C) (some d) a) ∧ H d = some (.xd fs) ∧ PySem.W.kitOne K (.ref C) (.type n) = some b ∧ Q (.bl b) H
theorem call_isErr (T : ErrC X.K C) : CallR X (.builtin "isinstance") (rIsErr X.K C) := by
  intro pins s σ H xs us Q I r h
  obtain ⟨a, d, fs, n, b, rfl, ea, ed, e, q⟩ := h
  obtain ⟨u1, u2, rfl, r1, r2⟩ := vals2 r
  cases (show u1 = Value.ref a from r1)
  cases (show u2 = Value.type n from r2)
  obtain ⟨oe, od, J, _⟩ := errO_inst I ea ed
  have hcl : (PySem.W.clsIn X.K C).isSome = true := by
    obtain ⟨cd, hc, _⟩ := PySem.W.any_some T.hdC
    rw [hc]
    rfl
  exact PySem.W.kia_one (PySem.W.kitx_exc hcl T.ga T.gg T.exC T.ac T.sg T.tk T.mo) I.kIn J e (fun z => nomatch z) fun tk => ⟨.bl b, H, I.tok tk, rfl, q⟩
end
end L2

set_option Elab.async false
set_option linter.all false
set_option maxRecDepth 100000
set_option maxHeartbeats 2000000
/-! A call by names alone, in the parameters' order turned round, that may raise: f(d=.., c=.., b=.., a=..). -/
namespace KwX
open PySem PySem.Spec PyProof.Rows L2
/-- names ks, values ws: the def takes them as its parameters ps, turned round -/
def Turned (K : PySem.W.Frag) (fd : FuncData) (ps ks : List Str) : Prop := ∀ (s : Shared) (ws : List Value), K.In s.heap → ws.length = ks.length → BindsTo s fd ⟨[], ks.zip ws⟩ (ps.zip ws.reverse)
theorem vals_rev : ∀ {vs : List V} {us : List Value}, Vals vs us → Vals vs.reverse us.reverse
  | [], _, h => by cases h; exact .nil
  | v :: vs, _, h => by
    cases h with
    | cons r t =>
      rw [List.reverse_cons, List.reverse_cons]
      exact (vals_rev t).append (.cons r .nil)
def tTurned (sp : Sp) (n : Nat) (E : L2.St → XK) (t : TA) : TE := fun σ H Q => t σ H fun zs H1 => zs.length = n ∧ sp zs.reverse H1 Q (E σ)
theorem pe_turned {X : Cx} {k : Nat} {f : Addr} {fd : FuncData} {ps ks : List Str} {sp : Sp} {E : L2.St → XK} {x : Str} {p pos : Pos} {kws : List Keyword} {t : TA} {CX : CXT}
    (F : FnOk X.prog X.w X.K X.mg X.base CX k f fd ps sp) (hr : Room k X.A) (hg : Gl X x) (hm : X.mg x = some (.ref f)) (hk : PySem.W.keepIn X.K (.ref f) = true) (hb : Turned X.K fd ps ks) (hx : ∀ σ, PassesAt CX X σ (E σ)) (ha : PK X kws t)
    (h1 : (backToKw pos (keywordEach kws X.env)).all (·.1.isSome) = true := by rfl) (h2 : (backToKw pos (keywordEach kws X.env)).filterMap (·.1) = ks := by rfl)
    (h3 : ((backTo pos (starEach [] X.env)).any (·.1) || (backToKw pos (keywordEach kws X.env)).any (·.1.isNone)) = false := by rfl) (h4 : (x == ("__debug__" : Str)) = false := by decide) :
    PE X (.Call (.Name x p) [] kws pos) (tTurned sp ks.length E t) where
  run pins s σ H Q I h := by
    apply wpAny_Call_Name_kw
    apply ld_glob I hg hm _ h4
    apply PySem.W.callWith_KW0 (h₀ := X.base) I.ok.mod.kin hk h1 _ h3
    apply thn (ha.run pos pins s σ H _ I h)
    rintro ws s1 ⟨zs, H1, I1, rz, lz, hq⟩
    refine ⟨I1.kIn, ?_⟩
    rw [h2]
    have B : BindsTo s1 fd ⟨[], ks.zip ws⟩ (ps.zip ws.reverse) := hb s1 ws I1.kIn (rz.length.symm.trans lz)
    have R := F.run X.A X.stack s1 H1 ⟨[], ks.zip ws⟩ ws.reverse zs.reverse Q (E σ) hr I1.env0 B (vals_rev rz) hq
    refine wpAny_call (codeAny_mono R ?_)
    rintro (e | u | _ | _ | _) s2 z
    · exact hx σ pins H1 s1 e s2 I1 z
    all_goals first | exact I1.after z | exact False.elim z
end KwX

set_option Elab.async false
set_option linter.all false
set_option maxRecDepth 100000
set_option maxHeartbeats 2000000
/-! A module's top with one expression in its midst that the kernel can't run (it leans on the world's hashes): real steps ahead of it and behind it, the expression by wp. -/
namespace Fw
open PySem PySem.W PySem.Calls PyProof.Rows
/-! ### real steps -/
section
variable {tb : String → Option Builtin} {p : Program} {w : World} {n₀ : Nat} {ann : Option Value}
theorem go_one {s s' : Shared} {t t' : Thread} (h1 : through t = false) (h2 : stepOk n₀ ann t = true) (h3 : step (denote tb) p w s t = .go s' t') {m : Nat} {r : Shared × Thread} (h : topGo tb p w n₀ ann m s' t' = some r) : topGo tb p w n₀ ann (m + 1) s t = some r := by
  unfold topGo
  rw [h1, h2, h3]
  exact h
/-- one step of a topGo, looked at -/
theorem go_out {s : Shared} {t : Thread} {m : Nat} {r : Shared × Thread} (h : topGo tb p w n₀ ann (m + 1) s t = some r) : through t = false ∧ stepOk n₀ ann t = true ∧ ∃ s' t', step (denote tb) p w s t = .go s' t' ∧ topGo tb p w n₀ ann m s' t' = some r := by
  unfold topGo at h
  cases h1 : through t with
  | true => rw [h1] at h; exact nomatch h
  | false =>
    cases h2 : stepOk n₀ ann t with
    | false => rw [h1, h2] at h; exact nomatch h
    | true =>
      rw [h1, h2] at h
      cases h3 : step (denote tb) p w s t with
      | halt o x => rw [h3] at h; exact nomatch h
      | go s' t' => rw [h3] at h; exact ⟨rfl, rfl, s', t', rfl, h⟩
theorem go_trans : ∀ {n m : Nat} {s s1 : Shared} {t t1 : Thread} {r : Shared × Thread}, topGo tb p w n₀ ann n s t = some (s1, t1) → topGo tb p w n₀ ann m s1 t1 = some r → ∃ k, topGo tb p w n₀ ann k s t = some r
  | 0, m, s, s1, t, t1, r, h, q => by
    cases (show some (s, t) = some (s1, t1) from h)
    exact ⟨m, q⟩
  | n + 1, m, s, s1, t, t1, r, h, q => by
    obtain ⟨h1, h2, s', t', h3, h4⟩ := go_out h
    obtain ⟨k, hk⟩ := go_trans h4 q
    exact ⟨k + 1, go_one h1 h2 h3 hk⟩
/-- what real steps of the top leave alone -/
theorem go_keeps : ∀ {n : Nat} {s s' : Shared} {t t' : Thread}, topGo tb p w n₀ ann n s t = some (s', t') → s'.heap.life = s.heap.life ∧ s'.os = s.os ∧
    ∀ b o, b < n₀ → b ≠ mainNs → b ≠ cStatics → ann ≠ some (.ref b) → s.heap.get? b = some o → s'.heap.get? b = some o
  | 0, s, s', t, t', h => by
    cases (show some (s, t) = some (s', t') from h)
    exact ⟨rfl, rfl, fun _ _ _ _ _ _ e => e⟩
  | n + 1, s, s', t, t', h => by
    obtain ⟨h1, h2, s1, t1, h3, h4⟩ := go_out h
    obtain ⟨l, os, fr⟩ := go_keeps h4
    obtain ⟨hc, hk⟩ := Bool.and_eq_true_iff.mp h2
    refine ⟨l.trans (step_life (denote tb) p w s s1 t t1 h3), os.trans (step_os_same h3 (by revert hk; cases t.cur <;> simp)), fun b o q1 q2 q3 q4 q5 => fr b o q1 q2 q3 q4 ?_⟩
    have e := step_heap (denote tb) p w s s1 t t1 h3
    cases hcur : t.cur with
    | update a _ f _ =>
      rw [hcur] at e hk
      rw [e]
      have ne : b ≠ a := fun z => by
        subst z
        simp only [Bool.or_eq_true, Nat.ble_eq, beq_iff_eq] at hk
        rcases hk with ((z | z) | z) | z
        · omega
        · exact q2 z
        · exact q3 z
        · exact q4 z
      rw [Heap.get?_update_ne _ _ _ _ ne]
      exact q5
    | alloc x _ =>
      rw [hcur] at e
      rw [e]
      exact Heap.get?_push_of_some x q5
    | _ =>
      rw [hcur] at e
      rw [e]
      exact q5
section
variable {α : Type} {B : List Frame} {K' : α → Sem Fin} {H' : Value → Sem Fin} {gd : Bool → Bool} {lv : List Value → List Value} {res : α → Flow}
/-- a piece that comes to its end: the same steps with what stands behind it -/
theorem seg_goes (hB : splitAtGen B = none) : ∀ (n : Nat) {s s' : Shared} {t t' : Thread} {f : Flow} {c' : Code} {p' : Pos}, Rel2 (fun a => .pure (.done (res a))) K' deadEnd H' gd lv B t t' →
    segRun tb p w n₀ ann B.length n s t = some (f, s', c', p') → ∃ a m, res a = f ∧ topGo tb p w n₀ ann m s t' = some (s', ⟨K' a, c', p', B⟩)
  | 0, _, _, _, _, _, _, _, _, h => nomatch (show (none : Option (Flow × Shared × Code × Pos)) = some _ from h)
  | n + 1, s, s', t, t', f, c', p', R, h => by
    obtain ⟨cur, code, pos, st⟩ := t
    obtain ⟨cur', code', pos', st'⟩ := t'
    obtain ⟨ec, ep, R⟩ := R
    dsimp only at ec ep R
    subst ec ep
    replace h : (match endAt B.length ⟨cur, code, pos, st⟩ with
      | some g => some (g, s, code, pos)
      | none => match stepOk n₀ ann ⟨cur, code, pos, st⟩ with
        | false => none
        | true => match step (denote tb) p w s ⟨cur, code, pos, st⟩ with
          | .go s' t' => segRun tb p w n₀ ann B.length n s' t'
          | .halt _ _ => none) = some (f, s', c', p') := h
    cases he : endAt B.length ⟨cur, code, pos, st⟩ with
    | some g =>
      rw [he] at h
      cases h
      rcases R with ⟨u1, u2, x, u3, u4⟩ | ⟨u1, F⟩
      · have v1 := u1.symm
        have v2 := u2.symm
        subst v1 v2 u3 u4
        cases x with
        | pure a =>
          have z : some (res a) = some f := by
            rw [← he]
            simp only [endAt, Sem.wrap, beq_self_eq_true]
          exact ⟨a, 0, Option.some.inj z, rfl⟩
        | _ => exact absurd he (by simp [endAt, Sem.wrap])
      · have e : (st.length == B.length) = false := beq_eq_false_iff_ne.mpr (Nat.ne_of_gt F.longer.1)
        simp only [endAt, e] at he
        exact nomatch he
    | none =>
      rw [he] at h
      cases hk : stepOk n₀ ann ⟨cur, code, pos, st⟩ with
      | false => rw [hk] at h; exact nomatch h
      | true =>
        rw [hk] at h
        cases hs : step (denote tb) p w s ⟨cur, code, pos, st⟩ with
        | halt o x => rw [hs] at h; exact nomatch h
        | go s2 t2 =>
          rw [hs] at h
          have h : segRun tb p w n₀ ann B.length n s2 t2 = some (f, s', c', p') := h
          rcases R with ⟨u1, u2, x, u3, u4⟩ | ⟨u1, F⟩
          · have v1 := u1.symm
            have v2 := u2.symm
            subst v1 v2 u3 u4
            have np : ∀ a, x ≠ .pure a := fun a z => by
              subst z
              simp [endAt, Sem.wrap] at he
            have nr : ∀ e, x ≠ .raise e := fun e z => by
              subst z
              obtain ⟨x1, x2, x3, x4, x5⟩ := s
              simp only [Sem.wrap, step] at hs
              exact nomatch hs
            obtain ⟨k1, k2⟩ := okOuter (K' := K') (H' := H') np nr hk
            obtain ⟨t3, k3, R3⟩ := step_outer (K' := K') (H' := H') hB np hs
            obtain ⟨a, m, ea, hm⟩ := seg_goes hB n R3 h
            exact ⟨a, m + 1, ea, go_one k2 k1 k3 hm⟩
          · subst u1
            obtain ⟨k1, k2⟩ := okInner hB F hk
            obtain ⟨t3, k3, R3⟩ := step_inner hB F hs
            obtain ⟨a, m, ea, hm⟩ := seg_goes hB n R3 h
            exact ⟨a, m + 1, ea, go_one k2 k1 k3 hm⟩
end
end
theorem clean0 : leftWithCleanup (#[] : Array GenState) = false := by simp [leftWithCleanup]
theorem step_halt_done {den : Code → Sem Fin} {p : Program} {w : World} {s S : Shared} {t : Thread} {f : Flow} (h : step den p w s t = .halt (.done f) S) : through t = true := by
  obtain ⟨heap, gens, drawn, toks, os⟩ := s
  obtain ⟨cur, code, pos, stack⟩ := t
  cases cur <;> simp only [step, finish] at h <;> (repeat' split at h) <;> simp_all [through]
/-! ### a run that ends -/
section
variable {p : Program} {w : World} {n₀ : Nat} {ann : Option Value}
/-- the run from here ends, at S, each thread on the way calm -/
def Halts (p : Program) (w : World) (s : Shared) (t : Thread) (S : Shared) : Prop :=
  ∃ n f, runN (denote table) p w n s t = .halted (.done f) S ∧ ∀ k s1 t1, runN (denote table) p w k s t = .running s1 t1 → t1.calm = true
theorem halts_step {s s' S : Shared} {t t' : Thread} (hc : t.calm = true) (hs : step (denote table) p w s t = .go s' t') (h : Halts p w s' t' S) : Halts p w s t S := by
  obtain ⟨n, f, h1, h2⟩ := h
  refine ⟨n + 1, f, by simp only [runN, hs]; exact h1, fun k s1 t1 q => ?_⟩
  cases k with
  | zero => cases (show Run.running s t = .running s1 t1 from q); exact hc
  | succ k =>
    simp only [runN, hs] at q
    exact h2 k s1 t1 q
theorem halts_go : ∀ {m : Nat} {s s' S : Shared} {t t' : Thread}, topGo table p w n₀ ann m s t = some (s', t') → Halts p w s' t' S → Halts p w s t S
  | 0, s, s', S, t, t', h, q => by
    cases (show some (s, t) = some (s', t') from h)
    exact q
  | m + 1, s, s', S, t, t', h, q => by
    obtain ⟨h1, h2, s1, t1, h3, h4⟩ := go_out h
    exact halts_step (Bool.and_eq_true_iff.mp h2).1 h3 (halts_go h4 q)
theorem halts_through {s : Shared} {t : Thread} (h : through t = true) (hg : s.gens = #[]) : Halts p w s t s := by
  obtain ⟨cur, code, pos, st⟩ := t
  obtain ⟨h1, h2⟩ := Bool.and_eq_true_iff.mp h
  have h1 : st = [] := List.isEmpty_iff.mp h1
  subst h1
  cases cur with
  | pure fin =>
    cases fin with
    | done f =>
      obtain ⟨hp, gs, d, tk, os⟩ := s
      have hg : gs = #[] := hg
      subst hg
      have e : step (denote table) p w ⟨hp, #[], d, tk, os⟩ ⟨.pure (.done f), code, pos, []⟩ = .halt (.done f) ⟨hp, #[], d, tk, os⟩ := by
        show finish (.done f) ⟨hp, #[], d, tk, os⟩ = _
        unfold finish
        rw [if_neg (by rw [clean0]; exact Bool.false_ne_true)]
      refine ⟨1, f, by simp only [runN, e], fun k s1 t1 q => ?_⟩
      cases k with
      | zero =>
        cases (show Run.running _ _ = .running s1 t1 from q)
        rfl
      | succ k =>
        simp only [runN, e] at q
        exact nomatch q
    | again c => exact nomatch h2
  | _ => exact nomatch h2
theorem halts_top : ∀ {N : Nat} {s S : Shared} {t : Thread}, topRun table p w n₀ ann N s t = some S → S.gens = #[] → Halts p w s t S
  | 0, _, _, _, h, _ => nomatch (show (none : Option Shared) = some _ from h)
  | N + 1, s, S, t, h, hg => by
    unfold topRun at h
    cases h1 : through t with
    | true =>
      rw [h1] at h
      cases (show some s = some S from h)
      exact halts_through h1 hg
    | false =>
      cases h2 : stepOk n₀ ann t with
      | false => rw [h1, h2] at h; exact nomatch h
      | true =>
        rw [h1, h2] at h
        cases h3 : step (denote table) p w s t with
        | halt o x => rw [h3] at h; exact nomatch h
        | go s' t' =>
          rw [h3] at h
          exact halts_step (Bool.and_eq_true_iff.mp h2).1 h3 (halts_top h hg)
theorem forget_bare {s S : Shared} (h : s.forget = S.forget) (hg : S.gens = #[]) : s = S := by
  obtain ⟨hp, gs, d, tk, os⟩ := s
  obtain ⟨hp', gs', d', tk', os'⟩ := S
  have hg : gs' = #[] := hg
  subst hg
  have h : (⟨hp, gs.map GenState.forget, d, tk, os⟩ : Shared) = ⟨hp', #[], d', tk', os'⟩ := by
    have z : (⟨hp, gs.map GenState.forget, d, tk, os⟩ : Shared) = ⟨hp', (#[] : Array GenState).map GenState.forget, d', tk', os'⟩ := h
    rw [z, Array.map_empty]
  injection h with h1 h2 h3 h4 h5
  have hz : gs = #[] := by
    have := congrArg Array.size h2
    simp only [Array.size_map] at this
    exact Array.eq_empty_of_size_eq_zero this
  subst h1 h3 h4 h5 hz
  rfl
theorem halts_runs {s S : Shared} {cur : Sem Fin} {c : Code} {pos : Pos} {st : List Frame} (h : Halts p w s ⟨cur, c, pos, st⟩ S) (hg : S.gens = #[]) : ∃ f, Runs (model p w) ⟨c, none, none, [], none⟩ pos cur st s (.ret (.ok f)) S := by
  obtain ⟨n, f, h1, h2⟩ := h
  obtain ⟨s', h3, h4⟩ := runN_calm_runNI (denote table) p w h1 h2
  have e := forget_bare (s := s') (S := S) (by first | exact h4 | exact h4.symm) hg
  subst e
  exact ⟨f, (halts_iff (M := model p w) (r := .ok f)).mp ⟨n, h3⟩ |>.1⟩
theorem runs_halts {s S : Shared} {cur : Sem Fin} {c : Code} {pos : Pos} {st : List Frame} {f : Flow} (h : Runs (model p w) ⟨c, none, none, [], none⟩ pos cur st s (.ret (.ok f)) S) (hg : S.gens = #[]) : Halts p w s ⟨cur, c, pos, st⟩ S := by
  have hl : leftWithCleanup S.gens = false := by rw [hg]; exact clean0
  obtain ⟨n, hn⟩ := (halts_iff (M := model p w) (r := .ok f)).mpr ⟨h, hl⟩
  obtain ⟨s'', h1, h2, h3⟩ := runNI_real (denote table) p w (show runNI (denote table) p w n s ⟨cur, c, pos, st⟩ = .halted (.done f) S from hn) rfl
  have e := forget_bare h2 hg
  subst e
  exact ⟨n, f, h1, h3⟩
/-- an expression by wp, with what stands behind it -/
theorem halts_mid {α : Type} {m : Sem α} {K : α → Sem Fin} {H : Value → Sem Fin} {gd : Bool → Bool} {lv : List Value → List Value} {s S : Shared} {c : Code} {pos : Pos} {B : List Frame} {Q : α → Pos → Shared → Prop} (hg : S.gens = #[])
    (hw : Sem.wp (model p w) ((⟨c, none, none, [], none⟩ : Ctx).over B) m Q (fun _ _ _ => False) pos s) (hk : ∀ a p' s', Q a p' s' → Halts p w s' ⟨K a, c, p', B⟩ S) : Halts p w s ⟨m.wrap K H gd lv, c, pos, B⟩ S := by
  obtain ⟨e, s'', hr, f, he, hS⟩ := runs_wrap_of_wp (M := model p w) (Γ := ⟨c, none, none, [], none⟩) (fs := B) (Φ := fun e s'' => ∃ f, e = .ret (.ok f) ∧ s'' = S) K H gd lv m hw
    (fun a p' s' q => by
      obtain ⟨f, r⟩ := halts_runs (hk a p' s' q) hg
      exact ⟨_, _, r, f, rfl, rfl⟩) (fun _ _ _ q => q.elim)
  subst he hS
  exact runs_halts hr hg
/-- the end, seen by the scheduler -/
theorem halts_sched {s S : Shared} {t : Thread} (h : Halts p w s t S) (hr : s.asleep) : ∃ n t', schedN (denote table) p w n (.single s t) = .running (.single S t') ∧ through t' = true := by
  obtain ⟨n, f, h1, h2⟩ := h
  have last : ∀ (n : Nat) (s : Shared) (t : Thread), runN (denote table) p w n s t = .halted (.done f) S → ∃ k s' t', runN (denote table) p w k s t = .running s' t' ∧ step (denote table) p w s' t' = .halt (.done f) S := by
    intro n
    induction n with
    | zero => intro s t h; exact nomatch h
    | succ n ih =>
      intro s t h
      cases hs : step (denote table) p w s t with
      | go s' t' =>
        simp only [runN, hs] at h
        obtain ⟨k, s1, t1, q1, q2⟩ := ih s' t' h
        exact ⟨k + 1, s1, t1, by simp only [runN, hs]; exact q1, q2⟩
      | halt o s' =>
        simp only [runN, hs] at h
        cases h
        exact ⟨0, s, t, rfl, hs⟩
  obtain ⟨k, s', t', q1, q2⟩ := last n s t h1
  have e := step_halt_same (denote table) p w s' S t' _ q2
  subst e
  refine ⟨k, t', ?_, ?_⟩
  · have goes : ∀ (k j : Nat) (s : Shared) (t : Thread) (s1 : Shared) (t1 : Thread), j < k → (∃ s2 t2, runN (denote table) p w k s t = .running s2 t2) → runN (denote table) p w j s t = .running s1 t1 → ∃ s3 t3, step (denote table) p w s1 t1 = .go s3 t3 := by
      intro k
      induction k with
      | zero => intro j s t s1 t1 hj; omega
      | succ k ih =>
        intro j s t s1 t1 hj ⟨s2, t2, r⟩ q
        cases hs : step (denote table) p w s t with
        | halt o x => simp only [runN, hs] at r; exact nomatch r
        | go s' t' =>
          cases j with
          | zero =>
            cases (show Run.running s t = .running s1 t1 from q)
            exact ⟨s', t', hs⟩
          | succ j =>
            simp only [runN, hs] at r q
            exact ih j s' t' s1 t1 (by omega) ⟨s2, t2, r⟩ q
    rw [schedN_prefix (denote table) p w k s t hr fun j s1 t1 hj r => ⟨h2 j s1 t1 r, fun z => by
      obtain ⟨s3, t3, q3⟩ := goes k j s t s1 t1 hj ⟨_, _, q1⟩ r
      rw [q3] at z
      exact nomatch z⟩, q1]
    rfl
  · exact step_halt_done q2
end
end Fw

set_option Elab.async false
set_option linter.all false
set_option maxRecDepth 100000
set_option maxHeartbeats 2000000
/-! An open row from its top, world by world: the top's end is told for each world by itself, no bound of steps is asked. -/
namespace Fw
open PySem PySem.W PySem.Calls PyProof.Rows HandSHeadRun
/-- the top's end at a world -/
structure TopEnd (p q : Program) (loose : List Str) (Xt : Shared → Bool) {α : Type} (Yf : Shared → α) (Ya : World → α) (w : World) (s₀ s₁ : Shared) : Prop where
  run : Halts p w s₀ (topStub p) s₁
  ns : s₀.heap.isNs mainGlobals = true
  g0 : s₀.gens = #[]
  g1 : s₁.gens = #[]
  life : s₁.heap.life = s₀.heap.life
  os : s₁.os = s₀.os
  keeps : ∀ b o, b < s₀.heap.objs.size → b ≠ mainNs → b ≠ cStatics → s₀.heap.nsMap mainGlobals "__annotations__" ≠ some (.ref b) → s₀.heap.get? b = some o → s₁.heap.get? b = some o
  looks : looksF p s₀.heap s₁ = true
  seen : openSeen q loose (importedModules p.main.body) Xt true s₁ = openGood q loose
  obs : Yf s₁ = Ya w
def TopsE (p q : Program) (loose : List Str) (Xt : Shared → Bool) {α : Type} (Yf : Shared → α) (Ya : World → α) : Prop :=
  ∀ w : World, ∃ (N : Nat) (s₀ s₁ : Shared), fencedOpening table p w N = some s₀ ∧ TopEnd p q loose Xt Yf Ya w s₀ s₁
section
variable {p q : Program} {loose : List Str} {Xt : Shared → Bool} {XP : (Str → Option Value) → Heap → Prop} {α : Type} {Yf : Shared → α} {Ya : World → α}
/-- what stands behind the top -/
structure Stands (p q : Program) (loose : List Str) (XP : (Str → Option Value) → Heap → Prop) (w : World) (a b : Shared) : Prop where
  ran : TopRan p w a b
  sleeps : b.asleep
  bare : b.gens = #[]
  ns : b.heap.isNs mainGlobals = true
  gr : Ground q loose [] XP w b (b.heap.nsMap mainGlobals) (b.heap.nsMap builtinsNs) b.heap
theorem stands (T : TopsE p q loose Xt Yf Ya) (hX : ∀ s, Xt s = true → XP (s.heap.nsMap mainGlobals) s.heap) (hch : chainsOk q = true) (w : World) :
    (∃ s, AfterRun (opening p) w s) ∧ ∀ s, AfterRun (opening p) w s → ∃ a, fenceModules? p s = some a ∧ a.gens = #[] ∧ ∃ b, Stands p q loose XP w a b ∧ Yf b = Ya w := by
  obtain ⟨N, a, b, hf, E⟩ := T w
  obtain ⟨s, hi, hfe⟩ := Option.bind_eq_some_iff.mp hf
  have A := AfterImport.of_importEnds hi
  refine ⟨⟨s, A⟩, fun s' hs' => ?_⟩
  have es : s' = s := AfterImport.unique hs' A
  subst es
  have za : a.asleep := Shared.asleep_of_life (fence_lifeW hfe) A.life
  have lk : (staticsOk (importedModules p.main.body) a.heap b.heap && namesBound p b.heap && gensDone b && laidKept a.heap b.heap) = true := E.looks
  obtain ⟨lk, k4⟩ := Bool.and_eq_true_iff.mp lk
  obtain ⟨lk, k3⟩ := Bool.and_eq_true_iff.mp lk
  obtain ⟨k1, k2⟩ := Bool.and_eq_true_iff.mp lk
  obtain ⟨G, _, hns, c1, c2, c3, c4⟩ := ground_of_open (w := w) hX hch E.seen
  refine ⟨a, hfe, E.g0, b, ⟨⟨halts_sched E.run za, E.life, Shared.rest_eq E.os, fun x o hx nx => ?_, c1, statics_of_ok k1, c2, c3, c4, gens_of_done k3, names_of_bound k2, laid_of_kept k4⟩, Shared.asleep_of_life E.life za, E.g1, hns, G⟩, E.obs⟩
  exact E.keeps x o (Heap.lt_size hx) (fun z => nx (.inl z)) (fun z => nx (.inr (.inl z))) (fun z => nx (.inr (.inr ((Pin.globalOf_eq E.ns _).trans z)))) hx
end
/-- the row, from its top's ends and the walk of its call -/
theorem holdsE {r : OpenRow} {q : Program} {loose : List Str} {Xt : Shared → Bool} {XP : (Str → Option Value) → Heap → Prop} {H : Hook} {d : DefRec} {kwd : List (Str × Expr)}
    (T : TopsE r.prog q loose Xt H.obs H.val) (hX : ∀ s, Xt s = true → XP (s.heap.nsMap mainGlobals) s.heap) (hXk : ∀ mg h h', XP mg h → (∀ b o, h.get? b = some o → h'.get? b = some o) → XP mg h')
    (hdef : defOf q r.name = some (d, kwd)) (hp : r.prog.theDef r.name = some (d.params, d.body, d.scope)) (hk : kwWritten? d.params.kwonlyargs d.params.kw_defaults = some kwd) (hRf : ∀ s, Xt s = true → RecFacts r.records s.heap)
    (hwr : (!r.writes || r.records.isEmpty) = true) (k1 : r.wellSaid = true) (ok : (chainsOk q && opensWell r.prog && (frees r.toRowW && r.within.isEmpty)) = true) (hb : r.prog.bare) (hw : r.toRowW.promised)
    (call : WalkO q loose XP H.says r.toRowW d kwd fun f vs => PySem.call f vs) : r.Holds := by
  obtain ⟨ok12, ok34⟩ := Bool.and_eq_true_iff.mp ok
  obtain ⟨hch, opens⟩ := Bool.and_eq_true_iff.mp ok12
  obtain ⟨ok3, ok4⟩ := Bool.and_eq_true_iff.mp ok34
  obtain ⟨hsame, hu, ha, hap, hm⟩ := frees_parts ok3
  refine ⟨k1, hw, ⟨hb, opens, by show r.toRowW.makers.map _ = []; rw [hm]; rfl⟩, hw.witness, fun w => ⟨(stands T hX hch w).1, fun s' hs' => ?_⟩⟩
  obtain ⟨a, hf, ga, b, S, y⟩ := (stands (XP := fun mg h => XP mg h ∧ RecFacts r.toRowW.records h) T (fun s hs => ⟨hX s hs, hRf s hs⟩) hch w).2 s' hs'
  have G2 := S.gr
  have RF := G2.X.2
  have G1 : Ground q loose [] XP w b (b.heap.nsMap mainGlobals) (b.heap.nsMap builtinsNs) b.heap :=
    ⟨G2.T, G2.B, G2.D, G2.TE, G2.TD, G2.W, G2.X.1, G2.cls, G2.has, G2.apart, G2.once, G2.K⟩
  refine ⟨a, hf, ga, b, S.ran, fun n hn => ?_, RF.1, RF.2.1, ?_⟩
  · have en : n = r.name := by
      split at hn <;> simp_all
    subst en
    exact pinned_of_view S.ns G1 hdef hp hk
  have G := RF.ground (R := r.toRowW.records) G1
  refine ClaimW.callFrom_of_specG (c := r.toRowW.claim) S.sleeps S.bare fun args hpre hlay ord hord => ?_
  obtain ⟨⟨vs, s₁⟩, laid⟩ := Option.isSome_iff_exists.mp (layAllW_isSome (P := w.params) (ord := ord) G.has args r.toRowW.args b (pre_splitW hpre).1)
  have keeps := layAllW_keeps _ _ _ laid
  have rest := layAllW_rest _ _ _ laid
  obtain ⟨as, hrd, hin, hold⟩ := reads_layAllW hord _ _ _ laid hlay s₁.heap (fun _ _ e => e)
  have L : Laid r.toRowW.records w b s₁ args vs as := ⟨⟨ord, hord, laid⟩, hrd, hin, hold, keeps, rest.1.trans S.bare, rest.2.2.1⟩
  have Gk := G.keeps hXk keeps
  obtain ⟨fa, o, pm, cd, doc, dV, kV, h1, h2, h3, h4, h5⟩ := Gk.fn hdef
  have W := call w b s₁ _ _ Gk (H.keeps _ _ _ (H.of w b y) keeps) fa o pm cd doc dV kV h2 h3 h4 h5 (defOf_name hdef ▸ h1) L.gens args vs as hpre hlay L.reads L.well (L.low G.low)
  have idf := ident_freeW hu ha hap
  have wi : r.toRowW.claim.within = [] := List.isEmpty_iff.mp ok4
  refine ⟨vs, s₁, laid, wpAny_bind (wpAny_nsGet Gk.T.g ?_)⟩
  rw [h1]
  refine wpAny_bind (wpAny_mono W (fun v s' g => ?_) fun e s' g => ?_)
  · have z := g.laid (c := r.toRowW.claim) hsame wi idf L
    exact wpAny_pure ⟨_, rfl, z.1, z.2.1, z.2.2, fun qq => ⟨namesKept_of S.ran S.ns r.keeps keeps g.2.1.old, noTable hwr qq⟩⟩
  · have z := g.laid (c := r.toRowW.claim) hsame wi idf L
    exact ⟨z.1, z.2.1, z.2.2, fun qq => ⟨namesKept_of S.ran S.ns r.keeps keeps g.2.1.old, noTable hwr qq⟩⟩
end Fw

set_option Elab.async false
set_option linter.all false
set_option maxRecDepth 100000
set_option maxHeartbeats 2000000
/-! A display of 18 pairs whose keys are tuples of two texts, whose values are tuples of texts: what it leaves, object by object. -/
namespace Fw
open PySem PySem.W PySem.Calls PyProof.Rows
abbrev PK : Type := Str × Str × List Str
def key (p : PK) : List Str := [p.1, p.2.1]
def toksV : Nat → List Str → List Value
  | _, [] => []
  | t, x :: r => .str x t :: toksV (t + 1) r
/-- a tuple of texts, their tokens from t on -/
def tO (t : Nat) (zs : List Str) : Obj := { cls := .type "tuple", data := .seq (toksV t zs).toArray }
def dO (es : List DictEntry) : Obj := { cls := .type "dict", data := .dict es.toArray es.length }
def lo : Nat → List PK → List Obj
  | _, [] => []
  | t, p :: r => tO t (key p) :: tO (t + 2) p.2.2 :: lo (t + p.2.2.length + 5) r
def lt : Nat → List PK → Nat
  | t, [] => t
  | t, p :: r => lt (t + p.2.2.length + 5) r
def lx : Nat → List PK → List (List Str × Addr × Value)
  | _, [] => []
  | a, p :: r => (key p, a, .ref (a + 1)) :: lx (a + 2) r
theorem lo_app : ∀ (a b : List PK) (t : Nat), lo t (a ++ b) = lo t a ++ lo (lt t a) b
  | [], _, _ => rfl
  | p :: a, b, t => by
    show _ :: _ :: lo _ (a ++ b) = _
    rw [lo_app a b]
    rfl
theorem lt_app : ∀ (a b : List PK) (t : Nat), lt t (a ++ b) = lt (lt t a) b
  | [], _, _ => rfl
  | p :: a, b, t => lt_app a b _
theorem lo_len : ∀ (a : List PK) (t : Nat), (lo t a).length = 2 * a.length
  | [], _ => rfl
  | p :: a, t => by
    show (lo _ a).length + 1 + 1 = 2 * (a.length + 1)
    rw [lo_len a]
    omega
theorem lx_app : ∀ (a b : List PK) (i : Nat), lx i (a ++ b) = lx i a ++ lx (i + 2 * a.length) b
  | [], _, _ => rfl
  | p :: a, b, i => by
    show _ :: lx (i + 2) (a ++ b) = _
    rw [lx_app a b, show i + 2 + 2 * a.length = i + 2 * (p :: a).length by rw [List.length_cons]; omega]
    rfl
theorem lx_keys : ∀ (a : List PK) (i : Nat), (lx i a).map (·.1) = a.map key
  | [], _ => rfl
  | p :: a, i => by
    show _ :: (lx _ a).map _ = _
    rw [lx_keys a]
    rfl
theorem lx_len : ∀ (a : List PK) (i : Nat), (lx i a).length = a.length
  | [], _ => rfl
  | p :: a, i => congrArg (· + 1) (lx_len a _)
/-! ### a heap with objects behind -/
def ext (h : Heap) (l : List Obj) : Heap := ⟨h.objs ++ l.toArray, h.life⟩
theorem ext_nil (h : Heap) : ext h [] = h := by
  obtain ⟨o, l⟩ := h
  show (⟨o ++ ([] : List Obj).toArray, l⟩ : Heap) = ⟨o, l⟩
  rw [show o ++ ([] : List Obj).toArray = o by simp]
theorem ext_push (h : Heap) (l : List Obj) (o : Obj) : (ext h l).push o = ext h (l ++ [o]) := by
  show (⟨(h.objs ++ l.toArray).push o, h.life⟩ : Heap) = ⟨h.objs ++ (l ++ [o]).toArray, h.life⟩
  rw [show (h.objs ++ l.toArray).push o = h.objs ++ (l ++ [o]).toArray by simp]
theorem ext_size (h : Heap) (l : List Obj) : (ext h l).objs.size = h.objs.size + l.length := by
  show (h.objs ++ l.toArray).size = _
  simp
theorem ext_get {h : Heap} {l : List Obj} {i : Nat} {o : Obj} (e : l[i]? = some o) (ho : ∀ c d s, o ≠ ⟨c, d, .freed, s⟩) : (ext h l).get? (h.objs.size + i) = some o := by
  have g : (h.objs ++ l.toArray)[h.objs.size + i]? = some o := by
    rw [Array.getElem?_append_right (by omega), show h.objs.size + i - h.objs.size = i by omega]
    simpa using e
  unfold Heap.get? ext
  rw [g]
  obtain ⟨c, d, dt, s⟩ := o
  cases dt <;> first | rfl | exact absurd rfl (ho c d s)
theorem ext_upd (h : Heap) (o : Obj) (l : List Obj) (f : Obj → Obj) : (ext h (o :: l)).update h.objs.size f = ext h (f o :: l) := by
  show (⟨(h.objs ++ (o :: l).toArray).modify h.objs.size f, h.life⟩ : Heap) = ⟨h.objs ++ (f o :: l).toArray, h.life⟩
  congr 1
  apply Array.ext_getElem?
  intro i
  rw [Array.getElem?_modify]
  by_cases e : h.objs.size = i
  · subst e
    rw [if_pos rfl, Array.getElem?_append_right (Nat.le_refl _), Array.getElem?_append_right (Nat.le_refl _)]
    simp
  · rw [if_neg e]
    by_cases q : i < h.objs.size
    · rw [Array.getElem?_append_left q, Array.getElem?_append_left q]
    · rw [Array.getElem?_append_right (by omega), Array.getElem?_append_right (by omega)]
      obtain ⟨k, hk⟩ : ∃ k, i - h.objs.size = k + 1 := ⟨i - h.objs.size - 1, by omega⟩
      rw [hk]
      simp
section
variable {prog : Program} {w : World} {A : Around} {E : Value → Shared → Prop} {env : Env}
theorem items_of : ∀ (zs : List Str) (t : Nat), ItemsAre (strKind prog w) zs (toksV t zs)
  | [], _ => .nil
  | x :: r, t => .cons (by show Value.isStrOf x (.str x t) = true; simp [Value.isStrOf]) (items_of r (t + 1))
theorem tO_key {h : Heap} {l : List Obj} {i t : Nat} {zs : List Str} (e : l[i]? = some (tO t zs)) : IsTupleKey (strKind prog w) (ext h l) zs (h.objs.size + i) :=
  ⟨_, _, _, ext_get e (fun c d s z => by injection z with _ _ z _; exact nomatch z), rfl, rfl, by simpa using items_of zs t⟩
theorem lx_is {h : Heap} {l : List Obj} : ∀ (L : List PK) (t i : Nat), (∀ j o, (lo t L)[j]? = some o → l[i + j]? = some o) → ∀ x ∈ lx (h.objs.size + i) L, IsTupleKey (strKind prog w) (ext h l) x.1 x.2.1
  | [], _, _, _, x, hx => nomatch hx
  | p :: r, t, i, hl, x, hx => by
    rcases List.mem_cons.mp hx with z | z
    · subst z
      exact tO_key (hl 0 _ rfl)
    · refine lx_is r (t + p.2.2.length + 5) (i + 2) (fun j o e => ?_) x z
      rw [show i + 2 + j = i + (j + 2) by omega]
      exact hl (j + 2) o e
/-- texts, written -/
inductive CS : List Expr → List Str → Prop where
  | nil : CS [] []
  | cons {x : Str} {k : Nat} {pos : Pos} {es : List Expr} {zs : List Str} : CS es zs → CS (.Constant (.str x) k pos :: es) (x :: zs)
theorem wp_items {pos : Pos} : ∀ {es : List Expr} {zs : List Str} {s : Shared} {Q : List Value → Shared → Prop}, CS es zs → Q (toksV s.toks zs) { s with toks := s.toks + zs.length } → wpAny (model prog w) A (spliced (backTo pos (starEach es env))) Q E s
  | _, _, s, Q, .nil, h => wpAny_items_nil h
  | _, _, s, Q, .cons (zs := zs) c, h => wpAny_items_cons (wpAny_Constant_str (wp_items c (by
      show Q (_ :: toksV (s.toks + 1) zs) { s with toks := s.toks + 1 + zs.length }
      rw [show s.toks + 1 + zs.length = s.toks + (zs.length + 1) by omega]
      exact h)))
theorem toksV_len : ∀ (zs : List Str) (t : Nat), (toksV t zs).length = zs.length
  | [], _ => rfl
  | x :: r, t => congrArg (· + 1) (toksV_len r _)
theorem wp_tuple {es : List Expr} {zs : List Str} {k : Nat} {pos : Pos} {s : Shared} {Q : Value → Shared → Prop} (c : CS es zs) (hz : zs.length ≤ 100) (h : Q (.ref s.heap.objs.size) { s with heap := s.heap.push (tO s.toks zs), toks := s.toks + zs.length }) :
    wpAny (model prog w) A (eval (.Tuple es k pos) env) Q E s :=
  wpAny_Tuple (wp_items c ⟨by rw [toksV_len]; exact Nat.le_trans hz (by decide), h⟩)
/-- the pairs, as they are evaluated -/
inductive PairsAre (env : Env) (pos : Pos) : List (Sem Value × Sem Value) → List PK → Prop where
  | nil : PairsAre env pos [] []
  | cons {ke ve : List Expr} {kk vk : Nat} {kp vp : Pos} {p : PK} {ps : List (Sem Value × Sem Value)} {r : List PK} : CS ke (key p) → CS ve p.2.2 → p.2.2.length ≤ 100 → PairsAre env pos ps r →
    PairsAre env pos ((eval (.Tuple ke kk kp) env, (do let x ← eval (.Tuple ve vk vp) env; standAt pos; pure x)) :: ps) (p :: r)
/-- the state behind some of the pairs: the dict first, then keys and values -/
def mid (w : World) (prog : Program) (s : Shared) (L : List PK) : Shared := { s with heap := ext s.heap (dO ((lx (s.heap.objs.size + 1) L).map (entryOfKey (tupleKind (strKind prog w)))) :: lo s.toks L), toks := lt s.toks L }
/-- d[k] = v of a new key: the entry is the last -/
theorem wp_new {s : Shared} {L : List PK} {p : PK} {h : Heap} {t : Nat} {Q : Unit → Shared → Prop} (hu : A.units < cLine) (hs : s.heap = ext h (dO ((lx (h.objs.size + 1) L).map (entryOfKey (tupleKind (strKind prog w)))) :: lo t (L ++ [p])))
    (hn : ((L ++ [p]).map key).Nodup) (hz : L.length ≤ 1000) (q : Q () { s with heap := ext h (dO ((lx (h.objs.size + 1) (L ++ [p])).map (entryOfKey (tupleKind (strKind prog w)))) :: lo t (L ++ [p])), toks := s.toks + 3 }) :
    wpAny (model prog w) A (dictSet h.objs.size (.ref (h.objs.size + 1 + 2 * L.length)) (.ref (h.objs.size + 1 + 2 * L.length + 1))) Q E s := by
  obtain ⟨hp, g, d, tk, os⟩ := s
  have hs : hp = _ := hs
  have is : ∀ x ∈ lx (h.objs.size + 1) (L ++ [p]), IsTupleKey (strKind prog w) hp x.1 x.2.1 := by
    rw [hs]
    exact lx_is (L ++ [p]) t 1 fun j o e => by rw [show 1 + j = j + 1 by omega]; exact e
  have mine : IsTupleKey (strKind prog w) hp (key p) (h.objs.size + 1 + 2 * L.length) := is (key p, _, _) (by
    rw [lx_app]
    exact List.mem_append_right _ (List.mem_cons_self ..))
  have hd : hp.get? h.objs.size = some (dO ((lx (h.objs.size + 1) L).map (entryOfKey (tupleKind (strKind prog w))))) := by
    rw [hs]
    exact ext_get (h := h) (i := 0) rfl (fun c d s z => by injection z with _ _ z _; exact nomatch z)
  have nk : ∀ (j : Nat) (x : Addr × Value), (lx (h.objs.size + 1) L)[j]? ≠ some (key p, x) := fun j x z => by
    rw [List.map_append, List.nodup_append] at hn
    have m1 : key p ∈ L.map key := by
      rw [← lx_keys L (h.objs.size + 1)]
      exact List.mem_map.mpr ⟨_, List.mem_of_getElem? z, rfl⟩
    exact hn.2.2 _ m1 _ (List.mem_singleton.mpr rfl) rfl
  unfold dictSet
  try with_reducible refine wpAny_holding ?_
  refine wpAny_bind ((tupleKind (strKind prog w)).pyHash hu mine ?_)
  unfold dictSetHashed
  try with_reducible refine wpAny_holding ?_
  refine wpAny_bind (wpAny_dictFind_heap (knd := tupleKind (strKind prog w)) (s := ⟨hp, g, d, tk + 3, os⟩) hu mine hd rfl (by simp) (fun x hx => is x (by rw [lx_app]; exact List.mem_append_left _ hx)) (by
    rw [lx_keys]
    rw [List.map_append, List.nodup_append] at hn
    exact hn.1) (fun _ => ?_) fun j x z => absurd z (nk j x))
  refine wpAny_bind (wpAny_rule (wpAny_updateDictKeys (s := ⟨hp, g, d, tk + 3, os⟩) hd rfl ?_ (by
    rw [List.size_toArray, List.length_map, lx_len]
    exact Nat.le_trans hz (by decide))))
  have e : hp.update h.objs.size (Obj.mapDictKeys fun es => es.push ⟨(tupleKind (strKind prog w)).hash (key p), .ref (h.objs.size + 1 + 2 * L.length), .ref (h.objs.size + 1 + 2 * L.length + 1)⟩) = ext h (dO ((lx (h.objs.size + 1) (L ++ [p])).map (entryOfKey (tupleKind (strKind prog w)))) :: lo t (L ++ [p])) := by
    rw [hs, ext_upd]
    congr 2
    rw [lx_app, List.map_append]
    show (⟨_, _, _, _⟩ : Obj) = ⟨_, _, _, _⟩
    simp [dO, Obj.mapDictKeys, lx, entryOfKey]
  rw [e]
  exact q
/-- pair by pair -/
theorem wp_long {pos : Pos} {s : Shared} (hu : A.units < cLine) : ∀ (rest done : List PK) (pairs : List (Sem Value × Sem Value)) (Q : PUnit → Shared → Prop), PairsAre env pos pairs rest → ((done ++ rest).map key).Nodup → (done ++ rest).length ≤ 1000 → Q PUnit.unit (mid w prog s (done ++ rest)) →
    wpAny (model prog w) A (forIn pairs PUnit.unit fun (x : Sem Value × Sem Value) (_ : PUnit) => (do let kv ← x.1; let vv ← holding [kv] x.2; holding [kv, vv] (dictSet s.heap.objs.size kv vv); pure (ForInStep.yield PUnit.unit) : Sem (ForInStep PUnit))) Q E (mid w prog s done)
  | _, done, _, Q, .nil, _, _, q => by
    rw [List.append_nil] at q
    rw [List.forIn_nil]
    exact wpAny_pure q
  | _, done, _, Q, .cons (ke := ke) (ve := ve) (kk := kk) (vk := vk) (kp := kp) (vp := vp) (p := p) (ps := ps) (r := r) c1 c2 c3 c4, hn, hl, q => by
    rw [List.forIn_cons]
    dsimp only
    have ed : done ++ p :: r = (done ++ [p]) ++ r := by simp
    rw [ed] at hn hl q
    have hl' : (done ++ [p]).length ≤ 1000 := Nat.le_trans (by rw [List.length_append (as := done ++ [p])]; exact Nat.le_add_right _ _) hl
    have hn' : ((done ++ [p]).map key).Nodup := by
      rw [List.map_append] at hn
      exact (List.nodup_append.mp hn).1
    refine wpAny_bind (wpAny_bind (wp_tuple (k := kk) (pos := kp) c1 (by show 2 ≤ 100; decide) (wpAny_bind (wpAny_holding (wpAny_bind (wp_tuple (k := vk) (pos := vp) c2 c3 (wpAny_bind (wpAny_standAt (wpAny_pure ?_)))))))))
    have es : s.heap.objs.size + 1 + 2 * done.length = (mid w prog s done).heap.objs.size := by
      show _ = (ext s.heap _).objs.size
      rw [ext_size, List.length_cons, lo_len]
      omega
    have e2 : ∀ o, ((mid w prog s done).heap.push o).objs.size = s.heap.objs.size + 1 + 2 * done.length + 1 := fun o => by
      rw [Heap.size_push, es]
    have e1 : (ext s.heap (dO ((lx (s.heap.objs.size + 1) done).map (entryOfKey (tupleKind (strKind prog w)))) :: lo s.toks done)).objs.size = s.heap.objs.size + 1 + 2 * done.length := es.symm
    have eo : lo s.toks (done ++ [p]) = lo s.toks done ++ [tO (lt s.toks done) (key p)] ++ [tO (lt s.toks done + 2) p.2.2] := by
      rw [lo_app]
      simp [lo]
    have et : lt s.toks (done ++ [p]) = lt s.toks done + p.2.2.length + 5 := by
      rw [lt_app]
      rfl
    refine wpAny_bind (wpAny_holding ?_)
    show wpAny _ _ (dictSet s.heap.objs.size (.ref (mid w prog s done).heap.objs.size) (.ref ((mid w prog s done).heap.push _).objs.size)) _ _ _
    rw [e2, ← es]
    refine wp_new (t := s.toks) (p := p) hu ?_ hn' (by rw [List.length_append] at hl'; omega) (wpAny_pure ?_)
    · show ((ext s.heap _).push _).push _ = _
      rw [ext_push, ext_push, eo]
      rfl
    · refine (congrArg (fun x => wpAny (model prog w) A _ Q E x) ?_).mp (wp_long hu r (done ++ [p]) ps Q c4 hn hl q)
      show mid w prog s (done ++ [p]) = _
      unfold mid
      rw [et]
      show Shared.mk _ _ _ _ _ = Shared.mk _ _ _ _ _
      congr 1
      show lt s.toks done + p.2.2.length + 5 = lt s.toks done + 2 + p.2.2.length + 3
      omega
end
end Fw

set_option Elab.async false
set_option linter.all false
set_option maxRecDepth 100000
set_option maxHeartbeats 2000000
namespace Fw
open PySem PySem.W PySem.Calls PyProof.Rows
theorem ext_ext (h : Heap) (a b : List Obj) : ext (ext h a) b = ext h (a ++ b) := by
  show (⟨(h.objs ++ a.toArray) ++ b.toArray, h.life⟩ : Heap) = ⟨h.objs ++ (a ++ b).toArray, h.life⟩
  congr 1
  simp
section
variable {prog : Program} {w : World} {A : Around} {E : Value → Shared → Prop} {env : Env}
theorem pairs_len {pos : Pos} : ∀ {ps : List (Sem Value × Sem Value)} {L : List PK}, PairsAre env pos ps L → ps.length = L.length
  | _, _, .nil => rfl
  | _, _, .cons _ _ _ r => congrArg (· + 1) (pairs_len r)
theorem wp_sub_long {pos : Pos} {s : Shared} {ps : List (Sem Value × Sem Value)} {L : List PK} {Q : Addr → Shared → Prop} (hu : A.units < cLine) (c : PairsAre env pos ps L) (h15 : 15 < ps.length) (hn : (L.map key).Nodup) (hl : L.length ≤ 1000) (q : Q s.heap.objs.size (mid w prog s L)) :
    wpAny (model prog w) A (subDict ps) Q E s := by
  unfold subDict
  refine wpAny_bind (wpAny_alloc ?_)
  refine wpAny_bind (wpAny_holding ?_)
  rw [if_neg (by omega)]
  refine wpAny_bind (wpAny_rule ?_)
  have e : (Shared.mk (s.heap.push { cls := .type "dict", data := .dict #[] }) s.gens s.drawn s.toks s.os) = mid w prog s [] := by
    have z : s.heap.push { cls := .type "dict", data := .dict #[] } = ext s.heap [dO []] := by
      have z := ext_push s.heap [] { cls := .type "dict", data := .dict #[] }
      rw [ext_nil] at z
      exact z
    show Shared.mk _ _ _ _ _ = Shared.mk (ext s.heap [dO []]) _ _ _ _
    rw [z]
    rfl
  rw [e]
  exact wpAny_bind (wp_long (E := E) hu L [] ps _ c hn hl (wpAny_pure (wpAny_pure q)))
theorem wp_sub_one {pos : Pos} {s : Shared} {ps : List (Sem Value × Sem Value)} {p : PK} {Q : Addr → Shared → Prop} (hu : A.units < cLine) (c : PairsAre env pos ps [p]) (q : Q s.heap.objs.size (mid w prog s [p])) :
    wpAny (model prog w) A (subDict ps) Q E s := by
  cases c with
  | cons c1 c2 c3 c4 =>
    rename_i ke ve kk vk kp vp ps
    cases c4
    unfold subDict
    refine wpAny_bind (wpAny_alloc ?_)
    refine wpAny_bind (wpAny_holding ?_)
    rw [if_pos (by show 1 ≤ 15; decide)]
    unfold evalPairs
    refine wpAny_bind (wpAny_bind (wp_tuple (k := kk) (pos := kp) c1 (by show 2 ≤ 100; decide) (wpAny_bind (wpAny_holding (wpAny_bind (wp_tuple (k := vk) (pos := vp) c2 c3 (wpAny_bind (wpAny_standAt (wpAny_pure ?_)))))))))
    unfold evalPairs
    refine wpAny_bind (wpAny_holding (wpAny_pure (wpAny_pure ?_)))
    refine wpAny_holding ?_
    rw [List.forIn_cons]
    dsimp only
    have e1 : (s.heap.push { cls := .type "dict", data := .dict #[] }).objs.size = s.heap.objs.size + 1 + 2 * ([] : List PK).length := by rw [Heap.size_push]; rfl
    have e2 : ∀ o, ((s.heap.push { cls := .type "dict", data := .dict #[] }).push o).objs.size = s.heap.objs.size + 1 + 2 * ([] : List PK).length + 1 := fun o => by rw [Heap.size_push, Heap.size_push]; rfl
    rw [e1, e2]
    refine wpAny_bind (wpAny_bind (wpAny_bind (wp_new (t := s.toks) (p := p) (L := []) hu ?_ (by simp) (Nat.zero_le _) (wpAny_pure ?_))))
    · show ((s.heap.push _).push _).push _ = _
      conv => lhs; rw [← ext_nil s.heap]
      rw [ext_push, ext_push, ext_push]
      rfl
    · dsimp only
      rw [List.forIn_nil]
      refine wpAny_pure (wpAny_pure (wpAny_pure ?_))
      refine (congrArg (fun x => Q s.heap.objs.size x) ?_).mp q
      unfold mid
      show Shared.mk _ _ _ _ _ = Shared.mk _ _ _ _ _
      congr 1
      show s.toks + p.2.2.length + 5 = s.toks + 2 + p.2.2.length + 3
      omega
/-- the state behind the whole display -/
def fin (w : World) (prog : Program) (s : Shared) (L : List PK) (p : PK) : Shared :=
  let m := s.heap.objs.size
  let a := m + 1 + 2 * L.length
  let k := tupleKind (strKind prog w)
  { s with heap := ext s.heap (dO ((lx (m + 1) L ++ lx (a + 1) [p]).map (entryOfKey k)) :: (lo s.toks L ++ dO ((lx (a + 1) [p]).map (entryOfKey k)) :: lo (lt s.toks L) [p])), toks := lt s.toks (L ++ [p]) }
theorem wp_merge {s : Shared} {L : List PK} {p : PK} {Q : Unit → Shared → Prop} (hu : A.units < cLine) (hn : ((L ++ [p]).map key).Nodup) (hl : L.length ≤ 1000) (h0 : L ≠ []) (hm : sysModules < s.heap.objs.size) (q : Q () (fin w prog s L p)) :
    wpAny (model prog w) A (mergeMapping s.heap.objs.size (.ref (s.heap.objs.size + 1 + 2 * L.length)) false) Q E (mid w prog (mid w prog s L) [p]) := by
  have ea : (ext s.heap (dO ((lx (s.heap.objs.size + 1) L).map (entryOfKey (tupleKind (strKind prog w)))) :: lo s.toks L)).objs.size = s.heap.objs.size + 1 + 2 * L.length := by
    rw [ext_size, List.length_cons, lo_len]
    omega
  have eS : mid w prog (mid w prog s L) [p] = { s with heap := ext s.heap (dO ((lx (s.heap.objs.size + 1) L).map (entryOfKey (tupleKind (strKind prog w)))) :: (lo s.toks L ++ dO ((lx (s.heap.objs.size + 1 + 2 * L.length + 1) [p]).map (entryOfKey (tupleKind (strKind prog w)))) :: lo (lt s.toks L) [p])), toks := lt s.toks (L ++ [p]) } := by
    unfold mid
    dsimp only
    rw [ea, ext_ext, lt_app]
    rfl
  rw [eS]
  generalize hH : ext s.heap (dO ((lx (s.heap.objs.size + 1) L).map (entryOfKey (tupleKind (strKind prog w)))) :: (lo s.toks L ++ dO ((lx (s.heap.objs.size + 1 + 2 * L.length + 1) [p]).map (entryOfKey (tupleKind (strKind prog w)))) :: lo (lt s.toks L) [p])) = H
  have nf : ∀ es c d sl, dO es ≠ ⟨c, d, .freed, sl⟩ := fun es c d sl z => by injection z with _ _ z _; exact nomatch z
  have gd : H.get? s.heap.objs.size = some (dO ((lx (s.heap.objs.size + 1) L).map (entryOfKey (tupleKind (strKind prog w))))) := by
    rw [← hH]
    exact ext_get (h := s.heap) (i := 0) rfl (nf _)
  have gs : H.get? (s.heap.objs.size + 1 + 2 * L.length) = some (dO ((lx (s.heap.objs.size + 1 + 2 * L.length + 1) [p]).map (entryOfKey (tupleKind (strKind prog w))))) := by
    rw [← hH, show s.heap.objs.size + 1 + 2 * L.length = s.heap.objs.size + (1 + 2 * L.length) by omega]
    refine ext_get (h := s.heap) (i := 1 + 2 * L.length) ?_ (nf _)
    rw [show 1 + 2 * L.length = 2 * L.length + 1 by omega, List.getElem?_cons_succ, List.getElem?_append_right (by rw [lo_len]; exact Nat.le_refl _), lo_len, Nat.sub_self]
    rfl
  have is1 : ∀ x ∈ lx (s.heap.objs.size + 1) L, IsTupleKey (strKind prog w) H x.1 x.2.1 := by
    rw [← hH]
    refine lx_is L s.toks 1 fun j o e => ?_
    rw [show 1 + j = j + 1 by omega, List.getElem?_cons_succ, List.getElem?_append_left (by
      have := (List.getElem?_eq_some_iff.mp e).1
      exact this)]
    exact e
  have is2 : IsTupleKey (strKind prog w) H (key p) (s.heap.objs.size + 1 + 2 * L.length + 1) := by
    rw [← hH, show s.heap.objs.size + 1 + 2 * L.length + 1 = s.heap.objs.size + (2 * L.length + 2) by omega]
    refine tO_key (t := lt s.toks L) ?_
    rw [show 2 * L.length + 2 = (2 * L.length + 1) + 1 by omega, List.getElem?_cons_succ, List.getElem?_append_right (by rw [lo_len]; omega), lo_len, show 2 * L.length + 1 - 2 * L.length = 1 by omega]
    rfl
  have nk : ∀ (j : Nat) (x : Addr × Value), (lx (s.heap.objs.size + 1) L)[j]? ≠ some (key p, x) := fun j x z => by
    rw [List.map_append, List.nodup_append] at hn
    have m1 : key p ∈ L.map key := by
      rw [← lx_keys L (s.heap.objs.size + 1)]
      exact List.mem_map.mpr ⟨_, List.mem_of_getElem? z, rfl⟩
    exact hn.2.2 _ m1 _ (List.mem_singleton.mpr rfl) rfl
  have hT : (Shared.mk H s.gens s.drawn (lt s.toks (L ++ [p])) s.os).TypeIs (.ref (s.heap.objs.size + 1 + 2 * L.length)) "dict" := ⟨_, gs, rfl⟩
  unfold mergeMapping
  refine wpAny_bind (wpAny_isInstance hT isSubtype_dict_dict ?_)
  rw [if_pos rfl]
  refine wpAny_bind (wpAny_specialOf hT F.slot_dict_iter.lookup ?_)
  rw [show ((some (Value.builtin "dict.__iter__") : Option Value) == some (Value.builtin "dict.__iter__")) = true from beq_self_eq_true _]
  refine wpAny_bind (wpAny_pure ?_)
  dsimp only
  rw [if_neg (by
    rw [beq_iff_eq]
    intro z
    have y := hm
    rw [← z] at y
    exact absurd y (Nat.not_lt.mpr (by omega)))]
  refine wpAny_bind (wpAny_dictEntries gd rfl ?_)
  rw [if_neg (by
    intro z
    have : ((lx (s.heap.objs.size + 1) L).map (entryOfKey (tupleKind (strKind prog w)))) = [] := by simpa using z
    rw [List.map_eq_nil_iff] at this
    have := congrArg List.length this
    rw [lx_len] at this
    exact h0 (List.eq_nil_of_length_eq_zero this))]
  refine wpAny_bind (wpAny_dictEntries gs rfl ?_)
  refine wpAny_bind (wpAny_dictEpoch gs rfl ?_)
  show wpAny _ _ (forIn (List.range 1) PUnit.unit _ >>= _) _ _ _
  rw [show List.range 1 = [0] from rfl, List.forIn_cons]
  refine wpAny_bind (wpAny_bind (wpAny_bind (wpAny_dictEntries gs rfl ?_)))
  show wpAny _ _ (do
    holding [Value.ref (s.heap.objs.size + 1 + 2 * L.length + 1), Value.ref (s.heap.objs.size + 1 + 2 * L.length + 1 + 1)] (dictPut s.heap.objs.size ((tupleKind (strKind prog w)).hash (key p)) (Value.ref (s.heap.objs.size + 1 + 2 * L.length + 1)) (Value.ref (s.heap.objs.size + 1 + 2 * L.length + 1 + 1)))
    let x ← dictEpoch (s.heap.objs.size + 1 + 2 * L.length)
    if (x != 1) = true then do
        let _ ← (unsupported "dict.changed-during-merge" : Sem PUnit)
        pure (ForInStep.yield PUnit.unit)
      else pure (ForInStep.yield PUnit.unit) : Sem (ForInStep PUnit)) _ _ _
  refine wpAny_bind (wpAny_holding ?_)
  unfold dictPut
  refine wpAny_bind (wpAny_dictFind_heap (knd := tupleKind (strKind prog w)) hu is2 gd rfl (by simp) is1 (by
    rw [lx_keys]
    rw [List.map_append, List.nodup_append] at hn
    exact hn.1) (fun _ => ?_) fun j x z => absurd z (nk j x))
  refine wpAny_updateDictKeys gd rfl ?_ (by
    rw [List.size_toArray, List.length_map, lx_len]
    exact Nat.le_trans hl (by decide))
  have eH : H.update s.heap.objs.size (Obj.mapDictKeys fun es => es.push ⟨(tupleKind (strKind prog w)).hash (key p), .ref (s.heap.objs.size + 1 + 2 * L.length + 1), .ref (s.heap.objs.size + 1 + 2 * L.length + 1 + 1)⟩) = (fin w prog s L p).heap := by
    rw [← hH, ext_upd]
    show ext s.heap _ = ext s.heap _
    congr 2
    rw [List.map_append]
    show (⟨_, _, _, _⟩ : Obj) = ⟨_, _, _, _⟩
    simp [dO, Obj.mapDictKeys, lx, entryOfKey]
  rw [eH]
  have e9 : s.heap.objs.size + 1 + 2 * L.length = s.heap.objs.size + (2 * L.length + 1) := by omega
  have gs' : (fin w prog s L p).heap.get? (s.heap.objs.size + 1 + 2 * L.length) = some (dO ((lx (s.heap.objs.size + 1 + 2 * L.length + 1) [p]).map (entryOfKey (tupleKind (strKind prog w))))) := by
    refine (congrArg (fun a => (fin w prog s L p).heap.get? a) e9).trans (ext_get (h := s.heap) (i := 2 * L.length + 1) ?_ (nf _))
    rw [List.getElem?_cons_succ, List.getElem?_append_right (by rw [lo_len]; exact Nat.le_refl _), lo_len, Nat.sub_self]
    rfl
  refine wpAny_bind (wpAny_dictEpoch gs' rfl ?_)
  rw [if_neg (by show ¬ ((1 : Nat) != 1) = true; decide)]
  refine wpAny_pure ?_
  dsimp only
  rw [List.forIn_nil]
  exact wpAny_pure (wpAny_pure q)
end
end Fw

set_option Elab.async false
set_option linter.all false
set_option maxRecDepth 100000
set_option maxHeartbeats 2000000
namespace Fw
open PySem PySem.W PySem.Calls PyProof.Rows
abbrev PS : Type := Sem Value × Sem Value
theorem gather (f : (Option (Sem Value) × Sem Value) → (Option Addr × List PS) → Sem (ForInStep (Option Addr × List PS))) (hf : ∀ (p : PS) (run : List PS), run.length + 1 < 17 → f (some p.1, p.2) (none, run) = pure (.yield (none, run ++ [p]))) (rest : List PS) :
    ∀ (a run : List PS), run.length + a.length < 17 → forIn ((a ++ rest).map fun p => (some p.1, p.2)) ((none : Option Addr), run) f = forIn (rest.map fun p => (some p.1, p.2)) ((none : Option Addr), run ++ a) f
  | [], run, _ => by rw [List.append_nil]; rfl
  | p :: a, run, h => by
    rw [List.length_cons] at h
    rw [List.cons_append, List.map_cons, List.forIn_cons, hf p run (by omega), pure_bind]
    dsimp only
    rw [gather f hf rest a (run ++ [p]) (by rw [List.length_append]; show run.length + 1 + a.length < 17; omega), List.append_assoc]
    rfl
section
variable {prog : Program} {w : World} {A : Around} {E : Value → Shared → Prop} {env : Env}
theorem wp_display {pos : Pos} {s : Shared} {a : List PS} {b c : PS} {L : List PK} {p : PK} {Q : Value → Shared → Prop} (hu : A.units < cLine) (ha : a.length = 16) (c1 : PairsAre env pos (a ++ [b]) L) (c2 : PairsAre env pos [c] [p]) (hn : ((L ++ [p]).map key).Nodup) (hm : sysModules < s.heap.objs.size)
    (q : Q (.ref s.heap.objs.size) (fin w prog s L p)) : wpAny (model prog w) A (dictDisplay ((a ++ [b, c]).map fun p => (some p.1, p.2))) Q E s := by
  have hL : L.length = 17 := by
    rw [← pairs_len c1, List.length_append, ha]
    rfl
  have hn1 : (L.map key).Nodup := by
    rw [List.map_append] at hn
    exact (List.nodup_append.mp hn).1
  unfold dictDisplay
  dsimp only
  rw [gather _ (fun p run h => by
    have hne : ((run ++ [(p.1, p.2)]).length == 17) = false := by simp; omega
    simp only [hne, Bool.false_eq_true, if_false]) [b, c] a [] (by rw [ha]; decide)]
  rw [List.nil_append, List.map_cons, List.forIn_cons]
  have e17 : ((a ++ [(b.1, b.2)]).length == 17) = true := by rw [List.length_append, ha]; rfl
  have ne : (a ++ [(b.1, b.2)]).isEmpty = false := by cases a <;> rfl
  simp only [e17, if_true, ne, Bool.false_eq_true, if_false]
  refine wpAny_bind (wpAny_bind (wpAny_bind (wpAny_bind (wp_sub_long (w := w) (prog := prog) hu c1 (by rw [List.length_append, ha]; show 15 < 17; decide) hn1 (by rw [hL]; decide) ?_))))
  refine wpAny_pure (wpAny_pure ?_)
  dsimp only
  rw [List.map_cons, List.map_nil, List.forIn_cons]
  simp only [List.nil_append, List.length_singleton, show ((1 : Nat) == 17) = false from rfl, Bool.false_eq_true, if_false]
  refine wpAny_bind (wpAny_pure ?_)
  dsimp only
  rw [List.forIn_nil]
  refine wpAny_pure ?_
  simp only [List.isEmpty_cons, Bool.false_eq_true, if_false]
  refine wpAny_bind (wpAny_bind (wpAny_holding (wp_sub_one (w := w) (prog := prog) hu c2 ?_)))
  have es : (mid w prog s L).heap.objs.size = s.heap.objs.size + 1 + 2 * L.length := by
    show (ext s.heap _).objs.size = _
    rw [ext_size, List.length_cons, lo_len]
    omega
  rw [es]
  refine wpAny_bind (wpAny_onRaise (wpAny_holding (wp_merge hu hn (by rw [hL]; decide) (fun z => by rw [z] at hL; exact nomatch hL) hm ?_)))
  exact wpAny_pure (wpAny_pure q)
end
end Fw

set_option Elab.async false
set_option linter.all false
set_option maxRecDepth 100000
set_option maxHeartbeats 2000000
/-! The top with the display in its midst, run in the kernel ahead of it and behind it. -/
noncomputable section
namespace Fw
open PySem PySem.W PySem.Calls PyProof.Rows HandSHeadRun
section
variable (st : SharedT → Thread → Option (SharedT × Thread)) (n0 : Nat) (ann : Option Value)
def goS : Nat → SharedT → Thread → Option (SharedT × Thread)
  | 0, s, t => some (s, t)
  | m + 1, s, t => match through t with
    | true => none
    | false => match stepOk n0 ann t with
      | false => none
      | true => match st s t with
        | some (s', t') => frS s' fun s' => goS m s' t'
        | none => none
def segF : Nat → SharedT → Thread → Option (Flow × SharedT × Code × Pos)
  | 0, _, _ => none
  | m + 1, s, t => match endAt 1 t with
    | some f => some (f, s, t.code, t.pos)
    | none => match stepOk n0 ann t with
      | false => none
      | true => match st s t with
        | some (s', t') => frS s' fun s' => segF m s' t'
        | none => none
end
section
variable {tb : String → Option Builtin} {p : Program} {w : World} {n0 : Nat} {ann : Option Value}
theorem goS_ok : ∀ {m : Nat} {s s' : SharedT} {t t' : Thread}, goS (stepT (denote tb) p w) n0 ann m s t = some (s', t') → topGo tb p w n0 ann m s.abs t = some (s'.abs, t')
  | 0, s, s', t, t', h => by
    cases (show some (s, t) = some (s', t') from h)
    rfl
  | m + 1, s, s', t, t', h => by
    have h : (match through t with
      | true => none
      | false => match stepOk n0 ann t with
        | false => none
        | true => match stepT (denote tb) p w s t with
          | some (s', t') => frS s' fun s' => goS (stepT (denote tb) p w) n0 ann m s' t'
          | none => none) = some (s', t') := h
    cases h1 : through t with
    | true => rw [h1] at h; exact nomatch h
    | false =>
      cases h2 : stepOk n0 ann t with
      | false => rw [h1, h2] at h; exact nomatch h
      | true =>
        rw [h1, h2] at h
        cases h3 : stepT (denote tb) p w s t with
        | none => rw [h3] at h; exact nomatch h
        | some r =>
          obtain ⟨s2, t2⟩ := r
          rw [h3] at h
          have h : (frS s2 fun s' => goS (stepT (denote tb) p w) n0 ann m s' t2) = some (s', t') := h
          rw [frS_eq] at h
          exact go_one h1 h2 (stepT_spec h3) (goS_ok h)
theorem segF_ok : ∀ {m : Nat} {s s' : SharedT} {t : Thread} {f : Flow} {c : Code} {q : Pos}, segF (stepT (denote tb) p w) n0 ann m s t = some (f, s', c, q) → segRun tb p w n0 ann 1 m s.abs t = some (f, s'.abs, c, q)
  | 0, _, _, _, _, _, _, h => nomatch (show (none : Option (Flow × SharedT × Code × Pos)) = some _ from h)
  | m + 1, s, s', t, f, c, q, h => by
    have h : (match endAt 1 t with
      | some f => some (f, s, t.code, t.pos)
      | none => match stepOk n0 ann t with
        | false => none
        | true => match stepT (denote tb) p w s t with
          | some (s', t') => frS s' fun s' => segF (stepT (denote tb) p w) n0 ann m s' t'
          | none => none) = some (f, s', c, q) := h
    unfold segRun
    cases h1 : endAt 1 t with
    | some g =>
      rw [h1] at h
      cases (show some (g, s, t.code, t.pos) = some (f, s', c, q) from h)
      rfl
    | none =>
      cases h2 : stepOk n0 ann t with
      | false => rw [h1, h2] at h; exact nomatch h
      | true =>
        rw [h1, h2] at h
        cases h3 : stepT (denote tb) p w s t with
        | none => rw [h3] at h; exact nomatch h
        | some r =>
          obtain ⟨s2, t2⟩ := r
          rw [h3] at h
          have h : (frS s2 fun s' => segF (stepT (denote tb) p w) n0 ann m s' t2) = some (f, s', c, q) := h
          rw [frS_eq] at h
          show (match step (denote tb) p w s.abs t with
            | .go s' t' => segRun tb p w n0 ann 1 m s' t'
            | .halt _ _ => none) = some (f, s'.abs, c, q)
          rw [stepT_spec h3]
          exact segF_ok h
end
/-! ### the display's objects behind a tree -/
def finObjs (w : World) (prog : Program) (m t : Nat) (L : List PK) (p : PK) : List Obj :=
  dO ((lx (m + 1) L ++ lx (m + 1 + 2 * L.length + 1) [p]).map (entryOfKey (tupleKind (strKind prog w)))) :: (lo t L ++ dO ((lx (m + 1 + 2 * L.length + 1) [p]).map (entryOfKey (tupleKind (strKind prog w)))) :: lo (lt t L) [p])
def layT (w : World) (prog : Program) (L : List PK) (p : PK) (s : SharedT) : Option SharedT := match putAll (finObjs w prog s.n s.toks L p) s.tree s.n with
  | some (t, n) => frNat n fun n => some ⟨t, n, s.life, s.gens, s.drawn, lt s.toks (L ++ [p]), s.os⟩
  | none => none
theorem ext_foldl : ∀ (l : List Obj) (h : Heap), l.foldl (fun h o => h.push o) h = ext h l
  | [], h => (ext_nil h).symm
  | o :: l, h => by
    show l.foldl _ (h.push o) = _
    rw [ext_foldl l (h.push o)]
    have z := ext_push h [] o
    rw [ext_nil] at z
    rw [z, ext_ext]
    rfl
theorem layT_ok {w : World} {prog : Program} {L : List PK} {p : PK} {s s' : SharedT} (h : layT w prog L p s = some s') : s'.abs = fin w prog s.abs L p := by
  unfold layT at h
  cases e : putAll (finObjs w prog s.n s.toks L p) s.tree s.n with
  | none => rw [e] at h; exact nomatch h
  | some r =>
    obtain ⟨t, n⟩ := r
    rw [e] at h
    have h : (frNat n fun n => some (⟨t, n, s.life, s.gens, s.drawn, lt s.toks (L ++ [p]), s.os⟩ : SharedT)) = some s' := h
    rw [frNat_eq] at h
    cases h
    have q := putAll_ok (life := s.life) e
    rw [ext_foldl] at q
    have sz : (absHeap s.tree s.n s.life).objs.size = s.n := absHeap_size s.tree s.n s.life
    show Shared.mk (absHeap t n s.life) s.gens s.drawn _ s.os = Shared.mk (ext (absHeap s.tree s.n s.life) _) s.gens s.drawn _ s.os
    rw [q]
    show _ = Shared.mk (ext (absHeap s.tree s.n s.life) (finObjs w prog (absHeap s.tree s.n s.life).objs.size s.toks L p)) s.gens s.drawn _ s.os
    rw [sz]
    rfl
/-! ### the whole -/
structure Plan where
  p : Program
  env : Env
  q0 : Pos
  pos0 : Pos
  l : List Stmt
  rest : List Stmt
  x : Str
  np : Pos
  keys : List (Option Expr)
  values : List Expr
  dpos : Pos
  apos : Pos
  L : List PK
  pk : PK
  k0 : Nat
  kB : Nat
  kL : Nat
  kF : Nat
  M : Nat
def Plan.st (D : Plan) : Stmt := .Assign [.Name D.x D.np] (.Dict D.keys D.values D.dpos) D.apos
def Plan.b (D : Plan) : List Stmt := D.l ++ D.st :: D.rest
def Plan.c (D : Plan) : Code := .body (behindTheImports D.p) D.env
def Plan.B (D : Plan) : List Frame := [topFrame D.q0]
def Plan.F (D : Plan) (v : Value) : Sem Flow := do
  standAt D.np
  bindName D.env D.x v
  pure .next
structure Big where
  tA : Thread
  n1 : Nat
  cB : Code
  c1 : Code
  c3 : Code
  s4 : SharedT
def bigF (st : SharedT → Thread → Option (SharedT × Thread)) (D : Plan) (w : World) (os : OsState) (p2 : Pos) : Option Big := match putAll (boot_heap w.params).objs.toList .nil 0 with
  | none => none
  | some (t, n) => frNat n fun n0 => match goS st n0 (bootAnn w) D.k0 (bootT w os (t, n0)) (topStub D.p) with
    | none => none
    | some (sA, tA) => match segF st n0 (bootAnn w) D.kB sA (blockOf (behindTheImports D.p) D.env D.c D.pos0 D.B) with
      | some (.next, sB, cB, pB) => (match segF st n0 (bootAnn w) D.kL sB (piecesOf D.l D.env D.c pB D.B) with
        | some (.next, s1, c1, _) => (match layT w D.p D.L D.pk s1 with
          | some s2 => (match segF st n0 (bootAnn w) D.kF s2 ⟨(D.F (.ref s1.n)).wrap doneF deadEnd id id, D.c, p2, D.B⟩ with
            | some (.next, s3, c3, p3) => (match goF st n0 (bootAnn w) D.M s3 (restOf D.rest D.env D.c p3 D.B) with
              | some s4 => some ⟨tA, s1.n, cB, c1, c3, s4⟩
              | none => none)
            | _ => none)
          | none => none)
        | _ => none)
      | _ => none
end Fw

end
set_option Elab.async false
set_option linter.all false
set_option maxRecDepth 100000
set_option maxHeartbeats 2000000
noncomputable section
namespace Fw
open PySem PySem.W PySem.Calls PyProof.Rows HandSHeadRun
/-- an expression by wp, with what stands behind it; its end told by a property -/
theorem halts_mid' {p : Program} {w : World} {α : Type} {m : Sem α} {K : α → Sem Fin} {H : Value → Sem Fin} {gd : Bool → Bool} {lv : List Value → List Value} {s : Shared} {c : Code} {pos : Pos} {B : List Frame} {Q : α → Pos → Shared → Prop} {G : Shared → Prop}
    (hw : Sem.wp (model p w) ((⟨c, none, none, [], none⟩ : Ctx).over B) m Q (fun _ _ _ => False) pos s) (hk : ∀ a p' s', Q a p' s' → ∃ S, Halts p w s' ⟨K a, c, p', B⟩ S ∧ S.gens = #[] ∧ G S) : ∃ S, Halts p w s ⟨m.wrap K H gd lv, c, pos, B⟩ S ∧ S.gens = #[] ∧ G S := by
  obtain ⟨e, S, hr, f, he, hg, hS⟩ := runs_wrap_of_wp (M := model p w) (Γ := ⟨c, none, none, [], none⟩) (fs := B) (Φ := fun e s'' => ∃ f, e = .ret (.ok f) ∧ s''.gens = #[] ∧ G s'') K H gd lv m hw
    (fun a p' s' q => by
      obtain ⟨S, h1, h2, h3⟩ := hk a p' s' q
      obtain ⟨f, r⟩ := halts_runs h1 h2
      exact ⟨_, _, r, f, rfl, h2, h3⟩) (fun _ _ _ q => q.elim)
  subst he
  exact ⟨S, runs_halts hr hg, hg, hS⟩
/-- what an end keeps of a state -/
structure Keeps (n₀ : Nat) (ann : Option Value) (s S : Shared) : Prop where
  life : S.heap.life = s.heap.life
  os : S.os = s.os
  fr : ∀ b o, b < n₀ → b ≠ mainNs → b ≠ cStatics → ann ≠ some (.ref b) → s.heap.get? b = some o → S.heap.get? b = some o
theorem Keeps.trans {n₀ : Nat} {ann : Option Value} {a b c : Shared} (x : Keeps n₀ ann a b) (y : Keeps n₀ ann b c) : Keeps n₀ ann a c :=
  ⟨y.life.trans x.life, y.os.trans x.os, fun i o h1 h2 h3 h4 h => y.fr i o h1 h2 h3 h4 (x.fr i o h1 h2 h3 h4 h)⟩
theorem keeps_go {p : Program} {w : World} {tb : String → Option Builtin} {n₀ : Nat} {ann : Option Value} {n : Nat} {s s' : Shared} {t t' : Thread} (h : topGo tb p w n₀ ann n s t = some (s', t')) : Keeps n₀ ann s s' := by
  obtain ⟨a, b, c⟩ := go_keeps h
  exact ⟨a, b, c⟩
theorem keeps_fin {w : World} {prog : Program} {n₀ : Nat} {ann : Option Value} (s : Shared) (L : List PK) (p : PK) : Keeps n₀ ann s (fin w prog s L p) :=
  ⟨rfl, rfl, fun b o _ _ _ _ h => by
    have lt := Heap.lt_size h
    show (ext s.heap _).get? b = some o
    unfold Heap.get? ext at *
    rw [Array.getElem?_append_left lt]
    exact h⟩
section
variable {D : Plan} {w : World} {os : OsState}
/-- the Around of the top's body -/
def topA (D : Plan) : Around := { handled := none, depth := frameCount [(.builtin "claim.caller" {}, D.q0)] + D.c.weight, frames := none, guards := none, units := D.c.cUnits + unitsOf [(.builtin "claim.caller" {}, D.q0)] }
theorem top_in : ((⟨D.c, none, none, [], none⟩ : Ctx).over D.B).In (topA D) :=
  ⟨rfl, Nat.le_refl _, fun l hl => (nomatch (show (none : Option (List Env)) = some l from hl)), fun g hg => (nomatch (show (none : Option (List Code)) = some g from hg)), Nat.le_refl _⟩
/-- what must be shown of a plan -/
structure Plan.Ok (D : Plan) : Prop where
  body : behindTheImports D.p = D.l ++ D.st :: D.rest
  sw : swapsWith (.Dict D.keys D.values D.dpos) (some (.Name D.x D.np)) D.apos.line D.env = pure false
  shape : ∃ (a : List PS) (b c : PS), a.length = 16 ∧ (evalEachOpt D.keys D.env).zip ((evalEach D.values D.env).map fun v => do let x ← v; standAt D.dpos; pure x) = (a ++ [b, c]).map (fun p => (some p.1, p.2)) ∧ PairsAre D.env D.dpos (a ++ [b]) D.L ∧ PairsAre D.env D.dpos [c] [D.pk]
  nd : ((D.L ++ [D.pk]).map key).Nodup
  un : D.c.cUnits + unitsOf [(.builtin "claim.caller" {}, D.q0)] < cLine
theorem big_ends {D : Plan} {w : World} {os : OsState} {G : SharedT → Prop} (O : D.Ok)
    (run : ∀ p2, ∃ r, bigF (stepT (denote table) D.p w) D w os p2 = some r ∧ r.tA = ⟨denote table D.c, D.c, D.pos0, D.B⟩ ∧ Nat.blt sysModules r.n1 = true ∧ r.cB = D.c ∧ r.c1 = D.c ∧ r.c3 = D.c ∧ r.s4.gens = #[] ∧ G r.s4) (hz : (⟨boot_heap w.params, #[], boot_drawn, boot_toks, os⟩ : Shared).asleep) :
    ∃ S : SharedT, Halts D.p w ⟨boot_heap w.params, #[], boot_drawn, boot_toks, os⟩ (topStub D.p) S.abs ∧ S.gens = #[] ∧ Keeps (boot_heap w.params).objs.size (bootAnn w) ⟨boot_heap w.params, #[], boot_drawn, boot_toks, os⟩ S.abs ∧ G S := by
  -- what the run is, piece by piece
  have parts : ∀ p2, ∃ (sA sB s1 s2 s3 s4 : SharedT) (pB p1 p3 : Pos) (t : PySem.W.BT) (n : Nat), putAll (boot_heap w.params).objs.toList .nil 0 = some (t, n) ∧ goS (stepT (denote table) D.p w) n (bootAnn w) D.k0 (bootT w os (t, n)) (topStub D.p) = some (sA, ⟨denote table D.c, D.c, D.pos0, D.B⟩) ∧
      segF (stepT (denote table) D.p w) n (bootAnn w) D.kB sA (blockOf (behindTheImports D.p) D.env D.c D.pos0 D.B) = some (.next, sB, D.c, pB) ∧ segF (stepT (denote table) D.p w) n (bootAnn w) D.kL sB (piecesOf D.l D.env D.c pB D.B) = some (.next, s1, D.c, p1) ∧ Nat.blt sysModules s1.n = true ∧ layT w D.p D.L D.pk s1 = some s2 ∧
      segF (stepT (denote table) D.p w) n (bootAnn w) D.kF s2 ⟨(D.F (.ref s1.n)).wrap doneF deadEnd id id, D.c, p2, D.B⟩ = some (.next, s3, D.c, p3) ∧ goF (stepT (denote table) D.p w) n (bootAnn w) D.M s3 (restOf D.rest D.env D.c p3 D.B) = some s4 ∧ s4.gens = #[] ∧ G s4 := by
    intro p2
    obtain ⟨r, hr, e1, en1, e2, e3, e4, hg, hG⟩ := run p2
    unfold bigF at hr
    split at hr
    · exact nomatch hr
    rename_i t n ht
    rw [frNat_eq] at hr
    split at hr
    · exact nomatch hr
    rename_i sA tA hA
    split at hr
    · rename_i sB cB pB hB
      split at hr
      · rename_i s1 c1 p1 h1
        split at hr
        · rename_i s2 h2
          split at hr
          · rename_i s3 c3 p3 h3
            split at hr
            · rename_i s4 h4
              cases hr
              dsimp only at e1 en1 e2 e3 e4 hg hG
              subst e1 e2 e3 e4
              exact ⟨sA, sB, s1, s2, s3, s4, pB, p1, p3, t, n, ht, hA, hB, h1, en1, h2, h3, h4, hg, hG⟩
            · exact nomatch hr
          · exact nomatch hr
        · exact nomatch hr
      · exact nomatch hr
    · exact nomatch hr
  obtain ⟨sA, sB, s1, s2, _, _, pB, p1, _, t, n, ht, hA, hB, h1, n1, h2, _⟩ := parts default
  have eh := putAll_heap ht
  have en : (boot_heap w.params).objs.size = n := by
    rw [← eh]
    exact absHeap_size t n _
  have eb : (bootT w os (t, n)).abs = ⟨boot_heap w.params, #[], boot_drawn, boot_toks, os⟩ := by
    show (⟨absHeap t n (boot_heap w.params).life, #[], boot_drawn, boot_toks, os⟩ : Shared) = _
    rw [eh]
  have suffix : ∀ p2, ∃ (s3 s4 : SharedT) (p3 : Pos), segF (stepT (denote table) D.p w) n (bootAnn w) D.kF s2 ⟨(D.F (.ref s1.n)).wrap doneF deadEnd id id, D.c, p2, D.B⟩ = some (.next, s3, D.c, p3) ∧ goF (stepT (denote table) D.p w) n (bootAnn w) D.M s3 (restOf D.rest D.env D.c p3 D.B) = some s4 ∧ s4.gens = #[] ∧ G s4 := by
    intro p2
    obtain ⟨sA', sB', s1', s2', s3, s4, pB', p1', p3, t', n', ht', hA', hB', h1', _, h2', h3, h4, hg, hG⟩ := parts p2
    rw [ht] at ht'
    cases ht'
    rw [hA] at hA'
    cases hA'
    rw [hB] at hB'
    cases hB'
    rw [h1] at h1'
    cases h1'
    rw [h2] at h2'
    cases h2'
    exact ⟨s3, s4, p3, h3, h4, hg, hG⟩
  have goA := goS_ok hA
  rw [eb] at goA
  have kA := keeps_go goA
  have sB0 : splitAtGen D.B = none := rfl
  obtain ⟨_, mB, _, goB⟩ := seg_goes (res := fun _ : Unit => Flow.next) (K' := fun _ => (execs (behindTheImports D.p) D.env).wrap doneF (leaveH D.env) id id) (H' := Sem.raise) (B := D.B) sB0 D.kB (t := blockOf (behindTheImports D.p) D.env D.c D.pos0 D.B)
    (t' := ⟨(blockStart (behindTheImports D.p) D.env).wrap (fun _ => (execs (behindTheImports D.p) D.env).wrap doneF (leaveH D.env) id id) .raise id id, D.c, D.pos0, D.B⟩) ⟨rfl, rfl, .inl ⟨rfl, rfl, _, rfl, rfl⟩⟩ (segF_ok hB)
  have kB := keeps_go goB
  obtain ⟨fC, mC, eC, goC⟩ := seg_goes (res := fun f : Flow => f) (K' := fun f => match f with | .next => (execs (D.st :: D.rest) D.env).wrap doneF (leaveH D.env) id id | f => doneF f) (H' := leaveH D.env) (B := D.B) sB0 D.kL (t := piecesOf D.l D.env D.c pB D.B)
    (t' := ⟨(execs D.l D.env).wrap (fun f => match f with | .next => (execs (D.st :: D.rest) D.env).wrap doneF (leaveH D.env) id id | f => doneF f) (leaveH D.env) id id, D.c, pB, D.B⟩) ⟨rfl, rfl, .inl ⟨rfl, rfl, _, rfl, rfl⟩⟩ (segF_ok h1)
  have eC : fC = .next := eC
  subst eC
  have kC := keeps_go goC
  have K1 : Keeps n (bootAnn w) ⟨boot_heap w.params, #[], boot_drawn, boot_toks, os⟩ s1.abs := (kA.trans kB).trans kC
  have sz : s1.abs.heap.objs.size = s1.n := absHeap_size s1.tree s1.n s1.life
  -- behind the display
  have behind : ∀ p', ∃ S, Halts D.p w (fin w D.p s1.abs D.L D.pk) ⟨(D.F (.ref s1.abs.heap.objs.size)).wrap (fun f => match f with | .next => (execs D.rest D.env).wrap doneF (leaveH D.env) id id | f => doneF f) (leaveH D.env) id id, D.c, p', D.B⟩ S ∧ S.gens = #[] ∧
      ∃ S4 : SharedT, S = S4.abs ∧ S4.gens = #[] ∧ Keeps n (bootAnn w) s1.abs S ∧ G S4 := by
    intro p'
    obtain ⟨s3, s4, p3, h3, h4, hg, hG⟩ := suffix p'
    rw [sz, ← layT_ok h2]
    obtain ⟨fE, mE, eE, goE⟩ := seg_goes (res := fun f : Flow => f) (K' := fun f => match f with | .next => (execs D.rest D.env).wrap doneF (leaveH D.env) id id | f => doneF f) (H' := leaveH D.env) (B := D.B) sB0 D.kF (t := ⟨(D.F (.ref s1.n)).wrap doneF deadEnd id id, D.c, p', D.B⟩)
      (t' := ⟨(D.F (.ref s1.n)).wrap (fun f => match f with | .next => (execs D.rest D.env).wrap doneF (leaveH D.env) id id | f => doneF f) (leaveH D.env) id id, D.c, p', D.B⟩) ⟨rfl, rfl, .inl ⟨rfl, rfl, _, rfl, rfl⟩⟩ (segF_ok h3)
    have eE : fE = .next := eE
    subst eE
    have top := goF_ok h4
    have kE := keeps_go goE
    have k2 : Keeps n (bootAnn w) s1.abs s2.abs := by
      rw [layT_ok h2]
      exact keeps_fin _ _ _
    have K3 := (K1.trans k2).trans kE
    obtain ⟨_, l4, o4, f4⟩ := topRun_spec _ _ _ _ (Shared.asleep_of_life K3.life hz) top
    have k4 : Keeps n (bootAnn w) s3.abs s4.abs := ⟨l4, o4, f4⟩
    exact ⟨s4.abs, halts_go goE (halts_top top hg), hg, s4, rfl, hg, (k2.trans kE).trans k4, hG⟩
  have ex : exec D.st D.env = ((do standAt D.apos; eval (.Dict D.keys D.values D.dpos) D.env) : Sem Value) >>= D.F := by
    show exec (.Assign [.Name D.x D.np] (.Dict D.keys D.values D.dpos) D.apos) D.env = _
    rw [exec_Assign_Name _ _ _ _ _ O.sw]
    rfl
  obtain ⟨a, b, c, ha, hsh, c1, c2⟩ := O.shape
  have hu : (topA D).units < cLine := O.un
  have hm : sysModules < s1.abs.heap.objs.size := by
    rw [sz]
    exact Nat.le_of_ble_eq_true n1
  have wpD : wpAny (model D.p w) (topA D) ((do standAt D.apos; eval (.Dict D.keys D.values D.dpos) D.env) : Sem Value) (fun v s' => v = .ref s1.abs.heap.objs.size ∧ s' = fin w D.p s1.abs D.L D.pk) (fun _ _ => False) s1.abs := by
    refine wpAny_bind (wpAny_standAt ?_)
    rw [arm_eval_Dict, hsh]
    exact wpAny_bind (wpAny_standAt (wp_display hu ha c1 c2 O.nd hm ⟨rfl, rfl⟩))
  obtain ⟨S, hS, hg, S4, rfl, hg4, hk4, hG⟩ := halts_mid' (p := D.p) (w := w) (K := fun v => (D.F v).wrap (fun f => match f with | .next => (execs D.rest D.env).wrap doneF (leaveH D.env) id id | f => doneF f) (leaveH D.env) id id) (H := leaveH D.env) (gd := id) (lv := id) (c := D.c) (pos := p1) (B := D.B)
    (G := fun S => ∃ S4 : SharedT, S = S4.abs ∧ S4.gens = #[] ∧ Keeps n (bootAnn w) s1.abs S ∧ G S4) (wpD _ p1 top_in) (fun v p' s' q => by
      obtain ⟨rfl, rfl⟩ := q
      exact behind p')
  refine ⟨S4, ?_, hg4, by rw [en]; exact K1.trans hk4, hG⟩
  refine halts_go goA ?_
  have eB : denote table D.c = (blockStart (behindTheImports D.p) D.env).wrap (fun _ => (execs (behindTheImports D.p) D.env).wrap doneF (leaveH D.env) id id) .raise id id := body_wrap _
  rw [eB]
  refine halts_go goB ?_
  rw [show (execs (behindTheImports D.p) D.env).wrap doneF (leaveH D.env) id id = (execs D.l D.env).wrap (fun f => match f with | .next => (execs (D.st :: D.rest) D.env).wrap doneF (leaveH D.env) id id | f => doneF f) (leaveH D.env) id id by rw [O.body, execs_app_wrap]; rfl]
  refine halts_go goC ?_
  show Halts D.p w s1.abs ⟨(execs (D.st :: D.rest) D.env).wrap doneF (leaveH D.env) id id, D.c, p1, D.B⟩ S4.abs
  rw [execs_cons_wrap, ex, Sem.bind_eq_wrap', Sem.wrap_wrap]
  exact hS
end
end Fw

end
set_option Elab.async false
set_option linter.all false
set_option maxRecDepth 100000
set_option maxHeartbeats 2000000
noncomputable section
namespace Fw
open PySem PySem.W PySem.Calls PyProof.Rows HandSHeadRun
/-- what is read off a run's end -/
def seeB (D : Plan) (q : Program) (loose : List Str) (Xt : Shared → Bool) {α : Type} (ob : SharedT → α) (w : World) (r : Big) := (r.tA, Nat.blt sysModules r.n1, r.cB, r.c1, r.c3, r.s4.gens.size, looksF D.p (boot_heap w.params) r.s4.abs, seenQ q loose (importedModules D.p.main.body) Xt r.s4.abs, ob r.s4)
def RunB (D : Plan) (q : Program) (loose : List Str) (Xt : Shared → Bool) {α : Type} (ob : SharedT → α) (val : World → α) : Prop :=
  ∀ (w : World) (os : OsState) (p2 : Pos), (bigF (stepQ (denQ tabQ) D.p w) D w os p2).map (seeB D q loose Xt ob w) = some (⟨denQ tabQ D.c, D.c, D.pos0, D.B⟩, true, D.c, D.c, D.c, 0, true, openGood q loose, val w)
theorem tops_of {D : Plan} {q : Program} {loose : List Str} {Xt : Shared → Bool} {H : Hook} {ob : SharedT → H.α} (O : D.Ok) (ho : ∀ s : SharedT, ob s = H.obs s.abs) (e : opening D.p = plainProg D.p.main.scope.names) (f : ∀ s, fenceModules? D.p s = some s) (run : RunB D q loose Xt ob H.val) :
    TopsE D.p q loose Xt H.obs H.val := fun w => by
  obtain ⟨⟨hp, gs, dr, tk, os⟩, hf, e0⟩ := Option.map_eq_some_iff.mp (boot_open (N := 600) e rfl f w)
  obtain ⟨rfl, rfl, rfl, rfl⟩ : hp = boot_heap w.params ∧ gs = Array.mk [] ∧ dr = boot_drawn ∧ tk = boot_toks := by simpa using e0
  rw [← table_eq_tree] at hf
  obtain ⟨s, hi, hfe⟩ := Option.bind_eq_some_iff.mp hf
  have A := AfterImport.of_importEnds hi
  have hz := Shared.asleep_of_life (fence_lifeW hfe) A.life
  have eq : ∀ p2, bigF (stepQ (denQ tabQ) D.p w) D w os p2 = bigF (stepT (denote table) D.p w) D w os p2 := fun p2 => by
    rw [← stepQ_eq, ← denQ_eq, ← tabQ_eq, table_eq_tree]
  obtain ⟨S, hS, hg, kS, g1, g2, g3⟩ := big_ends (w := w) (os := os) (G := fun S => looksF D.p (boot_heap w.params) S.abs = true ∧ openSeen q loose (importedModules D.p.main.body) Xt true S.abs = openGood q loose ∧ H.obs S.abs = H.val w) O (fun p2 => by
    obtain ⟨r, hr, hv⟩ := Option.map_eq_some_iff.mp (run w os p2)
    rw [eq] at hr
    have hv : seeB D q loose Xt ob w r = _ := hv
    unfold seeB at hv
    simp only [Prod.mk.injEq] at hv
    obtain ⟨v1, v2, v3, v4, v5, v6, v7, v8, v9⟩ := hv
    refine ⟨r, hr, ?_, v2, v3, v4, v5, Array.eq_empty_of_size_eq_zero v6, v7, ?_, ?_⟩
    · rw [v1, ← denQ_eq, ← tabQ_eq, table_eq_tree]
    · rw [seenQ_eq]
      exact v8
    · rw [← ho]
      exact v9) hz
  exact ⟨600, _, S.abs, hf, ⟨hS, boot_ns _, rfl, hg, kS.life, kS.os, kS.fr, g1, g2, g3⟩⟩
/-- a row whose top has the display in its midst -/
theorem head_big {r : OpenRow} {D : Plan} {q : Program} {loose : List Str} {H : Hook} {ob : SharedT → H.α} {d : DefRec} {kwd : List (Str × Expr)} (hD : D.p = r.prog) (O : D.Ok) (ho : ∀ s : SharedT, ob s = H.obs s.abs) (e : opening D.p = plainProg D.p.main.scope.names) (f : ∀ s, fenceModules? D.p s = some s)
    (run : RunB D q loose (fun s => xlAt q [] s && recOk r.toRowW.records s) ob H.val) (hdef : defOf q r.name = some (d, kwd)) (hp : r.prog.theDef r.name = some (d.params, d.body, d.scope)) (hk : kwWritten? d.params.kwonlyargs d.params.kw_defaults = some kwd)
    (hwr : (!r.writes || r.records.isEmpty) = true) (k1 : r.wellSaid = true) (ok : (chainsOk q && opensWell r.prog && (frees r.toRowW && r.within.isEmpty)) = true) (hb : r.prog.bare) (hw : r.toRowW.promised)
    (call : WalkO q loose (XL q []) H.says r.toRowW d kwd fun f vs => PySem.call f vs) : r.Holds := by
  have T := tops_of O ho e f run
  rw [hD] at T
  exact holdsE T (fun s z => xl_of s (Bool.and_eq_true_iff.mp z).1) XL.keeps hdef hp hk (fun s z => recFacts_of (Bool.and_eq_true_iff.mp z).2) hwr k1 ok hb hw call
/-! ### the hook: functions, facts, and some objects outright -/
def obsX (fa : List He.Fa) (fn : List He.FnD) (gs : List (Str × Addr)) (m k n : Nat) (g : Addr → Option Obj) : He.Al × Bool × List (Option Obj) :=
  let K := He.frG g (List.range n)
  (He.obsE fa fn K, gs.all fun x => He.eqO (nsIn K mainGlobals x.1) (some (some (.ref x.2))), (List.range k).map fun i => K.lookup (m + i))
def hookX (fa : List He.Fa) (fn : List He.FnD) (gs : List (Str × Addr)) (m k n : Nat) (os : World → List Obj) : Hook where
  α := He.Al × Bool × List (Option Obj)
  obs := fun s => obsX fa fn gs m k n s.heap.get?
  val := fun w => (He.valE fn, true, (os w).map some)
  says := fun w h => ∃ K : Frag, K.In h ∧ He.SaysE fa fn K ∧ (∀ x ∈ gs, nsIn K mainGlobals x.1 = some (some (.ref x.2))) ∧ ∀ i o, (os w)[i]? = some o → K.lookup (m + i) = some o
  of := fun w s e => by
    have e1 := congrArg (fun z : He.Al × Bool × List (Option Obj) => z.1) e
    have e2 := congrArg (fun z : He.Al × Bool × List (Option Obj) => z.2.1) e
    have e3 : (List.range k).map (fun i => (He.frG s.heap.get? (List.range n)).lookup (m + i)) = (os w).map some := congrArg (fun z : He.Al × Bool × List (Option Obj) => z.2.2) e
    refine ⟨_, He.frG_in, e1, fun x hx => He.eqO_ok (List.all_eq_true.mp e2 x hx), fun i o h => ?_⟩
    have z : ((List.range k).map (fun i => (He.frG s.heap.get? (List.range n)).lookup (m + i)))[i]? = ((os w).map some)[i]? := by rw [e3]
    rw [List.getElem?_map, List.getElem?_map, h] at z
    cases q : (List.range k)[i]? with
    | none => rw [q] at z; exact nomatch z
    | some j =>
      rw [q] at z
      have ej : j = i := by
        have := (List.getElem?_eq_some_iff.mp q)
        obtain ⟨h1, h2⟩ := this
        rw [List.getElem_range] at h2
        exact h2.symm
      subst ej
      exact Option.some.inj z
  keeps := fun _ _ _ ⟨K, hK, c⟩ k => ⟨K, Frag.In.keeps hK k, c⟩
def obX (fa : List He.Fa) (fn : List He.FnD) (gs : List (Str × Addr)) (m k n : Nat) (s : SharedT) : He.Al × Bool × List (Option Obj) := obsX fa fn gs m k n (getT s)
theorem obX_eq (fa : List He.Fa) (fn : List He.FnD) (gs : List (Str × Addr)) (m k n : Nat) (os : World → List Obj) (s : SharedT) : obX fa fn gs m k n s = (hookX fa fn gs m k n os).obs s.abs := by
  have e : getT s = s.abs.heap.get? := funext (getT_eq s)
  show obsX fa fn gs m k n (getT s) = obsX fa fn gs m k n s.abs.heap.get?
  rw [e]
end Fw

end
set_option Elab.async false
set_option linter.all false
set_option maxRecDepth 100000
set_option maxHeartbeats 2000000
/-! a plan is sound: by looks that the kernel takes -/
namespace Fw
open PySem PySem.W PySem.Calls PyProof.Rows
def csB : List Expr → List Str → Bool
  | [], [] => true
  | .Constant (.str x) _ _ :: es, z :: zs => decide (x = z) && csB es zs
  | _, _ => false
theorem csB_ok : ∀ {es : List Expr} {zs : List Str}, csB es zs = true → CS es zs
  | [], [], _ => .nil
  | e :: es, z :: zs, h => by
    unfold csB at h
    split at h
    · rename_i h1 h2; cases h1
    · rename_i x k pos es' z' zs' h1 h2
      cases h1
      cases h2
      obtain ⟨a, b⟩ := Bool.and_eq_true_iff.mp h
      have := of_decide_eq_true a
      subst this
      exact .cons (csB_ok b)
    · cases h
  | [], _ :: _, h => by simp [csB] at h
  | e :: es, [], h => by
    unfold csB at h
    split at h
    · rename_i h1 h2; cases h1
    · rename_i h1 h2; cases h2
    · cases h
def pairB : Option Expr → Expr → PK → Bool
  | some (.Tuple ke _ _), .Tuple ve _ _, p => csB ke (key p) && csB ve p.2.2 && decide (p.2.2.length ≤ 100)
  | _, _, _ => false
def pairsB : List (Option Expr) → List Expr → List PK → Bool
  | [], [], [] => true
  | k :: ks, v :: vs, p :: ps => pairB k v p && pairsB ks vs ps
  | _, _, _ => false
theorem pairsB_ok {env : Env} {pos : Pos} : ∀ {ks : List (Option Expr)} {vs : List Expr} {L : List PK}, pairsB ks vs L = true →
    ∃ ps : List PS, PairsAre env pos ps L ∧ (evalEachOpt ks env).zip ((evalEach vs env).map fun v => do let x ← v; standAt pos; pure x) = ps.map (fun p => (some p.1, p.2))
  | [], [], [], _ => ⟨[], .nil, rfl⟩
  | k :: ks, v :: vs, p :: ps, h => by
    have h : (pairB k v p && pairsB ks vs ps) = true := h
    obtain ⟨h1, h2⟩ := Bool.and_eq_true_iff.mp h
    obtain ⟨r, hr, e⟩ := pairsB_ok h2
    unfold pairB at h1
    split at h1
    · rename_i ke kk kp ve vk vp hh
      obtain ⟨h3, h5⟩ := Bool.and_eq_true_iff.mp h1
      obtain ⟨h3, h4⟩ := Bool.and_eq_true_iff.mp h3
      refine ⟨_ :: r, .cons (kk := kk) (vk := vk) (kp := kp) (vp := vp) (csB_ok h3) (csB_ok h4) (of_decide_eq_true h5) hr, ?_⟩
      show (some (eval (.Tuple ke kk kp) env), _) :: (evalEachOpt ks env).zip _ = (some _, _) :: r.map _
      rw [e]
    · cases h1
  | [], [], _ :: _, h => by simp [pairsB] at h
  | [], _ :: _, _, h => by simp [pairsB] at h
  | _ :: _, [], _, h => by simp [pairsB] at h
  | _ :: _, _ :: _, [], h => by simp [pairsB] at h
theorem pairs_split {env : Env} {pos : Pos} : ∀ {L : List PK} {p : PK} {ps : List PS}, PairsAre env pos ps (L ++ [p]) → ∃ a c, ps = a ++ [c] ∧ a.length = L.length ∧ PairsAre env pos a L ∧ PairsAre env pos [c] [p]
  | [], p, _, .cons h1 h2 h3 .nil => ⟨[], _, rfl, rfl, .nil, .cons h1 h2 h3 .nil⟩
  | q :: L, p, _, .cons h1 h2 h3 r => by
    obtain ⟨a, c, rfl, hl, ha, hc⟩ := pairs_split r
    exact ⟨_ :: a, c, rfl, congrArg (· + 1) hl, .cons h1 h2 h3 ha, hc⟩
theorem Plan.ok_of {D : Plan} (body : behindTheImports D.p = D.l ++ D.st :: D.rest) (sw : swapsWith (.Dict D.keys D.values D.dpos) (some (.Name D.x D.np)) D.apos.line D.env = pure false) (hp : pairsB D.keys D.values (D.L ++ [D.pk]) = true) (hl : D.L.length = 17)
    (nd : ((D.L ++ [D.pk]).map key).Nodup) (un : D.c.cUnits + unitsOf [(.builtin "claim.caller" {}, D.q0)] < cLine) : D.Ok := by
  refine ⟨body, sw, ?_, nd, un⟩
  obtain ⟨ps, h1, h2⟩ := pairsB_ok (env := D.env) (pos := D.dpos) hp
  obtain ⟨a, c, rfl, al, ha, hc⟩ := pairs_split h1
  rw [hl] at al
  obtain ⟨a', b, rfl⟩ : ∃ a' b, a = a' ++ [b] := ⟨a.dropLast, a.getLast (fun z => by rw [z] at al; cases al), (List.dropLast_concat_getLast _).symm⟩
  rw [List.length_append] at al
  have al' : a'.length + 1 = 17 := al
  exact ⟨a', b, c, by omega, by rw [h2, List.append_assoc]; rfl, ha, hc⟩
end Fw

set_option Elab.async false
set_option linter.all false
set_option maxRecDepth 100000
set_option maxHeartbeats 2000000
/-! d.get((a, b)) of a dict that the module's top laid, keyed by tuples of texts, whose values are tuples of texts -/
namespace Fw
open PySem PySem.Spec PyProof.Rows L2
structure Parts (prog : Program) (w : World) (K : PySem.W.Frag) (d : Addr) (g : List Str → Option (List Str)) : Prop where
  is : ∃ (xs : List (List Str × Addr × Value)) (o : Obj) (ep : Nat), K.lookup d = some o ∧ o.ExactDict ∧ o.data = .dict (xs.map (entryOfKey (tupleKind (strKind prog w)))).toArray ep ∧
    (∀ x ∈ xs, ∃ t, K.lookup x.2.1 = some (tO t x.1)) ∧ (xs.map (·.1)).Nodup ∧
    ∀ k, (valueAt (pairsH xs) k = none ∧ g k = none) ∨ ∃ b t zs, valueAt (pairsH xs) k = some (.ref b) ∧ g k = some zs ∧ K.lookup b = some (tO t zs) ∧ zs.length ≤ sizeLine
  hd : (d == sysModules) = false
theorem vals_toks : ∀ (zs : List Str) (t : Nat), Vals (zs.map V.str) (toksV t zs)
  | [], _ => .nil
  | z :: r, t => .cons ⟨t, rfl⟩ (vals_toks r (t + 1))
theorem tO_sqT {K : PySem.W.Frag} {H : Hp} {b : Addr} {t : Nat} {zs : List Str} (h : K.lookup b = some (tO t zs)) (hz : zs.length ≤ sizeLine) : SqT K H b (zs.map V.str) :=
  .inr ⟨_, (toksV t zs).toArray, _, h, rfl, rfl, by rw [List.size_toArray, toksV_len]; exact hz, vals_toks zs t⟩
def tPG (K : PySem.W.Frag) (d : Addr) (g : List Str → Option (List Str)) (to : TE) (t : TA) : TE := fun σ H Q => to σ H fun x H1 => x = .ref d ∧ t σ H1 fun ys H2 =>
  ∃ p k1 k2, ys = [.ref p] ∧ H2 p = some (.tup [.str k1, .str k2]) ∧ (g [k1, k2] = none → Q .non H2) ∧ ∀ b zs, g [k1, k2] = some zs → SqT K H2 b (zs.map V.str) → Q (.ref b) H2
variable {X : Cx}
theorem pe_pget {d : Addr} {g : List Str → Option (List Str)} {o e : Expr} {to : TE} {t : TA} {apos cpos : Pos} (hp : Parts X.prog X.w X.K d g) (hu : X.A.units + 1 < cLine) (ho : PE X o to) (ha : PA X [e] t)
    (hbase : attributeBase o "get" X.env (eval o X.env) = eval o X.env := by rfl)
    (hfew : ((backTo cpos (starEach [e] X.env)).all (fun x => !x.1) && (backToKw cpos (keywordEach [] X.env)).all (fun x => x.1.isSome)
      && decide ([e].length + ([] : List Keyword).length + (if ([] : List Keyword).isEmpty then 0 else 1) < 30)) = true := by rfl)
    (hline : (apos.endLine == cpos.line) = true := by rfl) (hs : starEach [e] X.env = (false, eval e X.env) :: starEach [] X.env := by rfl) (hplain : (backTo cpos (starEach [] X.env)).any (·.1) = false := by rfl) :
    PE X (.Call (.Attribute o "get" apos) [e] [] cpos) (tPG X.K d g to t) := by
  refine ⟨fun pins s σ H Q I h => ?_⟩
  obtain ⟨⟨xs, ob, ep, hk, hex, hdt, hks, hnd, hv⟩, hsm⟩ := hp
  refine wpAny_Call_method_late hbase hfew hline rfl (thn (ho.run pins s σ H _ I h) fun v s1 ⟨x, H1, I1, r1, ex, q1⟩ => ?_)
  subst ex
  cases (show v = Value.ref d from r1)
  refine ⟨"dict", "dict.get", PySem.F.plainAttrs_dict, PySem.F.slot_dict_get, PySem.F.type_dict_get, ⟨ob, I1.kIn d ob hk, hex.1⟩, fun a z => ?_, ?_⟩
  · cases z
    exact ⟨ob, I1.kIn _ ob hk, hex.2.1⟩
  have hA := ha.run cpos pins s1 σ H1 _ I1 q1
  rw [hs] at hA ⊢
  refine Calls.callWith_builtin (by show (false || (backTo cpos (starEach [] X.env)).any (·.1)) = false; rw [hplain] <;> rfl) (Calls.evalArgs_plain ?_)
  refine thn hA fun us s2 hh => ?_
  obtain ⟨vs, H2, I2, r2, p, k1, k2, rfl, hp2, qn, qs⟩ := hh
  obtain ⟨u, rfl, ru⟩ := Vals.one r2
  cases (show u = Value.ref p from ru)
  obtain ⟨its, rv, ⟨o', e', c', n', d'⟩, _⟩ := I2.tuple (SqT.of (K := X.K) hp2)
  obtain ⟨u1, u2, rfl, ⟨t1, rfl⟩, ⟨t2, rfl⟩⟩ := Vals.two rv
  have key : IsTupleKey (strKind X.prog X.w) s2.heap [k1, k2] p := ⟨o', _, n', e', c', d', by
    exact .cons (by show Value.isStrOf k1 (.str k1 t1) = true; simp [Value.isStrOf]) (.cons (by show Value.isStrOf k2 (.str k2 t2) = true; simp [Value.isStrOf]) .nil)⟩
  have dk : s2.heap.DictKeyed (tupleKind (strKind X.prog X.w)) d (pairsH xs) := Heap.DictKeyed.ofEntries xs (I2.kIn d ob hk) hex hdt rfl (fun x hx => by
    obtain ⟨t, ht⟩ := hks x hx
    exact ⟨_, _, _, I2.kIn _ _ ht, rfl, rfl, by simpa using items_of x.1 t⟩) hnd
  refine get_keyed (tupleKind_room_in1 hu) key hsm dk ?_
  rcases hv [k1, k2] with ⟨z1, z2⟩ | ⟨b, t, zs, z1, z2, z3, z4⟩
  · rw [z1]
    exact ⟨.non, H2, I2.tok _, rfl, qn z2⟩
  · rw [z1]
    exact ⟨.ref b, H2, I2.tok _, rfl, qs b zs z2 (tO_sqT z3 z4)⟩
end Fw

set_option Elab.async false
set_option linter.all false
set_option maxRecDepth 100000
set_option maxHeartbeats 2000000
/-! the display's objects, as Parts -/
namespace Fw
open PySem PySem.Spec PyProof.Rows L2
theorem lo_at : ∀ {L : List PK} {j t : Nat} {p : PK}, L[j]? = some p → (∃ t', (lo t L)[2 * j]? = some (tO t' (key p))) ∧ ∃ t', (lo t L)[2 * j + 1]? = some (tO t' p.2.2)
  | [], _, _, _, h => by simp at h
  | q :: L, 0, t, p, h => by
    cases Option.some.inj h
    exact ⟨⟨t, rfl⟩, ⟨t + 2, rfl⟩⟩
  | q :: L, j + 1, t, p, h => by
    obtain ⟨h1, h2⟩ := lo_at (L := L) (j := j) (t := t + q.2.2.length + 5) h
    rw [show 2 * (j + 1) = 2 * j + 1 + 1 by omega, show 2 * j + 1 + 1 + 1 = (2 * j + 1) + 1 + 1 by omega]
    exact ⟨h1, h2⟩
theorem lx_at : ∀ {L : List PK} {i : Nat} {x : List Str × Addr × Value}, x ∈ lx i L → ∃ j p, L[j]? = some p ∧ x = (key p, i + 2 * j, .ref (i + 2 * j + 1))
  | [], _, _, h => nomatch h
  | q :: L, i, x, h => by
    rcases List.mem_cons.mp h with z | z
    · exact ⟨0, q, rfl, z⟩
    · obtain ⟨j, p, h1, h2⟩ := lx_at z
      exact ⟨j + 1, p, h1, by rw [h2, show i + 2 + 2 * j = i + 2 * (j + 1) by omega]⟩
theorem find_lx (k : List Str) : ∀ (L : List PK) (i : Nat), ((pairsH (lx i L)).find? (fun kv => decide (kv.1 = k)) = none ∧ L.find? (fun p => decide (key p = k)) = none) ∨
    ∃ j p, L[j]? = some p ∧ L.find? (fun p => decide (key p = k)) = some p ∧ (pairsH (lx i L)).find? (fun kv => decide (kv.1 = k)) = some (key p, .ref (i + 2 * j + 1))
  | [], _ => .inl ⟨rfl, rfl⟩
  | q :: L, i => by
    by_cases h : key q = k
    · refine .inr ⟨0, q, rfl, ?_, ?_⟩
      · rw [List.find?_cons, decide_eq_true h]
      · show ((key q, Value.ref (i + 1)) :: pairsH (lx (i + 2) L)).find? _ = _
        rw [List.find?_cons, decide_eq_true h]
    · rcases find_lx k L (i + 2) with ⟨h1, h2⟩ | ⟨j, p, h1, h2, h3⟩
      · refine .inl ⟨?_, ?_⟩
        · show ((key q, Value.ref (i + 1)) :: pairsH (lx (i + 2) L)).find? _ = _
          rw [List.find?_cons, decide_eq_false h]
          exact h1
        · rw [List.find?_cons, decide_eq_false h]
          exact h2
      · refine .inr ⟨j + 1, p, h1, ?_, ?_⟩
        · rw [List.find?_cons, decide_eq_false h]
          exact h2
        · show ((key q, Value.ref (i + 1)) :: pairsH (lx (i + 2) L)).find? _ = _
          rw [List.find?_cons, decide_eq_false h, show i + 2 * (j + 1) + 1 = i + 2 + 2 * j + 1 by omega]
          exact h3
theorem parts_of {prog : Program} {w : World} {K : PySem.W.Frag} {m t : Nat} {L : List PK} {p : PK} (h : ∀ i o, (finObjs w prog m t L p)[i]? = some o → K.lookup (m + i) = some o) (hm : (m == sysModules) = false) (nd : ((L ++ [p]).map key).Nodup)
    (hl : ∀ x ∈ L ++ [p], x.2.2.length ≤ sizeLine) : Parts prog w K m (fun k => ((L ++ [p]).find? fun q => decide (key q = k)).map (·.2.2)) := by
  have ll : ∀ s, (lo s L).length = 2 * L.length := lo_len L
  have inL : ∀ {j : Nat} {o : Obj}, (lo t L)[j]? = some o → K.lookup (m + 1 + j) = some o := fun {j o} e => by
    have hj : j < (lo t L).length := (List.getElem?_eq_some_iff.mp e).1
    have := h (j + 1) o (by
      show ((lo t L) ++ _)[j]? = some o
      rw [List.getElem?_append_left hj]
      exact e)
    rw [show m + 1 + j = m + (j + 1) by omega]
    exact this
  have inP : ∀ {j : Nat} {o : Obj}, (lo (lt t L) [p])[j]? = some o → K.lookup (m + 1 + 2 * L.length + 1 + j) = some o := fun {j o} e => by
    have := h (2 * L.length + 1 + j + 1) o (by
      show ((lo t L) ++ _)[2 * L.length + 1 + j]? = some o
      rw [List.getElem?_append_right (by rw [ll]; omega), ll, show 2 * L.length + 1 + j - 2 * L.length = j + 1 by omega]
      exact e)
    rw [show m + 1 + 2 * L.length + 1 + j = m + (2 * L.length + 1 + j + 1) by omega]
    exact this
  refine ⟨⟨lx (m + 1) L ++ lx (m + 1 + 2 * L.length + 1) [p], _, _, h 0 _ rfl, ⟨rfl, rfl, ?_⟩, rfl, fun x hx => ?_, ?_, fun k => ?_⟩, hm⟩
  · rfl
  · rcases List.mem_append.mp hx with z | z
    · obtain ⟨j, q, h1, rfl⟩ := lx_at z
      obtain ⟨⟨t', h2⟩, _⟩ := lo_at (t := t) h1
      exact ⟨t', inL h2⟩
    · obtain ⟨j, q, h1, rfl⟩ := lx_at z
      obtain ⟨⟨t', h2⟩, _⟩ := lo_at (t := lt t L) h1
      exact ⟨t', inP h2⟩
  · rw [List.map_append, lx_keys, lx_keys, ← List.map_append]
    exact nd
  · have val : ∀ {j : Nat} {q : PK}, L[j]? = some q → ∃ t', K.lookup (m + 1 + 2 * j + 1) = some (tO t' q.2.2) := fun {j q} e => by
      obtain ⟨_, t', h2⟩ := lo_at (t := t) e
      exact ⟨t', inL h2⟩
    have e1 : pairsH (lx (m + 1) L ++ lx (m + 1 + 2 * L.length + 1) [p]) = pairsH (lx (m + 1) L) ++ pairsH (lx (m + 1 + 2 * L.length + 1) [p]) := List.map_append
    unfold valueAt
    rw [e1, List.find?_append, List.find?_append]
    rcases find_lx k L (m + 1) with ⟨h1, h2⟩ | ⟨j, q, h1, h2, h3⟩
    · rw [h1, h2]
      rcases find_lx k [p] (m + 1 + 2 * L.length + 1) with ⟨h3, h4⟩ | ⟨j, q, h3, h4, h5⟩
      · rw [h3, h4]
        exact .inl ⟨rfl, rfl⟩
      · rw [h4, h5]
        obtain ⟨_, t', h6⟩ := lo_at (t := lt t L) h3
        exact .inr ⟨_, t', _, rfl, rfl, inP h6, hl q (List.mem_append.mpr (.inr (List.mem_of_getElem? h3)))⟩
    · rw [h2, h3]
      obtain ⟨t', ht'⟩ := val h1
      exact .inr ⟨_, t', _, rfl, rfl, ht', hl q (List.mem_append.mpr (.inl (List.mem_of_getElem? h1)))⟩
end Fw

set_option Elab.async false
set_option linter.all false
set_option maxRecDepth 100000
set_option maxHeartbeats 2000000
/-! A display of at most 15 pairs whose keys are texts: what it leaves, object by object. -/
namespace Fw
open PySem PySem.W PySem.Calls PyProof.Rows
abbrev SV : Type := Str × Value
section
variable {prog : Program} {w : World} {A : Around} {E : Value → Shared → Prop} {env : Env}
def sEs (w : World) (prog : Program) : Nat → List SV → List DictEntry
  | _, [] => []
  | t, p :: r => ⟨(strKind prog w).hash p.1, .str p.1 t, p.2⟩ :: sEs w prog (t + 1) r
def kvs : Nat → List SV → List (Value × Value)
  | _, [] => []
  | t, p :: r => (.str p.1 t, p.2) :: kvs (t + 1) r
theorem sEs_app : ∀ (a b : List SV) (t : Nat), sEs w prog t (a ++ b) = sEs w prog t a ++ sEs w prog (t + a.length) b
  | [], _, _ => rfl
  | p :: a, b, t => by
    show _ :: sEs w prog (t + 1) (a ++ b) = _
    rw [sEs_app a b, show t + 1 + a.length = t + (p :: a).length by rw [List.length_cons]; omega]
    rfl
theorem sEs_len : ∀ (a : List SV) (t : Nat), (sEs w prog t a).length = a.length
  | [], _ => rfl
  | p :: a, t => congrArg (· + 1) (sEs_len a _)
theorem sEs_mem : ∀ {a : List SV} {t : Nat} {e : DictEntry}, e ∈ sEs w prog t a → ∃ p ∈ a, ∃ t', e = ⟨(strKind prog w).hash p.1, .str p.1 t', p.2⟩
  | [], _, _, h => nomatch h
  | p :: a, t, e, h => by
    rcases List.mem_cons.mp h with z | z
    · exact ⟨p, List.mem_cons_self .., t, z⟩
    · obtain ⟨q, hq, r⟩ := sEs_mem z
      exact ⟨q, List.mem_cons_of_mem _ hq, r⟩
/-- the state with the dict laid behind h -/
def midS (w : World) (prog : Program) (s : Shared) (t k : Nat) (L : List SV) : Shared := { s with heap := ext s.heap [dO (sEs w prog t L)], toks := k }
theorem wp_setS {s : Shared} {t k : Nat} {L : List SV} {x : Str} {v : Value} {Q : Unit → Shared → Prop} (hn : x ∉ L.map (·.1)) (hz : L.length ≤ 1000)
    (q : Q () (midS w prog s t (k + 1) (L ++ [(x, v)]))) : wpAny (model prog w) A (dictSet s.heap.objs.size (.str x (t + L.length)) v) Q E (midS w prog s t k L) := by
  have is : (strKind prog w).is x (.str x (t + L.length)) = true := by show Value.isStrOf x (.str x (t + L.length)) = true; simp [Value.isStrOf]
  have hd : (midS w prog s t (k + 1) L).heap.get? s.heap.objs.size = some (dO (sEs w prog t L)) := ext_get (h := s.heap) (i := 0) rfl (fun c d s z => by injection z with _ _ z _; exact nomatch z)
  unfold dictSet
  try with_reducible refine wpAny_holding ?_
  refine wpAny_bind ((strKind prog w).pyHash is ?_)
  unfold dictSetHashed
  try with_reducible refine wpAny_holding ?_
  refine wpAny_bind (wpAny_dictFind_of (knd := strKind prog w) (s := midS w prog s t (k + 1) L) is hd rfl (fun e he => ?_) ?_)
  · obtain ⟨p, _, t', rfl⟩ := sEs_mem (List.mem_toArray.mp he)
    exact ⟨p.1, by show Value.isStrOf p.1 (.str p.1 t') = true; simp [Value.isStrOf], rfl⟩
  have no : (sEs w prog t L).toArray.findIdx? (fun e => (strKind prog w).is x e.key) = none := by
    rw [List.findIdx?_toArray, List.findIdx?_eq_none_iff]
    intro e he
    obtain ⟨p, hp, t', rfl⟩ := sEs_mem he
    show Value.isStrOf x (.str p.1 t') = false
    cases hh : Value.isStrOf x (.str p.1 t') with
    | false => rfl
    | true =>
      obtain ⟨u, hu⟩ := Value.isStrOf_shape hh
      injection hu with hx _
      exact absurd (List.mem_map.mpr ⟨p, hp, hx⟩) hn
  rw [no]
  refine wpAny_bind (wpAny_rule (wpAny_updateDictKeys (s := midS w prog s t (k + 1) L) hd rfl ?_ (by
    rw [List.size_toArray, sEs_len]
    exact Nat.le_trans hz (by decide))))
  have e : (ext s.heap [dO (sEs w prog t L)]).update s.heap.objs.size (Obj.mapDictKeys fun es => es.push ⟨(strKind prog w).hash x, .str x (t + L.length), v⟩) = ext s.heap [dO (sEs w prog t (L ++ [(x, v)]))] := by
    rw [ext_upd]
    congr 2
    rw [sEs_app]
    show (⟨_, _, _, _⟩ : Obj) = ⟨_, _, _, _⟩
    simp [dO, Obj.mapDictKeys, sEs]
  show Q () { s with heap := (ext s.heap [dO (sEs w prog t L)]).update s.heap.objs.size _, toks := k + 1 }
  rw [e]
  exact q
theorem wp_storeS {s : Shared} {t : Nat} : ∀ (rest done : List SV) (k : Nat) (Q : PUnit → Shared → Prop), ((done ++ rest).map (·.1)).Nodup → (done ++ rest).length ≤ 1000 → Q PUnit.unit (midS w prog s t (k + rest.length) (done ++ rest)) →
    wpAny (model prog w) A (forIn (kvs (t + done.length) rest) PUnit.unit fun (x : Value × Value) (_ : PUnit) => (do dictSet s.heap.objs.size x.1 x.2; pure (ForInStep.yield PUnit.unit) : Sem (ForInStep PUnit))) Q E (midS w prog s t k done)
  | [], done, k, Q, _, _, q => by
    rw [List.append_nil] at q
    show wpAny _ _ (forIn [] PUnit.unit _) _ _ _
    rw [List.forIn_nil]
    exact wpAny_pure q
  | p :: r, done, k, Q, hn, hl, q => by
    have ed : done ++ p :: r = (done ++ [p]) ++ r := by simp
    rw [ed] at hn hl q
    show wpAny _ _ (forIn ((Value.str p.1 (t + done.length), p.2) :: kvs (t + done.length + 1) r) PUnit.unit _) _ _ _
    rw [List.forIn_cons]
    dsimp only
    have hn' : p.1 ∉ done.map (·.1) := fun z => by
      rw [List.map_append, List.map_append] at hn
      exact (List.nodup_append.mp (List.nodup_append.mp hn).1).2.2 _ z _ (List.mem_singleton.mpr rfl) rfl
    have hl' : done.length ≤ 1000 := by
      rw [List.length_append, List.length_append] at hl
      omega
    refine wpAny_bind (wpAny_bind (wp_setS hn' hl' (wpAny_pure ?_)))
    dsimp only
    have := wp_storeS (s := s) (t := t) r (done ++ [p]) (k + 1) Q hn hl (by
      rw [show k + 1 + r.length = k + (p :: r).length by rw [List.length_cons]; omega]
      exact q)
    rw [show t + (done ++ [p]).length = t + done.length + 1 by rw [List.length_append]; rfl] at this
    exact this
/-- pairs, written: a text, and what comes to a value wherever the objects of s stand -/
inductive PairsS (prog : Program) (w : World) (A : Around) (E : Value → Shared → Prop) (env : Env) (s : Shared) : List (Sem Value × Sem Value) → List SV → Prop where
  | nil : PairsS prog w A E env s [] []
  | cons {x : Str} {k : Nat} {kp : Pos} {m : Sem Value} {v : Value} {ps : List (Sem Value × Sem Value)} {r : List SV} :
      (∀ (s' : Shared) (Q : Value → Shared → Prop), (∀ b o, s.heap.get? b = some o → s'.heap.get? b = some o) → Q v s' → wpAny (model prog w) A m Q E s') → PairsS prog w A E env s ps r →
      PairsS prog w A E env s ((eval (.Constant (.str x) k kp) env, m) :: ps) ((x, v) :: r)
theorem pairsS_len {s : Shared} : ∀ {ps : List (Sem Value × Sem Value)} {L : List SV}, PairsS prog w A E env s ps L → ps.length = L.length
  | _, _, .nil => rfl
  | _, _, .cons _ r => congrArg (· + 1) (pairsS_len r)
theorem wp_pairsS {s s' : Shared} : ∀ {ps : List (Sem Value × Sem Value)} {L : List SV} {k : Nat} {Q : List (Value × Value) → Shared → Prop}, PairsS prog w A E env s ps L → (∀ b o, s.heap.get? b = some o → s'.heap.get? b = some o) →
    Q (kvs k L) { s' with toks := k + L.length } → wpAny (model prog w) A (evalPairs ps) Q E { s' with toks := k }
  | _, _, k, Q, .nil, _, q => by
    unfold evalPairs
    exact wpAny_pure q
  | _, _, k, Q, .cons (r := r) h c, hk, q => by
    unfold evalPairs
    refine wpAny_bind (wpAny_Constant_str (wpAny_bind (wpAny_holding (h _ _ hk (wpAny_bind (wpAny_holding ?_))))))
    refine wp_pairsS (k := k + 1) c hk (wpAny_pure ?_)
    rw [show k + 1 + r.length = k + (r.length + 1) by omega]
    exact q
theorem wp_subS {s : Shared} {ps : List (Sem Value × Sem Value)} {L : List SV} {Q : Addr → Shared → Prop} (c : PairsS prog w A E env s ps L) (h15 : ps.length ≤ 15) (hn : (L.map (·.1)).Nodup) (q : Q s.heap.objs.size (midS w prog s s.toks (s.toks + 2 * L.length) L)) :
    wpAny (model prog w) A (subDict ps) Q E s := by
  have ll := pairsS_len c
  unfold subDict
  refine wpAny_bind (wpAny_alloc ?_)
  refine wpAny_bind (wpAny_holding ?_)
  rw [if_pos h15]
  have e : ∀ k, ({ s with heap := s.heap.push { cls := .type "dict", data := .dict #[] }, toks := k } : Shared) = midS w prog s s.toks k [] := fun k => by
    have z : s.heap.push { cls := .type "dict", data := .dict #[] } = ext s.heap [dO []] := by
      have z := ext_push s.heap [] { cls := .type "dict", data := .dict #[] }
      rw [ext_nil] at z
      exact z
    show Shared.mk _ _ _ _ _ = Shared.mk (ext s.heap [dO []]) _ _ _ _
    rw [z]
  refine wpAny_bind (wp_pairsS (s := s) (s' := { s with heap := s.heap.push { cls := .type "dict", data := .dict #[] } }) (k := s.toks) c (fun b o z => Heap.get?_push_of_some _ z) ?_)
  refine wpAny_holding ?_
  show wpAny _ _ _ _ _ ({ s with heap := s.heap.push { cls := .type "dict", data := .dict #[] }, toks := s.toks + L.length } : Shared)
  rw [e]
  refine wpAny_bind (wp_storeS (s := s) (t := s.toks) L [] (s.toks + L.length) _ hn (by show L.length ≤ 1000; omega) (wpAny_pure (wpAny_pure ?_)))
  rw [show s.toks + L.length + L.length = s.toks + 2 * L.length by omega]
  exact q
theorem wp_displayS {pos : Pos} {s : Shared} {keys : List (Option Expr)} {values : List Expr} {ps : List (Sem Value × Sem Value)} {L : List SV} {Q : Value → Shared → Prop}
    (hshape : (evalEachOpt keys env).zip ((evalEach values env).map fun v => do let x ← v; standAt pos; pure x) = ps.map fun p => (some p.1, p.2)) (c : PairsS prog w A E env s ps L) (h0 : ps ≠ []) (h15 : ps.length ≤ 15) (hn : (L.map (·.1)).Nodup)
    (q : Q (.ref s.heap.objs.size) (midS w prog s s.toks (s.toks + 2 * L.length) L)) : wpAny (model prog w) A (eval (.Dict keys values pos) env) Q E s := by
  rw [arm_eval_Dict, hshape, dictDisplay_pairs ps h0 (by omega)]
  exact wpAny_bind (wpAny_standAt (wpAny_bind (wp_subS c h15 hn (wpAny_pure q))))
end
end Fw

set_option Elab.async false
set_option linter.all false
set_option maxRecDepth 100000
set_option maxHeartbeats 2000000
/-! a top with any number of displays: pieces in the kernel, displays by wp -/
noncomputable section
namespace Fw
open PySem PySem.W PySem.Calls PyProof.Rows HandSHeadRun
structure Base where
  p : Program
  env : Env
  q0 : Pos
  pos0 : Pos
  k0 : Nat
  kB : Nat
def Base.c (D : Base) : Code := .body (behindTheImports D.p) D.env
def Base.B (D : Base) : List Frame := [topFrame D.q0]
def Base.A (D : Base) : Around := { handled := none, depth := frameCount [(.builtin "claim.caller" {}, D.q0)] + D.c.weight, frames := none, guards := none, units := D.c.cUnits + unitsOf [(.builtin "claim.caller" {}, D.q0)] }
theorem base_in {D : Base} : ((⟨D.c, none, none, [], none⟩ : Ctx).over D.B).In D.A :=
  ⟨rfl, Nat.le_refl _, fun l hl => (nomatch (show (none : Option (List Env)) = some l from hl)), fun g hg => (nomatch (show (none : Option (List Code)) = some g from hg)), Nat.le_refl _⟩
def bindF (env : Env) (x : Str) (np : Pos) (v : Value) : Sem Flow := do
  standAt np
  bindName env x v
  pure .next
section
variable {D : Base} {w : World} {n₀ : Nat} {ann : Option Value} {G : SharedT → Prop}
/-- the pieces b come to an end from here -/
def EndsAt (D : Base) (w : World) (n₀ : Nat) (ann : Option Value) (G : SharedT → Prop) (b : List Stmt) (s : SharedT) (p : Pos) : Prop :=
  s.abs.asleep → ∃ S : SharedT, Halts D.p w s.abs ⟨(execs b D.env).wrap doneF (leaveH D.env) id id, D.c, p, D.B⟩ S.abs ∧ S.gens = #[] ∧ Keeps n₀ ann s.abs S.abs ∧ G S
theorem ends_seg {l b : List Stmt} {k : Nat} {s s1 : SharedT} {p p1 : Pos} (h : segF (stepT (denote table) D.p w) n₀ ann k s (piecesOf l D.env D.c p D.B) = some (.next, s1, D.c, p1)) (e : EndsAt D w n₀ ann G b s1 p1) : EndsAt D w n₀ ann G (l ++ b) s p := by
  intro hz
  have sB0 : splitAtGen D.B = none := rfl
  obtain ⟨fC, mC, eC, goC⟩ := seg_goes (res := fun f : Flow => f) (K' := fun f => match f with | .next => (execs b D.env).wrap doneF (leaveH D.env) id id | f => doneF f) (H' := leaveH D.env) (B := D.B) sB0 k (t := piecesOf l D.env D.c p D.B)
    (t' := ⟨(execs l D.env).wrap (fun f => match f with | .next => (execs b D.env).wrap doneF (leaveH D.env) id id | f => doneF f) (leaveH D.env) id id, D.c, p, D.B⟩) ⟨rfl, rfl, .inl ⟨rfl, rfl, _, rfl, rfl⟩⟩ (segF_ok h)
  have eC : fC = .next := eC
  subst eC
  have kC := keeps_go goC
  obtain ⟨S, h1, h2, h3, h4⟩ := e (Shared.asleep_of_life kC.life hz)
  refine ⟨S, ?_, h2, kC.trans h3, h4⟩
  rw [execs_app_wrap]
  exact halts_go goC h1
theorem ends_go {b : List Stmt} {M : Nat} {s s4 : SharedT} {p : Pos} (h : goF (stepT (denote table) D.p w) n₀ ann M s (restOf b D.env D.c p D.B) = some s4) (hg : s4.gens = #[]) (hG : G s4) : EndsAt D w n₀ ann G b s p := by
  intro hz
  have top := goF_ok h
  obtain ⟨_, l4, o4, f4⟩ := topRun_spec _ _ _ _ hz top
  exact ⟨s4, halts_top top hg, hg, ⟨l4, o4, f4⟩, hG⟩
theorem ends_dict {b : List Stmt} {k : Nat} {s s2 : SharedT} {p : Pos} {x : Str} {np : Pos} {keys : List (Option Expr)} {values : List Expr} {dpos apos : Pos}
    (sw : swapsWith (.Dict keys values dpos) (some (.Name x np)) apos.line D.env = pure false)
    (wpD : wpAny (model D.p w) D.A (eval (.Dict keys values dpos) D.env) (fun v s' => v = .ref s.n ∧ s' = s2.abs) (fun _ _ => False) s.abs) (k2 : Keeps n₀ ann s.abs s2.abs)
    (h : ∀ p', ∃ s3 p3, segF (stepT (denote table) D.p w) n₀ ann k s2 ⟨(bindF D.env x np (.ref s.n)).wrap doneF deadEnd id id, D.c, p', D.B⟩ = some (.next, s3, D.c, p3) ∧ EndsAt D w n₀ ann G b s3 p3) :
    EndsAt D w n₀ ann G (.Assign [.Name x np] (.Dict keys values dpos) apos :: b) s p := by
  intro hz
  have sB0 : splitAtGen D.B = none := rfl
  have behind : ∀ p', ∃ S, Halts D.p w s2.abs ⟨(bindF D.env x np (.ref s.n)).wrap (fun f => match f with | .next => (execs b D.env).wrap doneF (leaveH D.env) id id | f => doneF f) (leaveH D.env) id id, D.c, p', D.B⟩ S ∧ S.gens = #[] ∧
      ∃ S4 : SharedT, S = S4.abs ∧ S4.gens = #[] ∧ Keeps n₀ ann s.abs S ∧ G S4 := by
    intro p'
    obtain ⟨s3, p3, h3, e⟩ := h p'
    obtain ⟨fE, mE, eE, goE⟩ := seg_goes (res := fun f : Flow => f) (K' := fun f => match f with | .next => (execs b D.env).wrap doneF (leaveH D.env) id id | f => doneF f) (H' := leaveH D.env) (B := D.B) sB0 k (t := ⟨(bindF D.env x np (.ref s.n)).wrap doneF deadEnd id id, D.c, p', D.B⟩)
      (t' := ⟨(bindF D.env x np (.ref s.n)).wrap (fun f => match f with | .next => (execs b D.env).wrap doneF (leaveH D.env) id id | f => doneF f) (leaveH D.env) id id, D.c, p', D.B⟩) ⟨rfl, rfl, .inl ⟨rfl, rfl, _, rfl, rfl⟩⟩ (segF_ok h3)
    have eE : fE = .next := eE
    subst eE
    have kE := keeps_go goE
    have k3 := k2.trans kE
    obtain ⟨S, h1, h2, h4, h5⟩ := e (Shared.asleep_of_life k3.life hz)
    exact ⟨S.abs, halts_go goE h1, h2, S, rfl, h2, k3.trans h4, h5⟩
  have ex : exec (.Assign [.Name x np] (.Dict keys values dpos) apos) D.env = ((do standAt apos; eval (.Dict keys values dpos) D.env) : Sem Value) >>= bindF D.env x np := by
    rw [exec_Assign_Name _ _ _ _ _ sw]
    rfl
  have wpE : wpAny (model D.p w) D.A ((do standAt apos; eval (.Dict keys values dpos) D.env) : Sem Value) (fun v s' => v = .ref s.n ∧ s' = s2.abs) (fun _ _ => False) s.abs := wpAny_bind (wpAny_standAt wpD)
  obtain ⟨S, hS, hg, S4, rfl, hg4, hk4, hG⟩ := halts_mid' (p := D.p) (w := w) (K := fun v => (bindF D.env x np v).wrap (fun f => match f with | .next => (execs b D.env).wrap doneF (leaveH D.env) id id | f => doneF f) (leaveH D.env) id id) (H := leaveH D.env) (gd := id) (lv := id) (c := D.c) (pos := p) (B := D.B)
    (G := fun S => ∃ S4 : SharedT, S = S4.abs ∧ S4.gens = #[] ∧ Keeps n₀ ann s.abs S ∧ G S4) (wpE _ p base_in) (fun v p' s' q => by
      obtain ⟨rfl, rfl⟩ := q
      exact behind p')
  refine ⟨S4, ?_, hg4, hk4, hG⟩
  rw [execs_cons_wrap, ex, Sem.bind_eq_wrap', Sem.wrap_wrap]
  exact hS
end
/-! ### the stages of a top -/
inductive Stg where
  | seg (l : List Stmt) (k : Nat)
  | big (x : Str) (np : Pos) (keys : List (Option Expr)) (values : List Expr) (dpos apos : Pos) (L : List PK) (pk : PK) (k : Nat)
  | txt (x : Str) (np : Pos) (keys : List (Option Expr)) (values : List Expr) (dpos apos : Pos) (L : List SV) (ok : SharedT → Bool) (k : Nat)
def Stg.ss : Stg → List Stmt
  | .seg l _ => l
  | .big x np ks vs dp ap .. => [.Assign [.Name x np] (.Dict ks vs dp) ap]
  | .txt x np ks vs dp ap .. => [.Assign [.Name x np] (.Dict ks vs dp) ap]
def layS (w : World) (prog : Program) (L : List SV) (s : SharedT) : Option SharedT := match putAll [dO (sEs w prog s.toks L)] s.tree s.n with
  | some (t, n) => frNat n fun n => some ⟨t, n, s.life, s.gens, s.drawn, s.toks + 2 * L.length, s.os⟩
  | none => none
theorem layS_ok {w : World} {prog : Program} {L : List SV} {s s' : SharedT} (h : layS w prog L s = some s') : s'.abs = midS w prog s.abs s.abs.toks (s.abs.toks + 2 * L.length) L := by
  unfold layS at h
  cases e : putAll [dO (sEs w prog s.toks L)] s.tree s.n with
  | none => rw [e] at h; exact nomatch h
  | some r =>
    obtain ⟨t, n⟩ := r
    rw [e] at h
    have h : (frNat n fun n => some (⟨t, n, s.life, s.gens, s.drawn, s.toks + 2 * L.length, s.os⟩ : SharedT)) = some s' := h
    rw [frNat_eq] at h
    cases h
    have q := putAll_ok (life := s.life) e
    rw [ext_foldl] at q
    show Shared.mk (absHeap t n s.life) s.gens s.drawn _ s.os = Shared.mk (ext (absHeap s.tree s.n s.life) _) s.gens s.drawn _ s.os
    rw [q]
    rfl
structure Trail where
  s : SharedT
  p : Pos
  cs : List Code
  fl : List Bool
def goStg (st : SharedT → Thread → Option (SharedT × Thread)) (D : Base) (w : World) (n₀ : Nat) (ann : Option Value) : List Stg → List Pos → SharedT → Pos → Option Trail
  | [], _, s, p => some ⟨s, p, [], []⟩
  | .seg l k :: r, ps, s, p => match segF st n₀ ann k s (piecesOf l D.env D.c p D.B) with
    | some (.next, s1, c1, p1) => (match goStg st D w n₀ ann r ps s1 p1 with
      | some t => some ⟨t.s, t.p, c1 :: t.cs, t.fl⟩
      | none => none)
    | _ => none
  | .big x np _ _ _ _ L pk k :: r, ps, s, p => match layT w D.p L pk s with
    | some s2 => (match segF st n₀ ann k s2 ⟨(bindF D.env x np (.ref s.n)).wrap doneF deadEnd id id, D.c, ps.headD p, D.B⟩ with
      | some (.next, s3, c3, p3) => (match goStg st D w n₀ ann r ps.tail s3 p3 with
        | some t => some ⟨t.s, t.p, c3 :: t.cs, Nat.blt sysModules s.n :: t.fl⟩
        | none => none)
      | _ => none)
    | none => none
  | .txt x np _ _ _ _ L ok k :: r, ps, s, p => match layS w D.p L s with
    | some s2 => (match segF st n₀ ann k s2 ⟨(bindF D.env x np (.ref s.n)).wrap doneF deadEnd id id, D.c, ps.headD p, D.B⟩ with
      | some (.next, s3, c3, p3) => (match goStg st D w n₀ ann r ps.tail s3 p3 with
        | some t => some ⟨t.s, t.p, c3 :: t.cs, ok s :: t.fl⟩
        | none => none)
      | _ => none)
    | none => none
def Stg.Ok (D : Base) (w : World) : Stg → Prop
  | .seg _ _ => True
  | .big x np keys values dpos apos L pk _ => swapsWith (.Dict keys values dpos) (some (.Name x np)) apos.line D.env = pure false ∧ ((L ++ [pk]).map key).Nodup ∧
      ∃ (a : List PS) (b c : PS), a.length = 16 ∧ (evalEachOpt keys D.env).zip ((evalEach values D.env).map fun v => do let x ← v; standAt dpos; pure x) = (a ++ [b, c]).map (fun p => (some p.1, p.2)) ∧ PairsAre D.env dpos (a ++ [b]) L ∧ PairsAre D.env dpos [c] [pk]
  | .txt x np keys values dpos apos L ok _ => swapsWith (.Dict keys values dpos) (some (.Name x np)) apos.line D.env = pure false ∧ (L.map (·.1)).Nodup ∧
      ∀ s : SharedT, ok s = true → ∃ ps : List PS, (evalEachOpt keys D.env).zip ((evalEach values D.env).map fun v => do let x ← v; standAt dpos; pure x) = ps.map (fun p => (some p.1, p.2)) ∧ PairsS D.p w D.A (fun _ _ => False) D.env s.abs ps L ∧ ps ≠ [] ∧ ps.length ≤ 15
def Stg.disp : Stg → Nat
  | .seg _ _ => 0
  | _ => 1
theorem keeps_midS {w : World} {prog : Program} {n₀ : Nat} {ann : Option Value} (s : Shared) (t k : Nat) (L : List SV) : Keeps n₀ ann s (midS w prog s t k L) :=
  ⟨rfl, rfl, fun b o _ _ _ _ h => by
    have lt := Heap.lt_size h
    show (ext s.heap _).get? b = some o
    unfold Heap.get? ext at *
    rw [Array.getElem?_append_left lt]
    exact h⟩
theorem stg_ends {D : Base} {w : World} {n₀ : Nat} {ann : Option Value} {G : SharedT → Prop} {b : List Stmt} (un : D.A.units < cLine) : ∀ (L : List Stg) (s : SharedT) (p : Pos), (∀ x ∈ L, x.Ok D w) →
    (∀ ps : List Pos, ps.length = (L.map Stg.disp).sum → ∃ t, goStg (stepT (denote table) D.p w) D w n₀ ann L ps s p = some t ∧ (∀ c ∈ t.cs, c = D.c) ∧ (∀ f ∈ t.fl, f = true) ∧ EndsAt D w n₀ ann G b t.s t.p) →
    EndsAt D w n₀ ann G (L.flatMap Stg.ss ++ b) s p
  | [], s, p, _, run => by
    obtain ⟨t, h, _, _, e⟩ := run [] rfl
    cases h
    exact e
  | .seg l k :: r, s, p, ok, run => by
    show EndsAt D w n₀ ann G ((l ++ r.flatMap Stg.ss) ++ b) s p
    rw [List.append_assoc]
    obtain ⟨t0, h0, c0, _, _⟩ := run (List.replicate ((Stg.seg l k :: r).map Stg.disp).sum default) (List.length_replicate ..)
    cases hs : segF (stepT (denote table) D.p w) n₀ ann k s (piecesOf l D.env D.c p D.B) with
    | none => simp [goStg, hs] at h0
    | some v =>
      obtain ⟨f, s1, c1, p1⟩ := v
      cases f with
      | next =>
        have ec : c1 = D.c := by
          simp only [goStg, hs] at h0
          split at h0
          · cases h0
            exact c0 c1 (List.mem_cons_self ..)
          · cases h0
        subst ec
        refine ends_seg hs (stg_ends un r s1 p1 (fun x hx => ok x (List.mem_cons_of_mem _ hx)) fun ps hp => ?_)
        obtain ⟨t, h, c, f, e⟩ := run ps (by rw [hp, List.map_cons, List.sum_cons]; exact (Nat.zero_add _).symm)
        simp only [goStg, hs] at h
        split at h
        · rename_i t' ht'
          cases h
          exact ⟨t', ht', fun x hx => c x (List.mem_cons_of_mem _ hx), f, e⟩
        · cases h
      | _ => simp [goStg, hs] at h0
  | .big x np keys values dpos apos L pk k :: r, s, p, ok, run => by
    obtain ⟨sw, nd, a, bb, cc, al, hsh, p1, p2⟩ := ok _ (List.mem_cons_self ..)
    show EndsAt D w n₀ ann G (.Assign [.Name x np] (.Dict keys values dpos) apos :: (r.flatMap Stg.ss ++ b)) s p
    obtain ⟨t0, h0, _, f0, _⟩ := run (List.replicate ((Stg.big x np keys values dpos apos L pk k :: r).map Stg.disp).sum default) (List.length_replicate ..)
    cases hs : layT w D.p L pk s with
    | none => simp [goStg, hs] at h0
    | some s2 =>
      have sz : s.abs.heap.objs.size = s.n := absHeap_size s.tree s.n s.life
      have blt : Nat.blt sysModules s.n = true := by
        simp only [goStg, hs] at h0
        split at h0
        · split at h0
          · cases h0
            exact f0 _ (List.mem_cons_self ..)
          · cases h0
        · cases h0
      refine ends_dict (k := k) sw ?_ (by rw [layT_ok hs]; exact keeps_fin _ _ _) fun p' => ?_
      · rw [arm_eval_Dict, hsh]
        refine wpAny_bind (wpAny_standAt (wp_display un al p1 p2 nd (by rw [sz]; exact Nat.le_of_ble_eq_true blt) ?_))
        rw [sz, layT_ok hs]
        exact ⟨rfl, rfl⟩
      · obtain ⟨t1, h1, c1, _, _⟩ := run (p' :: List.replicate (r.map Stg.disp).sum default) (by rw [List.length_cons, List.length_replicate, List.map_cons, List.sum_cons]; exact Nat.add_comm _ _)
        simp only [goStg, hs, List.headD_cons, List.tail_cons] at h1
        split at h1
        · rename_i s3 c3 p3 h3
          have ec : c3 = D.c := by
            split at h1
            · cases h1
              exact c1 c3 (List.mem_cons_self ..)
            · cases h1
          subst ec
          refine ⟨s3, p3, h3, stg_ends un r s3 p3 (fun x hx => ok x (List.mem_cons_of_mem _ hx)) fun ps hp => ?_⟩
          obtain ⟨t, h, c, f, e⟩ := run (p' :: ps) (by rw [List.length_cons, hp, List.map_cons, List.sum_cons]; exact Nat.add_comm _ _)
          simp only [goStg, hs, List.headD_cons, List.tail_cons, h3] at h
          split at h
          · rename_i t' ht'
            cases h
            exact ⟨t', ht', fun x hx => c x (List.mem_cons_of_mem _ hx), fun x hx => f x (List.mem_cons_of_mem _ hx), e⟩
          · cases h
        · cases h1
  | .txt x np keys values dpos apos L okB k :: r, s, p, ok, run => by
    obtain ⟨sw, nd, hps⟩ := ok _ (List.mem_cons_self ..)
    show EndsAt D w n₀ ann G (.Assign [.Name x np] (.Dict keys values dpos) apos :: (r.flatMap Stg.ss ++ b)) s p
    obtain ⟨t0, h0, _, f0, _⟩ := run (List.replicate ((Stg.txt x np keys values dpos apos L okB k :: r).map Stg.disp).sum default) (List.length_replicate ..)
    cases hs : layS w D.p L s with
    | none => simp [goStg, hs] at h0
    | some s2 =>
      have sz : s.abs.heap.objs.size = s.n := absHeap_size s.tree s.n s.life
      have okS : okB s = true := by
        simp only [goStg, hs] at h0
        split at h0
        · split at h0
          · cases h0
            exact f0 _ (List.mem_cons_self ..)
          · cases h0
        · cases h0
      obtain ⟨pss, hsh, hP, h0', h15⟩ := hps s okS
      refine ends_dict (k := k) sw ?_ (by rw [layS_ok hs]; exact keeps_midS _ _ _ _) fun p' => ?_
      · refine wp_displayS hsh hP h0' h15 nd ?_
        rw [sz, layS_ok hs]
        exact ⟨rfl, rfl⟩
      · obtain ⟨t1, h1, c1, _, _⟩ := run (p' :: List.replicate (r.map Stg.disp).sum default) (by rw [List.length_cons, List.length_replicate, List.map_cons, List.sum_cons]; exact Nat.add_comm _ _)
        simp only [goStg, hs, List.headD_cons, List.tail_cons] at h1
        split at h1
        · rename_i s3 c3 p3 h3
          have ec : c3 = D.c := by
            split at h1
            · cases h1
              exact c1 c3 (List.mem_cons_self ..)
            · cases h1
          subst ec
          refine ⟨s3, p3, h3, stg_ends un r s3 p3 (fun x hx => ok x (List.mem_cons_of_mem _ hx)) fun ps hp => ?_⟩
          obtain ⟨t, h, c, f, e⟩ := run (p' :: ps) (by rw [List.length_cons, hp, List.map_cons, List.sum_cons]; exact Nat.add_comm _ _)
          simp only [goStg, hs, List.headD_cons, List.tail_cons, h3] at h
          split at h
          · rename_i t' ht'
            cases h
            exact ⟨t', ht', fun x hx => c x (List.mem_cons_of_mem _ hx), fun x hx => f x (List.mem_cons_of_mem _ hx), e⟩
          · cases h
        · cases h1
end Fw

end
set_option Elab.async false
set_option linter.all false
set_option maxRecDepth 100000
set_option maxHeartbeats 2000000
/-! the head of a row whose top has displays: as HeadX, for the stages of TopMany -/
noncomputable section
namespace Fw
open PySem PySem.W PySem.Calls PyProof.Rows HandSHeadRun
structure Many extends Base where
  L : List Stg
  rest : List Stmt
  M : Nat
structure ManyR where
  tA : Thread
  cB : Code
  cs : List Code
  fl : List Bool
  s4 : SharedT
def manyF (st : SharedT → Thread → Option (SharedT × Thread)) (D : Many) (w : World) (os : OsState) (ps : List Pos) : Option ManyR := match putAll (boot_heap w.params).objs.toList .nil 0 with
  | none => none
  | some (t, n) => frNat n fun n0 => match goS st n0 (bootAnn w) D.k0 (bootT w os (t, n0)) (topStub D.p) with
    | none => none
    | some (sA, tA) => match segF st n0 (bootAnn w) D.kB sA (blockOf (behindTheImports D.p) D.env D.toBase.c D.pos0 D.toBase.B) with
      | some (.next, sB, cB, pB) => (match goStg st D.toBase w n0 (bootAnn w) D.L ps sB pB with
        | some t => (match goF st n0 (bootAnn w) D.M t.s (restOf D.rest D.env D.toBase.c t.p D.toBase.B) with
          | some s4 => some ⟨tA, cB, t.cs, t.fl, s4⟩
          | none => none)
        | none => none)
      | _ => none
def Many.d (D : Many) : Nat := (D.L.map Stg.disp).sum
structure Many.Ok (D : Many) : Prop where
  body : behindTheImports D.p = D.L.flatMap Stg.ss ++ D.rest
  st : ∀ w, ∀ x ∈ D.L, x.Ok D.toBase w
  un : D.toBase.A.units < cLine
theorem many_ends {D : Many} {w : World} {os : OsState} {G : SharedT → Prop} (O : D.Ok)
    (run : ∀ ps : List Pos, ps.length = D.d → ∃ r, manyF (stepT (denote table) D.p w) D w os ps = some r ∧ r.tA = ⟨denote table D.toBase.c, D.toBase.c, D.pos0, D.toBase.B⟩ ∧ r.cB = D.toBase.c ∧ (∀ c ∈ r.cs, c = D.toBase.c) ∧ (∀ f ∈ r.fl, f = true) ∧ r.s4.gens = #[] ∧ G r.s4)
    (hz : (⟨boot_heap w.params, #[], boot_drawn, boot_toks, os⟩ : Shared).asleep) :
    ∃ S : SharedT, Halts D.p w ⟨boot_heap w.params, #[], boot_drawn, boot_toks, os⟩ (topStub D.p) S.abs ∧ S.gens = #[] ∧ Keeps (boot_heap w.params).objs.size (bootAnn w) ⟨boot_heap w.params, #[], boot_drawn, boot_toks, os⟩ S.abs ∧ G S := by
  have parts : ∀ ps : List Pos, ps.length = D.d → ∃ (sA sB : SharedT) (pB : Pos) (t : PySem.W.BT) (n : Nat) (tr : Trail) (s4 : SharedT), putAll (boot_heap w.params).objs.toList .nil 0 = some (t, n) ∧ goS (stepT (denote table) D.p w) n (bootAnn w) D.k0 (bootT w os (t, n)) (topStub D.p) = some (sA, ⟨denote table D.toBase.c, D.toBase.c, D.pos0, D.toBase.B⟩) ∧
      segF (stepT (denote table) D.p w) n (bootAnn w) D.kB sA (blockOf (behindTheImports D.p) D.env D.toBase.c D.pos0 D.toBase.B) = some (.next, sB, D.toBase.c, pB) ∧ goStg (stepT (denote table) D.p w) D.toBase w n (bootAnn w) D.L ps sB pB = some tr ∧ (∀ c ∈ tr.cs, c = D.toBase.c) ∧ (∀ f ∈ tr.fl, f = true) ∧
      goF (stepT (denote table) D.p w) n (bootAnn w) D.M tr.s (restOf D.rest D.env D.toBase.c tr.p D.toBase.B) = some s4 ∧ s4.gens = #[] ∧ G s4 := by
    intro ps hp
    obtain ⟨r, hr, e1, e2, e3, e4, hg, hG⟩ := run ps hp
    unfold manyF at hr
    split at hr
    · exact nomatch hr
    rename_i t n ht
    rw [frNat_eq] at hr
    split at hr
    · exact nomatch hr
    rename_i sA tA hA
    split at hr
    · rename_i sB cB pB hB
      split at hr
      · rename_i tr h1
        split at hr
        · rename_i s4 h4
          cases hr
          dsimp only at e1 e2 e3 e4 hg hG
          subst e1 e2
          exact ⟨sA, sB, pB, t, n, tr, s4, ht, hA, hB, h1, e3, e4, h4, hg, hG⟩
        · exact nomatch hr
      · exact nomatch hr
    · exact nomatch hr
  obtain ⟨sA, sB, pB, t, n, _, _, ht, hA, hB, _⟩ := parts (List.replicate D.d default) (List.length_replicate ..)
  have eh := putAll_heap ht
  have en : (boot_heap w.params).objs.size = n := by
    rw [← eh]
    exact absHeap_size t n _
  have eb : (bootT w os (t, n)).abs = ⟨boot_heap w.params, #[], boot_drawn, boot_toks, os⟩ := by
    show (⟨absHeap t n (boot_heap w.params).life, #[], boot_drawn, boot_toks, os⟩ : Shared) = _
    rw [eh]
  have goA := goS_ok hA
  rw [eb] at goA
  have kA := keeps_go goA
  have sB0 : splitAtGen D.toBase.B = none := rfl
  obtain ⟨_, mB, _, goB⟩ := seg_goes (res := fun _ : Unit => Flow.next) (K' := fun _ => (execs (behindTheImports D.p) D.env).wrap doneF (leaveH D.env) id id) (H' := Sem.raise) (B := D.toBase.B) sB0 D.kB (t := blockOf (behindTheImports D.p) D.env D.toBase.c D.pos0 D.toBase.B)
    (t' := ⟨(blockStart (behindTheImports D.p) D.env).wrap (fun _ => (execs (behindTheImports D.p) D.env).wrap doneF (leaveH D.env) id id) .raise id id, D.toBase.c, D.pos0, D.toBase.B⟩) ⟨rfl, rfl, .inl ⟨rfl, rfl, _, rfl, rfl⟩⟩ (segF_ok hB)
  have kB := keeps_go goB
  have KB := kA.trans kB
  have E : EndsAt D.toBase w n (bootAnn w) G (D.L.flatMap Stg.ss ++ D.rest) sB pB := stg_ends O.un D.L sB pB (O.st w) fun ps hp => by
    obtain ⟨sA', sB', pB', t', n', tr, s4, ht', hA', hB', h1, c1, f1, h4, hg, hG⟩ := parts ps hp
    rw [ht] at ht'
    cases ht'
    rw [hA] at hA'
    cases hA'
    rw [hB] at hB'
    cases hB'
    exact ⟨tr, h1, c1, f1, ends_go h4 hg hG⟩
  obtain ⟨S, h1, h2, h3, h4⟩ := E (Shared.asleep_of_life KB.life hz)
  refine ⟨S, ?_, h2, by rw [en]; exact KB.trans h3, h4⟩
  refine halts_go goA ?_
  have eB : denote table D.toBase.c = (blockStart (behindTheImports D.p) D.env).wrap (fun _ => (execs (behindTheImports D.p) D.env).wrap doneF (leaveH D.env) id id) .raise id id := body_wrap _
  rw [eB]
  refine halts_go goB ?_
  rw [O.body]
  exact h1
/-- what is read off a run's end -/
def seeM (D : Many) (q : Program) (loose : List Str) (Xt : Shared → Bool) {α : Type} (ob : SharedT → α) (w : World) (r : ManyR) := (r.tA, r.cB, r.cs, r.fl, r.s4.gens.size, looksF D.p (boot_heap w.params) r.s4.abs, seenQ q loose (importedModules D.p.main.body) Xt r.s4.abs, ob r.s4)
def RunM (D : Many) (q : Program) (loose : List Str) (Xt : Shared → Bool) {α : Type} (ob : SharedT → α) (val : World → α) : Prop :=
  ∀ (w : World) (os : OsState) (ps : List Pos), ps.length = D.d → (manyF (stepQ (denQ tabQ) D.p w) D w os ps).map (seeM D q loose Xt ob w) = some (⟨denQ tabQ D.toBase.c, D.toBase.c, D.pos0, D.toBase.B⟩, D.toBase.c, List.replicate D.L.length D.toBase.c, List.replicate D.d true, 0, true, openGood q loose, val w)
theorem tops_many {D : Many} {q : Program} {loose : List Str} {Xt : Shared → Bool} {H : Hook} {ob : SharedT → H.α} (O : D.Ok) (ho : ∀ s : SharedT, ob s = H.obs s.abs) (e : opening D.p = plainProg D.p.main.scope.names) (f : ∀ s, fenceModules? D.p s = some s) (run : RunM D q loose Xt ob H.val) :
    TopsE D.p q loose Xt H.obs H.val := fun w => by
  obtain ⟨⟨hp, gs, dr, tk, os⟩, hf, e0⟩ := Option.map_eq_some_iff.mp (boot_open (N := 600) e rfl f w)
  obtain ⟨rfl, rfl, rfl, rfl⟩ : hp = boot_heap w.params ∧ gs = Array.mk [] ∧ dr = boot_drawn ∧ tk = boot_toks := by simpa using e0
  rw [← table_eq_tree] at hf
  obtain ⟨s, hi, hfe⟩ := Option.bind_eq_some_iff.mp hf
  have A := AfterImport.of_importEnds hi
  have hz := Shared.asleep_of_life (fence_lifeW hfe) A.life
  have eq : ∀ ps, manyF (stepQ (denQ tabQ) D.p w) D w os ps = manyF (stepT (denote table) D.p w) D w os ps := fun ps => by
    rw [← stepQ_eq, ← denQ_eq, ← tabQ_eq, table_eq_tree]
  obtain ⟨S, hS, hg, kS, g1, g2, g3⟩ := many_ends (w := w) (os := os) (G := fun S => looksF D.p (boot_heap w.params) S.abs = true ∧ openSeen q loose (importedModules D.p.main.body) Xt true S.abs = openGood q loose ∧ H.obs S.abs = H.val w) O (fun ps hps => by
    obtain ⟨r, hr, hv⟩ := Option.map_eq_some_iff.mp (run w os ps hps)
    rw [eq] at hr
    have hv : seeM D q loose Xt ob w r = _ := hv
    unfold seeM at hv
    simp only [Prod.mk.injEq] at hv
    obtain ⟨v1, v2, v3, v4, v5, v6, v7, v8⟩ := hv
    refine ⟨r, hr, ?_, v2, fun c hc => ?_, fun f hf => ?_, Array.eq_empty_of_size_eq_zero v5, v6, ?_, ?_⟩
    · rw [v1, ← denQ_eq, ← tabQ_eq, table_eq_tree]
    · rw [v3] at hc
      exact List.eq_of_mem_replicate hc
    · rw [v4] at hf
      exact List.eq_of_mem_replicate hf
    · rw [seenQ_eq]
      exact v7
    · rw [← ho]
      exact v8) hz
  exact ⟨600, _, S.abs, hf, ⟨hS, boot_ns _, rfl, hg, kS.life, kS.os, kS.fr, g1, g2, g3⟩⟩
theorem head_many {r : OpenRow} {D : Many} {q : Program} {loose : List Str} {H : Hook} {ob : SharedT → H.α} {d : DefRec} {kwd : List (Str × Expr)} (hD : D.p = r.prog) (O : D.Ok) (ho : ∀ s : SharedT, ob s = H.obs s.abs) (e : opening D.p = plainProg D.p.main.scope.names) (f : ∀ s, fenceModules? D.p s = some s)
    (run : RunM D q loose (fun s => xlAt q [] s && recOk r.toRowW.records s) ob H.val) (hdef : defOf q r.name = some (d, kwd)) (hp : r.prog.theDef r.name = some (d.params, d.body, d.scope)) (hk : kwWritten? d.params.kwonlyargs d.params.kw_defaults = some kwd)
    (hwr : (!r.writes || r.records.isEmpty) = true) (k1 : r.wellSaid = true) (ok : (chainsOk q && opensWell r.prog && (frees r.toRowW && r.within.isEmpty)) = true) (hb : r.prog.bare) (hw : r.toRowW.promised)
    (call : WalkO q loose (XL q []) H.says r.toRowW d kwd fun f vs => PySem.call f vs) : r.Holds := by
  have T := tops_many O ho e f run
  rw [hD] at T
  exact holdsE T (fun s z => xl_of s (Bool.and_eq_true_iff.mp z).1) XL.keeps hdef hp hk (fun s z => recFacts_of (Bool.and_eq_true_iff.mp z).2) hwr k1 ok hb hw call
end Fw

end
set_option Elab.async false
set_option linter.all false
set_option maxRecDepth 100000
set_option maxHeartbeats 2000000
/-! a display of texts whose values are names of the module: its stage is sound, by looks that the kernel takes -/
noncomputable section
namespace Fw
open PySem PySem.W PySem.Calls PyProof.Rows HandSHeadRun
abbrev TN : Type := Str × Str × Addr
def okN (T : List TN) (s : SharedT) : Bool :=
  let K := He.frG (getT s) (List.range s.n)
  nsOkIn K mainGlobals && T.all fun x => He.eqO (nsIn K mainGlobals x.2.1) (some (some (.ref x.2.2)))
def svT (T : List TN) : List SV := T.map fun x => (x.1, .ref x.2.2)
def txtB : List (Option Expr) → List Expr → List TN → Bool
  | [], [], [] => true
  | some (.Constant (.str x) _ _) :: ks, .Name y _ :: vs, t :: T => decide (x = t.1) && decide (y = t.2.1) && !(y == ("__debug__" : Str)) && txtB ks vs T
  | _, _, _ => false
theorem okN_ok {T : List TN} {s : SharedT} (h : okN T s = true) : ∃ mg, s.abs.heap.Ns mainGlobals mg ∧ ∀ x ∈ T, mg x.2.1 = some (.ref x.2.2) := by
  have eg : getT s = s.abs.heap.get? := funext (getT_eq s)
  unfold okN at h
  rw [eg] at h
  obtain ⟨h1, h2⟩ := Bool.and_eq_true_iff.mp h
  have X : (He.frG s.abs.heap.get? (List.range s.n)).In s.abs.heap := He.frG_in
  have N : s.abs.heap.Ns mainGlobals _ := .of_isNs (isNs_of_in X h1)
  exact ⟨_, N, fun x hx => mg_of X N (He.eqO_ok (List.all_eq_true.mp h2 x hx))⟩
theorem txt_pairs {prog : Program} {w : World} {A : Around} {E : Value → Shared → Prop} {env : Env} {pos : Pos} {s : Shared} {mg : Str → Option Value} (hk : env.scope.kind = .module) (hl : env.locals = env.globals) (hg : env.globals = mainGlobals) (N : s.heap.Ns mainGlobals mg) :
    ∀ {ks : List (Option Expr)} {vs : List Expr} {T : List TN}, txtB ks vs T = true → (∀ x ∈ T, mg x.2.1 = some (.ref x.2.2)) →
    ∃ ps : List PS, (evalEachOpt ks env).zip ((evalEach vs env).map fun v => do let x ← v; standAt pos; pure x) = ps.map (fun p => (some p.1, p.2)) ∧ PairsS prog w A E env s ps (svT T)
  | [], [], [], _, _ => ⟨[], rfl, .nil⟩
  | some (.Constant (.str x) k kp) :: ks, .Name y yp :: vs, t :: T, h, hm => by
    have h : (decide (x = t.1) && decide (y = t.2.1) && !(y == ("__debug__" : Str)) && txtB ks vs T) = true := h
    obtain ⟨h, h4⟩ := Bool.and_eq_true_iff.mp h
    obtain ⟨h, h3⟩ := Bool.and_eq_true_iff.mp h
    obtain ⟨h1, h2⟩ := Bool.and_eq_true_iff.mp h
    obtain ⟨tx, ty, ta⟩ := t
    obtain rfl : x = tx := of_decide_eq_true h1
    obtain rfl : y = ty := of_decide_eq_true h2
    have h3 : (y == ("__debug__" : Str)) = false := by simpa using h3
    obtain ⟨ps, e, P⟩ := txt_pairs hk hl hg N h4 fun z hz => hm z (List.mem_cons_of_mem _ hz)
    refine ⟨(eval (.Constant (.str x) k kp) env, do let x ← eval (.Name y yp) env; standAt pos; pure x) :: ps, ?_, .cons (fun s' Q kp' q => ?_) P⟩
    · show (some _, _) :: (evalEachOpt ks env).zip _ = _ :: ps.map _
      rw [e]
    · refine wpAny_bind (Name_module hk hl (loadGlobal_global (mg := mg) (by rw [hg]; exact N.keeps kp') (hm (x, y, ta) (List.mem_cons_self ..)) ?_) h3)
      exact wpAny_bind (wpAny_standAt (wpAny_pure q))
  | [], [], _ :: _, h, _ => by simp [txtB] at h
  | [], _ :: _, _, h, _ => by simp [txtB] at h
  | _ :: _, [], _, h, _ => by simp [txtB] at h
  | _ :: _, _ :: _, [], h, _ => by simp [txtB] at h
theorem txt_ok {D : Base} {w : World} {x : Str} {np dpos apos : Pos} {keys : List (Option Expr)} {values : List Expr} {T : List TN} {k : Nat} (hk : D.env.scope.kind = .module) (hl : D.env.locals = D.env.globals) (hg : D.env.globals = mainGlobals)
    (sw : swapsWith (.Dict keys values dpos) (some (.Name x np)) apos.line D.env = pure false) (nd : (T.map (·.1)).Nodup) (hB : txtB keys values T = true) (h0 : T ≠ []) (h15 : T.length ≤ 15) :
    Stg.Ok D w (.txt x np keys values dpos apos (svT T) (okN T) k) := by
  refine ⟨sw, ?_, fun s h => ?_⟩
  · show ((T.map _).map _).Nodup
    rw [List.map_map]
    exact nd
  · obtain ⟨mg, N, hm⟩ := okN_ok h
    obtain ⟨ps, e, P⟩ := txt_pairs (prog := D.p) (w := w) (A := D.A) (E := fun _ _ => False) (pos := dpos) hk hl hg N hB hm
    have ll := pairsS_len P
    have l2 : (svT T).length = T.length := List.length_map ..
    refine ⟨ps, e, P, fun z => ?_, by omega⟩
    subst z
    cases T with
    | nil => exact h0 rfl
    | cons a T => cases ll
theorem big_ok {D : Base} {w : World} {x : Str} {np dpos apos : Pos} {keys : List (Option Expr)} {values : List Expr} {L : List PK} {pk : PK} {k : Nat} (sw : swapsWith (.Dict keys values dpos) (some (.Name x np)) apos.line D.env = pure false)
    (hp : pairsB keys values (L ++ [pk]) = true) (hl : L.length = 17) (nd : ((L ++ [pk]).map key).Nodup) : Stg.Ok D w (.big x np keys values dpos apos L pk k) := by
  refine ⟨sw, nd, ?_⟩
  obtain ⟨ps, h1, h2⟩ := pairsB_ok (env := D.env) (pos := dpos) hp
  obtain ⟨a, c, rfl, al, ha, hc⟩ := pairs_split h1
  rw [hl] at al
  obtain ⟨a', b, rfl⟩ : ∃ a' b, a = a' ++ [b] := ⟨a.dropLast, a.getLast (fun z => by rw [z] at al; cases al), (List.dropLast_concat_getLast _).symm⟩
  rw [List.length_append] at al
  have al' : a'.length + 1 = 17 := al
  exact ⟨a', b, c, by omega, by rw [h2, List.append_assoc]; rfl, ha, hc⟩
end Fw

end
set_option Elab.async false
set_option linter.all false
set_option maxRecDepth 100000
set_option maxHeartbeats 2000000
/-! the hook with any looks at the fragment (ck), and some objects outright by their addresses; the class Fell by such looks -/
noncomputable section
namespace Fw
open PySem PySem.W PySem.Calls PyProof.Rows HandSHeadRun
def obsY (fa : List He.Fa) (fn : List He.FnD) (ck : Frag → Bool) (as : List Addr) (n : Nat) (g : Addr → Option Obj) : He.Al × Bool × List (Option Obj) :=
  let K := He.frG g (List.range n)
  (He.obsE fa fn K, ck K, as.map fun a => K.lookup a)
def hookY (fa : List He.Fa) (fn : List He.FnD) (ck : Frag → Bool) (as : List Addr) (n : Nat) (os : World → List Obj) : Hook where
  α := He.Al × Bool × List (Option Obj)
  obs := fun s => obsY fa fn ck as n s.heap.get?
  val := fun w => (He.valE fn, true, (os w).map some)
  says := fun w h => ∃ K : Frag, K.In h ∧ He.SaysE fa fn K ∧ ck K = true ∧ ∀ (i : Nat) (a : Addr) (o : Obj), as[i]? = some a → (os w)[i]? = some o → K.lookup a = some o
  of := fun w s e => by
    have e1 := congrArg (fun z : He.Al × Bool × List (Option Obj) => z.1) e
    have e2 := congrArg (fun z : He.Al × Bool × List (Option Obj) => z.2.1) e
    have e3 : as.map (fun a => (He.frG s.heap.get? (List.range n)).lookup a) = (os w).map some := congrArg (fun z : He.Al × Bool × List (Option Obj) => z.2.2) e
    refine ⟨_, He.frG_in, e1, e2, fun i a o ha ho => ?_⟩
    have z : (as.map (fun a => (He.frG s.heap.get? (List.range n)).lookup a))[i]? = ((os w).map some)[i]? := by rw [e3]
    rw [List.getElem?_map, List.getElem?_map, ha, ho] at z
    exact Option.some.inj z
  keeps := fun _ _ _ ⟨K, hK, c⟩ k => ⟨K, Frag.In.keeps hK k, c⟩
def obY (fa : List He.Fa) (fn : List He.FnD) (ck : Frag → Bool) (as : List Addr) (n : Nat) (s : SharedT) : He.Al × Bool × List (Option Obj) := obsY fa fn ck as n (getT s)
theorem obY_eq (fa : List He.Fa) (fn : List He.FnD) (ck : Frag → Bool) (as : List Addr) (n : Nat) (os : World → List Obj) (s : SharedT) : obY fa fn ck as n s = (hookY fa fn ck as n os).obs s.abs := by
  have e : getT s = s.abs.heap.get? := funext (getT_eq s)
  show obsY fa fn ck as n (getT s) = obsY fa fn ck as n s.abs.heap.get?
  rw [e]
/-! ### the class Fell -/
def clsB (K : Frag) (C : Addr) : Bool := match K.lookup C with
  | some ⟨.type "type", _, .cls cd, sl⟩ => (match cd.mro, sl.toList with
    | .ref C' :: bm, [_, _, _, _, some (.builtin n), _] => decide (C' = C) && decide (n = "RuntimeError.__new__") && !cd.hasDel && cd.hasDict && decide (bm = PySem.FellX.rtTail)
    | _, _ => false)
  | _ => false
theorem clsB_ok {K : Frag} {C : Addr} (q : clsB K C = true) : ∃ nm qn N bs bm sn sub ab col dd k0 k1 k2 k3 k5, K.lookup C = some (excClassObj nm qn C N bs bm true sn sub ab col dd k0 k1 k2 k3 k5 "RuntimeError.__new__") ∧ bm = PySem.FellX.rtTail := by
  unfold clsB at q
  split at q
  · rename_i dd cd sl ho
    split at q
    · rename_i C' bm k0 k1 k2 k3 n k5 hm hs
      simp only [Bool.and_eq_true, decide_eq_true_eq, Bool.not_eq_true'] at q
      obtain ⟨⟨⟨⟨rfl, rfl⟩, hdel⟩, hdct⟩, ht⟩ := q
      obtain ⟨nm, bs, mro, ns, qn, hd, sn, sub, ab, col, del⟩ := cd
      dsimp only at hm hdel hdct
      subst hm hdel hdct
      have hsl : sl = #[k0, k1, k2, k3, some (.builtin "RuntimeError.__new__"), k5] := by
        obtain ⟨l⟩ := sl
        simp only at hs
        rw [hs]
      subst hsl
      exact ⟨nm, qn, ns, bs, bm, sn, sub, ab, col, dd, k0, k1, k2, k3, k5, ho, ht⟩
    · cases q
  · cases q
def kwB (K : Frag) (a : Addr) : Bool := match K.lookup a with
  | some ⟨_, _, .func fd, _⟩ => decide (fd.kwdefaults = .none)
  | _ => false
def fellB (K : Frag) : Bool :=
  let C := He.ga K "Fell"
  let I := He.ma K C "__init__"
  clsB K C && He.eqO (findIn K (.ref C) "__setattr__") (some (some (.builtin "object.__setattr__"))) && He.eqO (findIn K (.ref C) "__getattribute__") (some (some (.builtin "BaseException.__getattribute__"))) && He.eqO (findIn K (.ref C) "__getattr__") (some none) &&
  He.eqO (findIn K (.ref C) "word") (some none) && He.eqO (findIn K (.ref C) "__init__") (some (some (.ref I))) && decide (typeIn K (.ref I) = some (.type "function")) && keepIn K (.ref C) && decide (subIn K (.ref C) (.type "BaseException") = some true) && decide (typeIn K (.ref C) = some (.type "type")) &&
  hasDictIn K C && decide (subIn K (.ref C) (.ref C) = some true) && kwB K I && He.eqO (findIn K (.ref C) "__class__") (some (some (.builtin "object.__class__"))) && He.eqO (specialIn K (.builtin "object.__class__") "__get__") (some (some (.builtin "getset_descriptor.__get__"))) &&
  decide (takesIn K (.builtin "object.__class__") = some true) && decide (mroIn K C (.type "object") = some true) && decide (subIn K (.ref C) (.type "RuntimeError") = some true)
theorem fell_of {K : Frag} {h : Heap} {mg : Str → Option Value} (X : K.In h) (G : h.Ns mainGlobals mg) (g : (He.Fa.glo "Fell").ok K = true) (q : fellB K = true) {p1 p2 q1 q2 q3 q4 : Pos}
    (fn : ∃ oc od osl kV doc pm an cdv ct, K.lookup (He.ma K (He.ga K "Fell") "__init__") = some ⟨oc, od, .func (fnOf "__init__" "Fell.__init__" (PySem.FellX.iA p1 p2) (PySem.FellX.iB q1 q2 q3 q4) PySem.FellX.iS .none kV doc pm an cdv ct), osl⟩ ∧ codeIn K cdv "Fell.__init__" = true) :
    PySem.FellX.FellTxt K mg (He.ga K "Fell") (He.ma K (He.ga K "Fell") "__init__") ∧ L2.ErrC K (He.ga K "Fell") ∧ subIn K (.ref (He.ga K "Fell")) (.type "RuntimeError") = some true := by
  unfold fellB at q
  dsimp only at q
  simp only [Bool.and_eq_true, decide_eq_true_eq] at q
  obtain ⟨⟨⟨⟨⟨⟨⟨⟨⟨⟨⟨⟨⟨⟨⟨⟨⟨c1, c2⟩, c3⟩, c4⟩, c5⟩, c6⟩, c7⟩, c8⟩, c9⟩, c10⟩, c11⟩, c12⟩, c13⟩, c14⟩, c15⟩, c16⟩, c17⟩, c18⟩ := q
  obtain ⟨oc, od, osl, kV, doc, pm, an, cdv, ct, l, e⟩ := fn
  have ek : kV = .none := by
    unfold kwB at c13
    rw [l] at c13
    exact of_decide_eq_true c13
  subst ek
  refine ⟨⟨He.glo_ok X G g, clsB_ok c1, He.eqO_ok c2, He.eqO_ok c3, He.eqO_ok c4, He.eqO_ok c5, He.eqO_ok c6, c7, c8, c9, c10, c11, exm_ref c9 c11 c10 c12, ⟨oc, od, doc, pm, an, cdv, ct, osl, p1, p2, q1, q2, q3, q4, l, e⟩⟩,
    { ga := He.eqO_ok c3, gg := He.eqO_ok c4, exC := c9, hdC := c11, ac := He.eqO_ok c14, sg := He.eqO_ok c15, tk := c16, mo := c17 }, c18⟩
end Fw

end
set_option Elab.async false
set_option linter.all false
set_option maxRecDepth 100000
set_option maxHeartbeats 2000000
namespace Fd
open PySem PySem.Spec PyProof.Rows L2
def top (i : Nat) : Stmt := PySem.Challenge.pw_figuredeeds_k07_looks_known_and_shared.main.body.getD i (.Pass ⟨0, 0, 0, 0⟩)
/-! ### defs by their names -/
structure Df (K : PySem.W.Frag) (mg : Str → Option Value) (x : Str) (st : Stmt) (ps : List Str) (f : Addr) (fd : FuncData) : Prop where
  F : Fun K x x st f fd
  m : mg x = some (.ref f)
  b : Binds K fd ps []
/-- the def that the module's name x holds keeps sp -/
def FnG (P : Program) (w : World) (K : PySem.W.Frag) (mg : Str → Option Value) (base : Heap) (CX : CXT) (k : Nat) (x : Str) (ps : List Str) (sp : Sp) : Prop :=
  ∃ f fd, FnOk P w K mg base CX k f fd ps sp ∧ mg x = some (.ref f) ∧ PySem.W.keepIn K (.ref f) = true ∧ Binds K fd ps []
theorem Df.g {P : Program} {w : World} {K : PySem.W.Frag} {mg : Str → Option Value} {base : Heap} {CX : CXT} {k : Nat} {x : Str} {st : Stmt} {ps : List Str} {f : Addr} {fd : FuncData} {sp : Sp}
    (D : Df K mg x st ps f fd) (G : FnOk P w K mg base CX k f fd ps sp) : FnG P w K mg base CX k x ps sp := ⟨f, fd, G, D.m, D.F.kp, D.b⟩
/-! ### heaps -/
/-- all that was tracked stands, but for what is at a -/
def But (a : Addr) (H H' : Hp) : Prop := ∀ b o, b ≠ a → H b = some o → H' b = some o
theorem But.refl (a : Addr) (H : Hp) : But a H H := fun _ _ _ h => h
theorem But.trans {a : Addr} {H H1 H2 : Hp} (x : But a H H1) (y : But a H1 H2) : But a H H2 := fun b o n h => y b o n (x b o n h)
theorem But.of {a : Addr} {H H' : Hp} (s : Same H H') : But a H H' := fun b o _ h => s b o h
theorem But.upd {a : Addr} {H : Hp} {o : HO} : But a H (upd H a o) := fun b u n h => by rw [upd_ne n]; exact h
theorem same_upd {H : Hp} {p : Addr} {o : HO} (h : H p = none) : Same H (upd H p o) := fun b x e => by
  rw [upd_ne (ne_of_none e h)]
  exact e
theorem But.get {a b : Addr} {H H' : Hp} {o u : HO} (s : But a H H') (ha : H a = some u) (hb : H b = some o) (d : o ≠ u) : H' b = some o := s b o (ne_of hb ha d) hb
/-- an if whose both ways come to a value of which R holds, the heap as it was -/
theorem ifE {c : Prop} [Decidable c] {ta tb : TE} {σ : L2.St} {H : Hp} {Q : VK} (R : V → Prop) (h1 : c → ∃ v, R v ∧ ∀ Q' : VK, Q' v H → ta σ H Q') (h2 : ¬ c → ∃ v, R v ∧ ∀ Q' : VK, Q' v H → tb σ H Q')
    (h : ∀ v, R v → Q v H) : if c then ta σ H Q else tb σ H Q := by
  by_cases hc : c
  · rw [if_pos hc]
    obtain ⟨v, r, k⟩ := h1 hc
    exact k Q (h v r)
  · rw [if_neg hc]
    obtain ⟨v, r, k⟩ := h2 hc
    exact k Q (h v r)
/-- the drawer's box: its three numbers, drawn from at most n times -/
def Box (H : Hp) (a : Addr) (n : Nat) : Prop := ∃ b0 b1 b2 : Int, H a = some (.lst [.int b0, .int b1, .int b2]) ∧ 0 ≤ b0 ∧ 0 ≤ b1 ∧ b1 < 4611686018427387904 ∧ 0 ≤ b2 ∧ b2 ≤ n
theorem Box.same {H H' : Hp} {a : Addr} {n : Nat} (b : Box H a n) (s : Same H H') : Box H' a n := by
  obtain ⟨b0, b1, b2, h, r⟩ := b
  exact ⟨b0, b1, b2, s _ _ h, r⟩
theorem Box.le {H : Hp} {a : Addr} {n m : Nat} (b : Box H a n) (h : n ≤ m) : Box H a m := by
  obtain ⟨b0, b1, b2, e, h0, h1, h2, h3, h4⟩ := b
  exact ⟨b0, b1, b2, e, h0, h1, h2, h3, by omega⟩
section
variable {P : Program} {w : World} {K : PySem.W.Frag} {mg : Str → Option Value} {base : Heap} {f : Addr} {fd : FuncData}
/-! ### _law_take -/
abbrev sTake : Stmt := top 32
theorem scTake : FnScope ["_law_box", "_law_many", "_law_found", "_law_once", "_law_twice", "_law_wide"] ["_law_box", "_law_many"] (defScope sTake) := ⟨rfl, rfl, rfl, by decide +kernel, rfl, by decide +kernel, by decide +kernel⟩
def spTake : Sp := fun vs H Q _ => ∃ (a : Addr) (n : Nat) (m : Int), vs = [.ref a, .int m] ∧ Box H a n ∧ n ≤ 1000000 ∧ 0 < m ∧ m ≤ 100000 ∧
  ∀ r H', 0 ≤ r → r < m → But a H H' → Box H' a (n + 1) → Q (.int r) H'
theorem ok_take {k : Nat} (F : Fun K "_law_take" "_law_take" sTake f fd) (m_divmod : mg "divmod" = none) : FnOk P w K mg base CX0 (k + 1) f fd ["_law_box", "_law_many"] spTake := by
  have sc := scTake
  refine F.ok sc (fun vs H Q E h => ?_) (fun cdv A outer s H vs Q E hr h => ?_)
  · obtain ⟨a, n, m, rfl, _⟩ := h
    rfl
  obtain ⟨a, n, m, rfl, hB, hn, m0, m1, q⟩ := h
  refine ⟨_, (pss_cons (ps_if (pt_cmpR op_gt (pe_ix ix_list (pv 0) pe_int (fun _ _ => rfl)) pe_int (nomark _)) (pss_cons (ps_asg (pe_callB call_divmod (by rfl) m_divmod (by decide +kernel) (pa_cons (pe_ix ix_list (pv 0) pe_int (fun _ _ => rfl)) (pa_cons (pv 1) pa_nil))) (pg_tup (by rfl) (pgs_cons (pg_sub (pv 0) pe_int set_list) (pgs_cons (pg_name (i := 2) sc.nd rfl (.inl rfl)) pgs_nil))))
      (pss_one (ps_ret (pv 2)))) pss_nil)
      (pss_cons (ps_asg (pe_op op_add (pe_ix ix_list (pv 0) pe_int (fun _ _ => rfl)) pe_int) (pg_sub (pv 0) pe_int set_list))
      (pss_cons (ps_set (i := 3) sc.nd rfl (.inl rfl) (pe_op op_mod (pe_op op_pow (pe_op op_add (pe_ix ix_list (pv 0) pe_int (fun _ _ => rfl)) (pe_op op_mul pe_int (pe_ix ix_list (pv 0) pe_int (fun _ _ => rfl)))) pe_int) pe_int))
      (pss_cons (ps_set (i := 4) sc.nd rfl (.inl rfl) (pe_op op_mod (pe_op op_mul (pe_op op_add (pv 3) (pe_ix ix_list (pv 0) pe_int (fun _ _ => rfl))) (pe_op op_add (pe_op op_add (pe_op op_mod (pv 3) pe_int) pe_int) (pe_ix ix_list (pv 0) pe_int (fun _ _ => rfl)))) pe_int))
      (pss_cons (ps_set (i := 5) sc.nd rfl (.inl rfl) (pe_op op_mod (pe_op op_add (pe_op op_add (pe_op op_fdivW (pe_ix ix_list (pv 0) pe_int (fun _ _ => rfl)) pe_int) (pe_op op_mul (pv 4) pe_int)) (pe_ix ix_list (pv 0) pe_int (fun _ _ => rfl))) pe_int))
      (pss_one (ps_ret (pe_op op_mod (pe_op op_fdivW (pe_op op_mod (pe_op op_add (pe_op op_add (pe_op op_mul (pv 4) pe_int) (pe_op op_mul (pv 5) pe_int)) (pv 3)) pe_int) pe_int) (pv 1))))))))), ?_⟩
  obtain ⟨b0, b1, b2, e, h0, h1, h2, h3, h4⟩ := hB
  refine ⟨_, rfl, a, _, 0, .int b0, rfl, rfl, SqL.of e, rfl, b0, 0, rfl, rfl, _, rfl, ite2 (fun c => ?_) (fun c => ?_)⟩
  · have c' : (0 : Int) < b0 := of_decide_eq_true c
    refine ⟨_, rfl, a, _, 0, .int b0, rfl, rfl, SqL.of e, rfl, _, rfl, b0, m, rfl, ⟨m0, by omega⟩, fun p np => ?_⟩
    have e1 := same_upd (o := .tup [.int (b0 / m), .int (b0 % m)]) np a _ e
    have lt : b0 % m < m := Int.emod_lt_of_pos _ m0
    have ge : 0 ≤ b0 % m := Int.emod_nonneg _ (by omega)
    have dv : 0 ≤ b0 / m := Int.ediv_nonneg h0 (by omega)
    refine ⟨p, _, rfl, .inl (.inl upd_same), rfl, _, _, rfl, _, rfl, a, _, 0, 0, rfl, rfl, e1, rfl, _, _, rfl, rfl, _, rfl, ?_⟩
    refine q _ _ ge lt (fun b o nb ho => ?_) ⟨b0 / m, b1, b2, upd_same, dv, h1, h2, h3, by omega⟩
    rw [upd_ne nb]
    exact same_upd np b o ho
  · have eS := SqL.of (K := K) e
    refine ⟨_, rfl, a, _, 2, .int b2, rfl, rfl, eS, rfl, b2, 1, rfl, rfl, _, rfl, a, _, 2, 2, rfl, rfl, e, rfl, ?_⟩
    have e1 : (upd H a (.lst [.int b0, .int b1, .int (b2 + 1)])) a = some (.lst [.int b0, .int b1, .int (b2 + 1)]) := upd_same
    have eS := SqL.of (K := K) e1
    refine ⟨_, rfl, a, _, 1, .int b1, rfl, rfl, eS, rfl, _, rfl, a, _, 2, .int (b2 + 1), rfl, rfl, eS, rfl, 39373, b2 + 1, rfl, rfl, .inl ⟨by decide, by decide⟩,
      b1, _, rfl, rfl, b1 + 39373 * (b2 + 1), 3, rfl, rfl, ⟨by decide, by decide, by omega⟩, _, 2147483647, rfl, rfl, (show (0 : Int) < 2147483647 by decide), ?_⟩
    dsimp only
    generalize ho : (b1 + 39373 * (b2 + 1)) ^ (3 : Int).toNat % 2147483647 = once
    have o0 : 0 ≤ once := by rw [← ho]; exact Int.emod_nonneg _ (by decide)
    have o1 : once < 2147483647 := by rw [← ho]; exact Int.emod_lt_of_pos _ (by decide)
    have o2 : 0 ≤ once % 40009 := Int.emod_nonneg _ (by decide)
    have o3 : once % 40009 < 40009 := Int.emod_lt_of_pos _ (by decide)
    refine ⟨_, rfl, _, rfl, a, _, 2, .int (b2 + 1), rfl, rfl, eS, rfl, once, b2 + 1, rfl, rfl, _, rfl, once, 40009, rfl, rfl, (show (0 : Int) < 40009 by decide), once % 40009, 7, rfl, rfl,
      _, rfl, a, _, 2, .int (b2 + 1), rfl, rfl, eS, rfl, once % 40009 + 7, b2 + 1, rfl, rfl, _, _, rfl, rfl, .inl ⟨by omega, by omega⟩, _, 2147483629, rfl, rfl, (show (0 : Int) < 2147483629 by decide), ?_⟩
    dsimp only
    generalize ht : (once + (b2 + 1)) * (once % 40009 + 7 + (b2 + 1)) % 2147483629 = twice
    have t0 : 0 ≤ twice := by rw [← ht]; exact Int.emod_nonneg _ (by decide)
    have t1 : twice < 2147483629 := by rw [← ht]; exact Int.emod_lt_of_pos _ (by decide)
    refine ⟨_, rfl, a, _, 1, .int b1, rfl, rfl, eS, rfl, b1, 2147483647, rfl, rfl, wide_div (b := 31) (by decide) (by decide) (by decide) (by decide),
      _, rfl, twice, 40009, rfl, rfl, .inr ⟨by decide, by decide⟩, _, _, rfl, rfl, _, rfl, a, _, 2, .int (b2 + 1), rfl, rfl, eS, rfl, _, b2 + 1, rfl, rfl,
      _, 2305843009213693951, rfl, rfl, (show (0 : Int) < 2305843009213693951 by decide), ?_⟩
    dsimp only
    generalize hw : (b1 / 2147483647 + twice * 40009 + (b2 + 1)) % 2305843009213693951 = wide
    refine ⟨_, rfl, twice, 48271, rfl, rfl, .inr ⟨by decide, by decide⟩, _, rfl, wide, 39373, rfl, rfl, .inr ⟨by decide, by decide⟩, _, _, rfl, rfl,
      _, rfl, _, once, rfl, rfl, _, 2305843009213693921, rfl, rfl, (show (0 : Int) < 2305843009213693921 by decide), _, 64, rfl, rfl, wide_div (b := 7) (by decide) (by decide) (by decide) (by decide), _, rfl, _, m, rfl, rfl, m0, ?_⟩
    exact q _ _ (Int.emod_nonneg _ (by omega)) (Int.emod_lt_of_pos _ m0) But.upd ⟨b0, b1, b2 + 1, e1, h0, h1, h2, by omega, by omega⟩
end
end Fd

set_option Elab.async false
set_option linter.all false
set_option maxRecDepth 100000
set_option maxHeartbeats 2000000
namespace Fd
open PySem PySem.Spec PyProof.Rows L2
theorem bit_lo (b : Bool) : -(2 ^ 64) < (if b = true then (1 : Int) else 0) := by cases b <;> decide
theorem bit_hi (b : Bool) : (if b = true then (1 : Int) else 0) < 2 ^ 64 := by cases b <;> decide
theorem bit_nn (b : Bool) : 0 ≤ (if b = true then (1 : Int) else 0) := by cases b <;> decide
section
variable {P : Program} {w : World} {K : PySem.W.Frag} {mg : Str → Option Value} {base : Heap} {f : Addr} {fd : FuncData}
/-! ### _law_draws -/
abbrev sDraws : Stmt := top 31
theorem scDraws : FnScope ["_law_script", "_law_k", "_law_cell"] ["_law_script", "_law_k"] (defScope sDraws) := ⟨rfl, rfl, rfl, by decide +kernel, rfl, by decide +kernel, by decide +kernel⟩
def spDraws (K : PySem.W.Frag) : Sp := fun vs H Q _ => ∃ (a : Addr) (k : Nat) (ns : List Int), vs = [.ref a, .int k] ∧ SqL K H a (ns.map V.int) ∧ k < 100 ∧
  ∀ p H', Same H H' → H p = none → Box H' p 0 → Q (.ref p) H'
theorem ok_draws {k : Nat} (F : Fun K "_law_draws" "_law_draws" sDraws f fd) (m_len : mg "len" = none) (m_abs : mg "abs" = none) (m_int : mg "int" = none) :
    FnOk P w K mg base CX0 (k + 1) f fd ["_law_script", "_law_k"] (spDraws K) := by
  have sc := scDraws
  refine F.ok sc (fun vs H Q E h => ?_) (fun cdv A outer s H vs Q E hr h => ?_)
  · obtain ⟨a, n, m, rfl, _⟩ := h
    rfl
  obtain ⟨a, i, ns, rfl, hS, hi, q⟩ := h
  refine ⟨_, (pss_cons (ps_set (i := 2) sc.nd rfl (.inl rfl) (pe_ifExp (pt_cmpR op_lt (pv 1) (pe_callB call_len_seq (by rfl) m_len (by decide +kernel) (pa_cons (pv 0) pa_nil)) (nomark _)) (pe_ix ix_list (pv 0) (pv 1) (fun _ _ => rfl)) pe_int))
      (pss_one (ps_ret (pe_lst (pa_cons (pe_op op_mul (pe_callB call_abs (by rfl) m_abs (by decide +kernel) (pa_cons (pv 2) pa_nil)) (pe_callTy call_int1 (by rfl) m_int (by decide +kernel) (pa_cons (pe_cmpR op_ge (pe_callB call_abs (by rfl) m_abs (by decide +kernel) (pa_cons (pv 2) pa_nil)) (pe_op op_pow pe_int pe_int) (nomark _)) pa_nil))) (pa_cons (pe_op op_add (pe_op op_add (pe_op op_mod (pv 2) pe_int) (pe_op op_mul pe_int (pv 1))) pe_int) (pa_cons pe_int pa_nil))))))), ?_⟩
  refine ⟨_, rfl, _, rfl, a, _, rfl, .inl hS, i, _, rfl, rfl, _, rfl, ifE (fun v => ∃ cell : Int, v = .int cell) (fun c => ?_) (fun c => ⟨_, ⟨0, rfl⟩, fun Q' h => h⟩) ?_⟩
  · have c' : (i : Int) < ((ns.map V.int).length : Nat) := of_decide_eq_true c
    rw [List.length_map] at c'
    have hl : i < ns.length := by omega
    exact ⟨_, ⟨ns[i], rfl⟩, fun Q' h => ⟨_, rfl, _, rfl, a, _, i, .int ns[i], rfl, rfl, hS, atI_nat (by rw [List.getElem?_map, List.getElem?_eq_getElem hl]; rfl), h⟩⟩
  rintro _ ⟨cell, rfl⟩
  refine ⟨_, rfl, cell, rfl, _, rfl, cell, rfl, 10, 18, rfl, rfl, ⟨by decide, by decide, by decide⟩, _, _, rfl, rfl, .inr ⟨_, rfl, _, _, rfl, rfl, .inr ⟨bit_lo _, bit_hi _⟩, ?_⟩⟩
  refine ⟨_, rfl, cell, 2305843009213693951, rfl, rfl, (show (0 : Int) < 2305843009213693951 by decide), _, rfl, 1000003, i, rfl, rfl, .inl ⟨by decide, by decide⟩, _, _, rfl, rfl, _, 11, rfl, rfl, ?_⟩
  have z0 : 0 ≤ cell % 2305843009213693951 := Int.emod_nonneg _ (by decide)
  have z1 : cell % 2305843009213693951 < 2305843009213693951 := Int.emod_lt_of_pos _ (by decide)
  refine ⟨by show 3 ≤ sizeLine; decide, fun p np => q p _ (same_upd np) np ⟨_, _, _, upd_same, ?_, ?_, ?_, Int.le_refl 0, Int.le_refl 0⟩⟩
  · refine Int.mul_nonneg ?_ (bit_nn _)
    split <;> omega
  · show 0 ≤ cell % 2305843009213693951 + 1000003 * (i : Int) + 11
    omega
  · show cell % 2305843009213693951 + 1000003 * (i : Int) + 11 < 4611686018427387904
    omega
/-! ### _law_folded -/
abbrev sFolded : Stmt := top 30
theorem scFolded : FnScope ["_law_script", "_law_many", "_law_cells", "_law_k", "_law_cell"] ["_law_script", "_law_many"] (defScope sFolded) := ⟨rfl, rfl, rfl, by decide +kernel, rfl, by decide +kernel, by decide +kernel⟩
def spFolded (K : PySem.W.Frag) : Sp := fun vs H Q _ => ∃ (a : Addr) (m : Nat) (ns : List Int), vs = [.ref a, .int m] ∧ SqL K H a (ns.map V.int) ∧ ns.length ≤ 63 ∧ 0 < m ∧ m ≤ 10 ∧
  ∀ p ms H', Same H H' → H' p = some (.lst (ms.map V.int)) → ms ≠ [] → ms.length ≤ 10 → Q (.ref p) H'
theorem ixN_is {n j : Nat} (h : j < n) : ixN n (j : Int) = some j := by
  unfold ixN
  rw [if_pos (by omega), if_pos (by omega), Int.toNat_natCast]
theorem cut_to (xs : List V) (m : Nat) : cutV xs none (some (m : Int)) = xs.take m := by
  unfold cutV
  rw [HT.sIx_none, HT.sIx_nat, List.drop_zero, Nat.sub_zero]
  by_cases h : m ≤ xs.length
  · rw [Nat.min_eq_left h]
  · rw [Nat.min_eq_right (by omega), List.take_of_length_le (Nat.le_refl _), List.take_of_length_le (by omega)]
theorem cut_mid (xs : List V) (m n : Nat) : cutV xs (some (m : Int)) (some (n : Int)) = (xs.drop m).take (min n xs.length - min m xs.length) := by
  unfold cutV
  rw [HT.sIx_nat, HT.sIx_nat]
  by_cases h : m ≤ xs.length
  · rw [Nat.min_eq_left h]
  · rw [Nat.min_eq_right (by omega : xs.length ≤ m), List.drop_eq_nil_of_le (Nat.le_refl _), List.drop_eq_nil_of_le (by omega)]
theorem dpAll_ints {K : PySem.W.Frag} {H : Hp} : ∀ ms : List Int, DpAll K H (ms.map V.int) (ms.map PyData.int)
  | [] => .nil
  | m :: r => .cons (.int m) (dpAll_ints r)
theorem lay_ints : ∀ ms : List Int, PyData.canLayAll0 (ms.map PyData.int) = true
  | [] => rfl
  | m :: r => by show (true && PyData.canLayAll0 (r.map PyData.int)) = true; rw [lay_ints r]; rfl
theorem deep_ints : ∀ ms : List Int, PyData.depthAll (ms.map PyData.int) = 0
  | [] => rfl
  | m :: r => by show max 0 (PyData.depthAll (r.map PyData.int)) = 0; rw [deep_ints r]; rfl
theorem shaped_ints (ms : List Int) : SeqAt.shaped (.list (ms.map PyData.int)) = true := by
  unfold SeqAt.shaped
  rw [show (PyData.list (ms.map PyData.int)).canLay0 = PyData.canLayAll0 (ms.map PyData.int) from rfl, lay_ints,
    show (PyData.list (ms.map PyData.int)).depth = PyData.depthAll (ms.map PyData.int) + 1 from rfl, deep_ints]
  rfl
theorem ok_folded {k : Nat} (F : Fun K "_law_folded" "_law_folded" sFolded f fd) (m_list : mg "list" = none) (m_enumerate : mg "enumerate" = none) :
    FnOk P w K mg base CX0 (k + 1) f fd ["_law_script", "_law_many"] (spFolded K) := by
  have sc := scFolded
  refine F.ok sc (fun vs H Q E h => ?_) (fun cdv A outer s H vs Q E hr h => ?_)
  · obtain ⟨a, n, m, rfl, _⟩ := h
    rfl
  obtain ⟨a, m, ns, rfl, hS, hl, m0, m1, q⟩ := h
  refine ⟨_, (pss_cons (ps_set (i := 2) sc.nd rfl (.inl rfl) (pe_callTy call_list_of (by rfl) m_list (by decide +kernel) (pa_cons (pe_slice sl_list (pv 0) po_none (po_some (pv 1))) pa_nil)))
      (pss_cons (ps_for PassesOwn.never rfl (pi_enum (by rfl) m_enumerate (pa_cons (pe_slice sl_list (pv 0) (po_some (pv 1)) (po_some pe_int)) pa_nil)) (pg_tup (by rfl) (pgs_cons (pg_name (i := 3) sc.nd rfl (.inl rfl)) (pgs_cons (pg_name (i := 4) sc.nd rfl (.inl rfl)) pgs_nil))) (pss_one (ps_asg (pe_op op_add (pe_ix ix_list (pv 2) (pe_op op_mod (pv 3) (pv 1)) (fun _ _ => rfl)) (pe_op op_mul (pv 4) (pe_op op_add (pv 3) pe_int))) (pg_sub (pv 2) (pe_op op_mod (pv 3) (pv 1)) set_list))))
      (pss_one (ps_ret (pe_ifExp (pt_cmpR (op_neD hr.units) (pv 2) (pe_lst pa_nil) (nomark _)) (pv 2) (pe_lst (pa_cons pe_int pa_nil))))))), ?_⟩
  refine ⟨_, rfl, _, rfl, m, rfl, a, _, rfl, hS, fun c nc => ?_⟩
  rw [cut_to]
  refine ⟨c, _, rfl, .inl (SqL.of upd_same), fun p np => ?_⟩
  have s1 : Same H (upd H c (.lst ((ns.map V.int).take m))) := same_upd nc
  have s2 := s1.trans (same_upd (o := .lst ((ns.map V.int).take m)) np)
  refine ⟨_, rfl, _, rfl, m, rfl, 63, rfl, a, _, rfl, s2.seq hS, fun e ne => ?_⟩
  rw [show cutV (ns.map V.int) (some (m : Int)) (some 63) = _ from cut_mid _ m 63]
  generalize hy : ((ns.map V.int).drop m).take (min 63 (ns.map V.int).length - min m (ns.map V.int).length) = ys
  have yl : ys ≠ [] → m < ns.length := fun h => Nat.lt_of_not_le fun g => h (by rw [← hy, List.drop_eq_nil_of_le (by rw [List.length_map]; exact g), List.take_nil])
  have yv : ∀ (i : Nat) (v : V), ys[i]? = some v → ∃ z : Int, v = V.int z := fun i v h => by
    have hm : v ∈ ns.map V.int := by
      have h1 : v ∈ ys := List.mem_of_getElem? h
      rw [← hy] at h1
      exact List.mem_of_mem_drop (List.mem_of_mem_take h1)
    obtain ⟨z, _, e⟩ := List.mem_map.mp hm
    exact ⟨z, e.symm⟩
  have y63 : ys.length ≤ 63 := by
    rw [← hy, List.length_take]
    exact Nat.le_trans (Nat.min_le_left _ _) (by omega)
  have s3 := s2.trans (same_upd (o := .lst ys) ne)
  have np0 : H p = none := s1.free np
  have pe : p ≠ e := fun z => by rw [z] at ne; rw [upd_same] at ne; cases ne
  refine ⟨e, _, rfl, SqL.of upd_same, for_it (walk_enum (K := K) (a := e) (xs := ys)) (fun i σ H' => ∃ v3 v4, ∃ ms : List Int, σ = [some (.ref a), some (.int m), some (.ref p), v3, v4] ∧ Same H H' ∧
    H' e = some (.lst ys) ∧ H' p = some (.lst (ms.map V.int)) ∧ ms.length = min m ns.length) ?_ ?_ ?_ ?_⟩
  · refine ⟨none, none, ns.take m, rfl, s3, upd_same, ?_, List.length_take⟩
    rw [upd_ne pe, upd_same, List.map_take]
  · rintro i σ H' _ ⟨v3, v4, ms, rfl, sm, he, hp, hl⟩
    exact SqL.of he
  · rintro i v σ H1 H2 hi ⟨v3, v4, ms, rfl, sm, he, hp, hl⟩ ⟨T, x, y, rfl, nT, rfl, ex, ey⟩
    cases ex
    obtain ⟨z, rfl⟩ := yv i y ey
    have hm : m < ns.length := yl (fun h => by rw [h] at hi; exact absurd hi (Nat.not_lt_zero _))
    have im : i % m < ms.length := by rw [hl, Nat.min_eq_left (by omega)]; exact Nat.mod_lt _ m0
    have hpT : (upd H1 T (.tup [.int i, .int z])) p = some (.lst (ms.map V.int)) := same_upd nT _ _ hp
    have heT : (upd H1 T (.tup [.int i, .int z])) e = some (.lst ys) := same_upd nT _ _ he
    have at1 : atI (ms.map V.int) ((i : Int) % (m : Int)) = some (.int ms[i % m]) := atI_nat (j := i % m) (by rw [List.getElem?_map, List.getElem?_eq_getElem im]; rfl)
    have ix1 : ixN (ms.map V.int).length ((i : Int) % (m : Int)) = some (i % m) := ixN_is (j := i % m) (by rw [List.length_map]; exact im)
    refine ⟨T, _, rfl, .inl (.inl upd_same), rfl, _, _, rfl, _, _, rfl, rfl, ?_⟩
    refine ⟨_, rfl, _, rfl, _, rfl, i, m, rfl, rfl, (show (0 : Int) < m by omega), p, _, _, _, rfl, rfl, SqL.of hpT, at1, _, rfl, _, rfl, i, 2, rfl, rfl, z, _, rfl, rfl, .inr ⟨by show _ < (i : Int) + 2; omega, (by show (i : Int) + 2 < 2 ^ 64; omega)⟩, _, _, rfl, rfl, ?_⟩
    refine ⟨_, rfl, _, rfl, _, rfl, i, m, rfl, rfl, (show (0 : Int) < m by omega), p, _, _, _, rfl, rfl, hpT, ix1, ?_⟩
    refine ⟨_, _, ms.set (i % m) (ms[i % m] + z * ((i : Int) + 2)), rfl, fun b o h => ?_, ?_, ?_, by rw [List.length_set]; exact hl⟩
    · rw [upd_ne (ne_of_none h np0)]
      exact same_upd nT _ _ (sm _ _ h)
    · rw [upd_ne pe.symm]; exact heT
    · rw [upd_same, List.map_set]
  · rintro σ H' ⟨v3, v4, ms, rfl, sm, he, hp, hl⟩
    refine ⟨_, rfl, by show 0 ≤ sizeLine; decide, fun t nt => ?_⟩
    have ht := same_upd (o := .lst []) nt
    refine ⟨.list (ms.map PyData.int), .list [], .lst (SqL.of (ht _ _ hp)) (dpAll_ints ms), .lst (SqL.of upd_same) .nil, shaped_ints ms, by decide, _, rfl, ?_⟩
    cases ms with
    | nil =>
      refine iteF ⟨by show 1 ≤ sizeLine; decide, fun u nu => q u [0] _ (sm.trans (ht.trans (same_upd nu))) upd_same (by simp) (by decide)⟩
    | cons x r =>
      refine iteT ⟨_, rfl, q p _ _ (sm.trans ht) (ht _ _ hp) (by simp) ?_⟩
      rw [hl]
      omega
end
end Fd

set_option Elab.async false
set_option linter.all false
set_option maxRecDepth 100000
set_option maxHeartbeats 2000000
namespace Fd
open PySem PySem.Spec PyProof.Rows L2 RZ
theorem seqT {K : PySem.W.Frag} {H H' : Hp} {a : Addr} {xs : List V} (e : Same H H') (h : SqT K H a xs) : SqT K H' a xs := by
  rcases h with (h | ⟨o, h⟩) | h
  · exact .inl (.inl (e _ _ h))
  · exact .inl (.inr ⟨o, e _ _ h⟩)
  · exact .inr h
mutual
theorem dp_same {K : PySem.W.Frag} {H H' : Hp} (s : Same H H') : ∀ (d : PyData) (v : V), Dp K H v d → Dp K H' v d
  | .none, _, h => by cases h; exact .non
  | .bool b, _, h => by cases h; exact .bl b
  | .int i, _, h => by cases h; exact .int i
  | .str x, _, h => by cases h; exact .str x
  | .list ds, _, h => by cases h with | lst q r => exact .lst (s.seq q) (dpAll_same s ds _ r)
  | .tuple ds, _, h => by cases h with | tup q r => exact .tup (seqT s q) (dpAll_same s ds _ r)
  | .dict _, _, h => by cases h
theorem dpAll_same {K : PySem.W.Frag} {H H' : Hp} (s : Same H H') : ∀ (ds : List PyData) (vs : List V), DpAll K H vs ds → DpAll K H' vs ds
  | [], _, h => by cases h; exact .nil
  | d :: ds, _, h => by cases h with | cons q r => exact .cons (dp_same s d _ q) (dpAll_same s ds _ r)
end
theorem dpAll_len {K : PySem.W.Frag} {H : Hp} : ∀ {ds : List PyData} {vs : List V}, DpAll K H vs ds → vs.length = ds.length
  | [], _, h => by cases h; rfl
  | d :: ds, _, h => by cases h with | cons q r => rw [List.length_cons, List.length_cons, dpAll_len r]
theorem dpAll_at {K : PySem.W.Frag} {H : Hp} : ∀ {ds : List PyData} {vs : List V} {i : Nat} {v : V}, DpAll K H vs ds → vs[i]? = some v → ∃ d, ds[i]? = some d ∧ Dp K H v d
  | [], _, i, v, h, e => by cases h; simp at e
  | d :: ds, _, 0, v, h, e => by cases h with | cons q r => cases (Option.some.inj e); exact ⟨d, rfl, q⟩
  | d :: ds, _, i + 1, v, h, e => by cases h with | cons q r => exact dpAll_at (i := i) r e
/-- data without dicts, less than n deep, lists of at most 1000 -/
def OkD : Nat → PyData → Prop
  | 0, _ => False
  | _ + 1, .none => True
  | _ + 1, .bool _ => True
  | _ + 1, .int _ => True
  | _ + 1, .str _ => True
  | n + 1, .list ds => ds.length ≤ 1000 ∧ ∀ d ∈ ds, OkD n d
  | n + 1, .tuple ds => ds.length ≤ 1000 ∧ ∀ d ∈ ds, OkD n d
  | _ + 1, .dict _ => False
theorem qd {Q : VK} {H : Hp} {x : V} (h : Q (.bl true) H) : Q (.bl (decide (x = x))) H := by
  rw [decide_eq_true rfl]
  exact h
theorem all_rep : ∀ n : Nat, (List.replicate n true).all id = true
  | 0 => rfl
  | n + 1 => by rw [List.replicate_succ, List.all_cons, all_rep n]; rfl
theorem ty_lst {K : PySem.W.Frag} {H : Hp} {a : Addr} {xs : List V} (h : SqL K H a xs) : TyX K H (.ref a) (.type "list") := by
  rcases h with (h | ⟨o, h⟩) | ⟨o, _, _, h, c, _⟩
  · exact .base (.lst h)
  · exact .base (.frz h)
  · exact .kList h c
theorem ty_tup {K : PySem.W.Frag} {H : Hp} {a : Addr} {xs : List V} (h : SqT K H a xs) : TyX K H (.ref a) (.type "tuple") := by
  rcases h with (h | ⟨o, h⟩) | ⟨o, _, _, h, c, _⟩
  · exact .base (.tup h)
  · exact .fTuple h
  · exact .kTuple h c
theorem kitLT {K : PySem.W.Frag} {t : String} {b1 b2 : Bool} (h1 : kitB t "list" = some b1) (h2 : kitB t "tuple" = some b2) : PySem.W.kitAny K (.type t) [.type "list", .type "tuple"] = some (b1 || b2) := by
  cases b1 with
  | true => exact kitAny_cons (kit_ty h1) (fun z => nomatch z) (fun _ => rfl)
  | false =>
    refine kitAny_cons (kit_ty h1) (fun _ => ?_) (fun z => nomatch z)
    cases b2 with
    | true => exact kitAny_cons (kit_ty h2) (fun z => nomatch z) (fun _ => rfl)
    | false => exact kitAny_cons (kit_ty h2) (fun _ => rfl) (fun z => nomatch z)
theorem walk_zipT {K : PySem.W.Frag} {a b : Addr} {xs ys : List V} {n : Nat} (hn : n = min xs.length ys.length) : Walk (ItzT K a b) n (fun H => SqT K H a xs ∧ SqT K H b ys) (YPair (fun i => xs[i]?) (fun i => ys[i]?)) := by
  subst hn
  refine ⟨fun i _ hi q => ⟨xs, ys, xs[i]'(by omega), ys[i]'(by omega), q.1, q.2, List.getElem?_eq_getElem _, List.getElem?_eq_getElem _⟩, fun _ q => ⟨xs, ys, q.1, q.2, by omega⟩, fun i H v H' _ q y => ?_⟩
  obtain ⟨T, x, z, g1, g2, g3, g4, g5⟩ := y
  exact ⟨T, x, z, g1, g2, g3, g4 xs q.1, g5 ys q.2⟩
section
variable {P : Program} {w : World} {K : PySem.W.Frag} {mg : Str → Option Value} {base : Heap} {f : Addr} {fd : FuncData}
/-! ### _law_same, of equal things -/
abbrev sSame : Stmt := top 33
theorem scSame : FnScope ["_law_found", "_law_due", "_law_one", "_law_two"] ["_law_found", "_law_due"] (defScope sSame) := ⟨rfl, rfl, rfl, by decide +kernel, rfl, by decide +kernel, by decide +kernel⟩
def spSame (K : PySem.W.Frag) (n : Nat) : Sp := fun vs H Q _ => ∃ (x y : V) (d : PyData), vs = [x, y] ∧ Dp K H x d ∧ Dp K H y d ∧ OkD n d ∧ ∀ H', Same H H' → Q (.bl true) H'
structure SameB (mg : Str → Option Value) : Prop where
  m_isinstance : mg "isinstance" = none
  m_list : mg "list" = none
  m_tuple : mg "tuple" = none
  m_len : mg "len" = none
  m_all : mg "all" = none
  m_zip : mg "zip" = none
  m_str : mg "str" = none
  m_int : mg "int" = none
  m_bool : mg "bool" = none
theorem ok_same1 {n : Nat} (F : Fun K "_law_same" "_law_same" sSame f fd) (B : SameB mg) (G : FnG P w K mg base CX0 n "_law_same" ["_law_found", "_law_due"] (spSame K n)) :
    FnOk P w K mg base CX0 (n + 1) f fd ["_law_found", "_law_due"] (spSame K (n + 1)) := by
  obtain ⟨_, _, G__law_same, m__law_same, k__law_same, b__law_same⟩ := G
  obtain ⟨m_isinstance, m_list, m_tuple, m_len, m_all, m_zip, m_str, m_int, m_bool⟩ := B
  have sc := scSame
  refine F.ok sc (fun vs H Q E h => ?_) (fun cdv A outer s H vs Q E hr h => ?_)
  · obtain ⟨a, n, m, rfl, _⟩ := h
    rfl
  obtain ⟨x, y, d, rfl, hx, hy, ok, q⟩ := h
  refine ⟨_, (pss_cons (ps_if (pt_val (pe_callB call_isiT (by rfl) m_isinstance (by decide +kernel) (pa_cons (pv 1) (pa_cons (pe_tup (pa_cons (pe_bltn (v := .ty "list") (by rfl) m_list (by decide +kernel) rfl) (pa_cons (pe_bltn (v := .ty "tuple") (by rfl) m_tuple (by decide +kernel) rfl) pa_nil))) pa_nil)))) (pss_cons (ps_if (PW.pt (pw_or (pt_cmpR op_ne (pe_callB call_isi (by rfl) m_isinstance (by decide +kernel) (pa_cons (pv 0) (pa_cons (pe_bltn (v := .ty "list") (by rfl) m_list (by decide +kernel) rfl) pa_nil))) (pe_callB call_isi (by rfl) m_isinstance (by decide +kernel) (pa_cons (pv 1) (pa_cons (pe_bltn (v := .ty "list") (by rfl) m_list (by decide +kernel) rfl) pa_nil))) (nomark _)) (pw_or1 (pt_cmpR op_ne (pe_callB call_isi (by rfl) m_isinstance (by decide +kernel) (pa_cons (pv 0) (pa_cons (pe_bltn (v := .ty "tuple") (by rfl) m_tuple (by decide +kernel) rfl) pa_nil))) (pe_callB call_isi (by rfl) m_isinstance (by decide +kernel) (pa_cons (pv 1) (pa_cons (pe_bltn (v := .ty "tuple") (by rfl) m_tuple (by decide +kernel) rfl) pa_nil))) (nomark _))))) (pss_one (ps_ret pe_bl)) pss_nil)
      (pss_one (ps_ret (pe_and (pe_cmpR op_eq (pe_callB call_len_seq (by rfl) m_len (by decide +kernel) (pa_cons (pv 0) pa_nil)) (pe_callB call_len_seq (by rfl) m_len (by decide +kernel) (pa_cons (pv 1) pa_nil)) (nomark _)) (pe_one (pe_callB (cr_all rfl) (by rfl) m_all (by decide +kernel) (pa_cons (pe_lc (own := [("_law_one", 2), ("_law_two", 3)]) (g := gTup K 2 (gCons (gName 2) (gCons (gName 3) gNil))) (by rfl) sc.nd  (pi_zipA (by rfl) m_zip (pa_cons (pv 0) (pa_cons (pv 1) pa_nil))) (blkOk_by (own := [("_law_one", 2), ("_law_two", 3)]) (N := ["_law_found", "_law_due", "_law_one", "_law_two"]) (sc := defScope sSame) (by decide +kernel)) (fun _ _ _ _ _ => (pg_tup (by rfl) (pgs_cons (pg_name (i := 2) sc.nd rfl (.inl rfl)) (pgs_cons (pg_name (i := 3) sc.nd rfl (.inl rfl)) pgs_nil)))) (fun _ _ _ _ _ => pts_nil) (fun _ _ _ _ _ => (pe_call G__law_same (hr.mono (by omega)) (by rfl) m__law_same k__law_same b__law_same .nil pass0 (pa_cons (pv 2) (pa_cons (pv 3) pa_nil))))) pa_nil))))))) pss_nil)
      (pss_cons (ps_if (PW.pt (pw_or (pt_cmpR op_isN (pv 1) pe_non (nomark _)) (pw_or1 (pt_val (pe_callB call_isi (by rfl) m_isinstance (by decide +kernel) (pa_cons (pv 1) (pa_cons (pe_bltn (v := .ty "str") (by rfl) m_str (by decide +kernel) rfl) pa_nil))))))) (pss_one (ps_ret (pe_and (pe_cmpR op_eq (pe_callB call_isi (by rfl) m_isinstance (by decide +kernel) (pa_cons (pv 0) (pa_cons (pe_bltn (v := .ty "str") (by rfl) m_str (by decide +kernel) rfl) pa_nil))) (pe_callB call_isi (by rfl) m_isinstance (by decide +kernel) (pa_cons (pv 1) (pa_cons (pe_bltn (v := .ty "str") (by rfl) m_str (by decide +kernel) rfl) pa_nil))) (nomark _)) (pe_one (pe_cmpR op_eq (pv 0) (pv 1) (nomark _)))))) pss_nil)
      (pss_one (ps_ret (pe_and (pe_callB call_isi (by rfl) m_isinstance (by decide +kernel) (pa_cons (pv 0) (pa_cons (pe_bltn (v := .ty "int") (by rfl) m_int (by decide +kernel) rfl) pa_nil))) (pe_and (pe_cmpR op_eq (pe_callB call_isi (by rfl) m_isinstance (by decide +kernel) (pa_cons (pv 0) (pa_cons (pe_bltn (v := .ty "bool") (by rfl) m_bool (by decide +kernel) rfl) pa_nil))) (pe_callB call_isi (by rfl) m_isinstance (by decide +kernel) (pa_cons (pv 1) (pa_cons (pe_bltn (v := .ty "bool") (by rfl) m_bool (by decide +kernel) rfl) pa_nil))) (nomark _)) (pe_one (pe_cmpR op_eq (pv 0) (pv 1) (nomark _))))))))), ?_⟩
  refine ⟨_, rfl, by show 2 ≤ sizeLine; decide, fun p np => ?_⟩
  have s1 : Same H (upd H p (.tup [.ty "list", .ty "tuple"])) := same_upd np
  cases d with
  | none =>
    cases hx; cases hy
    refine ⟨_, p, _, .type "NoneType", _, false, rfl, upd_same, .cons (.ty _) (.cons (.ty _) .nil), .base .non, kitLT (b1 := false) (b2 := false) (by decide +kernel) (by decide +kernel), _, rfl, iteF ?_⟩
    refine ⟨_, rfl, rfl, _, rfl, iteT (iteT ?_)⟩
    exact ⟨_, rfl, _, _, .type "NoneType", _, false, rfl, .ty _, .base .non, kit_ty (by decide +kernel), _, rfl, _, _, .type "NoneType", _, false, rfl, .ty _, .base .non, kit_ty (by decide +kernel), rfl, _, rfl,
      iteT ⟨_, rfl, _, rfl, rfl, q _ s1⟩⟩
  | str z =>
    cases hx; cases hy
    refine ⟨_, p, _, .type "str", _, false, rfl, upd_same, .cons (.ty _) (.cons (.ty _) .nil), .base (.str z), kitLT (b1 := false) (b2 := false) (by decide +kernel) (by decide +kernel), _, rfl, iteF ?_⟩
    refine ⟨_, rfl, rfl, _, rfl, iteF ⟨_, rfl, _, _, .type "str", _, true, rfl, .ty _, .base (.str z), kit_ty (by decide +kernel), _, rfl, iteT ?_⟩⟩
    exact ⟨_, rfl, _, _, .type "str", _, true, rfl, .ty _, .base (.str z), kit_ty (by decide +kernel), _, rfl, _, _, .type "str", _, true, rfl, .ty _, .base (.str z), kit_ty (by decide +kernel), rfl, _, rfl,
      iteT ⟨_, rfl, _, rfl, rfl, qd (q _ s1)⟩⟩
  | int z =>
    cases hx; cases hy
    refine ⟨_, p, _, .type "int", _, false, rfl, upd_same, .cons (.ty _) (.cons (.ty _) .nil), .base (.int z), kitLT (b1 := false) (b2 := false) (by decide +kernel) (by decide +kernel), _, rfl, iteF ?_⟩
    refine ⟨_, rfl, rfl, _, rfl, iteF ⟨_, rfl, _, _, .type "int", _, false, rfl, .ty _, .base (.int z), kit_ty (by decide +kernel), _, rfl, iteF ?_⟩⟩
    exact ⟨_, rfl, _, _, .type "int", _, true, rfl, .ty _, .base (.int z), kit_ty (by decide +kernel), _, rfl, iteT ⟨_, rfl, _, _, .type "int", _, false, rfl, .ty _, .base (.int z), kit_ty (by decide +kernel),
      _, rfl, _, _, .type "int", _, false, rfl, .ty _, .base (.int z), kit_ty (by decide +kernel), rfl, _, rfl, iteT ⟨_, rfl, _, rfl, rfl, qd (q _ s1)⟩⟩⟩
  | bool z =>
    cases hx; cases hy
    refine ⟨_, p, _, .type "bool", _, false, rfl, upd_same, .cons (.ty _) (.cons (.ty _) .nil), .base (.bl z), kitLT (b1 := false) (b2 := false) (by decide +kernel) (by decide +kernel), _, rfl, iteF ?_⟩
    refine ⟨_, rfl, rfl, _, rfl, iteF ⟨_, rfl, _, _, .type "bool", _, false, rfl, .ty _, .base (.bl z), kit_ty (by decide +kernel), _, rfl, iteF ?_⟩⟩
    exact ⟨_, rfl, _, _, .type "bool", _, true, rfl, .ty _, .base (.bl z), kit_ty (by decide +kernel), _, rfl, iteT ⟨_, rfl, _, _, .type "bool", _, true, rfl, .ty _, .base (.bl z), kit_ty (by decide +kernel),
      _, rfl, _, _, .type "bool", _, true, rfl, .ty _, .base (.bl z), kit_ty (by decide +kernel), rfl, _, rfl, iteT ⟨_, rfl, _, rfl, rfl, qd (q _ s1)⟩⟩⟩
  | dict _ => exact ok.elim
  | list ds =>
    obtain ⟨w1, w2⟩ := (show ds.length ≤ 1000 ∧ ∀ d ∈ ds, OkD n d from ok)
    cases hx with | @lst a xs _ ha ax =>
    cases hy with | @lst b ys _ hb by_ =>
    have ha1 := s1.seq ha
    have hb1 := s1.seq hb
    have le : xs.length = ys.length := (dpAll_len ax).trans (dpAll_len by_).symm
    refine ⟨_, p, _, .type "list", _, true, rfl, upd_same, .cons (.ty _) (.cons (.ty _) .nil), ty_lst hb1, kitLT (b1 := true) (b2 := false) (by decide +kernel) (by decide +kernel), _, rfl, iteT ?_⟩
    refine ⟨_, rfl, _, _, .type "list", _, true, rfl, .ty _, ty_lst ha1, kit_ty (by decide +kernel), _, rfl, _, _, .type "list", _, true, rfl, .ty _, ty_lst hb1, kit_ty (by decide +kernel), rfl, _, rfl, iteF
      ⟨_, rfl, _, _, .type "list", _, false, rfl, .ty _, ty_lst ha1, kit_ty (by decide +kernel), _, rfl, _, _, .type "list", _, false, rfl, .ty _, ty_lst hb1, kit_ty (by decide +kernel), rfl, _, rfl, iteF ?_⟩⟩
    refine ⟨_, rfl, a, _, rfl, .inl ha1, _, rfl, b, _, rfl, .inl hb1, rfl, true, congrArg V.bl (decide_eq_true (by rw [le])), iteT ?_⟩
    refine ⟨_, rfl, _, rfl, a, b, xs, ys, rfl, .inl ⟨ha1, hb1, fun D nD => lc_it (walk_zip (xs := xs) (ys := ys) rfl) (fun i H' => Same (upd H p (.tup [.ty "list", .ty "tuple"])) H' ∧ H' D = some (.lst (List.replicate i (.bl true)))) ⟨same_upd nD, upd_same⟩
      (fun i H' _ h => ⟨h.1.seq ha1, h.1.seq hb1⟩) ?_ ?_⟩⟩
    · rintro i v H1 H2 hi ⟨sm, hD⟩ ⟨T, x, y, rfl, nT, rfl, ex, ey⟩
      obtain ⟨d, ed, dx⟩ := dpAll_at (dpAll_same (s1.trans sm) ds xs ax) ex
      obtain ⟨d', ed', dy⟩ := dpAll_at (dpAll_same (s1.trans sm) ds ys by_) ey
      obtain rfl : d = d' := Option.some.inj (ed.symm.trans ed')
      have sT := same_upd (o := .tup [x, y]) nT
      refine ⟨T, _, rfl, .inl (.inl upd_same), rfl, _, _, rfl, _, _, rfl, rfl, rfl, ?_⟩
      unfold tYes
      refine iteT ?_
      refine ⟨_, rfl, _, rfl, x, y, d, rfl, dp_same sT _ _ dx, dp_same sT _ _ dy, w2 d (List.mem_of_getElem? ed), fun H3 s3 => ⟨_, s3 _ _ (sT _ _ hD), ?_, ?_, ?_⟩⟩
      · rw [List.length_replicate]
        exact small1000 (by have := dpAll_len ax; omega)
      · intro b' o' h'
        have nb : b' ≠ D := fun z => by rw [z, nD] at h'; cases h'
        rw [upd_ne nb]
        exact s3 _ _ (sT _ _ (sm _ _ h'))
      · rw [upd_same, List.replicate_succ']
    · rintro H1 ⟨sm, hD⟩
      refine ⟨D, List.replicate (min xs.length ys.length) true, rfl, SqL.of (by rw [hD, List.map_replicate]), ?_⟩
      rw [all_rep]
      exact q _ (s1.trans sm)
  | tuple ds =>
    obtain ⟨w1, w2⟩ := (show ds.length ≤ 1000 ∧ ∀ d ∈ ds, OkD n d from ok)
    cases hx with | @tup a xs _ ha ax =>
    cases hy with | @tup b ys _ hb by_ =>
    have ha1 := seqT s1 ha
    have hb1 := seqT s1 hb
    have le : xs.length = ys.length := (dpAll_len ax).trans (dpAll_len by_).symm
    refine ⟨_, p, _, .type "tuple", _, true, rfl, upd_same, .cons (.ty _) (.cons (.ty _) .nil), ty_tup hb1, kitLT (b1 := false) (b2 := true) (by decide +kernel) (by decide +kernel), _, rfl, iteT ?_⟩
    refine ⟨_, rfl, _, _, .type "tuple", _, false, rfl, .ty _, ty_tup ha1, kit_ty (by decide +kernel), _, rfl, _, _, .type "tuple", _, false, rfl, .ty _, ty_tup hb1, kit_ty (by decide +kernel), rfl, _, rfl, iteF
      ⟨_, rfl, _, _, .type "tuple", _, true, rfl, .ty _, ty_tup ha1, kit_ty (by decide +kernel), _, rfl, _, _, .type "tuple", _, true, rfl, .ty _, ty_tup hb1, kit_ty (by decide +kernel), rfl, _, rfl, iteF ?_⟩⟩
    refine ⟨_, rfl, a, _, rfl, .inr ha1, _, rfl, b, _, rfl, .inr hb1, rfl, true, congrArg V.bl (decide_eq_true (by rw [le])), iteT ?_⟩
    refine ⟨_, rfl, _, rfl, a, b, xs, ys, rfl, .inr ⟨ha1, hb1, fun D nD => lc_it (walk_zipT (xs := xs) (ys := ys) rfl) (fun i H' => Same (upd H p (.tup [.ty "list", .ty "tuple"])) H' ∧ H' D = some (.lst (List.replicate i (.bl true)))) ⟨same_upd nD, upd_same⟩
      (fun i H' _ h => ⟨seqT h.1 ha1, seqT h.1 hb1⟩) ?_ ?_⟩⟩
    · rintro i v H1 H2 hi ⟨sm, hD⟩ ⟨T, x, y, rfl, nT, rfl, ex, ey⟩
      obtain ⟨d, ed, dx⟩ := dpAll_at (dpAll_same (s1.trans sm) ds xs ax) ex
      obtain ⟨d', ed', dy⟩ := dpAll_at (dpAll_same (s1.trans sm) ds ys by_) ey
      obtain rfl : d = d' := Option.some.inj (ed.symm.trans ed')
      have sT := same_upd (o := .tup [x, y]) nT
      refine ⟨T, _, rfl, .inl (.inl upd_same), rfl, _, _, rfl, _, _, rfl, rfl, rfl, ?_⟩
      unfold tYes
      refine iteT ?_
      refine ⟨_, rfl, _, rfl, x, y, d, rfl, dp_same sT _ _ dx, dp_same sT _ _ dy, w2 d (List.mem_of_getElem? ed), fun H3 s3 => ⟨_, s3 _ _ (sT _ _ hD), ?_, ?_, ?_⟩⟩
      · rw [List.length_replicate]
        exact small1000 (by have := dpAll_len ax; omega)
      · intro b' o' h'
        have nb : b' ≠ D := fun z => by rw [z, nD] at h'; cases h'
        rw [upd_ne nb]
        exact s3 _ _ (sT _ _ (sm _ _ h'))
      · rw [upd_same, List.replicate_succ']
    · rintro H1 ⟨sm, hD⟩
      refine ⟨D, List.replicate (min xs.length ys.length) true, rfl, SqL.of (by rw [hD, List.map_replicate]), ?_⟩
      rw [all_rep]
      exact q _ (s1.trans sm)
theorem ok_same (F : Fun K "_law_same" "_law_same" sSame f fd) (B : SameB mg) (m : mg "_law_same" = some (.ref f)) (b : Binds K fd ["_law_found", "_law_due"] []) :
    ∀ n, FnOk P w K mg base CX0 n f fd ["_law_found", "_law_due"] (spSame K n)
  | 0 => ⟨fun vs H Q E h => by obtain ⟨_, _, d, _, _, _, ok, _⟩ := h; exact ok.elim, fun A outer s H args us vs Q E _ _ _ _ h => by obtain ⟨_, _, d, _, _, _, ok, _⟩ := h; exact ok.elim⟩
  | n + 1 => ok_same1 F B ⟨f, fd, ok_same F B m b n, m, F.kp, b⟩
end
end Fd

set_option Elab.async false
set_option linter.all false
set_option maxRecDepth 100000
set_option maxHeartbeats 2000000
namespace Fd
open PySem PySem.Spec PyProof.Rows L2
section
variable {X : Cx}
/-- text * number -/
theorem op_mul_str : OpR X (binaryOp .Mult) (fun x y H Q => ∃ z n, x = .str z ∧ y = .int n ∧ MulOk z n ∧ Q (.str (Txt.mul z n)) H) := by
  intro pins s σ H x y v u Q I rx ry h
  obtain ⟨z, n, rfl, rfl, hz, q⟩ := h
  obtain ⟨t, rfl⟩ := rx
  obtain ⟨t', rfl⟩ := ry
  exact SB.mul hz fun t' tk => ⟨.str (Txt.mul z n), H, I.tok _, ⟨_, rfl⟩, q⟩
end
/-! ### words -/
/-- one to eight letters a to z -/
def IsNm (z : Str) : Prop := 1 ≤ z.cps.size ∧ z.cps.size ≤ 8 ∧ ∀ c ∈ z.cps.toList, 97 ≤ c ∧ c ≤ 122
abbrev ltrs : Str := Str.ofString "abcdefghijklmnoprstuvwxyz"
theorem ltrs_len : ltrs.cps.toList.length = 25 := by decide +kernel
theorem ltrs_all : ∀ c ∈ ltrs.cps.toList, 97 ≤ c ∧ c ≤ 122 := by decide +kernel
theorem ltrs_nodup : ltrs.cps.toList.Nodup := by decide +kernel
def ltr (i : Nat) : Nat := ltrs.cps.toList.getD i 0
theorem ltr_at {i : Nat} (h : i < 25) : ltrs.cps.toList[i]? = some (ltr i) := by
  have h' : i < ltrs.cps.toList.length := by rw [ltrs_len]; exact h
  unfold ltr
  rw [List.getD_eq_getElem?_getD, List.getElem?_eq_getElem h']
  rfl
theorem ltr_ok {i : Nat} (h : i < 25) : 97 ≤ ltr i ∧ ltr i ≤ 122 := ltrs_all _ (List.mem_of_getElem? (ltr_at h))
theorem ltr_inj {i j : Nat} (hi : i < 25) (hj : j < 25) (e : ltr i = ltr j) : i = j := nd_ix ltrs_nodup (ltr_at hi) (by rw [e]; exact ltr_at hj)
theorem ltr_atI {i : Int} (h0 : 0 ≤ i) (h : i < 25) : atI ltrs.cps.toList i = some (ltr i.toNat) := by
  have e : i = ((i.toNat : Nat) : Int) := by omega
  rw [e]
  exact atI_nat (by rw [Int.toNat_natCast]; exact ltr_at (by omega))
theorem ltrs_fit : ltrs.length ≤ sizeLine := by decide +kernel
theorem nodup_of {α : Type} {f : Nat → α} {m : Nat} (h : ∀ i j, i < j → j < m → f i ≠ f j) : ((List.range m).map f).Nodup := by
  refine List.pairwise_iff_getElem.mpr fun i j hi hj hij => ?_
  rw [List.length_map, List.length_range] at hi hj
  rw [List.getElem_map, List.getElem_map, List.getElem_range, List.getElem_range]
  exact h i j hij hj
/-- the k-th word of one letter told k + 1 times -/
def rep (c : Nat) (k : Nat) : Str := Txt.mul ⟨#[c]⟩ ((k : Int) + 1)
theorem fold_app (c : Nat) : ∀ (n : Nat) (acc : Array Nat), ((List.replicate n (#[c] : Array Nat)).foldl (· ++ ·) acc).toList = acc.toList ++ List.replicate n c
  | 0, acc => by simp
  | n + 1, acc => by
    rw [List.replicate_succ, List.foldl_cons, fold_app c n, Array.toList_append, List.replicate_succ, List.append_assoc]
    rfl
theorem rep_codes (c k : Nat) : (rep c k).cps.toList = List.replicate (k + 1) c := by
  unfold rep Txt.mul
  rw [if_neg (by omega)]
  by_cases h : k = 0
  · subst h
    rfl
  · have e : (((k : Int) + 1 == 1) || ((⟨#[c]⟩ : Str).length == 0)) = false := by
      rw [show ((k : Int) + 1 == 1) = false from beq_eq_false_iff_ne.mpr (by omega)]
      rfl
    rw [e, if_neg Bool.false_ne_true, show ((k : Int) + 1).toNat = k + 1 by omega]
    exact (fold_app c (k + 1) #[]).trans (List.nil_append _)
theorem rep_ok {c k : Nat} (hk : k < 7) : MulOk ⟨#[c]⟩ ((k : Int) + 1) := by
  refine ⟨?_, fun _ _ => ?_, fun _ _ => ?_⟩
  · rw [decide_eq_false (by omega), decide_eq_false (by omega)]
    rfl
  · show ¬ ((1 : Int) > (2 ^ 63 - 1) / ((k : Int) + 1))
    have : k = 0 ∨ k = 1 ∨ k = 2 ∨ k = 3 ∨ k = 4 ∨ k = 5 ∨ k = 6 := by omega
    rcases this with rfl | rfl | rfl | rfl | rfl | rfl | rfl <;> decide
  · rw [show (⟨#[c]⟩ : Str).length * ((k : Int) + 1).toNat = k + 1 by show 1 * _ = _; omega]
    have : k = 0 ∨ k = 1 ∨ k = 2 ∨ k = 3 ∨ k = 4 ∨ k = 5 ∨ k = 6 := by omega
    rcases this with rfl | rfl | rfl | rfl | rfl | rfl | rfl <;> decide +kernel
theorem rep_nm {c k : Nat} (hc : 97 ≤ c ∧ c ≤ 122) (hk : k < 7) : IsNm (rep c k) := by
  have l : (rep c k).cps.size = k + 1 := by rw [← Array.length_toList, rep_codes, List.length_replicate]
  refine ⟨by omega, by omega, fun x hx => ?_⟩
  rw [rep_codes] at hx
  rw [List.eq_of_mem_replicate hx]
  exact hc
theorem rep_ne {c i j : Nat} (h : i < j) : rep c i ≠ rep c j := fun e => by
  have := congrArg (fun z : Str => z.cps.toList.length) e
  simp only [rep_codes, List.length_replicate] at this
  omega
/-- a stem with one letter put in -/
def put1 (z : Str) (at_ : Int) (c : Nat) : Str := cutS z none (some at_) ++ ⟨#[c]⟩ ++ cutS z (some at_) none
theorem put1_codes {z : Str} {n : Nat} (h : n ≤ z.length) (c : Nat) : (put1 z (n : Int) c).cps.toList = z.cps.toList.take n ++ c :: z.cps.toList.drop n := by
  have l : z.cps.toList.length = z.length := Array.length_toList
  have e1 : (cutS z none (some (n : Int))).cps.toList = z.cps.toList.take n := by
    show ((z.cps.toList.drop (HT.sIx z.length 0 none)).take (HT.sIx z.length z.length (some (n : Int)) - HT.sIx z.length 0 none)) = _
    rw [HT.sIx_none, HT.sIx_nat, Nat.min_eq_left h]
    rfl
  have e2 : (cutS z (some (n : Int)) none).cps.toList = z.cps.toList.drop n := by
    show ((z.cps.toList.drop (HT.sIx z.length 0 (some (n : Int)))).take (HT.sIx z.length z.length none - HT.sIx z.length 0 (some (n : Int)))) = _
    rw [HT.sIx_none, HT.sIx_nat, Nat.min_eq_left h]
    exact List.take_of_length_le (by rw [List.length_drop, l]; exact Nat.le_refl _)
  show ((cutS z none (some (n : Int))).cps ++ #[c] ++ (cutS z (some (n : Int)) none).cps).toList = _
  rw [Array.toList_append, Array.toList_append, e1, e2, List.append_assoc]
  rfl
theorem put1_nm {z : Str} {n c : Nat} (h : n ≤ z.length) (hz : z.length ≤ 7) (hs : ∀ x ∈ z.cps.toList, 97 ≤ x ∧ x ≤ 122) (hc : 97 ≤ c ∧ c ≤ 122) : IsNm (put1 z (n : Int) c) := by
  have l0 : z.cps.toList.length = z.length := Array.length_toList
  have l : (put1 z (n : Int) c).cps.size = z.length + 1 := by
    rw [← Array.length_toList, put1_codes h, List.length_append, List.length_cons, List.length_take, List.length_drop, l0]
    omega
  refine ⟨by omega, by omega, fun x hx => ?_⟩
  rw [put1_codes h] at hx
  rcases List.mem_append.mp hx with q | q
  · exact hs _ (List.mem_of_mem_take q)
  · rcases List.mem_cons.mp q with q | q
    · rw [q]; exact hc
    · exact hs _ (List.mem_of_mem_drop q)
theorem put1_ne {z : Str} {n c c' : Nat} (h : n ≤ z.length) (hc : c ≠ c') : put1 z (n : Int) c ≠ put1 z (n : Int) c' := fun e => by
  have q := congrArg (fun z : Str => z.cps.toList) e
  simp only [put1_codes h] at q
  exact hc (List.cons.inj (List.append_cancel_left q)).1
abbrev one (c : Nat) : Str := ⟨#[c]⟩
theorem glue1 : ∀ (cs : List Nat) (acc : Array Nat), ((cs.map one).foldl (fun acc p => acc ++ (Str.ofString "").cps ++ p.cps) acc).toList = acc.toList ++ cs
  | [], acc => by simp
  | c :: cs, acc => by
    rw [List.map_cons, List.foldl_cons, glue1 cs, Array.toList_append, Array.toList_append, show (Str.ofString "").cps.toList = [] by decide +kernel, List.append_nil, List.append_assoc]
    rfl
theorem join1 : ∀ cs : List Nat, (Txt.join (Str.ofString "") (cs.map one)).cps.toList = cs
  | [] => rfl
  | c :: cs => glue1 cs #[c]
theorem But.free {a d : Addr} {H H' : Hp} {o : HO} (s : But a H H') (ha : H' a = some o) (h : H' d = none) : H d = none := by
  cases q : H d with
  | none => rfl
  | some u =>
    by_cases e : d = a
    · rw [e, ha] at h
      cases h
    · rw [s d u e q] at h
      cases h
theorem Box.is {H : Hp} {a : Addr} {n : Nat} (b : Box H a n) : ∃ o, H a = some o := by
  obtain ⟨b0, b1, b2, h, _⟩ := b
  exact ⟨_, h⟩
theorem Box.ne {H : Hp} {a d : Addr} {n : Nat} (b : Box H a n) (h : H d = none) : a ≠ d := by
  obtain ⟨o, e⟩ := b.is
  exact ne_of_none e h
theorem Box.upd {H : Hp} {a d : Addr} {n : Nat} {o : HO} (b : Box H a n) (h : a ≠ d) : Box (upd H d o) a n := by
  obtain ⟨b0, b1, b2, e, r⟩ := b
  exact ⟨b0, b1, b2, by rw [upd_ne h]; exact e, r⟩
theorem ifT {c : Prop} [Decidable c] {A B : Prop} (hc : c) (h : A) : if decide c = true then A else B := by
  rw [if_pos (decide_eq_true hc)]
  exact h
theorem ifF {c : Prop} [Decidable c] {A B : Prop} (hc : ¬ c) (h : B) : if decide c = true then A else B := by
  rw [decide_eq_false hc, if_neg Bool.false_ne_true]
  exact h
section
variable {P : Program} {w : World} {K : PySem.W.Frag} {mg : Str → Option Value} {base : Heap} {f : Addr} {fd : FuncData}
/-! ### _law_names -/
abbrev sNames : Stmt := top 34
theorem scNames : FnScope ["_law_box", "_law_many", "_law_letters", "_law_onset", "_law_way", "_law_stem", "_law_at", "_law_k"] ["_law_box", "_law_many"] (defScope sNames) := ⟨rfl, rfl, rfl, by decide +kernel, rfl, by decide +kernel, by decide +kernel⟩
def spNames : Sp := fun vs H Q _ => ∃ (a : Addr) (n m : Nat), vs = [.ref a, .int m] ∧ Box H a n ∧ n + 12 ≤ 1000000 ∧ m < 8 ∧
  ∀ (p : Addr) (ws : List Str) (H' : Hp), But a H H' → Box H' a (n + 12) → H p = none → H' p = some (.lst (ws.map V.str)) → ws.length = m → ws.Nodup → (∀ z ∈ ws, IsNm z) → Q (.ref p) H'
theorem ok_names {k : Nat} (F : Fun K "_law_names" "_law_names" sNames f fd) (G : FnG P w K mg base CX0 k "_law_take" ["_law_box", "_law_many"] spTake) (m_len : mg "len" = none) (m_range : mg "range" = none) :
    FnOk P w K mg base CX0 (k + 1) f fd ["_law_box", "_law_many"] spNames := by
  obtain ⟨_, _, G__law_take, m__law_take, k__law_take, b__law_take⟩ := G
  have sc := scNames
  refine F.ok sc (fun vs H Q E h => ?_) (fun cdv A outer s H vs Q E hr h => ?_)
  · obtain ⟨a, n, m, rfl, _⟩ := h
    rfl
  obtain ⟨a, n, m, rfl, hB, hn, hm, q⟩ := h
  refine ⟨_, (pss_cons (ps_asg (pe_tup (pa_cons pe_str (pa_cons (pe_call G__law_take (hr.mono (by omega)) (by rfl) m__law_take k__law_take b__law_take .nil pass0 (pa_cons (pv 0) (pa_cons pe_int pa_nil))) (pa_cons (pe_call G__law_take (hr.mono (by omega)) (by rfl) m__law_take k__law_take b__law_take .nil pass0 (pa_cons (pv 0) (pa_cons pe_int pa_nil))) pa_nil)))) (pg_tup (by rfl) (pgs_cons (pg_name (i := 2) sc.nd rfl (.inr rfl)) (pgs_cons (pg_name (i := 3) sc.nd rfl (.inr rfl)) (pgs_cons (pg_name (i := 4) sc.nd rfl (.inl rfl)) pgs_nil)))))
      (pss_cons (ps_set (i := 5) sc.nd rfl (.inr rfl) (pe_join pe_str (pe_lc (own := [("_law_k", 7)]) (by rfl) sc.nd  (pi_range1 (by rfl) m_range (pa_cons (pe_call G__law_take (hr.mono (by omega)) (by rfl) m__law_take k__law_take b__law_take .nil pass0 (pa_cons (pv 0) (pa_cons pe_int pa_nil))) pa_nil)) (blkOk_by (own := [("_law_k", 7)]) (N := ["_law_box", "_law_many", "_law_letters", "_law_onset", "_law_way", "_law_stem", "_law_at", "_law_k"]) (sc := defScope sNames) (by decide +kernel)) (fun _ _ _ _ _ => (pg_name (i := 7) sc.nd rfl (.inl rfl))) (fun _ _ _ _ _ => pts_nil) (fun _ _ _ _ _ => (pe_ix ix_str (pv 2) (pe_call G__law_take (hr.mono (by omega)) (by rfl) m__law_take k__law_take b__law_take .nil pass0 (pa_cons (pv 0) (pa_cons pe_int pa_nil))) (fun _ _ => rfl))))))
      (pss_cons (ps_if (PW.pt (pw_and (pt_cmpR op_lt (pv 1) pe_int (nomark _)) (pw_and1 (pt_cmpR op_eq (pv 4) pe_int (nomark _))))) (pss_one (ps_ret (pe_lc (own := [("_law_k", 7)]) (by rfl) sc.nd  (pi_range1 (by rfl) m_range (pa_cons (pv 1) pa_nil)) (blkOk_by (own := [("_law_k", 7)]) (N := ["_law_box", "_law_many", "_law_letters", "_law_onset", "_law_way", "_law_stem", "_law_at", "_law_k"]) (sc := defScope sNames) (by decide +kernel)) (fun _ _ _ _ _ => (pg_name (i := 7) sc.nd rfl (.inl rfl))) (fun _ _ _ _ _ => pts_nil) (fun _ _ _ _ _ => (pe_op op_mul_str (pe_ix ix_str (pv 2) (pv 3) (fun _ _ => rfl)) (pe_op op_add (pv 7) pe_int)))))) pss_nil)
      (pss_cons (ps_set (i := 6) sc.nd rfl (.inr rfl) (pe_ix ix_list (pe_lst (pa_cons pe_int (pa_cons (pe_call G__law_take (hr.mono (by omega)) (by rfl) m__law_take k__law_take b__law_take .nil pass0 (pa_cons (pv 0) (pa_cons (pe_op op_add (pe_callB call_len_str (by rfl) m_len (by decide +kernel) (pa_cons (pv 5) pa_nil)) pe_int) pa_nil))) (pa_cons (pe_callB call_len_str (by rfl) m_len (by decide +kernel) (pa_cons (pv 5) pa_nil)) pa_nil)))) (pv 4) (fun _ _ => rfl)))
      (pss_one (ps_ret (pe_lc (own := [("_law_k", 7)]) (by rfl) sc.nd  (pi_range1 (by rfl) m_range (pa_cons (pv 1) pa_nil)) (blkOk_by (own := [("_law_k", 7)]) (N := ["_law_box", "_law_many", "_law_letters", "_law_onset", "_law_way", "_law_stem", "_law_at", "_law_k"]) (sc := defScope sNames) (by decide +kernel)) (fun _ _ _ _ _ => (pg_name (i := 7) sc.nd rfl (.inl rfl))) (fun _ _ _ _ _ => pts_nil) (fun _ _ _ _ _ => (pe_op op_add_str (pe_op op_add_str (pe_slice sl_str (pv 5) po_none (po_some (pv 6))) (pe_ix ix_str (pv 2) (pe_op op_mod (pe_op op_add (pv 3) (pe_op op_mul pe_int (pv 7))) pe_int) (fun _ _ => rfl))) (pe_slice sl_str (pv 5) (po_some (pv 6)) po_none)))))))))), ?_⟩
  refine ⟨_, rfl, a, n, 25, rfl, hB, by omega, by decide, by decide, fun r1 H1 r10 r11 s1 B1 => ⟨_, rfl, a, n + 1, 3, rfl, B1, by omega, by decide, by decide, fun r2 H2 r20 r21 s2 B2 => ?_⟩⟩
  refine ⟨by show 3 ≤ sizeLine; decide, fun t nt => ⟨t, _, rfl, .inl (.inl upd_same), rfl, _, _, rfl, _, _, rfl, _, _, rfl, rfl, ?_⟩⟩
  have s3 := (s1.trans s2).trans (But.of (same_upd (o := .tup [.str ltrs, .int r1, .int r2]) nt))
  have B3 : Box (upd H2 t (.tup [.str ltrs, .int r1, .int r2])) a (n + 2) := B2.same (same_upd nt)
  refine ⟨⟨_, rfl⟩, _, rfl, a, n + 2, 8, rfl, B3, by omega, by decide, by decide, fun r3 H3 r30 r31 s4 B4 => ⟨r3, rfl, by omega, by omega, fun D nD => lc_it walk_range
    (fun i H' => But a H3 H' ∧ Box H' a (n + 3 + i) ∧ ∃ cs : List Nat, cs.length = i ∧ (∀ c ∈ cs, 97 ≤ c ∧ c ≤ 122) ∧ H' D = some (.lst ((cs.map one).map V.str))) ⟨But.of (same_upd nD), B4.same (same_upd nD), [], rfl, (by intro c hc; cases hc), upd_same⟩
    (fun _ _ _ _ => trivial) ?_ ?_⟩⟩
  · rintro i x H4 _ hi ⟨s5, B5, cs, hl, hc, hD⟩ ⟨rfl, rfl⟩
    refine ⟨rfl, ?_⟩
    unfold tYes
    refine iteT ⟨_, rfl, _, rfl, a, n + 3 + i, 25, rfl, B5, by omega, by decide, by decide, fun r4 H5 r40 r41 s6 B6 => ?_⟩
    have aD : D ≠ a := (B4.ne nD).symm
    have hD5 := s6 _ _ aD hD
    refine ⟨ltrs, r4, _, rfl, rfl, ltrs_fit, ltr_atI r40 r41, _, hD5, ?_, fun b o nb h => ?_, B6.upd aD.symm, cs ++ [ltr r4.toNat], by rw [List.length_append, hl]; rfl, fun c hc' => ?_, ?_⟩
    · rw [List.length_map, List.length_map, hl]
      exact small1000 (by omega)
    · by_cases hb : b = D
      · rw [hb, nD] at h
        cases h
      · rw [upd_ne hb]
        exact s6 _ _ nb (s5 _ _ nb h)
    · rcases List.mem_append.mp hc' with z | z
      · exact hc c z
      · rw [List.mem_singleton.mp z]
        exact ltr_ok (by omega)
    · rw [upd_same, List.map_append, List.map_append]
      rfl
  rintro H4 ⟨s5, B5, cs, hl, hc, hD⟩
  have r3l : r3.toNat ≤ 7 := by omega
  refine ⟨_, D, cs.map one, rfl, rfl, .inl (SqL.of hD), ?_, ?_⟩
  · have e1 : ((cs.map one).map (·.length)).sum = cs.length := by
      clear hl hc hD
      induction cs with
      | nil => rfl
      | cons c r ih => rw [List.map_cons, List.map_cons, List.sum_cons, ih, List.length_cons]; show 1 + _ = _; omega
    rw [e1, show (Str.ofString "").length = 0 by decide +kernel, Nat.mul_zero]
    omega
  generalize hst : Txt.join (Str.ofString "") (cs.map one) = stem
  have stc : stem.cps.toList = cs := by rw [← hst]; exact join1 cs
  have stl : stem.length = r3.toNat := by rw [show stem.length = stem.cps.toList.length from Array.length_toList.symm, stc, hl]
  have sta : ∀ x ∈ stem.cps.toList, 97 ≤ x ∧ x ≤ 122 := by rw [stc]; exact hc
  have B6 : Box H4 a (n + 10) := B5.le (by omega)
  have s6 := (s3.trans s4).trans s5
  obtain ⟨ob, hob⟩ := B6.is
  refine ⟨_, rfl, _, _, rfl, rfl, _, rfl, ifT (by omega) ⟨_, rfl, rfl, _, rfl, ite2 (fun c => ?_) (fun c => ?_)⟩⟩
  · have e2 : r2 = 0 := V.int.inj (of_decide_eq_true c)
    refine ⟨_, rfl, m, rfl, by omega, by omega, fun D2 nD2 => lc_it walk_range
      (fun i H' => But a H4 H' ∧ Box H' a (n + 10) ∧ H' D2 = some (.lst (((List.range i).map (rep (ltr r1.toNat))).map V.str))) ⟨But.of (same_upd nD2), B6.same (same_upd nD2), upd_same⟩
      (fun _ _ _ _ => trivial) ?_ ?_⟩
    · rintro i x H5 _ hi ⟨s7, B7, hD2⟩ ⟨rfl, ex⟩
      obtain rfl : x = V.int i := ex.trans (congrArg V.int (Int.zero_add _))
      have hi' : i < m := by simpa using hi
      refine ⟨rfl, ?_⟩
      unfold tYes
      refine iteT ⟨_, rfl, _, rfl, ltrs, r1, _, rfl, rfl, ltrs_fit, ltr_atI r10 r11, _, rfl, _, _, rfl, rfl, _, _, rfl, rfl, rep_ok (by omega), _, hD2, ?_, fun b o nb h => ?_, B7.upd (B6.ne nD2), ?_⟩
      · rw [List.length_map, List.length_map, List.length_range]
        exact small1000 (by omega)
      · rw [upd_ne (fun z => by rw [z, nD2] at h; cases h)]
        exact s7 _ _ nb h
      · rw [upd_same, List.range_succ, List.map_append, List.map_append]
        rfl
    · rintro H5 ⟨s7, B7, hD2⟩
      refine q D2 _ H5 (s6.trans s7) (B7.le (by omega)) (s6.free hob nD2) hD2 ?_ (nodup_of fun i j h1 h2 => rep_ne h1) fun z hz => ?_
      · rw [List.length_map, List.length_range, Int.toNat_natCast]
      · obtain ⟨i, hi, rfl⟩ := List.mem_map.mp hz
        have hi' : i < m := by simpa using hi
        exact rep_nm (ltr_ok (by omega)) (by omega)
  · have e2 : r2 ≠ 0 := fun z => c (decide_eq_true (by rw [z]))
    refine ⟨_, rfl, _, rfl, stem, rfl, Nat.le_of_lt (small1000 (by omega)), _, 1, rfl, rfl, a, n + 10, _, rfl, B6, by omega, by omega, by omega, fun r4 H5 r40 r41 s7 B7 => ?_⟩
    refine ⟨_, rfl, stem, rfl, Nat.le_of_lt (small1000 (by omega)), by show 3 ≤ sizeLine; decide, fun l nl => ?_⟩
    obtain ⟨na, hna, hat⟩ : ∃ na : Nat, na ≤ stem.length ∧ atI [V.int 0, V.int r4, V.int (stem.length : Nat)] r2 = some (.int (na : Int)) := by
      have : r2 = 1 ∨ r2 = 2 := by omega
      rcases this with rfl | rfl
      · exact ⟨r4.toNat, by omega, by rw [show ((r4.toNat : Nat) : Int) = r4 by omega]; rfl⟩
      · exact ⟨stem.length, Nat.le_refl _, rfl⟩
    refine ⟨_, rfl, l, _, r2, _, rfl, rfl, SqL.of upd_same, hat, ?_⟩
    have s8 : But a H4 (upd H5 l (.lst [.int 0, .int r4, .int (stem.length : Nat)])) := s7.trans (But.of (same_upd nl))
    have B8 : Box (upd H5 l (.lst [.int 0, .int r4, .int (stem.length : Nat)])) a (n + 11) := B7.same (same_upd nl)
    obtain ⟨ob8, hob8⟩ := B8.is
    refine ⟨_, rfl, m, rfl, by omega, by omega, fun D2 nD2 => lc_it walk_range
      (fun i H' => But a (upd H5 l (.lst [.int 0, .int r4, .int (stem.length : Nat)])) H' ∧ Box H' a (n + 11) ∧ H' D2 = some (.lst (((List.range i).map fun k => put1 stem (na : Int) (ltr ((r1.toNat + 7 * k) % 25))).map V.str)))
      ⟨But.of (same_upd nD2), B8.same (same_upd nD2), upd_same⟩ (fun _ _ _ _ => trivial) ?_ ?_⟩
    · rintro i x H6 _ hi ⟨s9, B9, hD2⟩ ⟨rfl, ex⟩
      obtain rfl : x = V.int i := ex.trans (congrArg V.int (Int.zero_add _))
      have hi' : i < m := by simpa using hi
      have ei : (r1 + 7 * (i : Int)) % 25 = (((r1.toNat + 7 * i) % 25 : Nat) : Int) := by omega
      refine ⟨rfl, ?_⟩
      unfold tYes
      refine iteT ⟨_, rfl, _, rfl, na, rfl, stem, rfl, Nat.le_of_lt (small1000 (by omega)), _, rfl, _, rfl, _, rfl, 7, i, rfl, rfl, .inl ⟨by decide, by decide⟩, r1, _, rfl, rfl, _, 25, rfl, rfl, (show (0 : Int) < 25 by decide),
        ltrs, _, _, rfl, rfl, ltrs_fit, ltr_atI (by omega) (by omega), _, _, rfl, rfl, ?_, _, rfl, _, rfl, na, rfl, stem, rfl, Nat.le_of_lt (small1000 (by omega)), _, _, rfl, rfl, ?_, _, hD2, ?_, fun b o nb h => ?_, B9.upd (B8.ne nD2), ?_⟩
      · have := cutS_length stem none (some (na : Int))
        exact Nat.le_of_lt (small1000 (by show (cutS stem none (some (na : Int))).length + 1 ≤ 1000; omega))
      · have h1 := cutS_length stem none (some (na : Int))
        have h2 := cutS_length stem (some (na : Int)) none
        have h3 : (cutS stem none (some (na : Int)) ++ one (ltr ((r1 + 7 * (i : Int)) % 25).toNat)).length = (cutS stem none (some (na : Int))).length + 1 := Array.size_append
        exact Nat.le_of_lt (small1000 (by show (cutS stem none (some (na : Int)) ++ one (ltr ((r1 + 7 * (i : Int)) % 25).toNat)).length + (cutS stem (some (na : Int)) none).length ≤ 1000; omega))
      · rw [List.length_map, List.length_map, List.length_range]
        exact small1000 (by omega)
      · rw [upd_ne (fun z => by rw [z, nD2] at h; cases h)]
        exact s9 _ _ nb h
      · rw [upd_same, List.range_succ, List.map_append, List.map_append]
        show some (HO.lst (_ ++ [V.str (put1 stem (na : Int) (ltr ((r1 + 7 * (i : Int)) % 25).toNat))])) = _
        rw [ei, Int.toNat_natCast]
        rfl
    · rintro H6 ⟨s9, B9, hD2⟩
      refine q D2 _ H6 ((s6.trans s8).trans s9) (B9.le (by omega)) ((s6.trans s8).free hob8 nD2) hD2 ?_ (nodup_of fun i j h1 h2 => put1_ne hna fun z => ?_) fun z hz => ?_
      · rw [List.length_map, List.length_range, Int.toNat_natCast]
      · have := ltr_inj (Nat.mod_lt _ (by decide)) (Nat.mod_lt _ (by decide)) z
        have h2' : j < m := by simpa using h2
        omega
      · obtain ⟨i, hi, rfl⟩ := List.mem_map.mp hz
        exact put1_nm hna (by omega) sta (ltr_ok (Nat.mod_lt _ (by decide)))
end
end Fd

set_option Elab.async false
set_option linter.all false
set_option maxRecDepth 100000
set_option maxHeartbeats 2000000
namespace Fd
open PySem PySem.Spec PyProof.Rows L2
/-! ### more rules -/
def gOr (g g' : TG) : TG := fun v σ H Q => g v σ H Q ∨ g' v σ H Q
section
variable {X : Cx}
/-- of several defs that may raise, the one that the i-th slot holds -/
def HeldX (P : Program) (w : World) (K : PySem.W.Frag) (mg : Str → Option Value) (base : Heap) (k : Nat) (f : Addr) (sp : Sp) : Prop :=
  ∃ (fd : FuncData) (ps : List Str), FnOk P w K mg base (L2.CX P w) k f fd ps sp ∧ PySem.W.keepIn K (.ref f) = true ∧ Binds K fd ps []
def tCallX (P : Program) (w : World) (K : PySem.W.Frag) (mg : Str → Option Value) (base : Heap) (k i : Nat) (E : L2.St → XK) (t : TA) : TE := fun σ H Q =>
  ∃ f sp, σ[i]? = some (some (.ref f)) ∧ HeldX P w K mg base k f sp ∧ t σ H fun vs H1 => sp vs H1 Q (E σ)
theorem pe_callX {k i : Nat} {E : L2.St → XK} {x : Str} {p pos : Pos} {e : Expr} {es : List Expr} {t : TA} (hr : Room k X.A) (hN : X.N[i]? = some x) (hv : Vis X.env.scope x)
    (hx : ∀ σ, PassesAt (L2.CX X.prog X.w) X σ (E σ)) (ha : PA X (e :: es) t) (hdb : (x == ("__debug__" : Str)) = false := by decide) (hcd : (x == ("__classdict__" : Str)) = false := by decide)
    (he : starEach (e :: es) X.env = (false, eval e X.env) :: starEach es X.env := by rfl) (hpl : (backTo pos (starEach es X.env)).any (·.1) = false := by rfl) :
    PE X (.Call (.Name x p) (e :: es) [] pos) (tCallX X.prog X.w X.K X.mg X.base k i E t) := by
  refine ⟨fun pins s σ H Q I h => ?_⟩
  obtain ⟨f, sp, hs, ⟨fd, ps, F, hk, hb⟩, ht⟩ := h
  have ld := (pe_var (pos := p) hN hv hdb hcd).run pins s σ H (fun v H1 => v = .ref f ∧ H1 = H) I ⟨.ref f, hs, rfl, rfl⟩
  refine wpAny_Call_Name_kw (thn ld fun u s1 hh => ?_)
  obtain ⟨v, H1, I1, r1, rfl, rfl⟩ := hh
  cases r1
  refine PySem.W.callWith_K (h₀ := X.base) I.ok.mod.kin hk (thn (ha.run pos pins s1 σ _ _ I1 ht) fun us s2 hh => ?_) he hpl
  obtain ⟨vs, H2, I2, r2, q2⟩ := hh
  exact ⟨I2.kIn, run_fnS F hr hb (hx σ) I2 r2 q2⟩
/-- a target by either of two readings -/
theorem pg_or {tg : Expr} {g g' : TG} (h : PG X tg g) (h' : PG X tg g') : PG X tg (gOr g g') :=
  ⟨fun pins s σ H v u Q I r q => q.elim (h.run pins s σ H v u Q I r) (h'.run pins s σ H v u Q I r)⟩
/-- what is walked, by either of two readings -/
theorem pi_or {tg it : Expr} {w w' : TI} (h : PI X tg it w) (h' : PI X tg it w') : PI X tg it (fun σ H R => w σ H R ∨ w' σ H R) :=
  ⟨fun pins s σ H R I q => q.elim (h.run pins s σ H R I) (h'.run pins s σ H R I)⟩
end
/-! ### a list or a tuple -/
def Sq (K : PySem.W.Frag) (H : Hp) (a : Addr) (xs : List V) : Prop := SqT K H a xs ∨ SqL K H a xs
theorem Sq.same {K : PySem.W.Frag} {H H' : Hp} {a : Addr} {xs : List V} (h : Sq K H a xs) (s : Same H H') : Sq K H' a xs := h.elim (fun z => .inl (seqT s z)) fun z => .inr (s.seq z)
theorem Sq.tup {K : PySem.W.Frag} {H : Hp} {a : Addr} {xs : List V} (h : H a = some (.tup xs)) : Sq K H a xs := .inl (SqT.of h)
theorem Sq.lst {K : PySem.W.Frag} {H : Hp} {a : Addr} {xs : List V} (h : H a = some (.lst xs)) : Sq K H a xs := .inr (SqL.of h)
theorem Sq.ty {K : PySem.W.Frag} {H : Hp} {a : Addr} {xs : List V} (h : Sq K H a xs) : TyX K H (.ref a) (.type "tuple") ∨ TyX K H (.ref a) (.type "list") := h.elim (fun z => .inl (ty_tup z)) fun z => .inr (ty_lst z)
theorem ixq {K : PySem.W.Frag} {H : Hp} {a : Addr} {xs : List V} {i : Int} {v : V} {Q : VK} (h : Sq K H a xs) (e : atI xs i = some v) (q : Q v H) : rIxT K (.ref a) (.int i) H Q ∨ rIxL K (.ref a) (.int i) H Q :=
  h.elim (fun z => .inl ⟨a, xs, i, v, rfl, rfl, z, e, q⟩) fun z => .inr ⟨a, xs, i, v, rfl, rfl, z, e, q⟩
/-- a fall by the word w from the heap H -/
def Falls (C : Addr) (E : XK) (H : Hp) (w : Str) : Prop := ∀ d, H d = none → E (.ref C) (some d) (upd H d (.xd [(("word" : Str), .str w)]))
section
variable {P : Program} {w : World} {K : PySem.W.Frag} {mg : Str → Option Value} {base : Heap} {f C fI : Addr} {fd : FuncData}
/-! ### is_number, is_value -/
abbrev sIsNum : Stmt := top 10
theorem scIsNum : FnScope ["thing"] ["thing"] (defScope sIsNum) := ⟨rfl, rfl, rfl, by decide +kernel, rfl, by decide +kernel, by decide +kernel⟩
def spIsNum (K : PySem.W.Frag) : Sp := fun vs H Q _ => ∃ x, vs = [x] ∧ ((∃ i, x = .int i ∧ Q (.bl true) H) ∨ ∃ a xs, x = .ref a ∧ Sq K H a xs ∧ Q (.bl false) H)
theorem ok_isNum {k : Nat} (F : Fun K "is_number" "is_number" sIsNum f fd) (m_isinstance : mg "isinstance" = none) (m_int : mg "int" = none) (m_bool : mg "bool" = none) :
    FnOk P w K mg base CX0 (k + 1) f fd ["thing"] (spIsNum K) := by
  have sc := scIsNum
  refine F.ok sc (fun vs H Q E h => ?_) (fun cdv A outer s H vs Q E hr h => ?_)
  · obtain ⟨x, rfl, _⟩ := h
    rfl
  obtain ⟨x, rfl, h⟩ := h
  refine ⟨_, (pss_one (ps_ret (pe_and (pe_callB call_isi (by rfl) m_isinstance (by decide +kernel) (pa_cons (pv 0) (pa_cons (pe_bltn (v := .ty "int") (by rfl) m_int (by decide +kernel) rfl) pa_nil))) (pe_one (pe_not (pe_callB call_isi (by rfl) m_isinstance (by decide +kernel) (pa_cons (pv 0) (pa_cons (pe_bltn (v := .ty "bool") (by rfl) m_bool (by decide +kernel) rfl) pa_nil)))))))), ?_⟩
  rcases h with ⟨i, rfl, q⟩ | ⟨a, xs, rfl, h, q⟩
  · exact ⟨_, rfl, _, _, .type "int", _, true, rfl, .ty _, .base (.int i), kit_ty (by decide +kernel), _, rfl, iteT ⟨_, rfl, _, _, .type "int", _, false, rfl, .ty _, .base (.int i), kit_ty (by decide +kernel), _, rfl, q⟩⟩
  · rcases h.ty with t | t
    · exact ⟨_, rfl, _, _, .type "tuple", _, false, rfl, .ty _, t, kit_ty (by decide +kernel), _, rfl, iteF q⟩
    · exact ⟨_, rfl, _, _, .type "list", _, false, rfl, .ty _, t, kit_ty (by decide +kernel), _, rfl, iteF q⟩
abbrev sIsVal : Stmt := top 11
theorem scIsVal : FnScope ["thing"] ["thing"] (defScope sIsVal) := ⟨rfl, rfl, rfl, by decide +kernel, rfl, by decide +kernel, by decide +kernel⟩
def inB (i : Int) : Bool := decide (-1000000 ≤ i) && decide (i ≤ 1000000)
def spIsVal : Sp := fun vs H Q _ => ∃ i : Int, vs = [.int i] ∧ Q (.bl (inB i)) H
theorem ok_isVal {k : Nat} {t t' : Tok} (F : Fun K "is_value" "is_value" sIsVal f fd) (G : FnG P w K mg base CX0 k "is_number" ["thing"] (spIsNum K)) (m_LEAST : mg "LEAST_VALUE" = some (.int (-1000000) t)) (m_MOST : mg "MOST_VALUE" = some (.int 1000000 t')) :
    FnOk P w K mg base CX0 (k + 1) f fd ["thing"] spIsVal := by
  obtain ⟨_, _, G_is_number, m_is_number, k_is_number, b_is_number⟩ := G
  have sc := scIsVal
  refine F.ok sc (fun vs H Q E h => ?_) (fun cdv A outer s H vs Q E hr h => ?_)
  · obtain ⟨x, rfl, _⟩ := h
    rfl
  obtain ⟨i, rfl, q⟩ := h
  refine ⟨_, (pss_one (ps_ret (pe_and (pe_call G_is_number (hr.mono (by omega)) (by rfl) m_is_number k_is_number b_is_number .nil pass0 (pa_cons (pv 0) pa_nil)) (pe_one (pe_chain op_le op_le (pe_glob (v := .int (-1000000)) (by rfl) m_LEAST ⟨_, rfl⟩) (pv 0) (pe_glob (v := .int 1000000) (by rfl) m_MOST ⟨_, rfl⟩)))))), ?_⟩
  refine ⟨_, rfl, _, rfl, .inl ⟨i, rfl, _, rfl, iteT ⟨_, rfl, _, _, rfl, rfl, _, rfl, ite2 (fun c => ?_) (fun c => ?_)⟩⟩⟩
  · refine ⟨_, _, rfl, rfl, ?_⟩
    unfold inB at q
    rw [c] at q
    exact q
  · unfold inB at q
    rw [Bool.eq_false_iff.mpr c] at q
    exact q
/-! ### the five sums -/
inductive BOp where
  | plus | minus | by_ | over | rest
def BOp.word : BOp → Str
  | .plus => "plus" | .minus => "minus" | .by_ => "by" | .over => "over" | .rest => "rest"
def BOp.run : BOp → Int → Int → Except Str Int
  | .plus, a, b => .ok (a + b)
  | .minus, a, b => .ok (a - b)
  | .by_, a, b => .ok (a * b)
  | .over, a, b => if b = 0 then .error "nought" else .ok (a.fdiv b)
  | .rest, a, b => if b = 0 then .error "nought" else .ok (a.fmod b)
/-- what comes of r: a value, or a fall -/
def Comes (C : Addr) (H : Hp) (r : Except Str Int) (Q : VK) (E : XK) : Prop := match r with
  | .ok i => Q (.int i) H
  | .error w => Falls C E H w
def spSum (C : Addr) (o : BOp) : Sp := fun vs H Q E => ∃ a b : Int, vs = [.int a, .int b] ∧ inB a = true ∧ inB b = true ∧ Comes C H (o.run a b) Q E
theorem inB_lo {i : Int} (h : inB i = true) : -1000000 ≤ i := of_decide_eq_true (Bool.and_eq_true_iff.mp h).1
theorem inB_hi {i : Int} (h : inB i = true) : i ≤ 1000000 := of_decide_eq_true (Bool.and_eq_true_iff.mp h).2
abbrev sPlus : Stmt := top 18
theorem ok_plus {k : Nat} (F : Fun K "plus" "plus" sPlus f fd) : FnOk P w K mg base (L2.CX P w) (k + 1) f fd ["first", "second"] (spSum C .plus) := by
  have sc : FnScope ["first", "second"] ["first", "second"] (defScope sPlus) := ⟨rfl, rfl, rfl, by decide +kernel, rfl, by decide +kernel, by decide +kernel⟩
  refine F.okX sc (fun vs H Q E h => ?_) (fun cdv A outer s H vs Q E hr h => ?_)
  · obtain ⟨a, b, rfl, _⟩ := h
    rfl
  obtain ⟨a, b, rfl, ha, hb, q⟩ := h
  exact ⟨_, (pss_one (ps_ret (pe_op op_add (pv 0) (pv 1)))), _, rfl, _, rfl, _, _, rfl, rfl, q⟩
abbrev sMinus : Stmt := top 19
theorem ok_minus {k : Nat} (F : Fun K "minus" "minus" sMinus f fd) : FnOk P w K mg base (L2.CX P w) (k + 1) f fd ["first", "second"] (spSum C .minus) := by
  have sc : FnScope ["first", "second"] ["first", "second"] (defScope sMinus) := ⟨rfl, rfl, rfl, by decide +kernel, rfl, by decide +kernel, by decide +kernel⟩
  refine F.okX sc (fun vs H Q E h => ?_) (fun cdv A outer s H vs Q E hr h => ?_)
  · obtain ⟨a, b, rfl, _⟩ := h
    rfl
  obtain ⟨a, b, rfl, ha, hb, q⟩ := h
  exact ⟨_, (pss_one (ps_ret (pe_op op_sub (pv 0) (pv 1)))), _, rfl, _, rfl, _, _, rfl, rfl, q⟩
abbrev sBy : Stmt := top 20
theorem ok_by {k : Nat} (F : Fun K "by" "by" sBy f fd) : FnOk P w K mg base (L2.CX P w) (k + 1) f fd ["first", "second"] (spSum C .by_) := by
  have sc : FnScope ["first", "second"] ["first", "second"] (defScope sBy) := ⟨rfl, rfl, rfl, by decide +kernel, rfl, by decide +kernel, by decide +kernel⟩
  refine F.okX sc (fun vs H Q E h => ?_) (fun cdv A outer s H vs Q E hr h => ?_)
  · obtain ⟨a, b, rfl, _⟩ := h
    rfl
  obtain ⟨a, b, rfl, ha, hb, q⟩ := h
  have := inB_lo ha
  have := inB_hi ha
  exact ⟨_, (pss_one (ps_ret (pe_op op_mul (pv 0) (pv 1)))), _, rfl, _, rfl, _, _, rfl, rfl, .inl ⟨by omega, by omega⟩, q⟩
abbrev sOver : Stmt := top 21
theorem ok_over {k : Nat} (T : PySem.FellX.FellTxt K mg C fI) (F : Fun K "over" "over" sOver f fd) : FnOk P w K mg base (L2.CX P w) (k + 2) f fd ["first", "second"] (spSum C .over) := by
  have sc : FnScope ["first", "second"] ["first", "second"] (defScope sOver) := ⟨rfl, rfl, rfl, by decide +kernel, rfl, by decide +kernel, by decide +kernel⟩
  refine F.okX sc (fun vs H Q E h => ?_) (fun cdv A outer s H vs Q E hr h => ?_)
  · obtain ⟨a, b, rfl, _⟩ := h
    rfl
  obtain ⟨a, b, rfl, ha, hb, q⟩ := h
  refine ⟨_, (pss_cons (ps_if (pt_cmpR op_eq (pv 1) pe_int (nomark _)) (pss_one (ps_raiseFell rfl T hr (takes_of rfl rfl rfl rfl) (by exact (pa_cons pe_str pa_nil)))) pss_nil)
      (pss_one (ps_ret (pe_op op_fdivN (pv 0) (pv 1))))), _, rfl, rfl, _, rfl, ite2 (fun c => ?_) (fun c => ?_)⟩
  · have e : b = 0 := V.int.inj (of_decide_eq_true c)
    subst e
    exact ⟨_, rfl, fun d nd => q d nd⟩
  · have e : b ≠ 0 := fun z => c (decide_eq_true (by rw [z]))
    have := inB_lo hb
    have := inB_hi hb
    rw [show BOp.run .over a b = .ok (a.fdiv b) from if_neg e] at q
    exact ⟨_, rfl, _, rfl, _, _, rfl, rfl, ⟨e, by omega⟩, q⟩
abbrev sRest : Stmt := top 22
theorem ok_rest {k : Nat} (T : PySem.FellX.FellTxt K mg C fI) (F : Fun K "rest" "rest" sRest f fd) : FnOk P w K mg base (L2.CX P w) (k + 2) f fd ["first", "second"] (spSum C .rest) := by
  have sc : FnScope ["first", "second"] ["first", "second"] (defScope sRest) := ⟨rfl, rfl, rfl, by decide +kernel, rfl, by decide +kernel, by decide +kernel⟩
  refine F.okX sc (fun vs H Q E h => ?_) (fun cdv A outer s H vs Q E hr h => ?_)
  · obtain ⟨a, b, rfl, _⟩ := h
    rfl
  obtain ⟨a, b, rfl, ha, hb, q⟩ := h
  refine ⟨_, (pss_cons (ps_if (pt_cmpR op_eq (pv 1) pe_int (nomark _)) (pss_one (ps_raiseFell rfl T hr (takes_of rfl rfl rfl rfl) (by exact (pa_cons pe_str pa_nil)))) pss_nil)
      (pss_one (ps_ret (pe_op op_modN (pv 0) (pv 1))))), _, rfl, rfl, _, rfl, ite2 (fun c => ?_) (fun c => ?_)⟩
  · have e : b = 0 := V.int.inj (of_decide_eq_true c)
    subst e
    exact ⟨_, rfl, fun d nd => q d nd⟩
  · have e : b ≠ 0 := fun z => c (decide_eq_true (by rw [z]))
    rw [show BOp.run .rest a b = .ok (a.fmod b) from if_neg e] at q
    exact ⟨_, rfl, _, rfl, _, _, rfl, rfl, e, q⟩
/-! ### place_in, first_of -/
abbrev sPlace : Stmt := top 27
def spPlace (K : PySem.W.Frag) (C : Addr) : Sp := fun vs H Q E => ∃ (a : Addr) (xs : List V) (i : Int), vs = [.ref a, .int i] ∧ Sq K H a xs ∧ (0 ≤ i ∧ i < xs.length → Q (.int i) H) ∧ (¬ (0 ≤ i ∧ i < xs.length) → Falls C E H "none")
theorem ok_place {k : Nat} (T : PySem.FellX.FellTxt K mg C fI) (F : Fun K "place_in" "place_in" sPlace f fd) (m_len : mg "len" = none) : FnOk P w K mg base (L2.CX P w) (k + 2) f fd ["row", "place"] (spPlace K C) := by
  have sc : FnScope ["row", "place"] ["row", "place"] (defScope sPlace) := ⟨rfl, rfl, rfl, by decide +kernel, rfl, by decide +kernel, by decide +kernel⟩
  refine F.okX sc (fun vs H Q E h => ?_) (fun cdv A outer s H vs Q E hr h => ?_)
  · obtain ⟨a, b, i, rfl, _⟩ := h
    rfl
  obtain ⟨a, xs, i, rfl, hs, q1, q2⟩ := h
  refine ⟨_, (pss_cons (ps_if (pt_not (pt_chain op_le op_lt pe_int (pv 1) (pe_callB call_len_seq (by rfl) m_len (by decide +kernel) (pa_cons (pv 0) pa_nil)))) (pss_one (ps_raiseFell rfl T hr (takes_of rfl rfl rfl rfl) (by exact (pa_cons pe_str pa_nil)))) pss_nil)
      (pss_one (ps_ret (pv 1)))), ?_⟩
  refine ⟨_, rfl, _, _, rfl, rfl, _, rfl, ite2 (fun c => ?_) (fun c => ?_)⟩
  · have c' : 0 ≤ i := of_decide_eq_true c
    refine ⟨_, rfl, a, xs, rfl, hs.symm, _, _, rfl, rfl, _, rfl, ?_⟩
    by_cases h : i < xs.length
    · rw [decide_eq_true h]
      exact iteF ⟨_, rfl, q1 ⟨c', h⟩⟩
    · rw [decide_eq_false h]
      exact iteT ⟨_, rfl, fun d nd => q2 (fun z => h z.2) d nd⟩
  · exact ⟨_, rfl, iteT ⟨_, rfl, fun d nd => q2 (fun z => c (decide_eq_true z.1)) d nd⟩⟩
/-- pairs of a text and something, each a tuple or a list -/
def Prs (K : PySem.W.Frag) (H : Hp) (ps : List V) (kvs : List (Str × V)) : Prop := Paired (fun v (kv : Str × V) => ∃ a, v = .ref a ∧ Sq K H a [.str kv.1, kv.2]) ps kvs
abbrev sFirst : Stmt := top 26
def spFirst (K : PySem.W.Frag) (C : Addr) : Sp := fun vs H Q E => ∃ (a : Addr) (ps : List V) (kvs : List (Str × V)) (x : Str), vs = [.ref a, .str x] ∧ Sq K H a ps ∧ Prs K H ps kvs ∧
  (∀ u, kvs.lookup x = some u → Q u H) ∧ (kvs.lookup x = none → Falls C E H "none")
theorem prs_at {K : PySem.W.Frag} {H : Hp} : ∀ {ps : List V} {kvs : List (Str × V)} {i : Nat} {v : V}, Prs K H ps kvs → ps[i]? = some v → ∃ kv, kvs[i]? = some kv ∧ ∃ a, v = .ref a ∧ Sq K H a [.str kv.1, kv.2]
  | _, _, i, v, .nil, e => by simp at e
  | _, _, 0, v, .cons r t, e => by cases (Option.some.inj e); exact ⟨_, rfl, r⟩
  | _, _, i + 1, v, .cons r t, e => prs_at (i := i) t e
theorem look_skip : ∀ {kvs : List (Str × V)} {i : Nat} {kv : Str × V} {x : Str}, (kvs.take i).lookup x = none → kvs[i]? = some kv → kv.1 ≠ x → (kvs.take (i + 1)).lookup x = none
  | [], i, kv, x, _, e, _ => by simp at e
  | p :: r, 0, kv, x, _, e, n => by
    obtain ⟨k, v⟩ := p
    cases (Option.some.inj e)
    show List.lookup x [(k, v)] = none
    rw [List.lookup_cons, show (x == k) = false from beq_eq_false_iff_ne.mpr (Ne.symm n)]
    rfl
  | p :: r, i + 1, kv, x, h, e, n => by
    obtain ⟨k, v⟩ := p
    rw [List.take_succ_cons, List.lookup_cons] at h ⊢
    by_cases q : (x == k) = true
    · rw [q] at h
      cases h
    · rw [Bool.eq_false_iff.mpr q] at h ⊢
      exact look_skip (i := i) h e n
theorem look_hit : ∀ {kvs : List (Str × V)} {i : Nat} {kv : Str × V} {x : Str}, (kvs.take i).lookup x = none → kvs[i]? = some kv → kv.1 = x → kvs.lookup x = some kv.2
  | [], i, kv, x, _, e, _ => by simp at e
  | p :: r, 0, kv, x, _, e, n => by
    obtain ⟨k, v⟩ := p
    cases (Option.some.inj e)
    rw [List.lookup_cons, show (x == k) = true from beq_iff_eq.mpr n.symm]
  | p :: r, i + 1, kv, x, h, e, n => by
    obtain ⟨k, v⟩ := p
    rw [List.take_succ_cons, List.lookup_cons] at h
    rw [List.lookup_cons]
    by_cases q : (x == k) = true
    · rw [q] at h
      cases h
    · rw [Bool.eq_false_iff.mpr q] at h ⊢
      exact look_hit (i := i) h e n
theorem prs_len {K : PySem.W.Frag} {H : Hp} : ∀ {ps : List V} {kvs : List (Str × V)}, Prs K H ps kvs → ps.length = kvs.length
  | _, _, .nil => rfl
  | _, _, .cons _ t => by rw [List.length_cons, List.length_cons, prs_len t]
theorem ok_first {k : Nat} (T : PySem.FellX.FellTxt K mg C fI) (F : Fun K "first_of" "first_of" sFirst f fd) : FnOk P w K mg base (L2.CX P w) (k + 2) f fd ["pairs", "name"] (spFirst K C) := by
  have sc : FnScope ["pairs", "name", "other", "held"] ["pairs", "name"] (defScope sFirst) := ⟨rfl, rfl, rfl, by decide +kernel, rfl, by decide +kernel, by decide +kernel⟩
  refine F.okX sc (fun vs H Q E h => ?_) (fun cdv A outer s H vs Q E hr h => ?_)
  · obtain ⟨a, b, c, i, rfl, _⟩ := h
    rfl
  obtain ⟨a, ps, kvs, x, rfl, hs, hp, q1, q2⟩ := h
  refine ⟨_, (pss_cons (ps_for (passes_of rfl) rfl (pi_or (pi_tup (pv 0)) (pi_list (pv 0))) (pg_or (pg_tup (by rfl) (pgs_cons (pg_name (i := 2) sc.nd rfl (.inl rfl)) (pgs_cons (pg_name (i := 3) sc.nd rfl (.inl rfl)) pgs_nil))) (pg_lst (by rfl) (pgs_cons (pg_name (i := 2) sc.nd rfl (.inl rfl)) (pgs_cons (pg_name (i := 3) sc.nd rfl (.inl rfl)) pgs_nil)))) (pss_one (ps_if (pt_cmpR op_eq (pv 2) (pv 1) (nomark _)) (pss_one (ps_ret (pv 3))) pss_nil)))
      (pss_one (ps_raiseFell rfl T hr (takes_of rfl rfl rfl rfl) (by exact (pa_cons pe_str pa_nil))))), ?_⟩
  have e0 : (kvs.take ps.length).lookup x = none → kvs.lookup x = none := fun h => by rw [prs_len hp, List.take_length] at h; exact h
  have key : ∀ (D : Ends) (v2 v3 : Option V) (b : Addr) (kv : Str × V), Sq K H b [.str kv.1, kv.2] → (kv.1 = x → D.rt kv.2 H) → (kv.1 ≠ x → D.nx [some (.ref a), some (.str x), some (.str kv.1), some kv.2] H) →
      gOr (gTup K 2 (gCons (gName 2) (gCons (gName 3) gNil))) (gLst K 2 (gCons (gName 2) (gCons (gName 3) gNil))) (.ref b) [some (.ref a), some (.str x), v2, v3] H
        fun σ2 H2 => tIfS (tTest (tOp rEq (tVar 2) (tVar 1))) (tRet (tVar 3)) tNext D σ2 H2 := fun D v2 v3 b kv hb h1 h2 => by
    have fin : tIfS (tTest (tOp rEq (tVar 2) (tVar 1))) (tRet (tVar 3)) tNext D [some (.ref a), some (.str x), some (.str kv.1), some kv.2] H := by
      refine ⟨_, rfl, _, rfl, rfl, _, rfl, ite2 (fun c => ?_) (fun c => ?_)⟩
      · exact ⟨_, rfl, h1 (V.str.inj (of_decide_eq_true c))⟩
      · exact h2 fun z => c (decide_eq_true (by rw [z]))
    rcases hb with hb | hb
    · exact .inl ⟨b, _, rfl, hb, rfl, _, _, rfl, _, _, rfl, rfl, fin⟩
    · exact .inr ⟨b, _, rfl, hb, rfl, _, _, rfl, _, _, rfl, rfl, fin⟩
  rcases hs with hs | hs
  · refine .inl ⟨_, rfl, a, rfl, ⟨_, hs⟩, for_it (walk_tup (K := K) (a := a) (xs := ps)) (fun i σ H' => H' = H ∧ (kvs.take i).lookup x = none ∧ ∃ v2 v3, σ = [some (.ref a), some (.str x), v2, v3]) ⟨rfl, rfl, none, none, rfl⟩
      (fun i σ H' _ h => by rw [h.1]; exact hs) ?_ ?_⟩
    · rintro i v σ H1 H2 hi ⟨e1, hn, v2, v3, rfl⟩ ⟨e2, ev⟩
      obtain ⟨kv, ek, b, rfl, hb⟩ := prs_at hp ev
      rw [e2, e1]
      exact key _ _ _ b kv hb (fun z => q1 _ (look_hit hn ek z)) (fun z => ⟨rfl, look_skip hn ek z, _, _, rfl⟩)
    · rintro σ H1 ⟨rfl, hn, v2, v3, rfl⟩
      exact ⟨_, rfl, fun d nd => q2 (e0 hn) d nd⟩
  · refine .inr ⟨_, rfl, a, rfl, ⟨_, hs⟩, for_it (walk_list (K := K) (a := a) (xs := ps)) (fun i σ H' => H' = H ∧ (kvs.take i).lookup x = none ∧ ∃ v2 v3, σ = [some (.ref a), some (.str x), v2, v3]) ⟨rfl, rfl, none, none, rfl⟩
      (fun i σ H' _ h => by rw [h.1]; exact hs) ?_ ?_⟩
    · rintro i v σ H1 H2 hi ⟨e1, hn, v2, v3, rfl⟩ ⟨e2, ev⟩
      obtain ⟨kv, ek, b, rfl, hb⟩ := prs_at hp ev
      rw [e2, e1]
      exact key _ _ _ b kv hb (fun z => q1 _ (look_hit hn ek z)) (fun z => ⟨rfl, look_skip hn ek z, _, _, rfl⟩)
    · rintro σ H1 ⟨rfl, hn, v2, v3, rfl⟩
      exact ⟨_, rfl, fun d nd => q2 (e0 hn) d nd⟩
end
end Fd

set_option Elab.async false
set_option linter.all false
set_option maxRecDepth 100000
set_option maxHeartbeats 2000000
namespace Fd
open PySem PySem.Spec PyProof.Rows L2
/-! ### looks and eyes, as data -/
inductive Lk where
  | num (i : Int) | name (x : Str) | many (x : Str) | item (x : Str) (a : Lk) | spot (k : Nat) | bin (o : BOp) (a b : Lk)
structure Ey where
  names : List (Str × Int)
  lists : List (Str × List Int)
  spot : List Int
  met : List Str
def far (r : Except Str Int) : Except Str Int := match r with
  | .ok i => if inB i = true then .ok i else .error "far"
  | .error w => .error w
def some_of {α : Type} (o : Option α) (f : α → Except Str Int) : Except Str Int := match o with
  | some x => f x
  | none => .error "none"
def then_ (r : Except Str Int) (f : Int → Except Str Int) : Except Str Int := match r with
  | .ok i => f i
  | .error w => .error w
def itemOf (l : List Int) (i : Int) : Except Str Int := if 0 ≤ i ∧ i < l.length then .ok (l.getD i.toNat 0) else .error "none"
def val (E : Ey) : Lk → Except Str Int
  | .num i => far (.ok i)
  | .name x => far (some_of (E.names.lookup x) .ok)
  | .many x => far (some_of (E.lists.lookup x) fun l => .ok l.length)
  | .item x a => far (some_of (E.lists.lookup x) fun l => then_ (val E a) (itemOf l))
  | .spot k => far (.ok (E.spot.getD k 0))
  | .bin o a b => far (then_ (val E a) fun i => then_ (val E b) fun j => o.run i j)
def raw (E : Ey) : Lk → Except Str Int
  | .num i => .ok i
  | .name x => some_of (E.names.lookup x) .ok
  | .many x => some_of (E.lists.lookup x) fun l => .ok l.length
  | .item x a => some_of (E.lists.lookup x) fun l => then_ (val E a) (itemOf l)
  | .spot k => .ok (E.spot.getD k 0)
  | .bin o a b => then_ (val E a) fun i => then_ (val E b) fun j => o.run i j
theorem val_raw (E : Ey) (L : Lk) : val E L = far (raw E L) := by cases L <;> rfl
theorem val_in {E : Ey} {L : Lk} {i : Int} (h : val E L = .ok i) : inB i = true := by
  rw [val_raw] at h
  unfold far at h
  split at h
  · split at h
    · rename_i q
      cases h
      exact q
    · cases h
  · cases h
def Lk.deep : Lk → Nat
  | .item _ a => a.deep + 1
  | .bin _ a b => max a.deep b.deep + 1
  | _ => 1
def spotWords : List Str := ["x", "y", "way", "number"]
inductive LkAt (K : PySem.W.Frag) (H : Hp) : V → Lk → Prop where
  | num (i : Int) : LkAt K H (.int i) (.num i)
  | name {a : Addr} {x : Str} (h : Sq K H a [.str "name", .str x]) : LkAt K H (.ref a) (.name x)
  | many {a : Addr} {x : Str} (h : Sq K H a [.str "many", .str x]) : LkAt K H (.ref a) (.many x)
  | item {a : Addr} {x : Str} {u : V} {L : Lk} (h : Sq K H a [.str "item", .str x, u]) (hu : LkAt K H u L) : LkAt K H (.ref a) (.item x L)
  | spot {a : Addr} {k : Nat} {z : Str} (hk : spotWords[k]? = some z) (h : Sq K H a [.str z]) : LkAt K H (.ref a) (.spot k)
  | bin {a : Addr} {o : BOp} {u v : V} {L M : Lk} (h : Sq K H a [.str o.word, u, v]) (hu : LkAt K H u L) (hv : LkAt K H v M) : LkAt K H (.ref a) (.bin o L M)
theorem LkAt.same {K : PySem.W.Frag} {H H' : Hp} (s : Same H H') {v : V} {L : Lk} (h : LkAt K H v L) : LkAt K H' v L := by
  induction h with
  | num i => exact .num i
  | name h => exact .name (h.same s)
  | many h => exact .many (h.same s)
  | item h _ ih => exact .item (h.same s) ih
  | spot hk h => exact .spot hk (h.same s)
  | bin h _ _ i1 i2 => exact .bin (h.same s) i1 i2
theorem LkAt.sq {K : PySem.W.Frag} {H : Hp} {v : V} {L : Lk} (h : LkAt K H v L) : (∃ i, v = .int i ∧ L = .num i) ∨ ∃ a xs, v = .ref a ∧ Sq K H a xs := by
  cases h with
  | num i => exact .inl ⟨i, rfl, rfl⟩
  | name h => exact .inr ⟨_, _, rfl, h⟩
  | many h => exact .inr ⟨_, _, rfl, h⟩
  | item h _ => exact .inr ⟨_, _, rfl, h⟩
  | spot _ h => exact .inr ⟨_, _, rfl, h⟩
  | bin h _ _ => exact .inr ⟨_, _, rfl, h⟩
def Rows (K : PySem.W.Frag) (H : Hp) (rs : List (Str × V)) (ls : List (Str × List Int)) : Prop := Paired (fun (kv : Str × V) (xl : Str × List Int) => kv.1 = xl.1 ∧ ∃ a, kv.2 = .ref a ∧ Sq K H a (xl.2.map V.int)) rs ls
structure EyAt (K : PySem.W.Frag) (H : Hp) (E : Ey) (n l s m : Addr) : Prop where
  nm : ∃ ps, Sq K H n ps ∧ Prs K H ps (E.names.map fun p => (p.1, V.int p.2))
  ls : ∃ ps rs, Sq K H l ps ∧ Prs K H ps rs ∧ Rows K H rs E.lists
  sp : Sq K H s (E.spot.map V.int)
  s4 : E.spot.length = 4
  mt : Sq K H m (E.met.map V.str)
def Eyes (K : PySem.W.Frag) (H : Hp) (e : Addr) (E : Ey) : Prop := ∃ n l s m, Sq K H e [.ref n, .ref l, .ref s, .ref m] ∧ EyAt K H E n l s m
theorem Prs.same {K : PySem.W.Frag} {H H' : Hp} (s : Same H H') {ps : List V} {kvs : List (Str × V)} (h : Prs K H ps kvs) : Prs K H' ps kvs := Paired.mapP h fun _ _ ⟨a, e, q⟩ => ⟨a, e, q.same s⟩
theorem Rows.same {K : PySem.W.Frag} {H H' : Hp} (s : Same H H') {rs : List (Str × V)} {ls : List (Str × List Int)} (h : Rows K H rs ls) : Rows K H' rs ls := Paired.mapP h fun _ _ ⟨e, a, q, z⟩ => ⟨e, a, q, z.same s⟩
theorem Eyes.same {K : PySem.W.Frag} {H H' : Hp} (s : Same H H') {e : Addr} {E : Ey} (h : Eyes K H e E) : Eyes K H' e E := by
  obtain ⟨n, l, s', m, h1, ⟨ps, h2, h3⟩, ⟨ps', rs, h4, h5, h6⟩, h7, h8, h9⟩ := h
  exact ⟨n, l, s', m, h1.same s, ⟨ps, h2.same s, h3.same s⟩, ⟨ps', rs, h4.same s, h5.same s, h6.same s⟩, h7.same s, h8, h9.same s⟩
theorem names_look (x : Str) : ∀ ns : List (Str × Int), (ns.map fun p => (p.1, V.int p.2)).lookup x = (ns.lookup x).map V.int
  | [] => rfl
  | (k, v) :: r => by
    rw [List.map_cons, List.lookup_cons, List.lookup_cons]
    by_cases h : (x == k) = true
    · rw [h]; rfl
    · rw [Bool.eq_false_iff.mpr h]
      exact names_look x r
theorem rows_look {K : PySem.W.Frag} {H : Hp} (x : Str) : ∀ {rs : List (Str × V)} {ls : List (Str × List Int)}, Rows K H rs ls → (rs.lookup x = none ∧ ls.lookup x = none) ∨ ∃ a l, rs.lookup x = some (.ref a) ∧ ls.lookup x = some l ∧ Sq K H a (l.map V.int)
  | _, _, .nil => .inl ⟨rfl, rfl⟩
  | (k, v) :: rs, (k', l) :: ls, .cons r t => by
    obtain ⟨e, a, ea, q⟩ := r
    dsimp only at e ea q
    subst e ea
    rw [List.lookup_cons, List.lookup_cons]
    by_cases h : (x == k) = true
    · rw [h]; exact .inr ⟨a, l, rfl, rfl, q⟩
    · rw [Bool.eq_false_iff.mpr h]
      exact rows_look x t
/-- what the top has written besides defs -/
structure Wr (K : PySem.W.Frag) (w : World) (mg : Str → Option Value) (sp sm : Addr) (fs : BOp → Addr) : Prop where
  mP : mg "SPOT_WORDS" = some (.ref sp)
  mS : mg "SUMS" = some (.ref sm)
  kP : ∃ its n sl, K.lookup sp = some ⟨.type "tuple", none, .seq its n, sl⟩ ∧ Vals (spotWords.map V.str) its.toList ∧ its.size ≤ sizeLine
  kS : ∀ o : BOp, KDct K w sm o.word (.ref (fs o))
theorem Wr.sqP {K : PySem.W.Frag} {w : World} {mg : Str → Option Value} {sp sm : Addr} {fs : BOp → Addr} (W : Wr K w mg sp sm fs) (H : Hp) : SqT K H sp (spotWords.map V.str) := by
  obtain ⟨its, n, sl, h1, h2, h3⟩ := W.kP
  exact .inr ⟨_, its, n, h1, rfl, rfl, h3, h2⟩
theorem gq {K : PySem.W.Frag} {H : Hp} {a : Addr} {xs : List V} {σ : L2.St} {n : Nat} {g : TGs} {Q : L2.St → Hp → Prop} (h : Sq K H a xs) (hl : xs.length = n) (q : g xs σ H Q) : gOr (gTup K n g) (gLst K n g) (.ref a) σ H Q :=
  h.elim (fun z => .inl ⟨a, xs, rfl, z, hl, q⟩) fun z => .inr ⟨a, xs, rfl, z, hl, q⟩
theorem comes_ok {C : Addr} {H : Hp} {r : Except Str Int} {Q : VK} {E : XK} {i : Int} (h : Comes C H r Q E) (e : r = .ok i) : Q (.int i) H := by subst e; exact h
theorem comes_err {C : Addr} {H : Hp} {r : Except Str Int} {Q : VK} {E : XK} {w : Str} (h : Comes C H r Q E) (e : r = .error w) : Falls C E H w := by subst e; exact h
theorem spot_in {k : Nat} {z : Str} (h : spotWords[k]? = some z) : inV (.str z) (spotWords.map V.str) = true ∧ (∀ m, m < k → spotWords[m]? ≠ some z) ∧ k < 4 ∧ z ≠ "name" ∧ z ≠ "many" ∧ z ≠ "item" := by
  have hk : k < 4 := by
    obtain ⟨h', _⟩ := List.getElem?_eq_some_iff.mp h
    exact h'
  have : k = 0 ∨ k = 1 ∨ k = 2 ∨ k = 3 := by omega
  rcases this with rfl | rfl | rfl | rfl
  · cases (Option.some.inj h); exact ⟨by decide +kernel, fun m hm => absurd hm (by omega), hk, by decide +kernel, by decide +kernel, by decide +kernel⟩
  · cases (Option.some.inj h)
    refine ⟨by decide +kernel, fun m hm => ?_, hk, by decide +kernel, by decide +kernel, by decide +kernel⟩
    have : m = 0 := by omega
    subst this; decide +kernel
  · cases (Option.some.inj h)
    refine ⟨by decide +kernel, fun m hm => ?_, hk, by decide +kernel, by decide +kernel, by decide +kernel⟩
    have : m = 0 ∨ m = 1 := by omega
    rcases this with rfl | rfl <;> decide +kernel
  · cases (Option.some.inj h)
    refine ⟨by decide +kernel, fun m hm => ?_, hk, by decide +kernel, by decide +kernel, by decide +kernel⟩
    have : m = 0 ∨ m = 1 ∨ m = 2 := by omega
    rcases this with rfl | rfl | rfl <;> decide +kernel
theorem bop_words (o : BOp) : inV (.str o.word) (spotWords.map V.str) = false ∧ o.word ≠ "name" ∧ o.word ≠ "many" ∧ o.word ≠ "item" := by
  cases o <;> exact ⟨by decide +kernel, by decide +kernel, by decide +kernel, by decide +kernel⟩
theorem iteB {b : Bool} {A B : Prop} (h : b = true) (a : A) : if b = true then A else B := by subst h; exact iteT a
theorem iteBF {b : Bool} {A B : Prop} (h : b = false) (a : B) : if b = true then A else B := by subst h; exact iteF a
theorem neS {a b : Str} (h : a ≠ b) : ¬ (V.str a = V.str b) := fun z => h (V.str.inj z)
section
variable {P : Program} {w : World} {K : PySem.W.Frag} {mg : Str → Option Value} {base : Heap} {f C fI sp sm : Addr} {fs : BOp → Addr} {fd : FuncData}
abbrev sOut : Stmt := top 25
theorem scOut : FnScope ["look", "eyes", "names", "lists", "spot", "met", "word", "row", "first", "second", "action"] ["look", "eyes"] (defScope sOut) := ⟨rfl, rfl, rfl, by decide +kernel, rfl, by decide +kernel, by decide +kernel⟩
def spOut (K : PySem.W.Frag) (C : Addr) (n : Nat) : Sp := fun vs H Q E => ∃ (v : V) (e : Addr) (L : Lk) (Y : Ey), vs = [v, .ref e] ∧ LkAt K H v L ∧ L.deep ≤ n ∧ Eyes K H e Y ∧ Comes C H (raw Y L) Q E
def spVal (K : PySem.W.Frag) (C : Addr) (n : Nat) : Sp := fun vs H Q E => ∃ (v : V) (e : Addr) (L : Lk) (Y : Ey), vs = [v, .ref e] ∧ LkAt K H v L ∧ L.deep ≤ n ∧ Eyes K H e Y ∧ Comes C H (val Y L) Q E
theorem ok_out {k n : Nat} (W : Wr K w mg sp sm fs) (T : PySem.FellX.FellTxt K mg C fI) (F : Fun K "outcome" "outcome" sOut f fd) (GN : FnG P w K mg base CX0 k "is_number" ["thing"] (spIsNum K))
    (GF : FnG P w K mg base (L2.CX P w) k "first_of" ["pairs", "name"] (spFirst K C)) (GP : FnG P w K mg base (L2.CX P w) k "place_in" ["row", "place"] (spPlace K C)) (GV : FnG P w K mg base (L2.CX P w) k "value_of" ["look", "eyes"] (spVal K C n))
    (GS : ∀ o : BOp, HeldX P w K mg base k (fs o) (spSum C o)) (m_len : mg "len" = none) : FnOk P w K mg base (L2.CX P w) (k + 1) f fd ["look", "eyes"] (spOut K C (n + 1)) := by
  obtain ⟨_, _, G_is_number, m_is_number, k_is_number, b_is_number⟩ := GN
  obtain ⟨_, _, G_first_of, m_first_of, k_first_of, b_first_of⟩ := GF
  obtain ⟨_, _, G_place_in, m_place_in, k_place_in, b_place_in⟩ := GP
  obtain ⟨_, _, G_value_of, m_value_of, k_value_of, b_value_of⟩ := GV
  have sc := scOut
  refine F.okX sc (fun vs H Q E h => ?_) (fun cdv A outer s H vs Q E hr h => ?_)
  · obtain ⟨v, e, L, Y, rfl, _⟩ := h
    rfl
  obtain ⟨v, e, L, Y, rfl, hL, hd, hE, q⟩ := h
  refine ⟨_, (pss_cons (ps_if (pt_val (pe_call G_is_number (hr.mono (by omega)) (by rfl) m_is_number k_is_number b_is_number .nil pass0 (pa_cons (pv 0) pa_nil))) (pss_one (ps_ret (pv 0))) pss_nil)
      (pss_cons (ps_asg (pv 1) (pg_or (pg_tup (by rfl) (pgs_cons (pg_name (i := 2) sc.nd rfl (.inl rfl)) (pgs_cons (pg_name (i := 3) sc.nd rfl (.inl rfl)) (pgs_cons (pg_name (i := 4) sc.nd rfl (.inl rfl)) (pgs_cons (pg_name (i := 5) sc.nd rfl (.inl rfl)) pgs_nil))))) (pg_lst (by rfl) (pgs_cons (pg_name (i := 2) sc.nd rfl (.inl rfl)) (pgs_cons (pg_name (i := 3) sc.nd rfl (.inl rfl)) (pgs_cons (pg_name (i := 4) sc.nd rfl (.inl rfl)) (pgs_cons (pg_name (i := 5) sc.nd rfl (.inl rfl)) pgs_nil)))))))
      (pss_cons (ps_set (i := 6) sc.nd rfl (.inl rfl) (pe_ix (IxR.or ix_tup ix_list) (pv 0) pe_int (fun _ _ => rfl)))
      (pss_cons (ps_if (pt_cmpR op_eq (pv 6) pe_str (nomark _)) (pss_one (ps_ret (pe_callS G_first_of (hr.mono (by omega)) (by rfl) m_first_of k_first_of b_first_of (fun σ => passAt (takes_of rfl rfl rfl rfl) σ) (pa_cons (pv 2) (pa_cons (pe_ix (IxR.or ix_tup ix_list) (pv 0) pe_int (fun _ _ => rfl)) pa_nil))))) pss_nil)
      (pss_cons (ps_if (pt_cmpR op_eq (pv 6) pe_str (nomark _)) (pss_one (ps_ret (pe_callB call_len_seq (by rfl) m_len (by decide +kernel) (pa_cons (pe_callS G_first_of (hr.mono (by omega)) (by rfl) m_first_of k_first_of b_first_of (fun σ => passAt (takes_of rfl rfl rfl rfl) σ) (pa_cons (pv 3) (pa_cons (pe_ix (IxR.or ix_tup ix_list) (pv 0) pe_int (fun _ _ => rfl)) pa_nil))) pa_nil)))) pss_nil)
      (pss_cons (ps_if (pt_cmpR op_eq (pv 6) pe_str (nomark _)) (pss_cons (ps_set (i := 7) sc.nd rfl (.inl rfl) (pe_callS G_first_of (hr.mono (by omega)) (by rfl) m_first_of k_first_of b_first_of (fun σ => passAt (takes_of rfl rfl rfl rfl) σ) (pa_cons (pv 3) (pa_cons (pe_ix (IxR.or ix_tup ix_list) (pv 0) pe_int (fun _ _ => rfl)) pa_nil))))
      (pss_one (ps_ret (pe_ix (IxR.or ix_tup ix_list) (pv 7) (pe_callS G_place_in (hr.mono (by omega)) (by rfl) m_place_in k_place_in b_place_in (fun σ => passAt (takes_of rfl rfl rfl rfl) σ) (pa_cons (pv 7) (pa_cons (pe_callS G_value_of (hr.mono (by omega)) (by rfl) m_value_of k_value_of b_value_of (fun σ => passAt (takes_of rfl rfl rfl rfl) σ) (pa_cons (pe_ix (IxR.or ix_tup ix_list) (pv 0) pe_int (fun _ _ => rfl)) (pa_cons (pv 1) pa_nil))) pa_nil))) (fun _ _ => rfl))))) pss_nil)
      (pss_cons (ps_if (pt_cmpR op_in_seq (pv 6) (pe_glob (v := .ref sp) (by rfl) W.mP rfl) (by rfl)) (pss_one (ps_ret (pe_ix (IxR.or ix_tup ix_list) (pv 4) (pe_bm PySem.F.plainAttrs_tuple PySem.F.slot_tuple_index PySem.F.type_tuple_index mt_tup_index (pe_glob (v := .ref sp) (by rfl) W.mP rfl) (pa_cons (pv 6) pa_nil)) (fun _ _ => rfl)))) pss_nil)
      (pss_cons (ps_set (i := 8) sc.nd rfl (.inl rfl) (pe_callS G_value_of (hr.mono (by omega)) (by rfl) m_value_of k_value_of b_value_of (fun σ => passAt (takes_of rfl rfl rfl rfl) σ) (pa_cons (pe_ix (IxR.or ix_tup ix_list) (pv 0) pe_int (fun _ _ => rfl)) (pa_cons (pv 1) pa_nil))))
      (pss_cons (ps_set (i := 9) sc.nd rfl (.inl rfl) (pe_callS G_value_of (hr.mono (by omega)) (by rfl) m_value_of k_value_of b_value_of (fun σ => passAt (takes_of rfl rfl rfl rfl) σ) (pa_cons (pe_ix (IxR.or ix_tup ix_list) (pv 0) pe_int (fun _ _ => rfl)) (pa_cons (pv 1) pa_nil))))
      (pss_cons (ps_set (i := 10) sc.nd rfl (.inl rfl) (pe_ix ix_kdict (pe_glob (v := .ref sm) (by rfl) W.mS rfl) (pv 6) (fun _ _ => rfl)))
      (pss_one (ps_ret (pe_callX (k := k) (i := 10) (hr.mono (by omega)) rfl (.inl rfl) (fun σ => passAt (takes_of rfl rfl rfl rfl) σ) (by exact (pa_cons (pv 8) (pa_cons (pv 9) pa_nil)))))))))))))))), ?_⟩
  obtain ⟨en, el, es, em, he, hY⟩ := id hE
  cases hL with
  | num i => exact ⟨_, rfl, _, rfl, .inl ⟨i, rfl, _, rfl, iteT ⟨_, rfl, q⟩⟩⟩
  | @name a x hs =>
    refine ⟨_, rfl, _, rfl, .inr ⟨a, _, rfl, hs, _, rfl, iteF ⟨_, rfl, gq he rfl ⟨_, _, rfl, _, _, rfl, _, _, rfl, _, _, rfl, rfl, _, rfl, ixq hs rfl ?_⟩⟩⟩⟩
    obtain ⟨ps, h1, h2⟩ := hY.nm
    refine ⟨_, rfl, rfl, _, rfl, ifT rfl ⟨_, rfl, _, rfl, ixq hs rfl ⟨en, ps, _, x, rfl, h1, h2, fun u hu => ?_, fun hn => ?_⟩⟩⟩
    · rw [names_look] at hu
      cases e : Y.names.lookup x with
      | none => rw [e] at hu; cases hu
      | some i => rw [e] at hu; cases hu; exact comes_ok q (show some_of (Y.names.lookup x) .ok = .ok i by rw [e]; rfl)
    · rw [names_look] at hn
      cases e : Y.names.lookup x with
      | some i => rw [e] at hn; cases hn
      | none => exact comes_err q (show some_of (Y.names.lookup x) .ok = .error "none" by rw [e]; rfl)
  | @many a x hs =>
    refine ⟨_, rfl, _, rfl, .inr ⟨a, _, rfl, hs, _, rfl, iteF ⟨_, rfl, gq he rfl ⟨_, _, rfl, _, _, rfl, _, _, rfl, _, _, rfl, rfl, _, rfl, ixq hs rfl ?_⟩⟩⟩⟩
    obtain ⟨ps, rs, h1, h2, h3⟩ := hY.ls
    refine ⟨_, rfl, rfl, _, rfl, ifF (neS (by decide +kernel)) ⟨_, rfl, rfl, _, rfl, ifT rfl ⟨_, rfl, _, rfl, ixq hs rfl ⟨el, ps, rs, x, rfl, h1, h2, fun u hu => ?_, fun hn => ?_⟩⟩⟩⟩
    · rcases rows_look x h3 with ⟨z, _⟩ | ⟨b, l, z, zl, zs⟩
      · rw [z] at hu; cases hu
      · rw [z] at hu
        cases hu
        refine ⟨b, _, rfl, zs.symm, ?_⟩
        rw [List.length_map]
        exact comes_ok q (show some_of (Y.lists.lookup x) (fun l => .ok l.length) = _ by rw [zl]; rfl)
    · rcases rows_look x h3 with ⟨_, z⟩ | ⟨b, l, z, zl, zs⟩
      · exact comes_err q (show some_of (Y.lists.lookup x) (fun l => .ok l.length) = .error "none" by rw [z]; rfl)
      · rw [z] at hn; cases hn
  | @item a x u L hs hu =>
    refine ⟨_, rfl, _, rfl, .inr ⟨a, _, rfl, hs, _, rfl, iteF ⟨_, rfl, gq he rfl ⟨_, _, rfl, _, _, rfl, _, _, rfl, _, _, rfl, rfl, _, rfl, ixq hs rfl ?_⟩⟩⟩⟩
    obtain ⟨ps, rs, h1, h2, h3⟩ := hY.ls
    refine ⟨_, rfl, rfl, _, rfl, ifF (neS (by decide +kernel)) ⟨_, rfl, rfl, _, rfl, ifF (neS (by decide +kernel)) ⟨_, rfl, rfl, _, rfl, ifT rfl ⟨_, rfl, _, rfl, ixq hs rfl ⟨el, ps, rs, x, rfl, h1, h2, fun u' hu' => ?_, fun hn => ?_⟩⟩⟩⟩⟩
    · rcases rows_look x h3 with ⟨z, _⟩ | ⟨b, l, z, zl, zs⟩
      · rw [z] at hu'; cases hu'
      · rw [z] at hu'
        cases hu'
        have q1 : Comes C H (then_ (val Y L) (itemOf l)) Q E := by
          have q0 : Comes C H (some_of (Y.lists.lookup x) fun l => then_ (val Y L) (itemOf l)) Q E := q
          rw [zl] at q0
          exact q0
        refine ⟨_, rfl, _, rfl, _, rfl, ixq hs rfl ⟨_, rfl, u, e, L, Y, rfl, hu, Nat.le_of_succ_le_succ hd, hE, ?_⟩⟩
        cases ev : val Y L with
        | error z => exact comes_err q1 (by rw [ev]; rfl)
        | ok i =>
          rw [ev] at q1
          refine ⟨b, _, i, rfl, zs, fun hi => ?_, fun hi => ?_⟩
          · rw [List.length_map] at hi
            have hl : i.toNat < l.length := by omega
            refine ixq zs (v := .int (l.getD i.toNat 0)) ?_ (comes_ok q1 (if_pos hi))
            have ei : i = ((i.toNat : Nat) : Int) := by omega
            rw [ei]
            exact atI_nat (by rw [Int.toNat_natCast, List.getElem?_map, List.getD_eq_getElem?_getD, List.getElem?_eq_getElem hl]; rfl)
          · rw [List.length_map] at hi
            exact comes_err q1 (if_neg hi)
    · rcases rows_look x h3 with ⟨_, z⟩ | ⟨b, l, z, zl, zs⟩
      · exact comes_err q (show some_of (Y.lists.lookup x) (fun l => then_ (val Y L) (itemOf l)) = .error "none" by rw [z]; rfl)
      · rw [z] at hn; cases hn
  | @spot a j z hk hs =>
    obtain ⟨w1, w2, w3, w4, w5, w6⟩ := spot_in hk
    obtain ⟨its, nn, sl, p1, p2, p3⟩ := W.kP
    refine ⟨_, rfl, _, rfl, .inr ⟨a, _, rfl, hs, _, rfl, iteF ⟨_, rfl, gq he rfl ⟨_, _, rfl, _, _, rfl, _, _, rfl, _, _, rfl, rfl, _, rfl, ixq hs rfl ?_⟩⟩⟩⟩
    refine ⟨_, rfl, rfl, _, rfl, ifF (neS w4) ⟨_, rfl, rfl, _, rfl, ifF (neS w5) ⟨_, rfl, rfl, _, rfl, ifF (neS w6) ⟨_, rfl, sp, _, rfl, .inr (W.sqP H), rfl, by decide +kernel, _, rfl, iteB w1 ?_⟩⟩⟩⟩
    refine ⟨_, rfl, .inr (.inl ⟨rfl, _, p1, rfl, rfl⟩), _, rfl, sp, spotWords, z, j, rfl, rfl, W.sqP H, hk, w2, ixq hY.sp (v := .int (Y.spot.getD j 0)) (atI_nat ?_) q⟩
    have h4 : j < Y.spot.length := by rw [hY.s4]; exact w3
    rw [List.getElem?_map, List.getD_eq_getElem?_getD, List.getElem?_eq_getElem h4]
    rfl
  | @bin a o u v L M hs hu hv =>
    obtain ⟨w1, w2, w3, w4⟩ := bop_words o
    refine ⟨_, rfl, _, rfl, .inr ⟨a, _, rfl, hs, _, rfl, iteF ⟨_, rfl, gq he rfl ⟨_, _, rfl, _, _, rfl, _, _, rfl, _, _, rfl, rfl, _, rfl, ixq hs rfl ?_⟩⟩⟩⟩
    refine ⟨_, rfl, rfl, _, rfl, ifF (neS w2) ⟨_, rfl, rfl, _, rfl, ifF (neS w3) ⟨_, rfl, rfl, _, rfl, ifF (neS w4) ⟨_, rfl, sp, _, rfl, .inr (W.sqP H), rfl, by decide +kernel, _, rfl, iteBF w1 ?_⟩⟩⟩⟩
    have hd' : max L.deep M.deep ≤ n := Nat.le_of_succ_le_succ hd
    have q1 : Comes C H (then_ (val Y L) fun i => then_ (val Y M) fun j => o.run i j) Q E := q
    refine ⟨_, rfl, ixq hs rfl ⟨_, rfl, u, e, L, Y, rfl, hu, by omega, hE, ?_⟩⟩
    cases ev : val Y L with
    | error z => exact comes_err q1 (by rw [ev]; rfl)
    | ok i =>
      rw [ev] at q1
      refine ⟨_, rfl, ixq hs rfl ⟨_, rfl, v, e, M, Y, rfl, hv, by omega, hE, ?_⟩⟩
      cases ew : val Y M with
      | error z => exact comes_err q1 (by show then_ (val Y M) _ = _; rw [ew]; rfl)
      | ok j =>
        have q2 : Comes C H (o.run i j) Q E := by
          have q0 : Comes C H (then_ (val Y M) fun j => o.run i j) Q E := q1
          rw [ew] at q0
          exact q0
        exact ⟨_, rfl, sm, o.word, _, rfl, rfl, W.kS o, fs o, spSum C o, rfl, GS o, _, rfl, _, rfl, i, j, rfl, val_in ev, val_in ew, q2⟩
end
end Fd

set_option Elab.async false
set_option linter.all false
set_option maxRecDepth 100000
set_option maxHeartbeats 2000000
namespace Fd
open PySem PySem.Spec PyProof.Rows L2
section
variable {P : Program} {w : World} {K : PySem.W.Frag} {mg : Str → Option Value} {base : Heap} {f C fI sp sm : Addr} {fs : BOp → Addr} {fd : FuncData}
abbrev sVal : Stmt := top 24
theorem ok_val {k n : Nat} (T : PySem.FellX.FellTxt K mg C fI) (F : Fun K "value_of" "value_of" sVal f fd) (GI : FnG P w K mg base CX0 k "is_value" ["thing"] spIsVal)
    (GO : FnG P w K mg base (L2.CX P w) k "outcome" ["look", "eyes"] (spOut K C n)) : FnOk P w K mg base (L2.CX P w) (k + 1) f fd ["look", "eyes"] (spVal K C n) := by
  obtain ⟨_, _, G_is_value, m_is_value, k_is_value, b_is_value⟩ := GI
  obtain ⟨_, _, G_outcome, m_outcome, k_outcome, b_outcome⟩ := GO
  have sc : FnScope ["look", "eyes", "value"] ["look", "eyes"] (defScope sVal) := ⟨rfl, rfl, rfl, by decide +kernel, rfl, by decide +kernel, by decide +kernel⟩
  refine F.okX sc (fun vs H Q E h => ?_) (fun cdv A outer s H vs Q E hr h => ?_)
  · obtain ⟨v, e, L, Y, rfl, _⟩ := h
    rfl
  obtain ⟨v, e, L, Y, rfl, hL, hd, hE, q⟩ := h
  refine ⟨_, (pss_cons (ps_set (i := 2) sc.nd rfl (.inl rfl) (pe_callS G_outcome (hr.mono (by omega)) (by rfl) m_outcome k_outcome b_outcome (fun σ => passAt (takes_of rfl rfl rfl rfl) σ) (pa_cons (pv 0) (pa_cons (pv 1) pa_nil))))
      (pss_cons (ps_if (pt_not (pt_val (pe_call G_is_value (hr.mono (by omega)) (by rfl) m_is_value k_is_value b_is_value .nil pass0 (pa_cons (pv 2) pa_nil)))) (pss_one (ps_raiseFell rfl T hr (takes_of rfl rfl rfl rfl) (by exact (pa_cons pe_str pa_nil)))) pss_nil)
      (pss_one (ps_ret (pv 2))))), ?_⟩
  rw [val_raw] at q
  refine ⟨_, rfl, _, rfl, v, e, L, Y, rfl, hL, hd, hE, ?_⟩
  cases er : raw Y L with
  | error z => exact comes_err q (by rw [er]; rfl)
  | ok i =>
    rw [er] at q
    refine ⟨_, rfl, i, rfl, _, rfl, ?_⟩
    by_cases hi : inB i = true
    · rw [hi]
      exact iteF ⟨_, rfl, comes_ok q (if_pos hi)⟩
    · rw [Bool.eq_false_iff.mpr hi]
      exact iteT ⟨_, rfl, fun d nd => comes_err q (if_neg hi) d nd⟩
/-- the defs of looks.py that the two call -/
structure Looks5 (P : Program) (w : World) (K : PySem.W.Frag) (mg : Str → Option Value) (base : Heap) (C fI sp sm : Addr) (fs : BOp → Addr) : Prop where
  T : PySem.FellX.FellTxt K mg C fI
  W : Wr K w mg sp sm fs
  N : FnG P w K mg base CX0 3 "is_number" ["thing"] (spIsNum K)
  I : FnG P w K mg base CX0 3 "is_value" ["thing"] spIsVal
  F : FnG P w K mg base (L2.CX P w) 3 "first_of" ["pairs", "name"] (spFirst K C)
  L : FnG P w K mg base (L2.CX P w) 3 "place_in" ["row", "place"] (spPlace K C)
  S : ∀ o : BOp, HeldX P w K mg base 3 (fs o) (spSum C o)
theorem FnG.mono {P : Program} {w : World} {K : PySem.W.Frag} {mg : Str → Option Value} {base : Heap} {CX : CXT} {j k : Nat} {x : Str} {ps : List Str} {sp : Sp} (G : FnG P w K mg base CX j x ps sp) (h : j ≤ k) : FnG P w K mg base CX k x ps sp := by
  obtain ⟨f, fd, F, r⟩ := G
  exact ⟨f, fd, F.mono h, r⟩
theorem HeldX.mono {P : Program} {w : World} {K : PySem.W.Frag} {mg : Str → Option Value} {base : Heap} {j k : Nat} {f : Addr} {sp : Sp} (G : HeldX P w K mg base j f sp) (h : j ≤ k) : HeldX P w K mg base k f sp := by
  obtain ⟨fd, ps, F, r⟩ := G
  exact ⟨fd, ps, F.mono h, r⟩
theorem ok_values {fo : Addr} {fod : FuncData} (L : Looks5 P w K mg base C fI sp sm fs) (m_len : mg "len" = none) (DV : Df K mg "value_of" sVal ["look", "eyes"] f fd) (DO : Df K mg "outcome" sOut ["look", "eyes"] fo fod) :
    ∀ n, FnG P w K mg base (L2.CX P w) (2 * n + 4) "value_of" ["look", "eyes"] (spVal K C n)
  | 0 => ⟨f, fd, ⟨fun vs H Q E h => by
      obtain ⟨v, e, L, Y, rfl, _⟩ := h
      rfl, fun A outer s H args us vs Q E _ _ _ _ h => by
      obtain ⟨v, e, L, Y, _, _, hd, _⟩ := h
      exact absurd hd (by cases L <;> simp [Lk.deep])⟩, DV.m, DV.F.kp, DV.b⟩
  | n + 1 => by
    have G := ok_values L m_len DV DO n
    have O : FnG P w K mg base (L2.CX P w) (2 * n + 5) "outcome" ["look", "eyes"] (spOut K C (n + 1)) :=
      DO.g (ok_out (k := 2 * n + 4) L.W L.T DO.F (L.N.mono (by omega)) (L.F.mono (by omega)) (L.L.mono (by omega)) G (fun o => (L.S o).mono (by omega)) m_len)
    exact DV.g (ok_val (k := 2 * n + 5) L.T DV.F (L.I.mono (by omega)) O)
/-! ### tests -/
end
inductive Ts where
  | like (a b : Lk) | less (a b : Lk) | not_ (t : Ts) | both (t u : Ts) | any_ (t u : Ts) | meets (x : Str)
def thenB {α β : Type} (r : Except Str α) (f : α → Except Str β) : Except Str β := match r with
  | .ok i => f i
  | .error w => .error w
def hold (Y : Ey) : Ts → Except Str Bool
  | .like a b => thenB (val Y a) fun i => thenB (val Y b) fun j => .ok (decide (i = j))
  | .less a b => thenB (val Y a) fun i => thenB (val Y b) fun j => .ok (decide (i < j))
  | .not_ t => thenB (hold Y t) fun b => .ok (!b)
  | .both t u => thenB (hold Y t) fun b => if b = true then hold Y u else .ok false
  | .any_ t u => thenB (hold Y t) fun b => if b = true then .ok true else hold Y u
  | .meets x => .ok (decide (x ∈ Y.met))
def Ts.deep : Ts → Nat
  | .like a b => max a.deep b.deep + 1
  | .less a b => max a.deep b.deep + 1
  | .not_ t => t.deep + 1
  | .both t u => max t.deep u.deep + 1
  | .any_ t u => max t.deep u.deep + 1
  | .meets _ => 1
inductive TsAt (K : PySem.W.Frag) (H : Hp) : V → Ts → Prop where
  | like {a : Addr} {u v : V} {L M : Lk} (h : Sq K H a [.str "like", u, v]) (hu : LkAt K H u L) (hv : LkAt K H v M) : TsAt K H (.ref a) (.like L M)
  | less {a : Addr} {u v : V} {L M : Lk} (h : Sq K H a [.str "below", u, v]) (hu : LkAt K H u L) (hv : LkAt K H v M) : TsAt K H (.ref a) (.less L M)
  | not_ {a : Addr} {u : V} {t : Ts} (h : Sq K H a [.str "not", u]) (hu : TsAt K H u t) : TsAt K H (.ref a) (.not_ t)
  | both {a : Addr} {u v : V} {t t' : Ts} (h : Sq K H a [.str "both", u, v]) (hu : TsAt K H u t) (hv : TsAt K H v t') : TsAt K H (.ref a) (.both t t')
  | any_ {a : Addr} {u v : V} {t t' : Ts} (h : Sq K H a [.str "any", u, v]) (hu : TsAt K H u t) (hv : TsAt K H v t') : TsAt K H (.ref a) (.any_ t t')
  | meets {a : Addr} {x : Str} (h : Sq K H a [.str "meets", .str x]) : TsAt K H (.ref a) (.meets x)
theorem TsAt.same {K : PySem.W.Frag} {H H' : Hp} (s : Same H H') {v : V} {t : Ts} (h : TsAt K H v t) : TsAt K H' v t := by
  induction h with
  | like h hu hv => exact .like (h.same s) (hu.same s) (hv.same s)
  | less h hu hv => exact .less (h.same s) (hu.same s) (hv.same s)
  | not_ h _ ih => exact .not_ (h.same s) ih
  | both h _ _ i1 i2 => exact .both (h.same s) i1 i2
  | any_ h _ _ i1 i2 => exact .any_ (h.same s) i1 i2
  | meets h => exact .meets (h.same s)
def ComesB (C : Addr) (H : Hp) (r : Except Str Bool) (Q : VK) (E : XK) : Prop := match r with
  | .ok b => Q (.bl b) H
  | .error w => Falls C E H w
theorem comesB_ok {C : Addr} {H : Hp} {r : Except Str Bool} {Q : VK} {E : XK} {i : Bool} (h : ComesB C H r Q E) (e : r = .ok i) : Q (.bl i) H := by subst e; exact h
theorem comesB_err {C : Addr} {H : Hp} {r : Except Str Bool} {Q : VK} {E : XK} {w : Str} (h : ComesB C H r Q E) (e : r = .error w) : Falls C E H w := by subst e; exact h
theorem in_met (x : Str) : ∀ m : List Str, inV (.str x) (m.map V.str) = decide (x ∈ m)
  | [] => by rw [decide_eq_false (by simp)]; rfl
  | y :: r => by
    show (y == x || inV (.str x) (r.map V.str)) = _
    rw [in_met x r]
    by_cases h : y = x
    · subst h
      rw [decide_eq_true (List.mem_cons_self), beq_self_eq_true]
      rfl
    · rw [beq_eq_false_iff_ne.mpr h, Bool.false_or]
      by_cases g : x ∈ r
      · rw [decide_eq_true g, decide_eq_true (List.mem_cons_of_mem _ g)]
      · rw [decide_eq_false g, decide_eq_false (fun z => (List.mem_cons.mp z).elim (fun e => h e.symm) g)]
theorem flat_met : ∀ m : List Str, (m.map V.str).all flatV = true
  | [] => rfl
  | _ :: r => by rw [List.map_cons, List.all_cons, flat_met r]; rfl
section
variable {P : Program} {w : World} {K : PySem.W.Frag} {mg : Str → Option Value} {base : Heap} {f C fI sp sm : Addr} {fs : BOp → Addr} {fd : FuncData}
abbrev sHolds : Stmt := top 28
def spHold (K : PySem.W.Frag) (C : Addr) (n : Nat) : Sp := fun vs H Q E => ∃ (v : V) (e : Addr) (t : Ts) (Y : Ey), vs = [v, .ref e] ∧ TsAt K H v t ∧ t.deep ≤ n ∧ Eyes K H e Y ∧ ComesB C H (hold Y t) Q E
theorem ok_hold {k n : Nat} (T : PySem.FellX.FellTxt K mg C fI) (F : Fun K "holds" "holds" sHolds f fd) (GV : FnG P w K mg base (L2.CX P w) k "value_of" ["look", "eyes"] (spVal K C n))
    (GH : FnG P w K mg base (L2.CX P w) k "holds" ["test", "eyes"] (spHold K C n)) : FnOk P w K mg base (L2.CX P w) (k + 1) f fd ["test", "eyes"] (spHold K C (n + 1)) := by
  obtain ⟨_, _, G_value_of, m_value_of, k_value_of, b_value_of⟩ := GV
  obtain ⟨_, _, G_holds, m_holds, k_holds, b_holds⟩ := GH
  have sc : FnScope ["test", "eyes", "word", "first", "second"] ["test", "eyes"] (defScope sHolds) := ⟨rfl, rfl, rfl, by decide +kernel, rfl, by decide +kernel, by decide +kernel⟩
  refine F.okX sc (fun vs H Q E h => ?_) (fun cdv A outer s H vs Q E hr h => ?_)
  · obtain ⟨v, e, L, Y, rfl, _⟩ := h
    rfl
  obtain ⟨v, e, t, Y, rfl, hT, hd, hE, q⟩ := h
  refine ⟨_, (pss_cons (ps_set (i := 2) sc.nd rfl (.inl rfl) (pe_ix (IxR.or ix_tup ix_list) (pv 0) pe_int (fun _ _ => rfl)))
      (pss_cons (ps_if (pt_cmpR op_eq (pv 2) pe_str (nomark _)) (pss_one (ps_ret (pe_cmpR op_in_seq (pe_ix (IxR.or ix_tup ix_list) (pv 0) pe_int (fun _ _ => rfl)) (pe_ix (IxR.or ix_tup ix_list) (pv 1) pe_int (fun _ _ => rfl)) (by rfl)))) pss_nil)
      (pss_cons (ps_if (pt_cmpR op_eq (pv 2) pe_str (nomark _)) (pss_one (ps_ret (pe_not (pe_callS G_holds (hr.mono (by omega)) (by rfl) m_holds k_holds b_holds (fun σ => passAt (takes_of rfl rfl rfl rfl) σ) (pa_cons (pe_ix (IxR.or ix_tup ix_list) (pv 0) pe_int (fun _ _ => rfl)) (pa_cons (pv 1) pa_nil)))))) pss_nil)
      (pss_cons (ps_if (pt_cmpR op_eq (pv 2) pe_str (nomark _)) (pss_one (ps_ret (pe_and (pe_callS G_holds (hr.mono (by omega)) (by rfl) m_holds k_holds b_holds (fun σ => passAt (takes_of rfl rfl rfl rfl) σ) (pa_cons (pe_ix (IxR.or ix_tup ix_list) (pv 0) pe_int (fun _ _ => rfl)) (pa_cons (pv 1) pa_nil))) (pe_one (pe_callS G_holds (hr.mono (by omega)) (by rfl) m_holds k_holds b_holds (fun σ => passAt (takes_of rfl rfl rfl rfl) σ) (pa_cons (pe_ix (IxR.or ix_tup ix_list) (pv 0) pe_int (fun _ _ => rfl)) (pa_cons (pv 1) pa_nil))))))) pss_nil)
      (pss_cons (ps_if (pt_cmpR op_eq (pv 2) pe_str (nomark _)) (pss_one (ps_ret (pe_or (pe_callS G_holds (hr.mono (by omega)) (by rfl) m_holds k_holds b_holds (fun σ => passAt (takes_of rfl rfl rfl rfl) σ) (pa_cons (pe_ix (IxR.or ix_tup ix_list) (pv 0) pe_int (fun _ _ => rfl)) (pa_cons (pv 1) pa_nil))) (pe_one (pe_callS G_holds (hr.mono (by omega)) (by rfl) m_holds k_holds b_holds (fun σ => passAt (takes_of rfl rfl rfl rfl) σ) (pa_cons (pe_ix (IxR.or ix_tup ix_list) (pv 0) pe_int (fun _ _ => rfl)) (pa_cons (pv 1) pa_nil))))))) pss_nil)
      (pss_cons (ps_set (i := 3) sc.nd rfl (.inl rfl) (pe_callS G_value_of (hr.mono (by omega)) (by rfl) m_value_of k_value_of b_value_of (fun σ => passAt (takes_of rfl rfl rfl rfl) σ) (pa_cons (pe_ix (IxR.or ix_tup ix_list) (pv 0) pe_int (fun _ _ => rfl)) (pa_cons (pv 1) pa_nil))))
      (pss_cons (ps_set (i := 4) sc.nd rfl (.inl rfl) (pe_callS G_value_of (hr.mono (by omega)) (by rfl) m_value_of k_value_of b_value_of (fun σ => passAt (takes_of rfl rfl rfl rfl) σ) (pa_cons (pe_ix (IxR.or ix_tup ix_list) (pv 0) pe_int (fun _ _ => rfl)) (pa_cons (pv 1) pa_nil))))
      (pss_one (ps_ret (pe_ifExp (pt_cmpR op_eq (pv 2) pe_str (nomark _)) (pe_cmpR op_eq (pv 3) (pv 4) (nomark _)) (pe_cmpR op_lt (pv 3) (pv 4) (nomark _)))))))))))), ?_⟩
  obtain ⟨en, el, es, em, he, hY⟩ := id hE
  cases hT with
  | @meets a x hs =>
    refine ⟨_, rfl, ixq hs rfl ⟨_, rfl, rfl, _, rfl, ifT rfl ⟨_, rfl, ixq hs rfl ⟨_, rfl, ixq he rfl ⟨em, _, rfl, hY.mt.symm, rfl, flat_met _, ?_⟩⟩⟩⟩⟩
    show Q (.bl (inV (.str x) (Y.met.map V.str))) H
    rw [in_met]
    exact q
  | @not_ a u t hs hu =>
    refine ⟨_, rfl, ixq hs rfl ⟨_, rfl, rfl, _, rfl, ifF (neS (by decide +kernel)) ⟨_, rfl, rfl, _, rfl, ifT rfl ⟨_, rfl, ixq hs rfl ⟨_, rfl, u, e, t, Y, rfl, hu, Nat.le_of_succ_le_succ hd, hE, ?_⟩⟩⟩⟩⟩
    have q1 : ComesB C H (thenB (hold Y t) fun b => .ok (!b)) Q E := q
    cases ev : hold Y t with
    | error z => exact comesB_err q1 (by rw [ev]; rfl)
    | ok b => exact ⟨_, rfl, comesB_ok q1 (by rw [ev]; rfl)⟩
  | @both a u v t t' hs hu hv =>
    have hd' : max t.deep t'.deep ≤ n := Nat.le_of_succ_le_succ hd
    refine ⟨_, rfl, ixq hs rfl ⟨_, rfl, rfl, _, rfl, ifF (neS (by decide +kernel)) ⟨_, rfl, rfl, _, rfl, ifF (neS (by decide +kernel)) ⟨_, rfl, rfl, _, rfl, ifT rfl ⟨_, rfl, ixq hs rfl ⟨_, rfl, u, e, t, Y, rfl, hu, by omega, hE, ?_⟩⟩⟩⟩⟩⟩
    have q1 : ComesB C H (thenB (hold Y t) fun b => if b = true then hold Y t' else .ok false) Q E := q
    cases ev : hold Y t with
    | error z => exact comesB_err q1 (by rw [ev]; rfl)
    | ok b =>
      rw [ev] at q1
      cases b with
      | true => exact ⟨_, rfl, iteT ⟨_, rfl, ixq hs rfl ⟨_, rfl, v, e, t', Y, rfl, hv, by omega, hE, q1⟩⟩⟩
      | false => exact ⟨_, rfl, iteF q1⟩
  | @any_ a u v t t' hs hu hv =>
    have hd' : max t.deep t'.deep ≤ n := Nat.le_of_succ_le_succ hd
    refine ⟨_, rfl, ixq hs rfl ⟨_, rfl, rfl, _, rfl, ifF (neS (by decide +kernel)) ⟨_, rfl, rfl, _, rfl, ifF (neS (by decide +kernel)) ⟨_, rfl, rfl, _, rfl, ifF (neS (by decide +kernel)) ⟨_, rfl, rfl, _, rfl, ifT rfl
      ⟨_, rfl, ixq hs rfl ⟨_, rfl, u, e, t, Y, rfl, hu, by omega, hE, ?_⟩⟩⟩⟩⟩⟩⟩
    have q1 : ComesB C H (thenB (hold Y t) fun b => if b = true then .ok true else hold Y t') Q E := q
    cases ev : hold Y t with
    | error z => exact comesB_err q1 (by rw [ev]; rfl)
    | ok b =>
      rw [ev] at q1
      cases b with
      | true => exact ⟨_, rfl, iteT q1⟩
      | false => exact ⟨_, rfl, iteF ⟨_, rfl, ixq hs rfl ⟨_, rfl, v, e, t', Y, rfl, hv, by omega, hE, q1⟩⟩⟩
  | @like a u v L M hs hu hv =>
    have hd' : max L.deep M.deep ≤ n := Nat.le_of_succ_le_succ hd
    have q1 : ComesB C H (thenB (val Y L) fun i => thenB (val Y M) fun j => .ok (decide (i = j))) Q E := q
    refine ⟨_, rfl, ixq hs rfl ⟨_, rfl, rfl, _, rfl, ifF (neS (by decide +kernel)) ⟨_, rfl, rfl, _, rfl, ifF (neS (by decide +kernel)) ⟨_, rfl, rfl, _, rfl, ifF (neS (by decide +kernel)) ⟨_, rfl, rfl, _, rfl, ifF (neS (by decide +kernel))
      ⟨_, rfl, ixq hs rfl ⟨_, rfl, u, e, L, Y, rfl, hu, by omega, hE, ?_⟩⟩⟩⟩⟩⟩⟩
    cases ev : val Y L with
    | error z => exact comesB_err q1 (by rw [ev]; rfl)
    | ok i =>
      refine ⟨_, rfl, ixq hs rfl ⟨_, rfl, v, e, M, Y, rfl, hv, by omega, hE, ?_⟩⟩
      cases ew : val Y M with
      | error z => exact comesB_err q1 (by rw [ev]; show thenB (val Y M) _ = _; rw [ew]; rfl)
      | ok j =>
        refine ⟨_, rfl, rfl, _, rfl, ifT rfl ⟨_, rfl, _, rfl, rfl, ?_⟩⟩
        have q2 := comesB_ok q1 (i := decide (i = j)) (by rw [ev]; show thenB (val Y M) _ = _; rw [ew]; rfl)
        by_cases h : i = j
        · subst h
          exact qd (by rw [decide_eq_true rfl] at q2; exact q2)
        · rw [decide_eq_false h] at q2
          show Q (.bl (decide (V.int i = V.int j))) H
          rw [decide_eq_false (fun z => h (V.int.inj z))]
          exact q2
  | @less a u v L M hs hu hv =>
    have hd' : max L.deep M.deep ≤ n := Nat.le_of_succ_le_succ hd
    have q1 : ComesB C H (thenB (val Y L) fun i => thenB (val Y M) fun j => .ok (decide (i < j))) Q E := q
    refine ⟨_, rfl, ixq hs rfl ⟨_, rfl, rfl, _, rfl, ifF (neS (by decide +kernel)) ⟨_, rfl, rfl, _, rfl, ifF (neS (by decide +kernel)) ⟨_, rfl, rfl, _, rfl, ifF (neS (by decide +kernel)) ⟨_, rfl, rfl, _, rfl, ifF (neS (by decide +kernel))
      ⟨_, rfl, ixq hs rfl ⟨_, rfl, u, e, L, Y, rfl, hu, by omega, hE, ?_⟩⟩⟩⟩⟩⟩⟩
    cases ev : val Y L with
    | error z => exact comesB_err q1 (by rw [ev]; rfl)
    | ok i =>
      refine ⟨_, rfl, ixq hs rfl ⟨_, rfl, v, e, M, Y, rfl, hv, by omega, hE, ?_⟩⟩
      cases ew : val Y M with
      | error z => exact comesB_err q1 (by rw [ev]; show thenB (val Y M) _ = _; rw [ew]; rfl)
      | ok j =>
        exact ⟨_, rfl, rfl, _, rfl, ifF (neS (by decide +kernel)) ⟨_, rfl, _, rfl, _, _, rfl, rfl, comesB_ok q1 (i := decide (i < j)) (by rw [ev]; show thenB (val Y M) _ = _; rw [ew]; rfl)⟩⟩
theorem ok_holds (T : PySem.FellX.FellTxt K mg C fI) (D : Df K mg "holds" sHolds ["test", "eyes"] f fd) (G : ∀ n, FnG P w K mg base (L2.CX P w) (2 * n + 4) "value_of" ["look", "eyes"] (spVal K C n)) :
    ∀ n, FnG P w K mg base (L2.CX P w) (2 * n + 4) "holds" ["test", "eyes"] (spHold K C n)
  | 0 => ⟨f, fd, ⟨fun vs H Q E h => by
      obtain ⟨v, e, L, Y, rfl, _⟩ := h
      rfl, fun A outer s H args us vs Q E _ _ _ _ h => by
      obtain ⟨v, e, L, Y, _, _, hd, _⟩ := h
      exact absurd hd (by cases L <;> simp [Ts.deep])⟩, D.m, D.F.kp, D.b⟩
  | n + 1 => FnG.mono (D.g (ok_hold (k := 2 * n + 4) T D.F (G n) (ok_holds T D G n))) (by omega)
end
end Fd

set_option Elab.async false
set_option linter.all false
set_option maxRecDepth 100000
set_option maxHeartbeats 2000000
namespace Fd
open PySem PySem.Spec PyProof.Rows L2
/-! ### the kinds of plain data -/
def tyN : PyData → String
  | .none => "NoneType" | .bool _ => "bool" | .int _ => "int" | .str _ => "str" | .list _ => "list" | .tuple _ => "tuple" | .dict _ => "dict"
theorem ty_of {K : PySem.W.Frag} {H : Hp} {v : V} {d : PyData} (h : Dp K H v d) : TyX K H v (.type (tyN d)) := by
  cases h with
  | non => exact .base .non
  | bl b => exact .base (.bl b)
  | int i => exact .base (.int i)
  | str x => exact .base (.str x)
  | lst h _ => exact ty_lst h
  | tup h _ => exact ty_tup h
def isI : PyData → Bool | .int _ => true | .bool _ => true | _ => false
def isB : PyData → Bool | .bool _ => true | _ => false
def isS : PyData → Bool | .str _ => true | _ => false
def isT : PyData → Bool | .tuple _ => true | _ => false
def isNum : PyData → Bool | .int _ => true | _ => false
theorem kI : ∀ d, kitB (tyN d) "int" = some (isI d)
  | .none => (by decide +kernel : kitB "NoneType" "int" = some false) | .bool _ => (by decide +kernel : kitB "bool" "int" = some true) | .int _ => (by decide +kernel : kitB "int" "int" = some true) | .str _ => (by decide +kernel : kitB "str" "int" = some false)
  | .list _ => (by decide +kernel : kitB "list" "int" = some false) | .tuple _ => (by decide +kernel : kitB "tuple" "int" = some false) | .dict _ => (by decide +kernel : kitB "dict" "int" = some false)
theorem kB : ∀ d, kitB (tyN d) "bool" = some (isB d)
  | .none => (by decide +kernel : kitB "NoneType" "bool" = some false) | .bool _ => (by decide +kernel : kitB "bool" "bool" = some true) | .int _ => (by decide +kernel : kitB "int" "bool" = some false) | .str _ => (by decide +kernel : kitB "str" "bool" = some false)
  | .list _ => (by decide +kernel : kitB "list" "bool" = some false) | .tuple _ => (by decide +kernel : kitB "tuple" "bool" = some false) | .dict _ => (by decide +kernel : kitB "dict" "bool" = some false)
theorem kS : ∀ d, kitB (tyN d) "str" = some (isS d)
  | .none => (by decide +kernel : kitB "NoneType" "str" = some false) | .bool _ => (by decide +kernel : kitB "bool" "str" = some false) | .int _ => (by decide +kernel : kitB "int" "str" = some false) | .str _ => (by decide +kernel : kitB "str" "str" = some true)
  | .list _ => (by decide +kernel : kitB "list" "str" = some false) | .tuple _ => (by decide +kernel : kitB "tuple" "str" = some false) | .dict _ => (by decide +kernel : kitB "dict" "str" = some false)
theorem kT : ∀ d, kitB (tyN d) "tuple" = some (isT d)
  | .none => (by decide +kernel : kitB "NoneType" "tuple" = some false) | .bool _ => (by decide +kernel : kitB "bool" "tuple" = some false) | .int _ => (by decide +kernel : kitB "int" "tuple" = some false) | .str _ => (by decide +kernel : kitB "str" "tuple" = some false)
  | .list _ => (by decide +kernel : kitB "list" "tuple" = some false) | .tuple _ => (by decide +kernel : kitB "tuple" "tuple" = some true) | .dict _ => (by decide +kernel : kitB "dict" "tuple" = some false)
theorem isi_of {K : PySem.W.Frag} {H : Hp} {v : V} {d : PyData} {c : String} {b : Bool} {Q : VK} (h : Dp K H v d) (e : kitB (tyN d) c = some b) (q : Q (.bl b) H) : rIsi K [v, .ty c] H Q :=
  ⟨_, _, _, _, b, rfl, .ty _, ty_of h, kit_ty e, q⟩
/-- a list of truths built piece by piece -/
theorem all_map {α : Type} (xs : List α) (f : α → Bool) : (xs.map f).all id = xs.all f := by
  induction xs with
  | nil => rfl
  | cons x r ih => rw [List.map_cons, List.all_cons, List.all_cons, ih]; rfl
def isVal : PyData → Bool | .int i => inB i | _ => false
/-- a name of the document: one to eight letters a to z -/
def azB (c : Nat) : Bool := decide (97 ≤ c) && decide (c ≤ 122)
theorem le_lo (c : Nat) : (!decide ((⟨#[c]⟩ : Str).cps.toList < (Str.ofString "a").cps.toList)) = decide (97 ≤ c) := by
  rw [show (Str.ofString "a").cps.toList = [97] by decide +kernel]
  simp [List.cons_lt_cons_iff]
  by_cases h : c < 97
  · rw [decide_eq_true h, decide_eq_false (by omega)]; rfl
  · rw [decide_eq_false h, decide_eq_true (by omega)]; rfl
theorem le_hi (c : Nat) : (!decide ((Str.ofString "z").cps.toList < (⟨#[c]⟩ : Str).cps.toList)) = decide (c ≤ 122) := by
  rw [show (Str.ofString "z").cps.toList = [122] by decide +kernel]
  simp [List.cons_lt_cons_iff]
  by_cases h : 122 < c
  · rw [decide_eq_true h, decide_eq_false (by omega)]; rfl
  · rw [decide_eq_false h, decide_eq_true (by omega)]; rfl
def nmB (z : Str) : Bool := decide (1 ≤ z.cps.size) && decide (z.cps.size ≤ 8) && z.cps.toList.all azB
def isNm : PyData → Bool | .str z => nmB z | _ => false
section
variable {P : Program} {w : World} {K : PySem.W.Frag} {mg : Str → Option Value} {base : Heap} {f : Addr} {fd : FuncData}
/-- a def of one thing that answers by what the thing is -/
def spB (K : PySem.W.Frag) (ok : PyData → Prop) (g : PyData → Bool) : Sp := fun vs H Q _ => ∃ (x : V) (d : PyData), vs = [x] ∧ Dp K H x d ∧ ok d ∧ ∀ H', Same H H' → Q (.bl (g d)) H'
abbrev sIsNumB : Stmt := top 10
theorem scIsNumB : FnScope ["thing"] ["thing"] (defScope sIsNumB) := ⟨rfl, rfl, rfl, by decide +kernel, rfl, by decide +kernel, by decide +kernel⟩
theorem ok_isNumB {k : Nat} (F : Fun K "is_number" "is_number" sIsNumB f fd) (m_isinstance : mg "isinstance" = none) (m_int : mg "int" = none) (m_bool : mg "bool" = none) :
    FnOk P w K mg base CX0 (k + 1) f fd ["thing"] (spB K (fun _ => True) isNum) := by
  have sc := scIsNumB
  refine F.ok sc (fun vs H Q E h => ?_) (fun cdv A outer s H vs Q E hr h => ?_)
  · obtain ⟨x, d, rfl, _⟩ := h
    rfl
  obtain ⟨x, d, rfl, hd, _, q⟩ := h
  replace q := q H (Same.refl _)
  refine ⟨_, (pss_one (ps_ret (pe_and (pe_callB call_isi (by rfl) m_isinstance (by decide +kernel) (pa_cons (pv 0) (pa_cons (pe_bltn (v := .ty "int") (by rfl) m_int (by decide +kernel) rfl) pa_nil))) (pe_one (pe_not (pe_callB call_isi (by rfl) m_isinstance (by decide +kernel) (pa_cons (pv 0) (pa_cons (pe_bltn (v := .ty "bool") (by rfl) m_bool (by decide +kernel) rfl) pa_nil)))))))), ?_⟩
  refine ⟨_, rfl, _, _, _, _, _, rfl, .ty _, ty_of hd, kit_ty (kI d), _, rfl, ?_⟩
  cases d with
  | int i => exact iteT ⟨_, rfl, _, _, _, _, _, rfl, .ty _, ty_of hd, kit_ty (kB _), _, rfl, q⟩
  | bool i => exact iteT ⟨_, rfl, _, _, _, _, _, rfl, .ty _, ty_of hd, kit_ty (kB _), _, rfl, q⟩
  | none => exact iteF q
  | str _ => exact iteF q
  | list _ => exact iteF q
  | tuple _ => exact iteF q
  | dict _ => exact iteF q
abbrev sIsValB : Stmt := top 11
theorem scIsValB : FnScope ["thing"] ["thing"] (defScope sIsValB) := ⟨rfl, rfl, rfl, by decide +kernel, rfl, by decide +kernel, by decide +kernel⟩
theorem ok_isValB {k : Nat} {t t' : Tok} (F : Fun K "is_value" "is_value" sIsValB f fd) (G : FnG P w K mg base CX0 k "is_number" ["thing"] (spB K (fun _ => True) isNum)) (m_LEAST : mg "LEAST_VALUE" = some (.int (-1000000) t)) (m_MOST : mg "MOST_VALUE" = some (.int 1000000 t')) :
    FnOk P w K mg base CX0 (k + 1) f fd ["thing"] (spB K (fun _ => True) isVal) := by
  obtain ⟨_, _, G_is_number, m_is_number, k_is_number, b_is_number⟩ := G
  have sc := scIsValB
  refine F.ok sc (fun vs H Q E h => ?_) (fun cdv A outer s H vs Q E hr h => ?_)
  · obtain ⟨x, d, rfl, _⟩ := h
    rfl
  obtain ⟨x, d, rfl, hd, _, q⟩ := h
  refine ⟨_, (pss_one (ps_ret (pe_and (pe_call G_is_number (hr.mono (by omega)) (by rfl) m_is_number k_is_number b_is_number .nil pass0 (pa_cons (pv 0) pa_nil)) (pe_one (pe_chain op_le op_le (pe_glob (v := .int (-1000000)) (by rfl) m_LEAST ⟨_, rfl⟩) (pv 0) (pe_glob (v := .int 1000000) (by rfl) m_MOST ⟨_, rfl⟩)))))), ?_⟩
  refine ⟨_, rfl, x, d, rfl, hd, trivial, fun H' s' => ⟨_, rfl, ?_⟩⟩
  replace q := q H' s'
  cases d with
  | int i =>
    cases hd
    refine iteT ⟨_, rfl, _, _, rfl, rfl, _, rfl, ite2 (fun c => ?_) (fun c => ?_)⟩
    · refine ⟨_, _, rfl, rfl, ?_⟩
      replace q : Q (.bl (decide (-1000000 ≤ i) && decide (i ≤ 1000000))) H' := q
      rw [c] at q
      exact q
    · replace q : Q (.bl (decide (-1000000 ≤ i) && decide (i ≤ 1000000))) H' := q
      rw [eq_false_of_ne_true c] at q
      exact q
  | bool i => exact iteF q
  | none => exact iteF q
  | str _ => exact iteF q
  | list _ => exact iteF q
  | tuple _ => exact iteF q
  | dict _ => exact iteF q
abbrev sIsName : Stmt := top 12
theorem scIsName : FnScope ["thing", "letter"] ["thing"] (defScope sIsName) := ⟨rfl, rfl, rfl, by decide +kernel, rfl, by decide +kernel, by decide +kernel⟩
def TxOk : PyData → Prop | .str z => z.length ≤ sizeLine | _ => True
theorem ok_isName {k : Nat} {t : Tok} (F : Fun K "is_name" "is_name" sIsName f fd) (m_isinstance : mg "isinstance" = none) (m_str : mg "str" = none) (m_len : mg "len" = none) (m_all : mg "all" = none) (m_LONGEST : mg "LONGEST_NAME" = some (.int 8 t)) :
    FnOk P w K mg base CX0 (k + 1) f fd ["thing"] (spB K TxOk isNm) := by
  have sc := scIsName
  refine F.ok sc (fun vs H Q E h => ?_) (fun cdv A outer s H vs Q E hr h => ?_)
  · obtain ⟨x, d, rfl, _⟩ := h
    rfl
  obtain ⟨x, d, rfl, hd, ok, q⟩ := h
  refine ⟨_, (pss_cons (ps_if (PW.pt (pw_or (pt_not (pt_val (pe_callB call_isi (by rfl) m_isinstance (by decide +kernel) (pa_cons (pv 0) (pa_cons (pe_bltn (v := .ty "str") (by rfl) m_str (by decide +kernel) rfl) pa_nil))))) (pw_or1 (pt_not (pt_chain op_le op_le pe_int (pe_callB call_len_str (by rfl) m_len (by decide +kernel) (pa_cons (pv 0) pa_nil)) (pe_glob (v := .int 8) (by rfl) m_LONGEST ⟨_, rfl⟩)))))) (pss_one (ps_ret pe_bl)) pss_nil)
      (pss_one (ps_ret (pe_callB (cr_all rfl) (by rfl) m_all (by decide +kernel) (pa_cons (pe_lc (own := [("letter", 1)]) (by rfl) sc.nd  (pi_str (pv 0)) (blkOk_by (own := [("letter", 1)]) (N := ["thing", "letter"]) (sc := defScope sIsName) (by decide +kernel)) (fun _ _ _ _ _ => (pg_name (i := 1) sc.nd rfl (.inl rfl))) (fun _ _ _ _ _ => pts_nil) (fun _ _ _ _ _ => (pe_chain op_le_str op_le_str pe_str (pv 1) pe_str))) pa_nil))))), ?_⟩
  refine ⟨_, rfl, _, _, _, _, _, rfl, .ty _, ty_of hd, kit_ty (kS d), _, rfl, ?_⟩
  have qH := q H (Same.refl _)
  cases d with
  | str z =>
    cases hd
    refine iteF ?_
    refine ⟨_, rfl, z, rfl, ok, 1, _, rfl, rfl, _, rfl, ite2 (fun c1 => ?_) (fun c1 => ?_)⟩
    · refine ⟨_, _, rfl, rfl, _, rfl, ?_⟩
      by_cases c2 : z.cps.size ≤ 8
      · have e2 : decide ((z.length : Int) ≤ 8) = true := decide_eq_true (by show (z.cps.size : Int) ≤ 8; omega)
        have c1' : 1 ≤ z.cps.size := by
          have := of_decide_eq_true c1
          have : (1 : Int) ≤ (z.cps.size : Nat) := this
          omega
        rw [e2]
        refine iteF ?_
        refine ⟨_, rfl, z, rfl, fun D nD => lc_it (walk_str (z := z)) (fun i H' => Same H H' ∧ H' D = some (.lst (((z.cps.toList.take i).map azB).map V.bl))) ⟨same_upd nD, upd_same⟩ (fun i H' _ _ => trivial) ?_ ?_⟩
        · rintro i v H1 H2 hi ⟨sm, hD⟩ ⟨rfl, c, hc, rfl⟩
          refine ⟨rfl, ?_⟩
          unfold tYes
          refine iteT ?_
          have fin : ∀ H1 : Hp, Same H H1 → H1 D = some (.lst (((z.cps.toList.take i).map azB).map V.bl)) → ∃ acc, H1 D = some (.lst acc) ∧ acc.length < sizeLine ∧ (Same H (upd H1 D (.lst (acc ++ [V.bl (azB c)]))) ∧ (upd H1 D (.lst (acc ++ [V.bl (azB c)]))) D = some (.lst (((z.cps.toList.take (i + 1)).map azB).map V.bl))) := fun H1 sm hD => by
            refine ⟨_, hD, ?_, fun b o h => ?_, ?_⟩
            · rw [List.length_map, List.length_map, List.length_take]
              exact Nat.lt_of_le_of_lt (Nat.min_le_left _ _) (Nat.lt_of_lt_of_le (Nat.lt_of_lt_of_le hi c2) (by decide))
            · rw [upd_ne (ne_of_none h nD)]
              exact sm _ _ h
            · rw [upd_same, List.take_succ, show z.cps.toList[i]? = some c by rw [← hc, Array.getElem?_toList], List.map_append, List.map_append]
              rfl
          refine ⟨_, rfl, _, _, rfl, rfl, _, rfl, ite2 (fun c3 => ?_) (fun c3 => ?_)⟩
          · refine ⟨_, _, rfl, rfl, ?_⟩
            have e : (!decide ((Str.ofString "z").cps.toList < (⟨#[c]⟩ : Str).cps.toList)) = azB c := by
              rw [le_lo] at c3
              rw [le_hi]
              unfold azB
              rw [c3]
              rfl
            show ∃ acc, _ ∧ _ ∧ _
            rw [e]
            exact fin _ sm hD
          · have e : false = azB c := by
              rw [le_lo] at c3
              unfold azB
              rw [eq_false_of_ne_true c3]
              rfl
            show ∃ acc, _ ∧ _ ∧ _
            rw [e]
            exact fin _ sm hD
        · rintro H1 ⟨sm, hD⟩
          refine ⟨D, z.cps.toList.map azB, rfl, SqL.of (by rw [hD, List.take_of_length_le (by rw [Array.length_toList]; exact Nat.le_refl _)]), ?_⟩
          rw [all_map]
          have := q _ sm
          rw [show isNm (.str z) = z.cps.toList.all azB by show nmB z = _; unfold nmB; rw [decide_eq_true c1', decide_eq_true c2]; rfl] at this
          exact this
      · have e2 : decide ((z.length : Int) ≤ 8) = false := decide_eq_false (by show ¬ (z.cps.size : Int) ≤ 8; omega)
        rw [e2]
        refine iteT ?_
        rw [show isNm (.str z) = false by show nmB z = _; unfold nmB; rw [decide_eq_false c2, Bool.and_false, Bool.false_and]] at qH
        exact qH
    · have c1' : ¬ 1 ≤ z.cps.size := fun h => c1 (decide_eq_true (by show (1 : Int) ≤ (z.cps.size : Nat); omega))
      refine ⟨_, rfl, iteT ?_⟩
      rw [show isNm (.str z) = false by show nmB z = _; unfold nmB; rw [decide_eq_false c1', Bool.false_and, Bool.false_and]] at qH
      exact qH
  | int i => exact iteT (iteT qH)
  | bool i => exact iteT (iteT qH)
  | none => exact iteT (iteT qH)
  | list _ => exact iteT (iteT qH)
  | tuple _ => exact iteT (iteT qH)
  | dict _ => exact iteT (iteT qH)
end
end Fd

set_option Elab.async false
set_option linter.all false
set_option maxRecDepth 100000
set_option maxHeartbeats 2000000
namespace Fd
open PySem PySem.Spec PyProof.Rows L2 RZ
/-! ### plain things: no dicts, small -/
def OkT (e : Nat) : Nat → PyData → Prop
  | 0, _ => False
  | _ + 1, .none => True
  | _ + 1, .bool _ => True
  | _ + 1, .int i => -(1000001 + 1000000 * (e : Int)) ≤ i ∧ i ≤ 1000001 + 1000000 * (e : Int)
  | _ + 1, .str z => z.cps.size ≤ 8 + e ∧ ∀ c ∈ z.cps.toList, c < 128
  | n + 1, .list ds => ds.length ≤ 8 + e ∧ ∀ d ∈ ds, OkT e n d
  | n + 1, .tuple ds => ds.length ≤ 8 + e ∧ ∀ d ∈ ds, OkT e n d
  | _ + 1, .dict _ => False
theorem OkT.mono {e e' : Nat} (he : e ≤ e') : ∀ {n m : Nat} {d : PyData}, OkT e n d → n ≤ m → OkT e' m d
  | 0, _, _, h, _ => h.elim
  | _ + 1, 0, _, _, h => absurd h (by omega)
  | _ + 1, _ + 1, .none, _, _ => trivial
  | _ + 1, _ + 1, .bool _, _, _ => trivial
  | _ + 1, _ + 1, .int i, h, _ => by
    obtain ⟨h1, h2⟩ := h
    exact ⟨by omega, by omega⟩
  | _ + 1, _ + 1, .str z, h, _ => ⟨Nat.le_trans h.1 (by omega), h.2⟩
  | n + 1, m + 1, .list ds, h, g => ⟨Nat.le_trans h.1 (by omega), fun d hd => OkT.mono he (h.2 d hd) (by omega)⟩
  | n + 1, m + 1, .tuple ds, h, g => ⟨Nat.le_trans h.1 (by omega), fun d hd => OkT.mono he (h.2 d hd) (by omega)⟩
  | _ + 1, _ + 1, .dict _, h, _ => h.elim
def OkA (d : PyData) : Prop := ∃ n, n ≤ 60 ∧ OkT 3 n d
theorem OkA.tx {d : PyData} (h : OkA d) : TxOk d := by
  obtain ⟨n, _, h⟩ := h
  cases d with
  | str z =>
    cases n with
    | zero => exact h.elim
    | succ n => exact Nat.le_trans h.1 (by decide)
  | _ => trivial
theorem OkA.kid {ds : List PyData} {d : PyData} (h : OkA (.tuple ds)) (hd : d ∈ ds) : OkA d := by
  obtain ⟨n, hn, h⟩ := h
  cases n with
  | zero => exact h.elim
  | succ n => exact ⟨n, by omega, h.2 d hd⟩
theorem OkA.len {ds : List PyData} (h : OkA (.tuple ds)) : ds.length ≤ 11 := by
  obtain ⟨n, _, h⟩ := h
  cases n with
  | zero => exact h.elim
  | succ n => exact h.1
theorem OkA.str {z : Str} (h : OkA (.str z)) : z.length ≤ sizeLine := OkA.tx h
theorem strOk_of {z : Str} (h : ∀ c ∈ z.cps.toList, c < 128) : PyData.strOk z = true := by
  unfold PyData.strOk
  rw [← Array.all_toList]
  refine List.all_eq_true.mpr fun c hc => ?_
  have := h c hc
  exact decide_eq_true (by omega)
theorem lay_all : ∀ {ds : List PyData}, (∀ d ∈ ds, d.canLay0 = true) → PyData.canLayAll0 ds = true
  | [], _ => rfl
  | d :: ds, h => by
    show (d.canLay0 && PyData.canLayAll0 ds) = true
    rw [h d (List.mem_cons_self ..), lay_all fun x hx => h x (List.mem_cons_of_mem _ hx)]
    rfl
theorem dep_all {n : Nat} : ∀ {ds : List PyData}, (∀ d ∈ ds, d.depth ≤ n) → PyData.depthAll ds ≤ n
  | [], _ => Nat.zero_le _
  | d :: ds, h => Nat.max_le.mpr ⟨h d (List.mem_cons_self ..), dep_all fun x hx => h x (List.mem_cons_of_mem _ hx)⟩
theorem OkT.lay {e : Nat} : ∀ {n : Nat} {d : PyData}, OkT e n d → d.canLay0 = true ∧ d.depth ≤ n
  | 0, _, h => h.elim
  | _ + 1, .none, _ => ⟨rfl, Nat.zero_le _⟩
  | _ + 1, .bool _, _ => ⟨rfl, Nat.zero_le _⟩
  | _ + 1, .int _, _ => ⟨rfl, Nat.zero_le _⟩
  | _ + 1, .str z, h => ⟨strOk_of h.2, Nat.zero_le _⟩
  | n + 1, .list ds, h => ⟨lay_all fun d hd => (h.2 d hd).lay.1, Nat.succ_le_succ (dep_all fun d hd => (h.2 d hd).lay.2)⟩
  | n + 1, .tuple ds, h => ⟨lay_all fun d hd => (h.2 d hd).lay.1, Nat.succ_le_succ (dep_all fun d hd => (h.2 d hd).lay.2)⟩
  | _ + 1, .dict _, h => h.elim
theorem OkA.shaped {d : PyData} (h : OkA d) : SeqAt.shaped d = true := by
  obtain ⟨n, hn, h⟩ := h
  obtain ⟨h1, h2⟩ := h.lay
  unfold SeqAt.shaped
  rw [h1, decide_eq_true (by omega)]
  rfl
/-! ### what a part is -/
def pkL : List Fw.PK := [("look", "name", ["name"]), ("look", "plus", ["look", "look"]), ("look", "minus", ["look", "look"]), ("look", "by", ["look", "look"]), ("look", "over", ["look", "look"]), ("look", "rest", ["look", "look"]),
  ("look", "item", ["list", "look"]), ("look", "many", ["list"]), ("look", "x", []), ("look", "y", []), ("look", "way", []), ("look", "number", []), ("test", "like", ["look", "look"]), ("test", "below", ["look", "look"]),
  ("test", "not", ["test"]), ("test", "both", ["test", "test"]), ("test", "any", ["test", "test"]), ("test", "meets", ["figure"])]
theorem cut_tail (x : V) (xs : List V) : cutV (x :: xs) (some 1) none = xs := by
  unfold cutV
  rw [show HT.sIx (x :: xs).length 0 (some 1) = min 1 (x :: xs).length from HT.sIx_nat .., HT.sIx_none, List.length_cons, Nat.min_eq_left (by omega)]
  exact List.take_of_length_le (Nat.le_refl _)
def gP (k : List Str) : Option (List Str) := (pkL.find? fun p => decide (Fw.key p = k)).map (·.2.2)
abbrev kindsV : List V := [.str "name", .str "list", .str "figure"]
def isKd (k : Str) : Bool := inV (.str k) kindsV
def isWd : PyData → Bool | .tuple (.str _ :: _) => true | _ => false
def hasP (f : Str → PyData → Bool) (kind : Str) : PyData → Bool
  | .tuple (.str w :: r) => match gP [kind, w] with
    | none => false
    | some ks => decide (r.length = ks.length) && (r.zip ks).all fun p => f p.2 p.1
  | _ => false
def isPart : Nat → Str → PyData → Bool
  | 0, k, d => if isKd k then isNm d else false
  | n + 1, k, d => if isKd k then isNm d else (decide (k = "look") && isVal d) || hasP (isPart n) k d
section
variable {P : Program} {w : World} {K : PySem.W.Frag} {mg : Str → Option Value} {base : Heap} {f : Addr} {fd : FuncData}
abbrev sIsWd : Stmt := top 16
theorem scIsWd : FnScope ["thing"] ["thing"] (defScope sIsWd) := ⟨rfl, rfl, rfl, by decide +kernel, rfl, by decide +kernel, by decide +kernel⟩
theorem ok_isWd {k : Nat} (F : Fun K "is_worded" "is_worded" sIsWd f fd) (m_isinstance : mg "isinstance" = none) (m_tuple : mg "tuple" = none) (m_str : mg "str" = none) (m_len : mg "len" = none) :
    FnOk P w K mg base CX0 (k + 1) f fd ["thing"] (spB K (fun _ => True) isWd) := by
  have sc := scIsWd
  refine F.ok sc (fun vs H Q E h => ?_) (fun cdv A outer s H vs Q E hr h => ?_)
  · obtain ⟨x, d, rfl, _⟩ := h
    rfl
  obtain ⟨x, d, rfl, hd, ok, q⟩ := h
  refine ⟨_, (pss_one (ps_ret (pe_and (pe_callB call_isi (by rfl) m_isinstance (by decide +kernel) (pa_cons (pv 0) (pa_cons (pe_bltn (v := .ty "tuple") (by rfl) m_tuple (by decide +kernel) rfl) pa_nil))) (pe_and (pe_cmpR op_gt (pe_callB call_len_seq (by rfl) m_len (by decide +kernel) (pa_cons (pv 0) pa_nil)) pe_int (nomark _)) (pe_one (pe_callB call_isi (by rfl) m_isinstance (by decide +kernel) (pa_cons (pe_ix ix_tup (pv 0) pe_int (fun _ _ => rfl)) (pa_cons (pe_bltn (v := .ty "str") (by rfl) m_str (by decide +kernel) rfl) pa_nil)))))))), ?_⟩
  have qH := q H (Same.refl _)
  refine ⟨_, rfl, _, _, _, _, _, rfl, .ty _, ty_of hd, kit_ty (kT d), _, rfl, ?_⟩
  cases d with
  | tuple ds =>
    cases hd with | @tup a xs _ ha ax =>
    refine iteT ⟨_, rfl, a, xs, rfl, .inr ha, _, _, rfl, rfl, _, rfl, ?_⟩
    cases ax with
    | nil => exact iteF qH
    | @cons v vs d ds hv hvs =>
      refine ite2 (fun c => ?_) (fun c => absurd (decide_eq_true (by show (0 : Int) < ((vs.length + 1 : Nat) : Int); omega)) c)
      refine ⟨_, rfl, a, _, 0, v, rfl, rfl, ha, atI_nat (j := 0) rfl, _, _, _, _, _, rfl, .ty _, ty_of hv, kit_ty (kS d), ?_⟩
      cases d <;> exact qH
  | int i => exact iteF qH
  | bool i => exact iteF qH
  | none => exact iteF qH
  | list _ => exact iteF qH
  | str _ => exact iteF qH
  | dict _ => exact iteF qH
abbrev sHas : Stmt := top 17
theorem scHas : FnScope ["thing", "kind", "deep", "kinds", "part", "wanted"] ["thing", "kind", "deep"] (defScope sHas) := ⟨rfl, rfl, rfl, by decide +kernel, rfl, by decide +kernel, by decide +kernel⟩
def spPart (K : PySem.W.Frag) (n : Nat) : Sp := fun vs H Q _ => ∃ (x : V) (k : Str) (d : PyData), vs = [x, .str k, .int n] ∧ Dp K H x d ∧ OkA d ∧ ∀ H', Same H H' → Q (.bl (isPart n k d)) H'
def spHas (K : PySem.W.Frag) (n : Nat) : Sp := fun vs H Q _ => ∃ (x : V) (k : Str) (d : PyData), vs = [x, .str k, .int (n + 1 : Nat)] ∧ Dp K H x d ∧ OkA d ∧ ∀ H', Same H H' → Q (.bl (hasP (isPart n) k d)) H'
theorem ok_has {k n : Nat} {dP : Addr} (F : Fun K "has_parts" "has_parts" sHas f fd) (GW : FnG P w K mg base CX0 k "is_worded" ["thing"] (spB K (fun _ => True) isWd)) (GP : FnG P w K mg base CX0 k "is_part" ["thing", "kind", "deep"] (spPart K n))
    (m_len : mg "len" = none) (m_all : mg "all" = none) (m_zip : mg "zip" = none) (m_PARTS : mg "PARTS" = some (.ref dP)) (hP : Fw.Parts P w K dP gP) :
    FnOk P w K mg base CX0 (k + 1) f fd ["thing", "kind", "deep"] (spHas K n) := by
  obtain ⟨_, _, G_is_worded, m_is_worded, k_is_worded, b_is_worded⟩ := GW
  obtain ⟨_, _, G_is_part, m_is_part, k_is_part, b_is_part⟩ := GP
  have sc := scHas
  refine F.ok sc (fun vs H Q E h => ?_) (fun cdv A outer s H vs Q E hr h => ?_)
  · obtain ⟨x, kd, d, rfl, _⟩ := h
    rfl
  obtain ⟨x, kd, d, rfl, hd, ok, q⟩ := h
  refine ⟨_, (pss_cons (ps_if (pt_not (pt_val (pe_call G_is_worded (hr.mono (by omega)) (by rfl) m_is_worded k_is_worded b_is_worded .nil pass0 (pa_cons (pv 0) pa_nil)))) (pss_one (ps_ret pe_bl)) pss_nil)
      (pss_cons (ps_set (i := 3) sc.nd rfl (.inl rfl) (Fw.pe_pget hP (hu_of hr) (pe_glob (v := .ref dP) (by rfl) m_PARTS rfl) (pa_cons (pe_tup (pa_cons (pv 1) (pa_cons (pe_ix ix_tup (pv 0) pe_int (fun _ _ => rfl)) pa_nil))) pa_nil)))
      (pss_cons (ps_if (PW.pt (pw_or (pt_cmpR op_isN (pv 3) pe_non (nomark _)) (pw_or1 (pt_cmpR op_ne (pe_callB call_len_seq (by rfl) m_len (by decide +kernel) (pa_cons (pv 0) pa_nil)) (pe_op op_add (pe_callB call_len_seq (by rfl) m_len (by decide +kernel) (pa_cons (pv 3) pa_nil)) pe_int) (nomark _))))) (pss_one (ps_ret pe_bl)) pss_nil)
      (pss_one (ps_ret (pe_callB (cr_all rfl) (by rfl) m_all (by decide +kernel) (pa_cons (pe_lc (own := [("part", 4), ("wanted", 5)]) (g := gTup K 2 (gCons (gName 4) (gCons (gName 5) gNil))) (by rfl) sc.nd  (pi_zipA (by rfl) m_zip (pa_cons (pe_slice sl_tup (pv 0) (po_some pe_int) po_none) (pa_cons (pv 3) pa_nil))) (blkOk_by (own := [("part", 4), ("wanted", 5)]) (N := ["thing", "kind", "deep", "kinds", "part", "wanted"]) (sc := defScope sHas) (by decide +kernel)) (fun _ _ _ _ _ => (pg_tup (by rfl) (pgs_cons (pg_name (i := 4) sc.nd rfl (.inl rfl)) (pgs_cons (pg_name (i := 5) sc.nd rfl (.inl rfl)) pgs_nil)))) (fun _ _ _ _ _ => pts_nil) (fun _ _ _ _ _ => (pe_call G_is_part (hr.mono (by omega)) (by rfl) m_is_part k_is_part b_is_part .nil pass0 (pa_cons (pv 4) (pa_cons (pv 5) (pa_cons (pe_op op_sub (pv 2) pe_int) pa_nil)))))) pa_nil))))))), ?_⟩
  refine ⟨_, rfl, x, d, rfl, hd, trivial, fun H1 s1 => ⟨_, rfl, ?_⟩⟩
  replace hd := dp_same s1 _ _ hd
  have q1 := q H1 s1
  by_cases hw : isWd d = true
  · rw [hw]
    refine iteF ?_
    obtain ⟨z, ds, rfl⟩ : ∃ z ds, d = .tuple (.str z :: ds) := by
      unfold isWd at hw
      split at hw
      · exact ⟨_, _, rfl⟩
      · cases hw
    have okl := ok.len
    rw [List.length_cons] at okl
    cases hd with | @tup a xs _ ha ax =>
    cases ax with | @cons v vs _ _ hv hvs =>
    cases hv
    have le := dpAll_len hvs
    refine ⟨rfl, _, rfl, _, rfl, a, _, 0, _, rfl, rfl, ha, atI_nat (j := 0) rfl, by show 2 ≤ sizeLine; decide, fun p np => ⟨p, kd, z, rfl, upd_same, fun gn => ?_, fun b zs gs hb => ?_⟩⟩
    · refine ⟨_, rfl, rfl, _, rfl, iteT (iteT ?_)⟩
      have := q _ (s1.trans (same_upd (o := .tup [.str kd, .str z]) np))
      rw [show hasP (isPart n) kd (.tuple (.str z :: ds)) = false by unfold hasP; dsimp only; rw [gn]] at this
      exact this
    · have sp := same_upd (o := .tup [.str kd, .str z]) np
      have ha2 := seqT sp ha
      refine ⟨_, rfl, rfl, _, rfl, iteF ?_⟩
      have hq : ∀ H', Same (upd H1 p (.tup [.str kd, .str z])) H' → Q (.bl (decide (ds.length = zs.length) && (ds.zip zs).all fun p => isPart n p.2 p.1)) H' := fun H' s' => by
        have := q H' (s1.trans (sp.trans s'))
        rw [show hasP (isPart n) kd (.tuple (.str z :: ds)) = (decide (ds.length = zs.length) && (ds.zip zs).all fun p => isPart n p.2 p.1) by unfold hasP; dsimp only; rw [gs]] at this
        exact this
      refine ⟨_, rfl, a, _, rfl, .inr ha2, _, rfl, b, _, rfl, .inr hb, _, 1, rfl, rfl, rfl, _, rfl, ite2 (fun c => ?_) (fun c => ?_)⟩
      · have h := hq _ (Same.refl _)
        rw [decide_eq_false (fun e : ds.length = zs.length => by
          rw [decide_eq_true (by rw [List.length_cons, List.length_map, le, e]; rfl)] at c
          cases c), Bool.false_and] at h
        exact h
      · have le2 : ds.length = zs.length := Decidable.byContradiction fun e => c (by
          rw [decide_eq_false (fun z => e (by
            have z : ((vs.length + 1 : Nat) : Int) = ((zs.map V.str).length : Nat) + 1 := V.int.inj z
            rw [List.length_map] at z
            omega))]
          rfl)
        refine ⟨_, rfl, 1, rfl, a, _, rfl, ha2, fun z => ?_, fun e ne => ?_⟩
        · have := z.1
          rw [show HT.sIx (V.str _ :: vs).length 0 (some 1) = min 1 (V.str _ :: vs).length from HT.sIx_nat .., List.length_cons] at this
          omega
        rw [cut_tail]
        have se := same_upd (o := .tup vs) ne
        have lz : (zs.map V.str).length = zs.length := List.length_map ..
        refine ⟨_, rfl, e, b, vs, zs.map V.str, rfl, .inr ⟨SqT.of upd_same, seqT se hb, fun D nD => lc_it (walk_zipT (xs := vs) (ys := zs.map V.str) rfl) (fun i H' => Same (upd (upd H1 p (.tup [.str kd, .str z])) e (.tup vs)) H' ∧ H' D = some (.lst ((((ds.zip zs).take i).map fun p => isPart n p.2 p.1).map V.bl))) ⟨same_upd nD, upd_same⟩
          (fun i H' _ h => ⟨seqT h.1 (SqT.of upd_same), seqT (se.trans h.1) hb⟩) ?_ ?_⟩⟩
        · rintro i v H3 H4 hi ⟨sm, hD⟩ ⟨T, x, y, rfl, nT, rfl, ex, ey⟩
          obtain ⟨d, ed, dx⟩ := dpAll_at (dpAll_same ((sp.trans se).trans sm) ds vs hvs) ex
          obtain ⟨y', ez, rfl⟩ : ∃ y', zs[i]? = some y' ∧ y = .str y' := by
            replace ey : (zs.map V.str)[i]? = some y := ey
            rw [List.getElem?_map] at ey
            cases h : zs[i]? with
            | none => rw [h] at ey; cases ey
            | some u => rw [h] at ey; exact ⟨u, rfl, (Option.some.inj ey).symm⟩
          have sT := same_upd (o := .tup [x, .str y']) nT
          refine ⟨T, _, rfl, .inl (.inl upd_same), rfl, _, _, rfl, _, _, rfl, rfl, rfl, ?_⟩
          unfold tYes
          refine iteT ?_
          refine ⟨_, rfl, _, rfl, _, rfl, _, _, rfl, rfl, x, y', d, congrArg (fun i => [x, V.str y', V.int i]) (by show ((n + 1 : Nat) : Int) - 1 = n; omega), dp_same sT _ _ dx, ok.kid (List.mem_cons_of_mem _ (List.mem_of_getElem? ed)), fun H5 s5 => ⟨_, s5 _ _ (sT _ _ hD), ?_, ?_, ?_⟩⟩
          · rw [List.length_map, List.length_map, List.length_take]
            exact small1000 (by omega)
          · intro b' o' h'
            rw [upd_ne (ne_of_none h' nD)]
            exact s5 _ _ (sT _ _ (sm _ _ h'))
          · rw [upd_same, List.take_succ, show (ds.zip zs)[i]? = some (d, y') by rw [List.getElem?_zip_eq_some]; exact ⟨ed, ez⟩, List.map_append, List.map_append]
            rfl
        · rintro H3 ⟨sm, hD⟩
          refine ⟨D, (ds.zip zs).map fun p => isPart n p.2 p.1, rfl, SqL.of (by rw [hD, List.take_of_length_le (by rw [List.length_zip, lz, le]; exact Nat.le_refl _)]), ?_⟩
          rw [all_map]
          have h := hq _ (se.trans sm)
          rw [decide_eq_true le2, Bool.true_and] at h
          exact h
  · have e : hasP (isPart n) kd d = false := by
      unfold hasP
      split
      · exact absurd rfl hw
      · rfl
    rw [e] at q1
    rw [eq_false_of_ne_true hw]
    exact iteT q1
abbrev sPart : Stmt := top 15
theorem scPart : FnScope ["thing", "kind", "deep"] ["thing", "kind", "deep"] (defScope sPart) := ⟨rfl, rfl, rfl, by decide +kernel, rfl, by decide +kernel, by decide +kernel⟩
theorem eq_str {x y : Str} : decide (V.str x = V.str y) = decide (x = y) := by
  by_cases h : x = y
  · rw [h, decide_eq_true rfl, decide_eq_true rfl]
  · rw [decide_eq_false h, decide_eq_false fun z => h (V.str.inj z)]
theorem ok_part {k n : Nat} {nK : Addr} (F : Fun K "is_part" "is_part" sPart f fd) (GN : FnG P w K mg base CX0 k "is_name" ["thing"] (spB K TxOk isNm)) (GV : FnG P w K mg base CX0 k "is_value" ["thing"] (spB K (fun _ => True) isVal))
    (GH : ∀ m, n = m + 1 → FnG P w K mg base CX0 k "has_parts" ["thing", "kind", "deep"] (spHas K m)) (GH' : ∃ f fd, FnOk P w K mg base CX0 k f fd ["thing", "kind", "deep"] (fun _ _ _ _ => False) ∧ mg "has_parts" = some (.ref f) ∧ PySem.W.keepIn K (.ref f) = true ∧ Binds K fd ["thing", "kind", "deep"] [])
    (m_NAME_KINDS : mg "NAME_KINDS" = some (.ref nK)) (hK : ∀ H, SqT K H nK kindsV) : FnOk P w K mg base CX0 (k + 1) f fd ["thing", "kind", "deep"] (spPart K n) := by
  obtain ⟨_, _, G_is_name, m_is_name, k_is_name, b_is_name⟩ := GN
  obtain ⟨_, _, G_is_value, m_is_value, k_is_value, b_is_value⟩ := GV
  obtain ⟨sp, ⟨_, _, G_has_parts, m_has_parts, k_has_parts, b_has_parts⟩, hsp⟩ : ∃ sp, FnG P w K mg base CX0 k "has_parts" ["thing", "kind", "deep"] sp ∧ ∀ m, n = m + 1 → sp = spHas K m := by
    cases n with
    | zero => exact ⟨_, GH', fun m e => nomatch e⟩
    | succ m => exact ⟨_, GH m rfl, fun m' e => by cases e; rfl⟩
  have sc := scPart
  refine F.ok sc (fun vs H Q E h => ?_) (fun cdv A outer s H vs Q E hr h => ?_)
  · obtain ⟨x, kd, d, rfl, _⟩ := h
    rfl
  obtain ⟨x, kd, d, rfl, hd, ok, q⟩ := h
  refine ⟨_, (pss_cons (ps_if (pt_cmpR op_in_seq (pv 1) (pe_glob (v := .ref nK) (by rfl) m_NAME_KINDS rfl) (by rfl)) (pss_one (ps_ret (pe_call G_is_name (hr.mono (by omega)) (by rfl) m_is_name k_is_name b_is_name .nil pass0 (pa_cons (pv 0) pa_nil)))) pss_nil)
      (pss_cons (ps_if (pt_cmpR op_lt (pv 2) pe_int (nomark _)) (pss_one (ps_ret pe_bl)) pss_nil)
      (pss_cons (ps_if (PW.pt (pw_and (pt_cmpR op_eq (pv 1) pe_str (nomark _)) (pw_and1 (pt_val (pe_call G_is_value (hr.mono (by omega)) (by rfl) m_is_value k_is_value b_is_value .nil pass0 (pa_cons (pv 0) pa_nil)))))) (pss_one (ps_ret pe_bl)) pss_nil)
      (pss_one (ps_ret (pe_call G_has_parts (hr.mono (by omega)) (by rfl) m_has_parts k_has_parts b_has_parts .nil pass0 (pa_cons (pv 0) (pa_cons (pv 1) (pa_cons (pv 2) pa_nil))))))))), ?_⟩
  refine ⟨_, rfl, nK, kindsV, rfl, .inr (hK H), rfl, by decide, _, rfl, ite2 (fun c => ?_) (fun c => ?_)⟩
  · have c : isKd kd = true := c
    refine ⟨_, rfl, x, d, rfl, hd, ok.tx, fun H' s' => ?_⟩
    have h := q H' s'
    rw [show isPart n kd d = isNm d by cases n <;> (unfold isPart; rw [c]; rfl)] at h
    exact h
  have c : isKd kd = false := eq_false_of_ne_true c
  refine ⟨_, rfl, _, _, rfl, rfl, _, rfl, ite2 (fun c2 => ?_) (fun c2 => ?_)⟩
  · have : n = 0 := by
      have := of_decide_eq_true c2
      omega
    subst this
    have h := q H (Same.refl _)
    rw [show isPart 0 kd d = false by unfold isPart; rw [c]; rfl] at h
    exact h
  obtain ⟨m, rfl⟩ : ∃ m, n = m + 1 := by
    cases n with
    | zero => exact absurd (decide_eq_true (by decide)) c2
    | succ m => exact ⟨m, rfl⟩
  have e : isPart (m + 1) kd d = ((decide (kd = "look") && isVal d) || hasP (isPart m) kd d) := by
    show (if isKd kd then isNm d else _) = _
    rw [c]
    rfl
  have last : (decide (kd = "look") && isVal d) = false → ∀ H1, Same H H1 → spHas K m [x, .str kd, .int (m + 1 : Nat)] H1 Q E := fun h0 H1 s1 => ⟨x, kd, d, rfl, dp_same s1 _ _ hd, ok, fun H' s' => by
    have h := q H' (s1.trans s')
    rw [e, h0, Bool.false_or] at h
    exact h⟩
  refine ⟨_, rfl, rfl, _, rfl, ?_⟩
  rw [eq_str]
  refine ite2 (fun c3 => ?_) (fun c3 => iteF ⟨_, rfl, _, rfl, _, rfl, ?_⟩)
  · refine ⟨_, rfl, x, d, rfl, hd, trivial, fun H1 s1 => ⟨_, rfl, ?_⟩⟩
    by_cases c4 : isVal d = true
    · rw [c4]
      refine iteT ?_
      have h := q H1 s1
      rw [e, c3, c4] at h
      exact h
    · rw [eq_false_of_ne_true c4]
      refine iteF ⟨_, rfl, _, rfl, _, rfl, ?_⟩
      rw [hsp m rfl]
      exact last (by rw [eq_false_of_ne_true c4, Bool.and_false]) H1 s1
  · rw [hsp m rfl]
    exact last (by rw [eq_false_of_ne_true c3, Bool.false_and]) H (Same.refl _)
end
end Fd

set_option Elab.async false
set_option linter.all false
set_option maxRecDepth 100000
set_option maxHeartbeats 2000000
namespace Fd
open PySem PySem.Spec PyProof.Rows L2 RZ
section
variable {P : Program} {w : World} {K : PySem.W.Frag} {mg : Str → Option Value} {base : Heap} {f f' : Addr} {fd fd' : FuncData}
theorem ok_parts {dP nK : Addr} (DP : Df K mg "is_part" sPart ["thing", "kind", "deep"] f fd) (DH : Df K mg "has_parts" sHas ["thing", "kind", "deep"] f' fd')
    (GN : FnG P w K mg base CX0 3 "is_name" ["thing"] (spB K TxOk isNm)) (GV : FnG P w K mg base CX0 3 "is_value" ["thing"] (spB K (fun _ => True) isVal)) (GW : FnG P w K mg base CX0 3 "is_worded" ["thing"] (spB K (fun _ => True) isWd))
    (m_len : mg "len" = none) (m_all : mg "all" = none) (m_zip : mg "zip" = none) (m_PARTS : mg "PARTS" = some (.ref dP)) (hP : Fw.Parts P w K dP gP)
    (m_NAME_KINDS : mg "NAME_KINDS" = some (.ref nK)) (hK : ∀ H, SqT K H nK kindsV) : ∀ n, FnG P w K mg base CX0 (2 * n + 4) "is_part" ["thing", "kind", "deep"] (spPart K n)
  | 0 => DP.g (ok_part (k := 3) (n := 0) DP.F GN GV (fun m e => nomatch e) ⟨f', fd', ⟨fun _ _ _ _ h => h.elim, fun _ _ _ _ _ _ _ _ _ _ _ _ _ h => h.elim⟩, DH.m, DH.F.kp, DH.b⟩ m_NAME_KINDS hK)
  | n + 1 => by
    have GH := DH.g (ok_has (k := 2 * n + 4) (n := n) DH.F (GW.mono (by omega)) (ok_parts DP DH GN GV GW m_len m_all m_zip m_PARTS hP m_NAME_KINDS hK n) m_len m_all m_zip m_PARTS hP)
    exact DP.g (ok_part (k := 2 * n + 4 + 1) (n := n + 1) DP.F (GN.mono (by omega)) (GV.mono (by omega)) (fun m e => by cases e; exact GH) ⟨f', fd', ⟨fun _ _ _ _ h => h.elim, fun _ _ _ _ _ _ _ _ _ _ _ _ _ h => h.elim⟩, DH.m, DH.F.kp, DH.b⟩ m_NAME_KINDS hK)
abbrev sIsLk : Stmt := top 13
theorem scIsLk : FnScope ["thing"] ["thing"] (defScope sIsLk) := ⟨rfl, rfl, rfl, by decide +kernel, rfl, by decide +kernel, by decide +kernel⟩
theorem ok_isLk {k : Nat} {t : Tok} (F : Fun K "is_look" "is_look" sIsLk f fd) (G : FnG P w K mg base CX0 k "is_part" ["thing", "kind", "deep"] (spPart K 6)) (m_DEEPEST : mg "DEEPEST" = some (.int 6 t)) :
    FnOk P w K mg base CX0 (k + 1) f fd ["thing"] (spB K OkA (isPart 6 "look")) := by
  obtain ⟨_, _, G_is_part, m_is_part, k_is_part, b_is_part⟩ := G
  have sc := scIsLk
  refine F.ok sc (fun vs H Q E h => ?_) (fun cdv A outer s H vs Q E hr h => ?_)
  · obtain ⟨x, d, rfl, _⟩ := h
    rfl
  obtain ⟨x, d, rfl, hd, ok, q⟩ := h
  refine ⟨_, (pss_one (ps_ret (pe_call G_is_part (hr.mono (by omega)) (by rfl) m_is_part k_is_part b_is_part .nil pass0 (pa_cons (pv 0) (pa_cons pe_str (pa_cons (pe_glob (v := .int 6) (by rfl) m_DEEPEST ⟨_, rfl⟩) pa_nil)))))), ?_⟩
  exact ⟨_, rfl, x, _, d, rfl, hd, ok, q⟩
abbrev sIsTs : Stmt := top 14
theorem scIsTs : FnScope ["thing"] ["thing"] (defScope sIsTs) := ⟨rfl, rfl, rfl, by decide +kernel, rfl, by decide +kernel, by decide +kernel⟩
theorem ok_isTs {k : Nat} {t : Tok} (F : Fun K "is_test" "is_test" sIsTs f fd) (G : FnG P w K mg base CX0 k "is_part" ["thing", "kind", "deep"] (spPart K 6)) (m_DEEPEST : mg "DEEPEST" = some (.int 6 t)) :
    FnOk P w K mg base CX0 (k + 1) f fd ["thing"] (spB K OkA (isPart 6 "test")) := by
  obtain ⟨_, _, G_is_part, m_is_part, k_is_part, b_is_part⟩ := G
  have sc := scIsTs
  refine F.ok sc (fun vs H Q E h => ?_) (fun cdv A outer s H vs Q E hr h => ?_)
  · obtain ⟨x, d, rfl, _⟩ := h
    rfl
  obtain ⟨x, d, rfl, hd, ok, q⟩ := h
  refine ⟨_, (pss_one (ps_ret (pe_call G_is_part (hr.mono (by omega)) (by rfl) m_is_part k_is_part b_is_part .nil pass0 (pa_cons (pv 0) (pa_cons pe_str (pa_cons (pe_glob (v := .int 6) (by rfl) m_DEEPEST ⟨_, rfl⟩) pa_nil)))))), ?_⟩
  exact ⟨_, rfl, x, _, d, rfl, hd, ok, q⟩
end
/-! ### parts of written things -/
theorem kd_look : isKd "look" = false := by decide +kernel
theorem kd_test : isKd "test" = false := by decide +kernel
theorem part_nm {n : Nat} {k : Str} {d : PyData} (h : isKd k = true) : isPart n k d = isNm d := by
  cases n <;> (unfold isPart; rw [h]; rfl)
theorem nm_of {z : Str} (h : IsNm z) : isNm (.str z) = true := by
  show nmB z = true
  unfold nmB
  rw [decide_eq_true h.1, decide_eq_true h.2.1, Bool.true_and]
  exact List.all_eq_true.mpr fun c hc => by
    unfold azB
    rw [decide_eq_true (h.2.2 c hc).1, decide_eq_true (h.2.2 c hc).2]
    rfl
theorem look_num {n : Nat} {i : Int} : isPart (n + 1) "look" (.int i) = inB i := by
  show (if isKd "look" then _ else (decide (("look" : Str) = "look") && inB i) || false) = _
  rw [kd_look, decide_eq_true rfl, Bool.true_and, Bool.or_false]
  rfl
theorem look_tup {n : Nat} {z : Str} {r : List PyData} {ks : List Str} (h : gP ["look", z] = some ks) : isPart (n + 1) "look" (.tuple (.str z :: r)) = (decide (r.length = ks.length) && (r.zip ks).all fun p => isPart n p.2 p.1) := by
  show (if isKd "look" then _ else (decide (("look" : Str) = "look") && false) || hasP (isPart n) "look" (.tuple (.str z :: r))) = _
  rw [kd_look, Bool.and_false, Bool.false_or]
  show hasP (isPart n) "look" (.tuple (.str z :: r)) = _
  unfold hasP
  dsimp only
  rw [h]
theorem test_tup {n : Nat} {z : Str} {r : List PyData} {ks : List Str} (h : gP ["test", z] = some ks) : isPart (n + 1) "test" (.tuple (.str z :: r)) = (decide (r.length = ks.length) && (r.zip ks).all fun p => isPart n p.2 p.1) := by
  show (if isKd "test" then _ else (decide (("test" : Str) = "look") && false) || hasP (isPart n) "test" (.tuple (.str z :: r))) = _
  rw [kd_test, Bool.and_false, Bool.false_or]
  show hasP (isPart n) "test" (.tuple (.str z :: r)) = _
  unfold hasP
  dsimp only
  rw [h]
theorem look_0 {d : PyData} : isPart 0 "look" d = false := by unfold isPart; rw [kd_look]; rfl
theorem test_0 {d : PyData} : isPart 0 "test" d = false := by unfold isPart; rw [kd_test]; rfl
/-- two looks under a word -/
theorem look_two {n : Nat} {z : Str} {a b : PyData} (h : gP ["look", z] = some (["look", "look"] : List Str)) : isPart (n + 1) "look" (.tuple [.str z, a, b]) = (isPart n "look" a && isPart n "look" b) := by
  rw [look_tup h]
  show (true && (isPart n "look" a && (isPart n "look" b && true))) = _
  rw [Bool.true_and, Bool.and_true]
end Fd

set_option Elab.async false
set_option linter.all false
set_option maxRecDepth 100000
set_option maxHeartbeats 2000000
namespace Fd
open PySem PySem.Spec PyProof.Rows L2
section
variable {P : Program} {w : World} {K : PySem.W.Frag} {mg : Str → Option Value} {base : Heap} {f : Addr} {fd : FuncData} {C : Addr}
/-- a def that may raise, where it does not -/
theorem FnOk.calm {k : Nat} {ps : List Str} {sp sp0 : Sp} (F : FnOk P w K mg base (L2.CX P w) k f fd ps sp) (h : ∀ vs H Q E, sp0 vs H Q E → sp vs H Q (fun _ _ _ => False)) : FnOk P w K mg base CX0 k f fd ps sp0 := by
  refine ⟨fun vs H Q E g => F.1 vs H Q _ (h vs H Q E g), fun A outer s H args us vs Q E a b c d g => ?_⟩
  refine codeAny_mono (F.2 A outer s H args us vs Q (fun _ _ _ => False) a b c d (h vs H Q E g)) fun r s' hr => ?_
  cases r with
  | ok fl => cases fl <;> exact hr
  | error e =>
    obtain ⟨_, _, _, _, _, _, _, _, _, _, _, _, z⟩ := (show L2.CX P w outer H s (fun _ _ _ => False) e s' from hr)
    exact z.elim
theorem passAt0 {X : Cx} {σ : L2.St} {E : XK} : PassesAt CX0 X σ E := fun _ _ _ _ _ _ h => h.elim
def spValOk (K : PySem.W.Frag) (n : Nat) : Sp := fun vs H Q _ => ∃ (v : V) (e : Addr) (L : Lk) (Y : Ey) (i : Int), vs = [v, .ref e] ∧ LkAt K H v L ∧ L.deep ≤ n ∧ Eyes K H e Y ∧ val Y L = .ok i ∧ Q (.int i) H
theorem valOk {n : Nat} : ∀ vs H Q E, spValOk K n vs H Q E → spVal K C n vs H Q (fun _ _ _ => False) := fun vs H Q E ⟨v, e, L, Y, i, h1, h2, h3, h4, h5, q⟩ => ⟨v, e, L, Y, h1, h2, h3, h4, by rw [h5]; exact q⟩
def spHoldOk (K : PySem.W.Frag) (n : Nat) : Sp := fun vs H Q _ => ∃ (v : V) (e : Addr) (t : Ts) (Y : Ey) (b : Bool), vs = [v, .ref e] ∧ TsAt K H v t ∧ t.deep ≤ n ∧ Eyes K H e Y ∧ hold Y t = .ok b ∧ Q (.bl b) H
theorem holdOk {n : Nat} : ∀ vs H Q E, spHoldOk K n vs H Q E → spHold K C n vs H Q (fun _ _ _ => False) := fun vs H Q E ⟨v, e, t, Y, b, h1, h2, h3, h4, h5, q⟩ => ⟨v, e, t, Y, h1, h2, h3, h4, by rw [h5]; exact q⟩
end
end Fd

set_option Elab.async false
set_option linter.all false
set_option maxRecDepth 100000
set_option maxHeartbeats 2000000
namespace Fd
open PySem PySem.Spec PyProof.Rows L2
/-! ### looks and tests written as tuples -/
def lkD : Lk → PyData
  | .num i => .int i
  | .name x => .tuple [.str "name", .str x]
  | .many x => .tuple [.str "many", .str x]
  | .item x a => .tuple [.str "item", .str x, lkD a]
  | .spot k => .tuple [.str (spotWords.getD k "")]
  | .bin o a b => .tuple [.str o.word, lkD a, lkD b]
def tsD : Ts → PyData
  | .like a b => .tuple [.str "like", lkD a, lkD b]
  | .less a b => .tuple [.str "below", lkD a, lkD b]
  | .not_ t => .tuple [.str "not", tsD t]
  | .both t u => .tuple [.str "both", tsD t, tsD u]
  | .any_ t u => .tuple [.str "any", tsD t, tsD u]
  | .meets x => .tuple [.str "meets", .str x]
/-- names are names, values in their bounds -/
def LkF : Lk → Prop
  | .num i => inB i = true
  | .name x => IsNm x
  | .many x => IsNm x
  | .item x a => IsNm x ∧ LkF a
  | .spot k => k < 4
  | .bin _ a b => LkF a ∧ LkF b
def TsF : Ts → Prop
  | .like a b => LkF a ∧ LkF b
  | .less a b => LkF a ∧ LkF b
  | .not_ t => TsF t
  | .both t u => TsF t ∧ TsF u
  | .any_ t u => TsF t ∧ TsF u
  | .meets x => IsNm x
theorem d1 {K : PySem.W.Frag} {H : Hp} {v : V} {d : PyData} (h : Dp K H v (.tuple [d])) : ∃ a x, v = .ref a ∧ SqT K H a [x] ∧ Dp K H x d := by
  cases h with | tup q r => cases r with | cons r1 r => cases r; exact ⟨_, _, rfl, q, r1⟩
theorem d2 {K : PySem.W.Frag} {H : Hp} {v : V} {d d' : PyData} (h : Dp K H v (.tuple [d, d'])) : ∃ a x y, v = .ref a ∧ SqT K H a [x, y] ∧ Dp K H x d ∧ Dp K H y d' := by
  cases h with | tup q r => cases r with | cons r1 r => cases r with | cons r2 r => cases r; exact ⟨_, _, _, rfl, q, r1, r2⟩
theorem d3 {K : PySem.W.Frag} {H : Hp} {v : V} {d d' d'' : PyData} (h : Dp K H v (.tuple [d, d', d''])) : ∃ a x y z, v = .ref a ∧ SqT K H a [x, y, z] ∧ Dp K H x d ∧ Dp K H y d' ∧ Dp K H z d'' := by
  cases h with | tup q r => cases r with | cons r1 r => cases r with | cons r2 r => cases r with | cons r3 r => cases r; exact ⟨_, _, _, _, rfl, q, r1, r2, r3⟩
theorem dpS {K : PySem.W.Frag} {H : Hp} {v : V} {x : Str} (h : Dp K H v (.str x)) : v = .str x := by cases h; rfl
theorem lk_of {K : PySem.W.Frag} {H : Hp} : ∀ {L : Lk} {v : V}, LkF L → Dp K H v (lkD L) → LkAt K H v L
  | .num i, v, _, h => by
    have h : Dp K H v (.int i) := h
    cases h; exact .num i
  | .name x, v, _, h => by
    obtain ⟨a, x1, x2, rfl, q, r1, r2⟩ := d2 h
    cases dpS r1; cases dpS r2; exact .name (.inl q)
  | .many x, v, _, h => by
    obtain ⟨a, x1, x2, rfl, q, r1, r2⟩ := d2 h
    cases dpS r1; cases dpS r2; exact .many (.inl q)
  | .item x L, v, o, h => by
    obtain ⟨a, x1, x2, x3, rfl, q, r1, r2, r3⟩ := d3 h
    cases dpS r1; cases dpS r2; exact .item (.inl q) (lk_of o.2 r3)
  | .spot k, v, o, h => by
    obtain ⟨a, x1, rfl, q, r1⟩ := d1 h
    cases dpS r1
    have o : k < 4 := o
    exact .spot (by rw [List.getD_eq_getElem?_getD, List.getElem?_eq_getElem (show k < spotWords.length from o)]; rfl) (.inl q)
  | .bin p L M, v, o, h => by
    obtain ⟨a, x1, x2, x3, rfl, q, r1, r2, r3⟩ := d3 h
    cases dpS r1; exact .bin (.inl q) (lk_of o.1 r2) (lk_of o.2 r3)
theorem ts_of {K : PySem.W.Frag} {H : Hp} : ∀ {t : Ts} {v : V}, TsF t → Dp K H v (tsD t) → TsAt K H v t
  | .like L M, v, o, h => by
    obtain ⟨a, x1, x2, x3, rfl, q, r1, r2, r3⟩ := d3 h
    cases dpS r1; exact .like (.inl q) (lk_of o.1 r2) (lk_of o.2 r3)
  | .less L M, v, o, h => by
    obtain ⟨a, x1, x2, x3, rfl, q, r1, r2, r3⟩ := d3 h
    cases dpS r1; exact .less (.inl q) (lk_of o.1 r2) (lk_of o.2 r3)
  | .not_ t, v, o, h => by
    obtain ⟨a, x1, x2, rfl, q, r1, r2⟩ := d2 h
    cases dpS r1; exact .not_ (.inl q) (ts_of o r2)
  | .both t u, v, o, h => by
    obtain ⟨a, x1, x2, x3, rfl, q, r1, r2, r3⟩ := d3 h
    cases dpS r1; exact .both (.inl q) (ts_of o.1 r2) (ts_of o.2 r3)
  | .any_ t u, v, o, h => by
    obtain ⟨a, x1, x2, x3, rfl, q, r1, r2, r3⟩ := d3 h
    cases dpS r1; exact .any_ (.inl q) (ts_of o.1 r2) (ts_of o.2 r3)
  | .meets x, v, _, h => by
    obtain ⟨a, x1, x2, rfl, q, r1, r2⟩ := d2 h
    cases dpS r1; cases dpS r2; exact .meets (.inl q)
/-! ### what is_look, is_test say of them -/
theorem inB_in {i : Int} (h : inB i = true) : -1000000 ≤ i ∧ i ≤ 1000000 := by
  unfold inB at h
  rw [Bool.and_eq_true] at h
  exact ⟨of_decide_eq_true h.1, of_decide_eq_true h.2⟩
theorem and_le {a b n : Nat} : (decide (a ≤ n) && decide (b ≤ n)) = decide (max a b + 1 ≤ n + 1) := by
  by_cases h1 : a ≤ n <;> by_cases h2 : b ≤ n
  · rw [decide_eq_true h1, decide_eq_true h2, decide_eq_true (by omega)]; rfl
  · rw [decide_eq_true h1, decide_eq_false h2, decide_eq_false (by omega)]; rfl
  · rw [decide_eq_false h1, Bool.false_and, decide_eq_false (show ¬ (max a b + 1 ≤ n + 1) by omega)]
  · rw [decide_eq_false h1, Bool.false_and, decide_eq_false (show ¬ (max a b + 1 ≤ n + 1) by omega)]
theorem le_le {a n : Nat} : decide (a ≤ n) = decide (a + 1 ≤ n + 1) := by
  by_cases h : a ≤ n
  · rw [decide_eq_true h, decide_eq_true (by omega)]
  · rw [decide_eq_false h, decide_eq_false (by omega)]
theorem deep_pos : ∀ L : Lk, 1 ≤ L.deep
  | .num _ => by simp [Lk.deep]
  | .name _ => by simp [Lk.deep]
  | .many _ => by simp [Lk.deep]
  | .item _ _ => by simp [Lk.deep]
  | .spot _ => by simp [Lk.deep]
  | .bin _ _ _ => by simp [Lk.deep]
theorem deepT_pos : ∀ t : Ts, 1 ≤ t.deep := fun t => by cases t <;> simp [Ts.deep]
theorem part_lk : ∀ (n : Nat) (L : Lk), LkF L → isPart n "look" (lkD L) = decide (L.deep ≤ n)
  | 0, L, _ => by rw [look_0, decide_eq_false (by have := deep_pos L; omega)]
  | n + 1, .num i, o => by
    show isPart (n + 1) "look" (.int i) = _
    rw [look_num, show inB i = true from o, decide_eq_true (by show 1 ≤ n + 1; omega)]
  | n + 1, .name x, o => by
    show isPart (n + 1) "look" (.tuple [.str "name", .str x]) = _
    rw [look_tup (ks := ["name"]) (by decide +kernel), decide_eq_true (show (Lk.name x).deep ≤ n + 1 by show 1 ≤ n + 1; omega)]
    show (true && (isPart n "name" (.str x) && true)) = _
    rw [part_nm (by decide +kernel), nm_of o]; rfl
  | n + 1, .many x, o => by
    show isPart (n + 1) "look" (.tuple [.str "many", .str x]) = _
    rw [look_tup (ks := ["list"]) (by decide +kernel), decide_eq_true (show (Lk.many x).deep ≤ n + 1 by show 1 ≤ n + 1; omega)]
    show (true && (isPart n "list" (.str x) && true)) = _
    rw [part_nm (by decide +kernel), nm_of o]; rfl
  | n + 1, .item x L, o => by
    show isPart (n + 1) "look" (.tuple [.str "item", .str x, lkD L]) = _
    rw [look_tup (ks := ["list", "look"]) (by decide +kernel)]
    show (true && (isPart n "list" (.str x) && (isPart n "look" (lkD L) && true))) = _
    rw [part_nm (by decide +kernel), nm_of o.1, part_lk n L o.2, Bool.true_and, Bool.true_and, Bool.and_true]
    exact le_le
  | n + 1, .spot k, o => by
    have o : k < 4 := o
    rw [decide_eq_true (show (Lk.spot k).deep ≤ n + 1 by show 1 ≤ n + 1; omega)]
    have : k = 0 ∨ k = 1 ∨ k = 2 ∨ k = 3 := by omega
    rcases this with rfl | rfl | rfl | rfl
    · show isPart (n + 1) "look" (.tuple [.str "x"]) = _
      rw [look_tup (ks := []) (by decide +kernel)]; rfl
    · show isPart (n + 1) "look" (.tuple [.str "y"]) = _
      rw [look_tup (ks := []) (by decide +kernel)]; rfl
    · show isPart (n + 1) "look" (.tuple [.str "way"]) = _
      rw [look_tup (ks := []) (by decide +kernel)]; rfl
    · show isPart (n + 1) "look" (.tuple [.str "number"]) = _
      rw [look_tup (ks := []) (by decide +kernel)]; rfl
  | n + 1, .bin p L M, o => by
    show isPart (n + 1) "look" (.tuple [.str p.word, lkD L, lkD M]) = _
    rw [look_two (by cases p <;> decide +kernel), part_lk n L o.1, part_lk n M o.2]
    exact and_le
theorem part_ts : ∀ (n : Nat) (t : Ts), TsF t → isPart n "test" (tsD t) = decide (t.deep ≤ n)
  | 0, t, _ => by rw [test_0, decide_eq_false (by have := deepT_pos t; omega)]
  | n + 1, .like L M, o => by
    show isPart (n + 1) "test" (.tuple [.str "like", lkD L, lkD M]) = _
    rw [test_tup (ks := ["look", "look"]) (by decide +kernel)]
    show (true && (isPart n "look" (lkD L) && (isPart n "look" (lkD M) && true))) = _
    rw [part_lk n L o.1, part_lk n M o.2, Bool.true_and, Bool.and_true]
    exact and_le
  | n + 1, .less L M, o => by
    show isPart (n + 1) "test" (.tuple [.str "below", lkD L, lkD M]) = _
    rw [test_tup (ks := ["look", "look"]) (by decide +kernel)]
    show (true && (isPart n "look" (lkD L) && (isPart n "look" (lkD M) && true))) = _
    rw [part_lk n L o.1, part_lk n M o.2, Bool.true_and, Bool.and_true]
    exact and_le
  | n + 1, .not_ t, o => by
    show isPart (n + 1) "test" (.tuple [.str "not", tsD t]) = _
    rw [test_tup (ks := ["test"]) (by decide +kernel)]
    show (true && (isPart n "test" (tsD t) && true)) = _
    rw [part_ts n t o, Bool.true_and, Bool.and_true]
    exact le_le
  | n + 1, .both t u, o => by
    show isPart (n + 1) "test" (.tuple [.str "both", tsD t, tsD u]) = _
    rw [test_tup (ks := ["test", "test"]) (by decide +kernel)]
    show (true && (isPart n "test" (tsD t) && (isPart n "test" (tsD u) && true))) = _
    rw [part_ts n t o.1, part_ts n u o.2, Bool.true_and, Bool.and_true]
    exact and_le
  | n + 1, .any_ t u, o => by
    show isPart (n + 1) "test" (.tuple [.str "any", tsD t, tsD u]) = _
    rw [test_tup (ks := ["test", "test"]) (by decide +kernel)]
    show (true && (isPart n "test" (tsD t) && (isPart n "test" (tsD u) && true))) = _
    rw [part_ts n t o.1, part_ts n u o.2, Bool.true_and, Bool.and_true]
    exact and_le
  | n + 1, .meets x, o => by
    show isPart (n + 1) "test" (.tuple [.str "meets", .str x]) = _
    rw [test_tup (ks := ["figure"]) (by decide +kernel), decide_eq_true (show (Ts.meets x).deep ≤ n + 1 by show 1 ≤ n + 1; omega)]
    show (true && (isPart n "figure" (.str x) && true)) = _
    rw [part_nm (by decide +kernel), nm_of o]; rfl
theorem okt_str {n : Nat} {x : Str} (h : IsNm x) : OkT 3 (n + 1) (.str x) := ⟨Nat.le_trans h.2.1 (by decide), fun c hc => by have := (h.2.2 c hc).2; omega⟩
theorem okt_w {n : Nat} {x : Str} (h1 : x.cps.size ≤ 8) (h2 : x.cps.all (· < 128) = true) : OkT 3 (n + 1) (.str x) :=
  ⟨Nat.le_trans h1 (by decide), fun c hc => by
    rw [Array.all_eq_true'] at h2
    exact of_decide_eq_true (h2 c (Array.mem_toList_iff.mp hc))⟩
theorem okt_1 {n : Nat} {a : PyData} (h : OkT 3 n a) : OkT 3 (n + 1) (.tuple [a]) := ⟨by show 1 ≤ 11; decide, fun d hd => by rw [List.mem_singleton.mp hd]; exact h⟩
theorem okt_2 {n : Nat} {a b : PyData} (h : OkT 3 n a) (h' : OkT 3 n b) : OkT 3 (n + 1) (.tuple [a, b]) := ⟨by show 2 ≤ 11; decide, fun d hd => by
  simp only [List.mem_cons, List.not_mem_nil, or_false] at hd
  rcases hd with rfl | rfl
  · exact h
  · exact h'⟩
theorem okt_3 {n : Nat} {a b c : PyData} (h : OkT 3 n a) (h' : OkT 3 n b) (h'' : OkT 3 n c) : OkT 3 (n + 1) (.tuple [a, b, c]) := ⟨by show 3 ≤ 11; decide, fun d hd => by
  simp only [List.mem_cons, List.not_mem_nil, or_false] at hd
  rcases hd with rfl | rfl | rfl
  · exact h
  · exact h'
  · exact h''⟩
theorem okt_lk : ∀ L : Lk, LkF L → OkT 3 (L.deep + 1) (lkD L)
  | .num i, o => by
    have := inB_in o
    show OkT 3 2 (.int i)
    exact ⟨by omega, by omega⟩
  | .name x, o => okt_2 (n := 1) (okt_w (by decide +kernel) (by decide +kernel)) (okt_str o)
  | .many x, o => okt_2 (n := 1) (okt_w (by decide +kernel) (by decide +kernel)) (okt_str o)
  | .item x L, o => okt_3 (n := L.deep + 1) (okt_w (by decide +kernel) (by decide +kernel)) (okt_str o.1) (okt_lk L o.2)
  | .spot k, o => by
    have o : k < 4 := o
    have : k = 0 ∨ k = 1 ∨ k = 2 ∨ k = 3 := by omega
    rcases this with rfl | rfl | rfl | rfl <;> exact okt_1 (n := 1) (okt_w (by decide +kernel) (by decide +kernel))
  | .bin p L M, o => okt_3 (n := max L.deep M.deep + 1) (okt_w (by cases p <;> decide +kernel) (by cases p <;> decide +kernel)) ((okt_lk L o.1).mono (Nat.le_refl _) (by omega)) ((okt_lk M o.2).mono (Nat.le_refl _) (by omega))
theorem okt_ts : ∀ t : Ts, TsF t → OkT 3 (t.deep + 1) (tsD t)
  | .like L M, o => okt_3 (n := max L.deep M.deep + 1) (okt_w (by decide +kernel) (by decide +kernel)) ((okt_lk L o.1).mono (Nat.le_refl _) (by omega)) ((okt_lk M o.2).mono (Nat.le_refl _) (by omega))
  | .less L M, o => okt_3 (n := max L.deep M.deep + 1) (okt_w (by decide +kernel) (by decide +kernel)) ((okt_lk L o.1).mono (Nat.le_refl _) (by omega)) ((okt_lk M o.2).mono (Nat.le_refl _) (by omega))
  | .not_ t, o => okt_2 (n := t.deep + 1) (okt_w (by decide +kernel) (by decide +kernel)) (okt_ts t o)
  | .both t u, o => okt_3 (n := max t.deep u.deep + 1) (okt_w (by decide +kernel) (by decide +kernel)) ((okt_ts t o.1).mono (Nat.le_refl _) (by omega)) ((okt_ts u o.2).mono (Nat.le_refl _) (by omega))
  | .any_ t u, o => okt_3 (n := max t.deep u.deep + 1) (okt_w (by decide +kernel) (by decide +kernel)) ((okt_ts t o.1).mono (Nat.le_refl _) (by omega)) ((okt_ts u o.2).mono (Nat.le_refl _) (by omega))
  | .meets x, o => okt_2 (n := 1) (okt_w (by decide +kernel) (by decide +kernel)) (okt_str o)
/-! ### tuples stay where one list is changed -/
theorem sqT_but {K : PySem.W.Frag} {H H' : Hp} {a b : Addr} {ys xs : List V} (hb : H b = some (.lst ys)) (s : But b H H') (h : SqT K H a xs) : SqT K H' a xs := by
  rcases h with (h | ⟨o, h⟩) | h
  · exact .inl (.inl (s _ _ (ne_of h hb (fun z => nomatch z)) h))
  · exact .inl (.inr ⟨o, s _ _ (ne_of h hb (fun z => nomatch z)) h⟩)
  · exact .inr h
theorem dpS_but {K : PySem.W.Frag} {H H' : Hp} {v : V} {x : Str} (h : Dp K H v (.str x)) : Dp K H' v (.str x) := by rw [dpS h]; exact .str x
theorem lk_but {K : PySem.W.Frag} {H H' : Hp} {b : Addr} {ys : List V} (hb : H b = some (.lst ys)) (s : But b H H') : ∀ {L : Lk} {v : V}, Dp K H v (lkD L) → Dp K H' v (lkD L)
  | .num i, v, h => by
    have h : Dp K H v (.int i) := h
    cases h; exact .int i
  | .name x, v, h => by
    obtain ⟨a, x1, x2, rfl, q, r1, r2⟩ := d2 h
    exact .tup (sqT_but hb s q) (.cons (dpS_but r1) (.cons (dpS_but r2) .nil))
  | .many x, v, h => by
    obtain ⟨a, x1, x2, rfl, q, r1, r2⟩ := d2 h
    exact .tup (sqT_but hb s q) (.cons (dpS_but r1) (.cons (dpS_but r2) .nil))
  | .item x L, v, h => by
    obtain ⟨a, x1, x2, x3, rfl, q, r1, r2, r3⟩ := d3 h
    exact .tup (sqT_but hb s q) (.cons (dpS_but r1) (.cons (dpS_but r2) (.cons (lk_but hb s r3) .nil)))
  | .spot k, v, h => by
    obtain ⟨a, x1, rfl, q, r1⟩ := d1 h
    exact .tup (sqT_but hb s q) (.cons (dpS_but r1) .nil)
  | .bin p L M, v, h => by
    obtain ⟨a, x1, x2, x3, rfl, q, r1, r2, r3⟩ := d3 h
    exact .tup (sqT_but hb s q) (.cons (dpS_but r1) (.cons (lk_but hb s r2) (.cons (lk_but hb s r3) .nil)))
theorem ts_but {K : PySem.W.Frag} {H H' : Hp} {b : Addr} {ys : List V} (hb : H b = some (.lst ys)) (s : But b H H') : ∀ {t : Ts} {v : V}, Dp K H v (tsD t) → Dp K H' v (tsD t)
  | .like L M, v, h => by
    obtain ⟨a, x1, x2, x3, rfl, q, r1, r2, r3⟩ := d3 h
    exact .tup (sqT_but hb s q) (.cons (dpS_but r1) (.cons (lk_but hb s r2) (.cons (lk_but hb s r3) .nil)))
  | .less L M, v, h => by
    obtain ⟨a, x1, x2, x3, rfl, q, r1, r2, r3⟩ := d3 h
    exact .tup (sqT_but hb s q) (.cons (dpS_but r1) (.cons (lk_but hb s r2) (.cons (lk_but hb s r3) .nil)))
  | .not_ t, v, h => by
    obtain ⟨a, x1, x2, rfl, q, r1, r2⟩ := d2 h
    exact .tup (sqT_but hb s q) (.cons (dpS_but r1) (.cons (ts_but hb s r2) .nil))
  | .both t u, v, h => by
    obtain ⟨a, x1, x2, x3, rfl, q, r1, r2, r3⟩ := d3 h
    exact .tup (sqT_but hb s q) (.cons (dpS_but r1) (.cons (ts_but hb s r2) (.cons (ts_but hb s r3) .nil)))
  | .any_ t u, v, h => by
    obtain ⟨a, x1, x2, x3, rfl, q, r1, r2, r3⟩ := d3 h
    exact .tup (sqT_but hb s q) (.cons (dpS_but r1) (.cons (ts_but hb s r2) (.cons (ts_but hb s r3) .nil)))
  | .meets x, v, h => by
    obtain ⟨a, x1, x2, rfl, q, r1, r2⟩ := d2 h
    exact .tup (sqT_but hb s q) (.cons (dpS_but r1) (.cons (dpS_but r2) .nil))
/-! ### what was written for one cell -/
structure Sc (H : Hp) (w0 w1 : Str) (low : Int) (rs : List Int) (ms : List Str) (pr ps lp ll row sp mt e : Addr) : Prop where
  hpr : H pr = some (.tup [.str w0, .int low])
  hps : H ps = some (.lst [.ref pr])
  hrow : H row = some (.lst (rs.map V.int))
  hlp : H lp = some (.tup [.str w1, .ref row])
  hll : H ll = some (.lst [.ref lp])
  hsp : H sp = some (.tup [.int 7, .int 8, .int 2, .int 0])
  hmt : H mt = some (.lst (ms.map V.str))
  he : H e = some (.tup [.ref ps, .ref ll, .ref sp, .ref mt])
abbrev ey (w0 w1 : Str) (low : Int) (rs : List Int) (ms : List Str) : Ey := ⟨[(w0, low)], [(w1, rs)], [7, 8, 2, 0], ms⟩
section
variable {H H' : Hp} {w0 w1 : Str} {low : Int} {rs : List Int} {ms : List Str} {pr ps lp ll row sp mt e : Addr}
theorem Sc.same (h : Sc H w0 w1 low rs ms pr ps lp ll row sp mt e) (s : Same H H') : Sc H' w0 w1 low rs ms pr ps lp ll row sp mt e :=
  ⟨s _ _ h.hpr, s _ _ h.hps, s _ _ h.hrow, s _ _ h.hlp, s _ _ h.hll, s _ _ h.hsp, s _ _ h.hmt, s _ _ h.he⟩
theorem Sc.eyes {K : PySem.W.Frag} (h : Sc H w0 w1 low rs ms pr ps lp ll row sp mt e) : Eyes K H e (ey w0 w1 low rs ms) :=
  ⟨ps, ll, sp, mt, .tup h.he, ⟨_, .lst h.hps, .cons ⟨pr, rfl, .tup h.hpr⟩ .nil⟩, ⟨_, [(w1, .ref row)], .lst h.hll, .cons ⟨lp, rfl, .tup h.hlp⟩ .nil, .cons ⟨rfl, row, rfl, .lst h.hrow⟩ .nil⟩, .tup h.hsp, rfl, .lst h.hmt⟩
/-- another pair for the first -/
theorem Sc.pair {pr' : Addr} {low' : Int} (h : Sc H w0 w1 low [4, 5] [] pr ps lp ll row sp mt e) (hp : H pr' = some (.tup [.str w0, .int low'])) : Sc (upd H ps (.lst [.ref pr'])) w0 w1 low' [4, 5] [] pr' ps lp ll row sp mt e := by
  refine ⟨?_, upd_same, ?_, ?_, ?_, ?_, ?_, ?_⟩
  · rw [upd_ne (ne_of hp h.hps (fun z => nomatch z))]; exact hp
  · rw [upd_ne (ne_of h.hrow h.hps (fun z => nomatch z))]; exact h.hrow
  · rw [upd_ne (ne_of h.hlp h.hps (fun z => nomatch z))]; exact h.hlp
  · refine (upd_ne (ne_of h.hll h.hps (fun z => ?_))).trans h.hll
    injection z with z
    injection z with z _
    injection z with z
    have := h.hlp.symm.trans (z ▸ h.hpr)
    injection this with this
    injection this with this
    injection this with _ this
    injection this with this _
    cases this
  · rw [upd_ne (ne_of h.hsp h.hps (fun z => nomatch z))]; exact h.hsp
  · rw [upd_ne (ne_of h.hmt h.hps (fun z => nomatch z))]; exact h.hmt
  · rw [upd_ne (ne_of h.he h.hps (fun z => nomatch z))]; exact h.he
theorem Sc.push (h : Sc H w0 w1 low [4, 5] [] pr ps lp ll row sp mt e) : Sc (upd H row (.lst [.int 4, .int 5, .int 6])) w0 w1 low [4, 5, 6] [] pr ps lp ll row sp mt e := by
  refine ⟨?_, ?_, upd_same, ?_, ?_, ?_, ?_, ?_⟩
  · rw [upd_ne (ne_of h.hpr h.hrow (fun z => nomatch z))]; exact h.hpr
  · rw [upd_ne (ne_of h.hps h.hrow (fun z => nomatch z))]; exact h.hps
  · rw [upd_ne (ne_of h.hlp h.hrow (fun z => nomatch z))]; exact h.hlp
  · rw [upd_ne (ne_of h.hll h.hrow (fun z => nomatch z))]; exact h.hll
  · rw [upd_ne (ne_of h.hsp h.hrow (fun z => nomatch z))]; exact h.hsp
  · rw [upd_ne (ne_of h.hmt h.hrow (fun z => nomatch z))]; exact h.hmt
  · rw [upd_ne (ne_of h.he h.hrow (fun z => nomatch z))]; exact h.he
theorem Sc.meet {w2 : Str} (h : Sc H w0 w1 low [4, 5, 6] [] pr ps lp ll row sp mt e) : Sc (upd H mt (.lst [.str w2])) w0 w1 low [4, 5, 6] [w2] pr ps lp ll row sp mt e := by
  refine ⟨?_, ?_, ?_, ?_, ?_, ?_, upd_same, ?_⟩
  · rw [upd_ne (ne_of h.hpr h.hmt (fun z => nomatch z))]; exact h.hpr
  · rw [upd_ne (ne_of h.hps h.hmt (fun z => nomatch z))]; exact h.hps
  · rw [upd_ne (ne_of h.hrow h.hmt (fun z => nomatch z))]; exact h.hrow
  · rw [upd_ne (ne_of h.hlp h.hmt (fun z => nomatch z))]; exact h.hlp
  · rw [upd_ne (ne_of h.hll h.hmt (fun z => nomatch z))]; exact h.hll
  · rw [upd_ne (ne_of h.hsp h.hmt (fun z => nomatch z))]; exact h.hsp
  · rw [upd_ne (ne_of h.he h.hmt (fun z => nomatch z))]; exact h.he
end
/-! ### what they come to -/
def gl (w0 : Str) : Nat → Lk
  | 0 => .name w0
  | k + 1 => .bin .plus (gl w0 k) (.num 1)
abbrev trT (w0 w2 : Str) : Ts := .both (.less (.bin .minus (.bin .plus (.name w0) (.num 5)) (.num 6)) (.name w0)) (.not_ (.meets w2))
theorem gl_f {w0 : Str} (h : IsNm w0) : ∀ k, LkF (gl w0 k)
  | 0 => h
  | k + 1 => ⟨gl_f h k, by show inB 1 = true; decide⟩
theorem gl_deep {w0 : Str} : ∀ k, (gl w0 k).deep = k + 1
  | 0 => rfl
  | k + 1 => by show max (gl w0 k).deep 1 + 1 = _; rw [gl_deep k]; omega
theorem tr_f {w0 w2 : Str} (h : IsNm w0) (h2 : IsNm w2) : TsF (trT w0 w2) := ⟨⟨⟨⟨h, by show inB 5 = true; decide⟩, by show inB 6 = true; decide⟩, h⟩, h2⟩
theorem far_ok {i : Int} (h0 : -1000000 ≤ i) (h1 : i ≤ 1000000) : far (.ok i) = .ok i := by
  show (if inB i = true then _ else _) = _
  rw [if_pos (by unfold inB; rw [decide_eq_true h0, decide_eq_true h1]; rfl)]
theorem look_self {α : Type} {x : Str} {v : α} {r : List (Str × α)} : ((x, v) :: r).lookup x = some v := by rw [List.lookup_cons, beq_self_eq_true]
theorem v_name {w0 w1 : Str} {low : Int} {rs : List Int} {ms : List Str} (h0 : 0 ≤ low) (h1 : low ≤ 2000) : val (ey w0 w1 low rs ms) (.name w0) = .ok low := by
  show far (some_of (([(w0, low)] : List (Str × Int)).lookup w0) .ok) = _
  rw [look_self]
  exact far_ok (by omega) (by omega)
theorem v_num {Y : Ey} {i : Int} (h0 : -1000000 ≤ i) (h1 : i ≤ 1000000) : val Y (.num i) = .ok i := far_ok h0 h1
theorem v_bin {Y : Ey} {o : BOp} {L M : Lk} {i j r : Int} (hl : val Y L = .ok i) (hm : val Y M = .ok j) (e : o.run i j = .ok r) (h0 : -1000000 ≤ r) (h1 : r ≤ 1000000) : val Y (.bin o L M) = .ok r := by
  show far (then_ (val Y L) fun i => then_ (val Y M) fun j => o.run i j) = _
  rw [hl]
  show far (then_ (val Y M) fun j => o.run i j) = _
  rw [hm]
  show far (o.run i j) = _
  rw [e]
  exact far_ok h0 h1
theorem v_gl {w0 w1 : Str} {low : Int} {rs : List Int} {ms : List Str} (h0 : 0 ≤ low) (h1 : low ≤ 2000) : ∀ k : Nat, k ≤ 5 → val (ey w0 w1 low rs ms) (gl w0 k) = .ok (low + k)
  | 0, _ => by rw [show low + ((0 : Nat) : Int) = low by omega]; exact v_name h0 h1
  | k + 1, h => by
    refine v_bin (v_gl h0 h1 k (by omega)) (v_num (by decide) (by decide)) ?_ (by omega) (by omega)
    show Except.ok (low + k + 1) = Except.ok (low + ((k + 1 : Nat) : Int))
    rw [show low + (k : Int) + 1 = low + ((k + 1 : Nat) : Int) by omega]
theorem v_item {w0 w1 : Str} {low : Int} {ms : List Str} : val (ey w0 w1 low [4, 5, 6] ms) (.item w1 (.num 2)) = .ok 6 := by
  show far (some_of (([(w1, [4, 5, 6])] : List (Str × List Int)).lookup w1) fun l => then_ (val _ (.num 2)) (itemOf l)) = _
  rw [look_self]
  rfl
theorem v_many {w0 w1 : Str} {low : Int} {ms : List Str} : val (ey w0 w1 low [4, 5, 6] ms) (.many w1) = .ok 3 := by
  show far (some_of (([(w1, [4, 5, 6])] : List (Str × List Int)).lookup w1) fun l => .ok l.length) = _
  rw [look_self]
  rfl
theorem h_tr {w0 w1 w2 : Str} {low : Int} {rs : List Int} {ms : List Str} (h0 : 0 ≤ low) (h1 : low ≤ 2000) : hold (ey w0 w1 low rs ms) (trT w0 w2) = .ok (!decide (w2 ∈ ms)) := by
  have e : hold (ey w0 w1 low rs ms) (.less (.bin .minus (.bin .plus (.name w0) (.num 5)) (.num 6)) (.name w0)) = .ok true := by
    show thenB (val _ _) (fun i => thenB (val _ _) fun j => .ok (decide (i < j))) = _
    rw [v_bin (r := low + 5 - 6) (v_bin (r := low + 5) (v_name h0 h1) (v_num (by decide) (by decide)) rfl (by omega) (by omega)) (v_num (by decide) (by decide)) rfl (by omega) (by omega), v_name h0 h1]
    show Except.ok (decide (low + 5 - 6 < low)) = _
    rw [decide_eq_true (by omega)]
  show thenB (hold _ _) (fun b => if b = true then _ else _) = _
  rw [e]
  rfl
end Fd

set_option Elab.async false
set_option linter.all false
set_option maxRecDepth 100000
set_option maxHeartbeats 8000000
namespace Fd
open PySem PySem.Spec PyProof.Rows L2
theorem bls {K : PySem.W.Frag} {H : Hp} : ∀ bs : List Bool, DpAll K H (bs.map V.bl) (bs.map PyData.bool)
  | [] => .nil
  | b :: r => .cons (.bl b) (bls r)
section
variable {P : Program} {w : World} {K : PySem.W.Frag} {mg : Str → Option Value} {base : Heap} {f : Addr} {fd : FuncData}
abbrev sLaw : Stmt := top 35
theorem scLaw : FnScope ["_law_script", "_law_cells", "_law_k", "_law_box", "_law_pairs", "_law_step", "_law_trial", "_law_told", "_law_some", "_law_inner", "_law_words", "_law_low", "_law_own", "_law_row", "_law_met", "_law_sights", "_law_glance", "_law_one"] ["_law_script"] (defScope sLaw) := ⟨rfl, rfl, rfl, by decide +kernel, rfl, by decide +kernel, by decide +kernel⟩
def spLaw (K : PySem.W.Frag) : Sp := fun vs H Q _ => ∃ (a : Addr) (ns : List Int), vs = [.ref a] ∧ SqL K H a (ns.map V.int) ∧ ns.length ≤ 63 ∧ ∀ H', Q (.bl true) H'
/-- a def that is also called by its names -/
def FnT (P : Program) (w : World) (K : PySem.W.Frag) (mg : Str → Option Value) (base : Heap) (CX : CXT) (k : Nat) (x : Str) (ps ks : List Str) (sp : Sp) : Prop :=
  ∃ f fd, FnOk P w K mg base CX k f fd ps sp ∧ mg x = some (.ref f) ∧ PySem.W.keepIn K (.ref f) = true ∧ Binds K fd ps [] ∧ KwX.Turned K fd ps ks
/-- the defs that the law calls -/
structure LawD (P : Program) (w : World) (K : PySem.W.Frag) (mg : Str → Option Value) (base : Heap) (k : Nat) : Prop where
  GF : FnG P w K mg base CX0 k "_law_folded" ["_law_script", "_law_many"] (spFolded K)
  GD : FnG P w K mg base CX0 k "_law_draws" ["_law_script", "_law_k"] (spDraws K)
  GN : FnG P w K mg base CX0 k "_law_names" ["_law_box", "_law_many"] spNames
  GT : FnG P w K mg base CX0 k "_law_take" ["_law_box", "_law_many"] spTake
  GS : FnG P w K mg base CX0 k "_law_same" ["_law_found", "_law_due"] (spSame K 3)
  GV : FnT P w K mg base CX0 k "value_of" ["look", "eyes"] ["eyes", "look"] (spValOk K 6)
  GH : FnT P w K mg base CX0 k "holds" ["test", "eyes"] ["eyes", "test"] (spHoldOk K 6)
  GI : FnT P w K mg base CX0 k "is_look" ["thing"] ["thing"] (spB K OkA (isPart 6 "look"))
  GJ : FnT P w K mg base CX0 k "is_test" ["thing"] ["thing"] (spB K OkA (isPart 6 "test"))
  ml : mg "len" = none
  mr : mg "range" = none
theorem law_body {k : Nat} (D : LawD P w K mg base k) (cdv : Value) (A : Around) (outer : List Env) (s : Shared) (H : Hp) (vs : List V) (Q : VK) (E : XK) (hr : Room k (A.deeper (envOfC "law" (defScope sLaw) s.heap.objs.size f cdv))) (h : spLaw K vs H Q E) :
    ∃ t, PSs (cxOf CX0 P w K mg base ["_law_script", "_law_cells", "_law_k", "_law_box", "_law_pairs", "_law_step", "_law_trial", "_law_told", "_law_some", "_law_inner", "_law_words", "_law_low", "_law_own", "_law_row", "_law_met", "_law_sights", "_law_glance", "_law_one"] "law" (defScope sLaw) f cdv A outer s H E).nox (defBody sLaw) t ∧ t { nx := fun _ H' => Q .non H', rt := Q } (L2.start ["_law_script", "_law_cells", "_law_k", "_law_box", "_law_pairs", "_law_step", "_law_trial", "_law_told", "_law_some", "_law_inner", "_law_words", "_law_low", "_law_own", "_law_row", "_law_met", "_law_sights", "_law_glance", "_law_one"] vs) H := by
  obtain ⟨⟨_, _, G__law_folded, m__law_folded, k__law_folded, b__law_folded⟩, ⟨_, _, G__law_draws, m__law_draws, k__law_draws, b__law_draws⟩, ⟨_, _, G__law_names, m__law_names, k__law_names, b__law_names⟩,
    ⟨_, _, G__law_take, m__law_take, k__law_take, b__law_take⟩, ⟨_, _, G__law_same, m__law_same, k__law_same, b__law_same⟩, ⟨_, _, G_value_of, m_value_of, k_value_of, b_value_of, bk_value_of⟩, ⟨_, _, G_holds, m_holds, k_holds, b_holds, bk_holds⟩,
    ⟨_, _, G_is_look, m_is_look, k_is_look, b_is_look, bk_is_look⟩, ⟨_, _, G_is_test, m_is_test, k_is_test, b_is_test, bk_is_test⟩, m_len, m_range⟩ := D
  have sc := scLaw
  obtain ⟨a, ns, rfl, hS, hl, q⟩ := h
  refine ⟨_, (pss_cons (ps_set (i := 1) sc.nd rfl (.inl rfl) (pe_call G__law_folded (hr.mono (by omega)) (by rfl) m__law_folded k__law_folded b__law_folded .nil pass0 (pa_cons (pv 0) (pa_cons pe_int pa_nil))))
      (pss_cons (ps_for PassesOwn.never rfl (pi_range1 (by rfl) m_range (pa_cons (pe_callB call_len_seq (by rfl) m_len (by decide +kernel) (pa_cons (pv 1) pa_nil)) pa_nil)) (pg_name (i := 2) sc.nd rfl (.inl rfl)) (pss_cons (ps_set (i := 3) sc.nd rfl (.inl rfl) (pe_call G__law_draws (hr.mono (by omega)) (by rfl) m__law_draws k__law_draws b__law_draws .nil pass0 (pa_cons (pv 1) (pa_cons (pv 2) pa_nil))))
      (pss_cons (ps_par (i := 10) (j := 11) (by rfl) sc.nd rfl rfl (by decide) rfl rfl (pa_cons (pe_call G__law_names (hr.mono (by omega)) (by rfl) m__law_names k__law_names b__law_names .nil pass0 (pa_cons (pv 3) (pa_cons pe_int pa_nil))) (pa_cons (pe_call G__law_take (hr.mono (by omega)) (by rfl) m__law_take k__law_take b__law_take .nil pass0 (pa_cons (pv 3) (pa_cons pe_int pa_nil))) pa_nil)) (by rfl))
      (pss_cons (ps_par3 (i := 12) (j := 13) (l := 14) (by rfl) sc.nd rfl rfl rfl (by decide) (by decide) (by decide) rfl rfl rfl (pa_cons (pe_tup (pa_cons pe_str (pa_cons (pe_ix ix_list (pv 10) pe_int (fun _ _ => rfl)) pa_nil))) (pa_cons (pe_lst (pa_cons pe_int (pa_cons pe_int pa_nil))) (pa_cons (pe_lst pa_nil) pa_nil))) (by rfl))
      (pss_cons (ps_set (i := 4) sc.nd rfl (.inl rfl) (pe_lst (pa_cons (pe_tup (pa_cons (pe_ix ix_list (pv 10) pe_int (fun _ _ => rfl)) (pa_cons (pv 11) pa_nil))) pa_nil)))
      (pss_cons (ps_par (i := 15) (j := 16) (by rfl) sc.nd rfl rfl (by decide) rfl rfl (pa_cons (pe_tup (pa_cons (pv 4) (pa_cons (pe_lst (pa_cons (pe_tup (pa_cons (pe_ix ix_list (pv 10) pe_int (fun _ _ => rfl)) (pa_cons (pv 13) pa_nil))) pa_nil)) (pa_cons (pe_tup (pa_cons pe_int (pa_cons pe_int (pa_cons pe_int (pa_cons pe_int pa_nil))))) (pa_cons (pv 14) pa_nil))))) (pa_cons (pv 12) pa_nil)) (by rfl))
      (pss_cons (ps_for PassesOwn.never rfl (pi_range1 (by rfl) m_range (pa_cons pe_int pa_nil)) (pg_name (i := 5) sc.nd rfl (.inl rfl)) (pss_one (ps_set (i := 16) sc.nd rfl (.inl rfl) (pe_tup (pa_cons pe_str (pa_cons (pv 16) (pa_cons pe_int pa_nil)))))))
      (pss_cons (ps_set (i := 6) sc.nd rfl (.inl rfl) (pe_tup (pa_cons pe_str (pa_cons (pe_tup (pa_cons pe_str (pa_cons (pe_tup (pa_cons pe_str (pa_cons (pe_tup (pa_cons pe_str (pa_cons (pv 12) (pa_cons pe_int pa_nil)))) (pa_cons pe_int pa_nil)))) (pa_cons (pv 12) pa_nil)))) (pa_cons (pe_tup (pa_cons pe_str (pa_cons (pe_tup (pa_cons pe_str (pa_cons (pe_ix ix_list (pv 10) pe_int (fun _ _ => rfl)) pa_nil))) pa_nil))) pa_nil)))))
      (pss_cons (ps_if (pt_not (pt_val (pe_call G__law_same (hr.mono (by omega)) (by rfl) m__law_same k__law_same b__law_same .nil pass0 (pa_cons (pe_lst (pa_cons (pe_call G_value_of (hr.mono (by omega)) (by rfl) m_value_of k_value_of b_value_of .nil pass0 (pa_cons (pv 16) (pa_cons (pv 15) pa_nil))) (pa_cons (pe_call G_holds (hr.mono (by omega)) (by rfl) m_holds k_holds b_holds .nil pass0 (pa_cons (pv 6) (pa_cons (pv 15) pa_nil))) pa_nil))) (pa_cons (pe_lst (pa_cons (pe_op op_add (pv 11) pe_int) (pa_cons pe_bl pa_nil))) pa_nil))))) (pss_one (ps_ret pe_bl)) pss_nil)
      (pss_cons (ps_asg (pe_tup (pa_cons (pe_ix ix_list (pv 10) pe_int (fun _ _ => rfl)) (pa_cons (pe_op op_add (pv 11) pe_int) pa_nil))) (pg_sub (pv 4) pe_int set_list))
      (pss_cons (ps_expr (pe_bm PySem.F.plainAttrs_list PySem.F.slot_list_append PySem.F.type_list_append mt_append (pv 13) (pa_cons pe_int pa_nil)))
      (pss_cons (ps_expr (pe_bm PySem.F.plainAttrs_list PySem.F.slot_list_append PySem.F.type_list_append mt_append (pv 14) (pa_cons (pe_ix ix_list (pv 10) pe_int (fun _ _ => rfl)) pa_nil)))
      (pss_cons (ps_set (i := 7) sc.nd rfl (.inl rfl) (pe_lst (pa_cons (KwX.pe_turned (E := fun _ => E0) G_value_of (hr.mono (by omega)) (by rfl) m_value_of k_value_of bk_value_of (fun σ => passAt0) (pk_cons (pv 15) (pk_cons (pv 16) pk_nil))) (pa_cons (pe_call G_value_of (hr.mono (by omega)) (by rfl) m_value_of k_value_of b_value_of .nil pass0 (pa_cons (pe_tup (pa_cons pe_str (pa_cons (pe_ix ix_list (pv 10) pe_int (fun _ _ => rfl)) (pa_cons pe_int pa_nil)))) (pa_cons (pv 15) pa_nil))) pa_nil))))
      (pss_cons (ps_set (i := 7) sc.nd rfl (.inl rfl) (pe_op op_cat (pv 7) (pe_lst (pa_cons (pe_call G_value_of (hr.mono (by omega)) (by rfl) m_value_of k_value_of b_value_of .nil pass0 (pa_cons (pe_tup (pa_cons pe_str (pa_cons (pe_ix ix_list (pv 10) pe_int (fun _ _ => rfl)) pa_nil))) (pa_cons (pv 15) pa_nil))) (pa_cons (KwX.pe_turned (E := fun _ => E0) G_holds (hr.mono (by omega)) (by rfl) m_holds k_holds bk_holds (fun σ => passAt0) (pk_cons (pv 15) (pk_cons (pv 6) pk_nil))) pa_nil)))))
      (pss_cons (ps_if (pt_not (pt_val (pe_call G__law_same (hr.mono (by omega)) (by rfl) m__law_same k__law_same b__law_same .nil pass0 (pa_cons (pv 7) (pa_cons (pe_lst (pa_cons (pe_op op_add (pv 11) pe_int) (pa_cons pe_int (pa_cons pe_int (pa_cons pe_bl pa_nil))))) pa_nil))))) (pss_one (ps_ret pe_bl)) pss_nil)
      (pss_cons (ps_set (i := 8) sc.nd rfl (.inl rfl) (pe_lst (pa_cons (pv 16) (pa_cons (pe_tup (pa_cons pe_str (pa_cons (pv 16) (pa_cons pe_int pa_nil)))) (pa_cons (pe_tup (pa_cons pe_str (pa_cons pe_int (pa_cons (pv 16) pa_nil)))) (pa_cons (pe_tup (pa_cons pe_str (pa_cons (pe_ix ix_list (pv 10) pe_int (fun _ _ => rfl)) (pa_cons (pv 16) pa_nil)))) pa_nil))))))
      (pss_cons (ps_set (i := 8) sc.nd rfl (.inl rfl) (pe_op op_cat (pv 8) (pe_lst (pa_cons pe_int (pa_cons (pe_tup (pa_cons pe_str (pa_cons pe_int (pa_cons pe_int pa_nil)))) (pa_cons (pe_tup (pa_cons pe_str pa_nil)) pa_nil))))))
      (pss_cons (ps_if (pt_not (pt_val (pe_call G__law_same (hr.mono (by omega)) (by rfl) m__law_same k__law_same b__law_same .nil pass0 (pa_cons (pe_lc (own := [("_law_one", 17)]) (by rfl) sc.nd  (pi_list (pv 8)) (blkOk_by (own := [("_law_one", 17)]) (N := ["_law_script", "_law_cells", "_law_k", "_law_box", "_law_pairs", "_law_step", "_law_trial", "_law_told", "_law_some", "_law_inner", "_law_words", "_law_low", "_law_own", "_law_row", "_law_met", "_law_sights", "_law_glance", "_law_one"]) (sc := defScope sLaw) (by decide +kernel)) (fun _ _ _ _ _ => (pg_name (i := 17) sc.nd rfl (.inl rfl))) (fun _ _ _ _ _ => pts_nil) (fun _ _ _ _ _ => (KwX.pe_turned (E := fun _ => E0) G_is_look (hr.mono (by omega)) (by rfl) m_is_look k_is_look bk_is_look (fun σ => passAt0) (pk_cons (pv 17) pk_nil)))) (pa_cons (pe_lst (pa_cons pe_bl (pa_cons pe_bl (pa_cons pe_bl (pa_cons pe_bl (pa_cons pe_bl (pa_cons pe_bl (pa_cons pe_bl pa_nil)))))))) pa_nil))))) (pss_one (ps_ret pe_bl)) pss_nil)
      (pss_cons (ps_set (i := 9) sc.nd rfl (.inl rfl) (pe_ix ix_tup (pv 16) pe_int (fun _ _ => rfl)))
      (pss_cons (ps_set (i := 8) sc.nd rfl (.inl rfl) (pe_lst (pa_cons (pe_tup (pa_cons pe_str (pa_cons (pv 16) (pa_cons pe_int pa_nil)))) (pa_cons (pe_tup (pa_cons pe_str (pa_cons (pv 9) (pa_cons pe_int pa_nil)))) (pa_cons (pe_tup (pa_cons pe_str (pa_cons (pe_tup (pa_cons pe_str (pa_cons (pv 9) (pa_cons pe_int pa_nil)))) pa_nil))) pa_nil)))))
      (pss_cons (ps_set (i := 8) sc.nd rfl (.inl rfl) (pe_op op_cat (pv 8) (pe_lst (pa_cons (pe_tup (pa_cons pe_str (pa_cons (pe_tup (pa_cons pe_str (pa_cons (pe_ix ix_tup (pv 9) pe_int (fun _ _ => rfl)) (pa_cons pe_int pa_nil)))) pa_nil))) (pa_cons (pv 6) pa_nil)))))
      (pss_one (ps_if (pt_not (pt_val (pe_call G__law_same (hr.mono (by omega)) (by rfl) m__law_same k__law_same b__law_same .nil pass0 (pa_cons (pe_lc (own := [("_law_one", 17)]) (by rfl) sc.nd  (pi_list (pv 8)) (blkOk_by (own := [("_law_one", 17)]) (N := ["_law_script", "_law_cells", "_law_k", "_law_box", "_law_pairs", "_law_step", "_law_trial", "_law_told", "_law_some", "_law_inner", "_law_words", "_law_low", "_law_own", "_law_row", "_law_met", "_law_sights", "_law_glance", "_law_one"]) (sc := defScope sLaw) (by decide +kernel)) (fun _ _ _ _ _ => (pg_name (i := 17) sc.nd rfl (.inl rfl))) (fun _ _ _ _ _ => pts_nil) (fun _ _ _ _ _ => (KwX.pe_turned (E := fun _ => E0) G_is_test (hr.mono (by omega)) (by rfl) m_is_test k_is_test bk_is_test (fun σ => passAt0) (pk_cons (pv 17) pk_nil)))) (pa_cons (pe_lst (pa_cons pe_bl (pa_cons pe_bl (pa_cons pe_bl (pa_cons pe_bl (pa_cons pe_bl pa_nil)))))) pa_nil))))) (pss_one (ps_ret pe_bl)) pss_nil)))))))))))))))))))))))
      (pss_one (ps_ret pe_bl)))), ?_⟩
  have z0 : 0 ≤ sizeLine := by decide
  have z1 : 1 ≤ sizeLine := by decide
  have z2 : 2 ≤ sizeLine := by decide
  have z3 : 3 ≤ sizeLine := by decide
  have z4 : 4 ≤ sizeLine := by decide
  have z5 : 5 ≤ sizeLine := by decide
  have z7 : 7 ≤ sizeLine := by decide
  refine ⟨_, rfl, a, 5, ns, rfl, hS, hl, by decide, by decide, fun p ms H1 s1 hp mn ml => ?_⟩
  refine ⟨_, rfl, p, _, rfl, .inl (SqL.of hp), _, rfl, by omega, by rw [List.length_map]; omega, for_it walk_range
    (fun i σ H' => Same H1 H' ∧ ∃ o2 o3 o4 o5 o6 o7 o8 o9 o10 o11 o12 o13 o14 o15 o16 o17, σ = [some (.ref a), some (.ref p), o2, o3, o4, o5, o6, o7, o8, o9, o10, o11, o12, o13, o14, o15, o16, o17]) ⟨fun _ _ h => h, none, none, none, none, none, none, none, none, none, none, none, none, none, none, none, none, rfl⟩ (fun _ _ _ _ _ => trivial) ?_ ?_⟩
  · rintro i x σ _ H2 hi ⟨s2, o2, o3, o4, o5, o6, o7, o8, o9, o10, o11, o12, o13, o14, o15, o16, o17, rfl⟩ ⟨rfl, ex⟩
    obtain rfl : x = V.int i := ex.trans (congrArg V.int (Int.zero_add _))
    have hi' : i < ms.length := by
      rw [List.length_map] at hi
      omega
    refine ⟨_, rfl, _, rfl, p, i, ms, rfl, SqL.of (s2 _ _ hp), by omega, fun b H3 s3 nb B3 => ?_⟩
    refine ⟨_, rfl, b, 0, 3, rfl, B3, by decide, by decide, fun wl ws H4 s4 B4 nw hw wl3 wd wn => ?_⟩
    refine ⟨_, rfl, b, 12, 900, rfl, B4, by decide, by decide, by decide, fun low H5 l0 l1 s5 B5 => ?_⟩
    obtain ⟨w0, w1, w2, rfl⟩ : ∃ w0 w1 w2, ws = [w0, w1, w2] := by
      match ws, wl3 with
      | [x, y, z], _ => exact ⟨x, y, z, rfl⟩
    have n0 : IsNm w0 := wn _ (by simp)
    have n1 : IsNm w1 := wn _ (by simp)
    have n2 : IsNm w2 := wn _ (by simp)
    have wb : wl ≠ b := fun z => by
      obtain ⟨u, hu⟩ := B3.is
      rw [z, hu] at nw
      cases nw
    replace hw : H5 wl = some (.lst [.str w0, .str w1, .str w2]) := s5 _ _ wb hw
    have sC : Same H2 H5 := fun c o h => (s4.trans s5) _ _ (ne_of_none h nb) (s3 _ _ h)
    clear wb nw B3 B4 B5 s3 s4 s5 wd wn wl3 nb
    refine ⟨_, _, rfl, ?_⟩
    refine ⟨_, rfl, wl, _, 0, _, rfl, rfl, SqL.of hw, rfl, z2, fun own np => ?_⟩
    have x1 := same_upd (o := .tup [.str "name", .str w0]) np
    have n_own := sC.free np
    replace hw := x1 _ _ hw
    replace sC := sC.trans x1
    have e_own : (upd H5 own (.tup [.str "name", .str w0])) own = some (.tup [.str "name", .str w0]) := upd_same
    generalize upd H5 own (.tup [.str "name", .str w0]) = H6 at *
    clear x1 np
    refine ⟨z2, fun row np => ?_⟩
    have x1 := same_upd (o := .lst [.int 4, .int 5]) np
    have n_row := sC.free np
    replace hw := x1 _ _ hw
    replace sC := sC.trans x1
    replace e_own := x1 _ _ e_own
    have e_row : (upd H6 row (.lst [.int 4, .int 5])) row = some (.lst [.int 4, .int 5]) := upd_same
    generalize upd H6 row (.lst [.int 4, .int 5]) = H7 at *
    clear x1 np
    refine ⟨z0, fun mt np => ?_⟩
    have x1 := same_upd (o := .lst []) np
    have n_mt := sC.free np
    replace hw := x1 _ _ hw
    replace sC := sC.trans x1
    replace e_own := x1 _ _ e_own
    replace e_row := x1 _ _ e_row
    have e_mt : (upd H7 mt (.lst [])) mt = some (.lst []) := upd_same
    generalize upd H7 mt (.lst []) = H8 at *
    clear x1 np
    refine ⟨_, _, _, rfl, _, rfl, wl, _, 0, _, rfl, rfl, SqL.of hw, rfl, _, rfl, z2, fun pr np => ?_⟩
    have x1 := same_upd (o := .tup [.str w0, .int low]) np
    have n_pr := sC.free np
    replace hw := x1 _ _ hw
    replace sC := sC.trans x1
    replace e_own := x1 _ _ e_own
    replace e_row := x1 _ _ e_row
    replace e_mt := x1 _ _ e_mt
    have e_pr : (upd H8 pr (.tup [.str w0, .int low])) pr = some (.tup [.str w0, .int low]) := upd_same
    generalize upd H8 pr (.tup [.str w0, .int low]) = H9 at *
    clear x1 np
    refine ⟨z1, fun ps np => ?_⟩
    have x1 := same_upd (o := .lst [.ref pr]) np
    have n_ps := sC.free np
    replace hw := x1 _ _ hw
    replace sC := sC.trans x1
    replace e_own := x1 _ _ e_own
    replace e_row := x1 _ _ e_row
    replace e_mt := x1 _ _ e_mt
    replace e_pr := x1 _ _ e_pr
    have e_ps : (upd H9 ps (.lst [.ref pr])) ps = some (.lst [.ref pr]) := upd_same
    generalize upd H9 ps (.lst [.ref pr]) = H10 at *
    clear x1 np
    refine ⟨_, rfl, _, rfl, wl, _, 1, _, rfl, rfl, SqL.of hw, rfl, _, rfl, z2, fun lp np => ?_⟩
    have x1 := same_upd (o := .tup [.str w1, .ref row]) np
    have n_lp := sC.free np
    replace hw := x1 _ _ hw
    replace sC := sC.trans x1
    replace e_own := x1 _ _ e_own
    replace e_row := x1 _ _ e_row
    replace e_mt := x1 _ _ e_mt
    replace e_pr := x1 _ _ e_pr
    replace e_ps := x1 _ _ e_ps
    have e_lp : (upd H10 lp (.tup [.str w1, .ref row])) lp = some (.tup [.str w1, .ref row]) := upd_same
    generalize upd H10 lp (.tup [.str w1, .ref row]) = H11 at *
    clear x1 np
    refine ⟨z1, fun ll np => ?_⟩
    have x1 := same_upd (o := .lst [.ref lp]) np
    have n_ll := sC.free np
    replace hw := x1 _ _ hw
    replace sC := sC.trans x1
    replace e_own := x1 _ _ e_own
    replace e_row := x1 _ _ e_row
    replace e_mt := x1 _ _ e_mt
    replace e_pr := x1 _ _ e_pr
    replace e_ps := x1 _ _ e_ps
    replace e_lp := x1 _ _ e_lp
    have e_ll : (upd H11 ll (.lst [.ref lp])) ll = some (.lst [.ref lp]) := upd_same
    generalize upd H11 ll (.lst [.ref lp]) = H12 at *
    clear x1 np
    refine ⟨z4, fun sp np => ?_⟩
    have x1 := same_upd (o := .tup [.int 7, .int 8, .int 2, .int 0]) np
    have n_sp := sC.free np
    replace hw := x1 _ _ hw
    replace sC := sC.trans x1
    replace e_own := x1 _ _ e_own
    replace e_row := x1 _ _ e_row
    replace e_mt := x1 _ _ e_mt
    replace e_pr := x1 _ _ e_pr
    replace e_ps := x1 _ _ e_ps
    replace e_lp := x1 _ _ e_lp
    replace e_ll := x1 _ _ e_ll
    have e_sp : (upd H12 sp (.tup [.int 7, .int 8, .int 2, .int 0])) sp = some (.tup [.int 7, .int 8, .int 2, .int 0]) := upd_same
    generalize upd H12 sp (.tup [.int 7, .int 8, .int 2, .int 0]) = H13 at *
    clear x1 np
    refine ⟨_, rfl, z4, fun e np => ?_⟩
    have x1 := same_upd (o := .tup [.ref ps, .ref ll, .ref sp, .ref mt]) np
    have n_e := sC.free np
    replace hw := x1 _ _ hw
    replace sC := sC.trans x1
    replace e_own := x1 _ _ e_own
    replace e_row := x1 _ _ e_row
    replace e_mt := x1 _ _ e_mt
    replace e_pr := x1 _ _ e_pr
    replace e_ps := x1 _ _ e_ps
    replace e_lp := x1 _ _ e_lp
    replace e_ll := x1 _ _ e_ll
    replace e_sp := x1 _ _ e_sp
    have e_e : (upd H13 e (.tup [.ref ps, .ref ll, .ref sp, .ref mt])) e = some (.tup [.ref ps, .ref ll, .ref sp, .ref mt]) := upd_same
    generalize upd H13 e (.tup [.ref ps, .ref ll, .ref sp, .ref mt]) = H14 at *
    clear x1 np
    have C1 : Sc H14 w0 w1 low [4, 5] [] pr ps lp ll row sp mt e := ⟨e_pr, e_ps, e_row, e_lp, e_ll, e_sp, e_mt, e_e⟩
    have dO : Dp K H14 (.ref own) (lkD (gl w0 0)) := .tup (SqT.of e_own) (.cons (.str _) (.cons (.str _) .nil))
    clear e_pr e_ps e_row e_lp e_ll e_sp e_mt e_e e_own
    refine ⟨_, rfl, _, _, rfl, ?_⟩
    refine ⟨5, rfl, by decide, by decide, for_it walk_range
      (fun j σ H' => Same H2 H' ∧ H' wl = some (.lst [.str w0, .str w1, .str w2]) ∧ Sc H' w0 w1 low [4, 5] [] pr ps lp ll row sp mt e ∧ Dp K H' (.ref own) (lkD (gl w0 0)) ∧ ∃ v o5, Dp K H' v (lkD (gl w0 j)) ∧ σ = [some (.ref a), some (.ref p), some (.int i), some (.ref b), some (.ref ps), o5, o6, o7, o8, o9, some (.ref wl), some (.int low), some (.ref own), some (.ref row), some (.ref mt), some (.ref e), some v, o17])
      ⟨sC, hw, C1, dO, _, _, dO, rfl⟩ (fun _ _ _ _ _ => trivial) ?_ ?_⟩
    · rintro j y σ _ HJ hj ⟨tC, tw, tS, tO, v, o5', tv, rfl⟩ ⟨rfl, ey⟩
      refine ⟨_, rfl, z3, fun t np => ?_⟩
      have x1 := same_upd (o := .tup [.str "plus", v, .int 1]) np
      exact ⟨tC.trans x1, x1 _ _ tw, tS.same x1, dp_same x1 _ _ tO, _, _, .tup (SqT.of upd_same) (.cons (.str _) (.cons (dp_same x1 _ _ tv) (.cons (.int _) .nil))), rfl⟩
    clear C1 dO sC hw H14
    rintro σ H20 ⟨sC, hw, C1, dO, v, o5', dG, rfl⟩
    replace dG : Dp K H20 v (lkD (gl w0 5)) := dG
    replace dO : Dp K H20 (.ref own) (lkD (.name w0)) := dO
    refine ⟨_, rfl, z3, fun a1 np => ?_⟩
    have x1 := same_upd (o := .tup [.str "plus", .ref own, .int 5]) np
    have n_a1 := sC.free np
    replace sC := sC.trans x1
    replace hw := x1 _ _ hw
    replace C1 := C1.same x1
    replace dO := dp_same x1 _ _ dO
    replace dG := dp_same x1 _ _ dG
    have e_a1 : (upd H20 a1 (.tup [.str "plus", .ref own, .int 5])) a1 = some (.tup [.str "plus", .ref own, .int 5]) := upd_same
    generalize upd H20 a1 (.tup [.str "plus", .ref own, .int 5]) = H21 at *
    clear x1 np
    have D1 : Dp K H21 (.ref a1) (lkD (.bin .plus (.name w0) (.num 5))) := .tup (SqT.of e_a1) (.cons (.str _) (.cons dO (.cons (.int _) .nil)))
    clear e_a1
    refine ⟨z3, fun a2 np => ?_⟩
    have x1 := same_upd (o := .tup [.str "minus", .ref a1, .int 6]) np
    have n_a2 := sC.free np
    replace sC := sC.trans x1
    replace hw := x1 _ _ hw
    replace C1 := C1.same x1
    replace dO := dp_same x1 _ _ dO
    replace dG := dp_same x1 _ _ dG
    replace D1 := dp_same x1 _ _ D1
    have e_a2 : (upd H21 a2 (.tup [.str "minus", .ref a1, .int 6])) a2 = some (.tup [.str "minus", .ref a1, .int 6]) := upd_same
    generalize upd H21 a2 (.tup [.str "minus", .ref a1, .int 6]) = H22 at *
    clear x1 np
    have D2 : Dp K H22 (.ref a2) (lkD (.bin .minus (.bin .plus (.name w0) (.num 5)) (.num 6))) := .tup (SqT.of e_a2) (.cons (.str _) (.cons D1 (.cons (.int _) .nil)))
    clear e_a2
    refine ⟨_, rfl, z3, fun a3 np => ?_⟩
    have x1 := same_upd (o := .tup [.str "below", .ref a2, .ref own]) np
    have n_a3 := sC.free np
    replace sC := sC.trans x1
    replace hw := x1 _ _ hw
    replace C1 := C1.same x1
    replace dO := dp_same x1 _ _ dO
    replace dG := dp_same x1 _ _ dG
    replace D1 := dp_same x1 _ _ D1
    replace D2 := dp_same x1 _ _ D2
    have e_a3 : (upd H22 a3 (.tup [.str "below", .ref a2, .ref own])) a3 = some (.tup [.str "below", .ref a2, .ref own]) := upd_same
    generalize upd H22 a3 (.tup [.str "below", .ref a2, .ref own]) = H23 at *
    clear x1 np
    have D3 : Dp K H23 (.ref a3) (tsD (.less (.bin .minus (.bin .plus (.name w0) (.num 5)) (.num 6)) (.name w0))) := .tup (SqT.of e_a3) (.cons (.str _) (.cons D2 (.cons dO .nil)))
    clear e_a3
    clear D1 D2
    refine ⟨_, rfl, wl, _, 2, _, rfl, rfl, SqL.of hw, rfl, z2, fun a4 np => ?_⟩
    have x1 := same_upd (o := .tup [.str "meets", .str w2]) np
    have n_a4 := sC.free np
    replace sC := sC.trans x1
    replace hw := x1 _ _ hw
    replace C1 := C1.same x1
    replace dO := dp_same x1 _ _ dO
    replace dG := dp_same x1 _ _ dG
    replace D3 := dp_same x1 _ _ D3
    have e_a4 : (upd H23 a4 (.tup [.str "meets", .str w2])) a4 = some (.tup [.str "meets", .str w2]) := upd_same
    generalize upd H23 a4 (.tup [.str "meets", .str w2]) = H24 at *
    clear x1 np
    have D4 : Dp K H24 (.ref a4) (tsD (.meets w2)) := .tup (SqT.of e_a4) (.cons (.str _) (.cons (.str _) .nil))
    clear e_a4
    refine ⟨z2, fun a5 np => ?_⟩
    have x1 := same_upd (o := .tup [.str "not", .ref a4]) np
    have n_a5 := sC.free np
    replace sC := sC.trans x1
    replace hw := x1 _ _ hw
    replace C1 := C1.same x1
    replace dO := dp_same x1 _ _ dO
    replace dG := dp_same x1 _ _ dG
    replace D3 := dp_same x1 _ _ D3
    replace D4 := dp_same x1 _ _ D4
    have e_a5 : (upd H24 a5 (.tup [.str "not", .ref a4])) a5 = some (.tup [.str "not", .ref a4]) := upd_same
    generalize upd H24 a5 (.tup [.str "not", .ref a4]) = H25 at *
    clear x1 np
    have D5 : Dp K H25 (.ref a5) (tsD (.not_ (.meets w2))) := .tup (SqT.of e_a5) (.cons (.str _) (.cons D4 .nil))
    clear e_a5
    refine ⟨z3, fun a6 np => ?_⟩
    have x1 := same_upd (o := .tup [.str "both", .ref a3, .ref a5]) np
    have n_a6 := sC.free np
    replace sC := sC.trans x1
    replace hw := x1 _ _ hw
    replace C1 := C1.same x1
    replace dO := dp_same x1 _ _ dO
    replace dG := dp_same x1 _ _ dG
    replace D3 := dp_same x1 _ _ D3
    replace D4 := dp_same x1 _ _ D4
    replace D5 := dp_same x1 _ _ D5
    have e_a6 : (upd H25 a6 (.tup [.str "both", .ref a3, .ref a5])) a6 = some (.tup [.str "both", .ref a3, .ref a5]) := upd_same
    generalize upd H25 a6 (.tup [.str "both", .ref a3, .ref a5]) = H26 at *
    clear x1 np
    have dT : Dp K H26 (.ref a6) (tsD (trT w0 w2)) := .tup (SqT.of e_a6) (.cons (.str _) (.cons D3 (.cons D5 .nil)))
    clear e_a6
    clear D3 D4 D5 dO
    have fG : LkF (gl w0 5) := gl_f n0 5
    have fT : TsF (trT w0 w2) := tr_f n0 n2
    have dpG : (gl w0 5).deep ≤ 6 := by rw [gl_deep]; decide
    have dpT : (trT w0 w2).deep ≤ 6 := by show 5 ≤ 6; decide
    refine ⟨_, rfl, _, rfl, v, e, gl w0 5, _, low + (5 : Nat), rfl, lk_of fG dG, dpG, C1.eyes, v_gl l0 (by omega) 5 (by decide), ?_⟩
    refine ⟨_, rfl, _, rfl, _, e, trT w0 w2, _, true, rfl, ts_of fT dT, dpT, C1.eyes, h_tr l0 (by omega), ?_⟩
    refine ⟨z2, fun l1 np => ?_⟩
    have x1 := same_upd (o := .lst [.int (low + (5 : Nat)), .bl true]) np
    have n_l1 := sC.free np
    replace sC := sC.trans x1
    replace hw := x1 _ _ hw
    replace C1 := C1.same x1
    replace dG := dp_same x1 _ _ dG
    replace dT := dp_same x1 _ _ dT
    have e_l1 : (upd H26 l1 (.lst [.int (low + (5 : Nat)), .bl true])) l1 = some (.lst [.int (low + (5 : Nat)), .bl true]) := upd_same
    generalize upd H26 l1 (.lst [.int (low + (5 : Nat)), .bl true]) = H27 at *
    clear x1 np
    refine ⟨_, rfl, low, 5, rfl, rfl, z2, fun l2 np => ?_⟩
    have x1 := same_upd (o := .lst [.int (low + 5), .bl true]) np
    have n_l2 := sC.free np
    replace sC := sC.trans x1
    replace hw := x1 _ _ hw
    replace C1 := C1.same x1
    replace dG := dp_same x1 _ _ dG
    replace dT := dp_same x1 _ _ dT
    replace e_l1 := x1 _ _ e_l1
    have e_l2 : (upd H27 l2 (.lst [.int (low + 5), .bl true])) l2 = some (.lst [.int (low + 5), .bl true]) := upd_same
    generalize upd H27 l2 (.lst [.int (low + 5), .bl true]) = H28 at *
    clear x1 np
    refine ⟨.ref l1, .ref l2, .list [.int (low + 5), .bool true], rfl, .lst (SqL.of e_l1) (.cons (.int _) (.cons (.bl _) .nil)), .lst (SqL.of e_l2) (.cons (.int _) (.cons (.bl _) .nil)), ⟨by show 2 ≤ 1000; decide, fun d hd => by simp only [List.mem_cons, List.not_mem_nil, or_false] at hd; rcases hd with rfl | rfl <;> trivial⟩, fun H29 x1 => ⟨_, rfl, iteF ?_⟩⟩
    replace sC := sC.trans x1
    replace hw := x1 _ _ hw
    replace C1 := C1.same x1
    replace dG := dp_same x1 _ _ dG
    replace dT := dp_same x1 _ _ dT
    clear x1 e_l1 e_l2
    refine ⟨_, rfl, wl, _, 0, _, rfl, rfl, SqL.of hw, rfl, _, rfl, low, 10, rfl, rfl, z2, fun pr2 np => ?_⟩
    have x1 := same_upd (o := .tup [.str w0, .int (low + 10)]) np
    have n_pr2 := sC.free np
    replace sC := sC.trans x1
    replace hw := x1 _ _ hw
    replace C1 := C1.same x1
    replace dG := dp_same x1 _ _ dG
    replace dT := dp_same x1 _ _ dT
    have e_pr2 : (upd H29 pr2 (.tup [.str w0, .int (low + 10)])) pr2 = some (.tup [.str w0, .int (low + 10)]) := upd_same
    generalize upd H29 pr2 (.tup [.str w0, .int (low + 10)]) = H30 at *
    clear x1 np
    refine ⟨_, rfl, ps, _, 0, 0, rfl, rfl, C1.hps, rfl, ?_⟩
    rw [show ([.ref pr] : List V).set 0 (.ref pr2) = [.ref pr2] from rfl]
    have x1 : But ps H30 (upd H30 ps (.lst [.ref pr2])) := But.upd
    replace sC : Same H2 (upd H30 ps (.lst [.ref pr2])) := fun c o h => x1 _ _ (ne_of_none h n_ps) (sC _ _ h)
    replace hw := x1 _ _ (ne_of hw C1.hps (fun z => nomatch z)) hw
    replace dG := lk_but C1.hps x1 dG
    replace dT := ts_but C1.hps x1 dT
    replace C1 := C1.pair e_pr2
    generalize upd H30 ps (.lst [.ref pr2]) = H31 at *
    clear x1
    clear e_pr2
    refine ⟨_, rfl, .inl ⟨rfl, _, SqL.of C1.hrow⟩, row, _, .int 6, rfl, rfl, C1.hrow, by decide, ?_⟩
    rw [show List.map V.int [4, 5] ++ [V.int 6] = [.int 4, .int 5, .int 6] from rfl]
    have x1 : But row H31 (upd H31 row (.lst [.int 4, .int 5, .int 6])) := But.upd
    replace sC : Same H2 (upd H31 row (.lst [.int 4, .int 5, .int 6])) := fun c o h => x1 _ _ (ne_of_none h n_row) (sC _ _ h)
    replace hw := x1 _ _ (ne_of hw C1.hrow (fun z => nomatch z)) hw
    replace dG := lk_but C1.hrow x1 dG
    replace dT := ts_but C1.hrow x1 dT
    replace C1 := C1.push
    generalize upd H31 row (.lst [.int 4, .int 5, .int 6]) = H32 at *
    clear x1
    refine ⟨_, rfl, .inl ⟨rfl, _, SqL.of C1.hmt⟩, _, rfl, wl, _, 2, _, rfl, rfl, SqL.of hw, rfl, mt, _, .str w2, rfl, rfl, C1.hmt, by decide, ?_⟩
    rw [show List.map V.str [] ++ [V.str w2] = [.str w2] from rfl]
    have x1 : But mt H32 (upd H32 mt (.lst [.str w2])) := But.upd
    replace sC : Same H2 (upd H32 mt (.lst [.str w2])) := fun c o h => x1 _ _ (ne_of_none h n_mt) (sC _ _ h)
    replace hw := x1 _ _ (ne_of hw C1.hmt (fun z => nomatch z)) hw
    replace dG := lk_but C1.hmt x1 dG
    replace dT := ts_but C1.hmt x1 dT
    replace C1 := C1.meet (w2 := w2)
    generalize upd H32 mt (.lst [.str w2]) = H33 at *
    clear x1
    refine ⟨_, rfl, _, rfl, rfl, v, e, gl w0 5, _, low + 10 + (5 : Nat), rfl, lk_of fG dG, dpG, C1.eyes, v_gl (by omega) (by omega) 5 (by decide), ?_⟩
    refine ⟨_, rfl, wl, _, 1, _, rfl, rfl, SqL.of hw, rfl, z3, fun b1 np => ?_⟩
    have x1 := same_upd (o := .tup [.str "item", .str w1, .int 2]) np
    have n_b1 := sC.free np
    replace sC := sC.trans x1
    replace hw := x1 _ _ hw
    replace C1 := C1.same x1
    replace dG := dp_same x1 _ _ dG
    replace dT := dp_same x1 _ _ dT
    have e_b1 : (upd H33 b1 (.tup [.str "item", .str w1, .int 2])) b1 = some (.tup [.str "item", .str w1, .int 2]) := upd_same
    generalize upd H33 b1 (.tup [.str "item", .str w1, .int 2]) = H34 at *
    clear x1 np
    have D1 : Dp K H34 (.ref b1) (lkD (.item w1 (.num 2))) := .tup (SqT.of e_b1) (.cons (.str _) (.cons (.str _) (.cons (.int _) .nil)))
    clear e_b1
    refine ⟨_, rfl, _, e, .item w1 (.num 2), _, 6, rfl, lk_of ⟨n1, by show inB 2 = true; decide⟩ D1, by show 2 ≤ 6; decide, C1.eyes, v_item, ?_⟩
    refine ⟨z2, fun l3 np => ?_⟩
    have x1 := same_upd (o := .lst [.int (low + 10 + (5 : Nat)), .int 6]) np
    have n_l3 := sC.free np
    replace sC := sC.trans x1
    replace hw := x1 _ _ hw
    replace C1 := C1.same x1
    replace dG := dp_same x1 _ _ dG
    replace dT := dp_same x1 _ _ dT
    replace D1 := dp_same x1 _ _ D1
    have e_l3 : (upd H34 l3 (.lst [.int (low + 10 + (5 : Nat)), .int 6])) l3 = some (.lst [.int (low + 10 + (5 : Nat)), .int 6]) := upd_same
    generalize upd H34 l3 (.lst [.int (low + 10 + (5 : Nat)), .int 6]) = H35 at *
    clear x1 np
    clear D1
    refine ⟨_, rfl, _, rfl, wl, _, 1, _, rfl, rfl, SqL.of hw, rfl, z2, fun b2 np => ?_⟩
    have x1 := same_upd (o := .tup [.str "many", .str w1]) np
    have n_b2 := sC.free np
    replace sC := sC.trans x1
    replace hw := x1 _ _ hw
    replace C1 := C1.same x1
    replace dG := dp_same x1 _ _ dG
    replace dT := dp_same x1 _ _ dT
    replace e_l3 := x1 _ _ e_l3
    have e_b2 : (upd H35 b2 (.tup [.str "many", .str w1])) b2 = some (.tup [.str "many", .str w1]) := upd_same
    generalize upd H35 b2 (.tup [.str "many", .str w1]) = H36 at *
    clear x1 np
    have D1 : Dp K H36 (.ref b2) (lkD (.many w1)) := .tup (SqT.of e_b2) (.cons (.str _) (.cons (.str _) .nil))
    clear e_b2
    refine ⟨_, rfl, _, e, .many w1, _, 3, rfl, lk_of n1 D1, by show 1 ≤ 6; decide, C1.eyes, v_many, ?_⟩
    refine ⟨_, rfl, _, rfl, rfl, _, e, trT w0 w2, _, false, rfl, ts_of fT dT, dpT, C1.eyes, (h_tr (by omega) (by omega)).trans (by rw [decide_eq_true (List.mem_singleton.mpr rfl)]; rfl), ?_⟩
    refine ⟨z2, fun l4 np => ?_⟩
    have x1 := same_upd (o := .lst [.int 3, .bl false]) np
    have n_l4 := sC.free np
    replace sC := sC.trans x1
    replace hw := x1 _ _ hw
    replace C1 := C1.same x1
    replace dG := dp_same x1 _ _ dG
    replace dT := dp_same x1 _ _ dT
    replace e_l3 := x1 _ _ e_l3
    replace D1 := dp_same x1 _ _ D1
    have e_l4 : (upd H36 l4 (.lst [.int 3, .bl false])) l4 = some (.lst [.int 3, .bl false]) := upd_same
    generalize upd H36 l4 (.lst [.int 3, .bl false]) = H37 at *
    clear x1 np
    refine ⟨l3, l4, _, _, rfl, rfl, e_l3, e_l4, z4, fun l5 np => ?_⟩
    rw [show ([.int (low + 10 + (5 : Nat)), .int 6] : List V) ++ [.int 3, .bl false] = [.int (low + 10 + (5 : Nat)), .int 6, .int 3, .bl false] from rfl]
    have x1 := same_upd (o := .lst [.int (low + 10 + (5 : Nat)), .int 6, .int 3, .bl false]) np
    have n_l5 := sC.free np
    replace sC := sC.trans x1
    replace hw := x1 _ _ hw
    replace C1 := C1.same x1
    replace dG := dp_same x1 _ _ dG
    replace dT := dp_same x1 _ _ dT
    replace e_l3 := x1 _ _ e_l3
    replace D1 := dp_same x1 _ _ D1
    replace e_l4 := x1 _ _ e_l4
    have e_l5 : (upd H37 l5 (.lst [.int (low + 10 + (5 : Nat)), .int 6, .int 3, .bl false])) l5 = some (.lst [.int (low + 10 + (5 : Nat)), .int 6, .int 3, .bl false]) := upd_same
    generalize upd H37 l5 (.lst [.int (low + 10 + (5 : Nat)), .int 6, .int 3, .bl false]) = H38 at *
    clear x1 np
    clear D1 e_l3 e_l4
    refine ⟨_, rfl, _, rfl, low, 15, rfl, rfl, z4, fun l6 np => ?_⟩
    have x1 := same_upd (o := .lst [.int (low + 15), .int 6, .int 3, .bl false]) np
    have n_l6 := sC.free np
    replace sC := sC.trans x1
    replace hw := x1 _ _ hw
    replace C1 := C1.same x1
    replace dG := dp_same x1 _ _ dG
    replace dT := dp_same x1 _ _ dT
    replace e_l5 := x1 _ _ e_l5
    have e_l6 : (upd H38 l6 (.lst [.int (low + 15), .int 6, .int 3, .bl false])) l6 = some (.lst [.int (low + 15), .int 6, .int 3, .bl false]) := upd_same
    generalize upd H38 l6 (.lst [.int (low + 15), .int 6, .int 3, .bl false]) = H39 at *
    clear x1 np
    rw [show low + 10 + ((5 : Nat) : Int) = low + 15 by omega] at e_l5
    refine ⟨.ref l5, .ref l6, .list [.int (low + 15), .int 6, .int 3, .bool false], rfl, .lst (SqL.of e_l5) (.cons (.int _) (.cons (.int _) (.cons (.int _) (.cons (.bl _) .nil)))), .lst (SqL.of e_l6) (.cons (.int _) (.cons (.int _) (.cons (.int _) (.cons (.bl _) .nil)))), ⟨by show 4 ≤ 1000; decide, fun d hd => by simp only [List.mem_cons, List.not_mem_nil, or_false] at hd; rcases hd with rfl | rfl | rfl | rfl <;> trivial⟩, fun H40 x1 => ⟨_, rfl, iteF ?_⟩⟩
    replace sC := sC.trans x1
    replace hw := x1 _ _ hw
    replace C1 := C1.same x1
    replace dG := dp_same x1 _ _ dG
    replace dT := dp_same x1 _ _ dT
    clear x1 e_l5 e_l6
    refine ⟨_, rfl, _, rfl, z3, fun t1 np => ?_⟩
    have x1 := same_upd (o := .tup [.str "plus", v, .int 1]) np
    have n_t1 := sC.free np
    replace sC := sC.trans x1
    replace hw := x1 _ _ hw
    replace C1 := C1.same x1
    replace dG := dp_same x1 _ _ dG
    replace dT := dp_same x1 _ _ dT
    have e_t1 : (upd H40 t1 (.tup [.str "plus", v, .int 1])) t1 = some (.tup [.str "plus", v, .int 1]) := upd_same
    generalize upd H40 t1 (.tup [.str "plus", v, .int 1]) = H41 at *
    clear x1 np
    have D1 : Dp K H41 (.ref t1) (lkD (.bin .plus (gl w0 5) (.num 1))) := .tup (SqT.of e_t1) (.cons (.str _) (.cons dG (.cons (.int _) .nil)))
    clear e_t1
    refine ⟨_, rfl, z3, fun t2 np => ?_⟩
    have x1 := same_upd (o := .tup [.str "minus", .int 1, v]) np
    have n_t2 := sC.free np
    replace sC := sC.trans x1
    replace hw := x1 _ _ hw
    replace C1 := C1.same x1
    replace dG := dp_same x1 _ _ dG
    replace dT := dp_same x1 _ _ dT
    replace D1 := dp_same x1 _ _ D1
    have e_t2 : (upd H41 t2 (.tup [.str "minus", .int 1, v])) t2 = some (.tup [.str "minus", .int 1, v]) := upd_same
    generalize upd H41 t2 (.tup [.str "minus", .int 1, v]) = H42 at *
    clear x1 np
    have D2 : Dp K H42 (.ref t2) (lkD (.bin .minus (.num 1) (gl w0 5))) := .tup (SqT.of e_t2) (.cons (.str _) (.cons (.int _) (.cons dG .nil)))
    clear e_t2
    refine ⟨_, rfl, wl, _, 1, _, rfl, rfl, SqL.of hw, rfl, _, rfl, z3, fun t3 np => ?_⟩
    have x1 := same_upd (o := .tup [.str "item", .str w1, v]) np
    have n_t3 := sC.free np
    replace sC := sC.trans x1
    replace hw := x1 _ _ hw
    replace C1 := C1.same x1
    replace dG := dp_same x1 _ _ dG
    replace dT := dp_same x1 _ _ dT
    replace D1 := dp_same x1 _ _ D1
    replace D2 := dp_same x1 _ _ D2
    have e_t3 : (upd H42 t3 (.tup [.str "item", .str w1, v])) t3 = some (.tup [.str "item", .str w1, v]) := upd_same
    generalize upd H42 t3 (.tup [.str "item", .str w1, v]) = H43 at *
    clear x1 np
    have D3 : Dp K H43 (.ref t3) (lkD (.item w1 (gl w0 5))) := .tup (SqT.of e_t3) (.cons (.str _) (.cons (.str _) (.cons dG .nil)))
    clear e_t3
    refine ⟨z4, fun l7 np => ?_⟩
    have x1 := same_upd (o := .lst [v, .ref t1, .ref t2, .ref t3]) np
    have n_l7 := sC.free np
    replace sC := sC.trans x1
    replace hw := x1 _ _ hw
    replace C1 := C1.same x1
    replace dG := dp_same x1 _ _ dG
    replace dT := dp_same x1 _ _ dT
    replace D1 := dp_same x1 _ _ D1
    replace D2 := dp_same x1 _ _ D2
    replace D3 := dp_same x1 _ _ D3
    have e_l7 : (upd H43 l7 (.lst [v, .ref t1, .ref t2, .ref t3])) l7 = some (.lst [v, .ref t1, .ref t2, .ref t3]) := upd_same
    generalize upd H43 l7 (.lst [v, .ref t1, .ref t2, .ref t3]) = H44 at *
    clear x1 np
    refine ⟨_, rfl, z3, fun t4 np => ?_⟩
    have x1 := same_upd (o := .tup [.str "plus", .int 1, .int 1]) np
    have n_t4 := sC.free np
    replace sC := sC.trans x1
    replace hw := x1 _ _ hw
    replace C1 := C1.same x1
    replace dG := dp_same x1 _ _ dG
    replace dT := dp_same x1 _ _ dT
    replace D1 := dp_same x1 _ _ D1
    replace D2 := dp_same x1 _ _ D2
    replace D3 := dp_same x1 _ _ D3
    replace e_l7 := x1 _ _ e_l7
    have e_t4 : (upd H44 t4 (.tup [.str "plus", .int 1, .int 1])) t4 = some (.tup [.str "plus", .int 1, .int 1]) := upd_same
    generalize upd H44 t4 (.tup [.str "plus", .int 1, .int 1]) = H45 at *
    clear x1 np
    have D4 : Dp K H45 (.ref t4) (lkD (.bin .plus (.num 1) (.num 1))) := .tup (SqT.of e_t4) (.cons (.str _) (.cons (.int _) (.cons (.int _) .nil)))
    clear e_t4
    refine ⟨z1, fun t5 np => ?_⟩
    have x1 := same_upd (o := .tup [.str "x"]) np
    have n_t5 := sC.free np
    replace sC := sC.trans x1
    replace hw := x1 _ _ hw
    replace C1 := C1.same x1
    replace dG := dp_same x1 _ _ dG
    replace dT := dp_same x1 _ _ dT
    replace D1 := dp_same x1 _ _ D1
    replace D2 := dp_same x1 _ _ D2
    replace D3 := dp_same x1 _ _ D3
    replace e_l7 := x1 _ _ e_l7
    replace D4 := dp_same x1 _ _ D4
    have e_t5 : (upd H45 t5 (.tup [.str "x"])) t5 = some (.tup [.str "x"]) := upd_same
    generalize upd H45 t5 (.tup [.str "x"]) = H46 at *
    clear x1 np
    have D5 : Dp K H46 (.ref t5) (lkD (.spot 0)) := .tup (SqT.of e_t5) (.cons (.str _) .nil)
    clear e_t5
    refine ⟨z3, fun l8 np => ?_⟩
    have x1 := same_upd (o := .lst [.int 5, .ref t4, .ref t5]) np
    have n_l8 := sC.free np
    replace sC := sC.trans x1
    replace hw := x1 _ _ hw
    replace C1 := C1.same x1
    replace dG := dp_same x1 _ _ dG
    replace dT := dp_same x1 _ _ dT
    replace D1 := dp_same x1 _ _ D1
    replace D2 := dp_same x1 _ _ D2
    replace D3 := dp_same x1 _ _ D3
    replace e_l7 := x1 _ _ e_l7
    replace D4 := dp_same x1 _ _ D4
    replace D5 := dp_same x1 _ _ D5
    have e_l8 : (upd H46 l8 (.lst [.int 5, .ref t4, .ref t5])) l8 = some (.lst [.int 5, .ref t4, .ref t5]) := upd_same
    generalize upd H46 l8 (.lst [.int 5, .ref t4, .ref t5]) = H47 at *
    clear x1 np
    refine ⟨l7, l8, _, _, rfl, rfl, e_l7, e_l8, z7, fun l9 np => ?_⟩
    rw [show ([v, .ref t1, .ref t2, .ref t3] : List V) ++ [.int 5, .ref t4, .ref t5] = [v, .ref t1, .ref t2, .ref t3, .int 5, .ref t4, .ref t5] from rfl]
    have x1 := same_upd (o := .lst [v, .ref t1, .ref t2, .ref t3, .int 5, .ref t4, .ref t5]) np
    have n_l9 := sC.free np
    replace sC := sC.trans x1
    replace hw := x1 _ _ hw
    replace C1 := C1.same x1
    replace dG := dp_same x1 _ _ dG
    replace dT := dp_same x1 _ _ dT
    replace D1 := dp_same x1 _ _ D1
    replace D2 := dp_same x1 _ _ D2
    replace D3 := dp_same x1 _ _ D3
    replace e_l7 := x1 _ _ e_l7
    replace D4 := dp_same x1 _ _ D4
    replace D5 := dp_same x1 _ _ D5
    replace e_l8 := x1 _ _ e_l8
    have e_l9 : (upd H47 l9 (.lst [v, .ref t1, .ref t2, .ref t3, .int 5, .ref t4, .ref t5])) l9 = some (.lst [v, .ref t1, .ref t2, .ref t3, .int 5, .ref t4, .ref t5]) := upd_same
    generalize upd H47 l9 (.lst [v, .ref t1, .ref t2, .ref t3, .int 5, .ref t4, .ref t5]) = H48 at *
    clear x1 np
    clear e_l7 e_l8
    have av : ∀ (i : Nat) (x : V), ([v, .ref t1, .ref t2, .ref t3, .int 5, .ref t4, .ref t5] : List V)[i]? = some x → ∃ d, Dp K H48 x d ∧ OkA d ∧ ([true, false, false, false, true, true, true] : List Bool)[i]? = some (isPart 6 "look" d) := by
      intro i x hx
      match i, hx with
      | 0, hx => cases (Option.some.inj hx); exact ⟨_, dG, ⟨_, Nat.le_of_ble_eq_true rfl, okt_lk _ fG⟩, by rw [part_lk _ _ fG, gl_deep]; rfl⟩
      | 1, hx => cases (Option.some.inj hx); exact ⟨_, D1, ⟨_, Nat.le_of_ble_eq_true rfl, okt_lk _ (show LkF (.bin .plus (gl w0 5) (.num 1)) from ⟨fG, by show inB 1 = true; decide⟩)⟩, by rw [part_lk _ _ (show LkF (.bin .plus (gl w0 5) (.num 1)) from ⟨fG, by show inB 1 = true; decide⟩), show (Lk.bin .plus (gl w0 5) (.num 1)).deep = 7 from rfl]; rfl⟩
      | 2, hx => cases (Option.some.inj hx); exact ⟨_, D2, ⟨_, Nat.le_of_ble_eq_true rfl, okt_lk _ (show LkF (.bin .minus (.num 1) (gl w0 5)) from ⟨by show inB 1 = true; decide, fG⟩)⟩, by rw [part_lk _ _ (show LkF (.bin .minus (.num 1) (gl w0 5)) from ⟨by show inB 1 = true; decide, fG⟩), show (Lk.bin .minus (.num 1) (gl w0 5)).deep = 7 from rfl]; rfl⟩
      | 3, hx => cases (Option.some.inj hx); exact ⟨_, D3, ⟨_, Nat.le_of_ble_eq_true rfl, okt_lk _ (show LkF (.item w1 (gl w0 5)) from ⟨n1, fG⟩)⟩, by rw [part_lk _ _ (show LkF (.item w1 (gl w0 5)) from ⟨n1, fG⟩), show (Lk.item w1 (gl w0 5)).deep = 7 from rfl]; rfl⟩
      | 4, hx => cases (Option.some.inj hx); exact ⟨_, (.int 5), ⟨_, Nat.le_of_ble_eq_true rfl, okt_lk (.num 5) (by show inB 5 = true; decide)⟩, by rw [show PyData.int 5 = lkD (.num 5) from rfl, part_lk _ _ (show LkF (.num 5) by show inB 5 = true; decide)]; rfl⟩
      | 5, hx => cases (Option.some.inj hx); exact ⟨_, D4, ⟨_, Nat.le_of_ble_eq_true rfl, okt_lk _ (show LkF (.bin .plus (.num 1) (.num 1)) from ⟨by show inB 1 = true; decide, by show inB 1 = true; decide⟩)⟩, by rw [part_lk _ _ (show LkF (.bin .plus (.num 1) (.num 1)) from ⟨by show inB 1 = true; decide, by show inB 1 = true; decide⟩)]; rfl⟩
      | 6, hx => cases (Option.some.inj hx); exact ⟨_, D5, ⟨_, Nat.le_of_ble_eq_true rfl, okt_lk _ (show LkF (.spot 0) by show 0 < 4; decide)⟩, by rw [part_lk _ _ (show LkF (.spot 0) by show 0 < 4; decide)]; rfl⟩
      | j + 7, hx => exact absurd hx (by simp)
    refine ⟨_, rfl, l9, rfl, ⟨_, SqL.of e_l9⟩, fun D nD => lc_it (walk_list (xs := [v, .ref t1, .ref t2, .ref t3, .int 5, .ref t4, .ref t5])) (fun i H' => Same H48 H' ∧ H' D = some (.lst ((([true, false, false, false, true, true, true] : List Bool).take i).map V.bl))) ⟨same_upd nD, upd_same⟩ (fun i H' _ h => SqL.of (h.1 _ _ e_l9)) ?_ ?_⟩
    · rintro i x HA _ hi ⟨sA, hD⟩ ⟨rfl, ex⟩
      obtain ⟨d, h1, h2, h3⟩ := av i x ex
      refine ⟨rfl, ?_⟩
      unfold tYes
      refine iteT ⟨_, rfl, rfl, x, d, rfl, dp_same sA _ _ h1, h2, fun HB sB => ⟨_, sB _ _ hD, ?_, ?_, ?_⟩⟩
      · rw [List.length_map, List.length_take]
        exact Nat.lt_of_le_of_lt (Nat.min_le_right _ _) (by decide)
      · intro c o hc
        rw [upd_ne (ne_of_none hc nD)]
        exact sB _ _ (sA _ _ hc)
      · rw [upd_same, List.take_succ, h3, List.map_append]
        rfl
    clear av
    rintro H49 ⟨x1, e_lc⟩
    replace sC := sC.trans x1
    replace hw := x1 _ _ hw
    replace C1 := C1.same x1
    replace dG := dp_same x1 _ _ dG
    replace dT := dp_same x1 _ _ dT
    replace D1 := dp_same x1 _ _ D1
    replace D2 := dp_same x1 _ _ D2
    replace D3 := dp_same x1 _ _ D3
    replace D4 := dp_same x1 _ _ D4
    replace D5 := dp_same x1 _ _ D5
    replace e_l9 := x1 _ _ e_l9
    clear x1 nD
    clear D1 D2 D3 D4 D5 e_l9
    refine ⟨z7, fun l10 np => ?_⟩
    have x1 := same_upd (o := .lst [.bl true, .bl false, .bl false, .bl false, .bl true, .bl true, .bl true]) np
    have n_l10 := sC.free np
    replace sC := sC.trans x1
    replace hw := x1 _ _ hw
    replace C1 := C1.same x1
    replace dG := dp_same x1 _ _ dG
    replace dT := dp_same x1 _ _ dT
    replace e_lc := x1 _ _ e_lc
    have e_l10 : (upd H49 l10 (.lst [.bl true, .bl false, .bl false, .bl false, .bl true, .bl true, .bl true])) l10 = some (.lst [.bl true, .bl false, .bl false, .bl false, .bl true, .bl true, .bl true]) := upd_same
    generalize upd H49 l10 (.lst [.bl true, .bl false, .bl false, .bl false, .bl true, .bl true, .bl true]) = H50 at *
    clear x1 np
    replace e_lc : H50 D = some (.lst (([true, false, false, false, true, true, true] : List Bool).map V.bl)) := e_lc
    refine ⟨.ref D, .ref l10, .list (([true, false, false, false, true, true, true] : List Bool).map PyData.bool), rfl, .lst (SqL.of e_lc) (bls _), .lst (SqL.of e_l10) (bls ([true, false, false, false, true, true, true] : List Bool)), ⟨by decide, fun d hd => by obtain ⟨b, _, rfl⟩ := List.mem_map.mp hd; trivial⟩, fun H51 x1 => ⟨_, rfl, iteF ?_⟩⟩
    replace sC := sC.trans x1
    replace hw := x1 _ _ hw
    replace C1 := C1.same x1
    replace dG := dp_same x1 _ _ dG
    replace dT := dp_same x1 _ _ dT
    clear x1 e_lc e_l10 D
    obtain ⟨ga, gx, g4, gy, rfl, hg, ex1, d4, ey1⟩ := d3 dG
    cases dpS ex1
    obtain ⟨ga4, gx4, g3, gy4, rfl, hg4, ex2, d3', ey2⟩ := d3 d4
    cases dpS ex2
    have dG5 : Dp K H51 (.ref ga) (lkD (gl w0 5)) := dG
    have dG4 : Dp K H51 (.ref ga4) (lkD (gl w0 4)) := d4
    have dG3 : Dp K H51 g3 (lkD (gl w0 3)) := d3'
    have eg : ∀ H', Same H51 H' → SqT K H' ga4 [.str "plus", g3, gy4] := fun H' s => seqT s hg4
    clear ex1 ey1 ex2 ey2 d4 d3' dG
    refine ⟨_, rfl, ga, _, 1, _, rfl, rfl, hg, rfl, ?_⟩
    clear hg
    replace hg := hg4
    clear hg4 eg
    clear C1
    refine ⟨_, rfl, z3, fun t1 np => ?_⟩
    have x1 := same_upd (o := .tup [.str "like", .ref ga, .int 1]) np
    replace sC := sC.trans x1
    replace hw := x1 _ _ hw
    replace dT := dp_same x1 _ _ dT
    replace dG5 := dp_same x1 _ _ dG5
    replace dG4 := dp_same x1 _ _ dG4
    replace dG3 := dp_same x1 _ _ dG3
    replace hg := seqT x1 hg
    have e_t1 : (upd H51 t1 (.tup [.str "like", .ref ga, .int 1])) t1 = some (.tup [.str "like", .ref ga, .int 1]) := upd_same
    generalize upd H51 t1 (.tup [.str "like", .ref ga, .int 1]) = H52 at *
    clear x1 np
    have D1 : Dp K H52 (.ref t1) (tsD (.like (gl w0 5) (.num 1))) := .tup (SqT.of e_t1) (.cons (.str _) (.cons dG5 (.cons (.int _) .nil)))
    clear e_t1
    refine ⟨_, rfl, z3, fun t2 np => ?_⟩
    have x1 := same_upd (o := .tup [.str "like", .ref ga4, .int 1]) np
    replace sC := sC.trans x1
    replace hw := x1 _ _ hw
    replace dT := dp_same x1 _ _ dT
    replace dG5 := dp_same x1 _ _ dG5
    replace dG4 := dp_same x1 _ _ dG4
    replace dG3 := dp_same x1 _ _ dG3
    replace hg := seqT x1 hg
    replace D1 := dp_same x1 _ _ D1
    have e_t2 : (upd H52 t2 (.tup [.str "like", .ref ga4, .int 1])) t2 = some (.tup [.str "like", .ref ga4, .int 1]) := upd_same
    generalize upd H52 t2 (.tup [.str "like", .ref ga4, .int 1]) = H53 at *
    clear x1 np
    have D2 : Dp K H53 (.ref t2) (tsD (.like (gl w0 4) (.num 1))) := .tup (SqT.of e_t2) (.cons (.str _) (.cons dG4 (.cons (.int _) .nil)))
    clear e_t2
    refine ⟨_, rfl, z3, fun t3 np => ?_⟩
    have x1 := same_upd (o := .tup [.str "like", .ref ga4, .int 1]) np
    replace sC := sC.trans x1
    replace hw := x1 _ _ hw
    replace dT := dp_same x1 _ _ dT
    replace dG5 := dp_same x1 _ _ dG5
    replace dG4 := dp_same x1 _ _ dG4
    replace dG3 := dp_same x1 _ _ dG3
    replace hg := seqT x1 hg
    replace D1 := dp_same x1 _ _ D1
    replace D2 := dp_same x1 _ _ D2
    have e_t3 : (upd H53 t3 (.tup [.str "like", .ref ga4, .int 1])) t3 = some (.tup [.str "like", .ref ga4, .int 1]) := upd_same
    generalize upd H53 t3 (.tup [.str "like", .ref ga4, .int 1]) = H54 at *
    clear x1 np
    have D3 : Dp K H54 (.ref t3) (tsD (.like (gl w0 4) (.num 1))) := .tup (SqT.of e_t3) (.cons (.str _) (.cons dG4 (.cons (.int _) .nil)))
    clear e_t3
    refine ⟨z2, fun t4 np => ?_⟩
    have x1 := same_upd (o := .tup [.str "not", .ref t3]) np
    replace sC := sC.trans x1
    replace hw := x1 _ _ hw
    replace dT := dp_same x1 _ _ dT
    replace dG5 := dp_same x1 _ _ dG5
    replace dG4 := dp_same x1 _ _ dG4
    replace dG3 := dp_same x1 _ _ dG3
    replace hg := seqT x1 hg
    replace D1 := dp_same x1 _ _ D1
    replace D2 := dp_same x1 _ _ D2
    replace D3 := dp_same x1 _ _ D3
    have e_t4 : (upd H54 t4 (.tup [.str "not", .ref t3])) t4 = some (.tup [.str "not", .ref t3]) := upd_same
    generalize upd H54 t4 (.tup [.str "not", .ref t3]) = H55 at *
    clear x1 np
    have D4 : Dp K H55 (.ref t4) (tsD (.not_ (.like (gl w0 4) (.num 1)))) := .tup (SqT.of e_t4) (.cons (.str _) (.cons D3 .nil))
    clear e_t4
    refine ⟨z3, fun l1 np => ?_⟩
    have x1 := same_upd (o := .lst [.ref t1, .ref t2, .ref t4]) np
    replace sC := sC.trans x1
    replace hw := x1 _ _ hw
    replace dT := dp_same x1 _ _ dT
    replace dG5 := dp_same x1 _ _ dG5
    replace dG4 := dp_same x1 _ _ dG4
    replace dG3 := dp_same x1 _ _ dG3
    replace hg := seqT x1 hg
    replace D1 := dp_same x1 _ _ D1
    replace D2 := dp_same x1 _ _ D2
    replace D3 := dp_same x1 _ _ D3
    replace D4 := dp_same x1 _ _ D4
    have e_l1 : (upd H55 l1 (.lst [.ref t1, .ref t2, .ref t4])) l1 = some (.lst [.ref t1, .ref t2, .ref t4]) := upd_same
    generalize upd H55 l1 (.lst [.ref t1, .ref t2, .ref t4]) = H56 at *
    clear x1 np
    refine ⟨_, rfl, _, rfl, ga4, _, 1, _, rfl, rfl, hg, rfl, z3, fun t5 np => ?_⟩
    have x1 := same_upd (o := .tup [.str "like", g3, .int 1]) np
    replace sC := sC.trans x1
    replace hw := x1 _ _ hw
    replace dT := dp_same x1 _ _ dT
    replace dG5 := dp_same x1 _ _ dG5
    replace dG4 := dp_same x1 _ _ dG4
    replace dG3 := dp_same x1 _ _ dG3
    replace hg := seqT x1 hg
    replace D1 := dp_same x1 _ _ D1
    replace D2 := dp_same x1 _ _ D2
    replace D3 := dp_same x1 _ _ D3
    replace D4 := dp_same x1 _ _ D4
    replace e_l1 := x1 _ _ e_l1
    have e_t5 : (upd H56 t5 (.tup [.str "like", g3, .int 1])) t5 = some (.tup [.str "like", g3, .int 1]) := upd_same
    generalize upd H56 t5 (.tup [.str "like", g3, .int 1]) = H57 at *
    clear x1 np
    have D5 : Dp K H57 (.ref t5) (tsD (.like (gl w0 3) (.num 1))) := .tup (SqT.of e_t5) (.cons (.str _) (.cons dG3 (.cons (.int _) .nil)))
    clear e_t5
    refine ⟨z2, fun t6 np => ?_⟩
    have x1 := same_upd (o := .tup [.str "not", .ref t5]) np
    replace sC := sC.trans x1
    replace hw := x1 _ _ hw
    replace dT := dp_same x1 _ _ dT
    replace dG5 := dp_same x1 _ _ dG5
    replace dG4 := dp_same x1 _ _ dG4
    replace dG3 := dp_same x1 _ _ dG3
    replace hg := seqT x1 hg
    replace D1 := dp_same x1 _ _ D1
    replace D2 := dp_same x1 _ _ D2
    replace D3 := dp_same x1 _ _ D3
    replace D4 := dp_same x1 _ _ D4
    replace e_l1 := x1 _ _ e_l1
    replace D5 := dp_same x1 _ _ D5
    have e_t6 : (upd H57 t6 (.tup [.str "not", .ref t5])) t6 = some (.tup [.str "not", .ref t5]) := upd_same
    generalize upd H57 t6 (.tup [.str "not", .ref t5]) = H58 at *
    clear x1 np
    have D6 : Dp K H58 (.ref t6) (tsD (.not_ (.like (gl w0 3) (.num 1)))) := .tup (SqT.of e_t6) (.cons (.str _) (.cons D5 .nil))
    clear e_t6
    refine ⟨_, rfl, z2, fun l2 np => ?_⟩
    have x1 := same_upd (o := .lst [.ref t6, .ref a6]) np
    replace sC := sC.trans x1
    replace hw := x1 _ _ hw
    replace dT := dp_same x1 _ _ dT
    replace dG5 := dp_same x1 _ _ dG5
    replace dG4 := dp_same x1 _ _ dG4
    replace dG3 := dp_same x1 _ _ dG3
    replace hg := seqT x1 hg
    replace D1 := dp_same x1 _ _ D1
    replace D2 := dp_same x1 _ _ D2
    replace D3 := dp_same x1 _ _ D3
    replace D4 := dp_same x1 _ _ D4
    replace e_l1 := x1 _ _ e_l1
    replace D5 := dp_same x1 _ _ D5
    replace D6 := dp_same x1 _ _ D6
    have e_l2 : (upd H58 l2 (.lst [.ref t6, .ref a6])) l2 = some (.lst [.ref t6, .ref a6]) := upd_same
    generalize upd H58 l2 (.lst [.ref t6, .ref a6]) = H59 at *
    clear x1 np
    refine ⟨l1, l2, _, _, rfl, rfl, e_l1, e_l2, z5, fun l3 np => ?_⟩
    rw [show ([.ref t1, .ref t2, .ref t4] : List V) ++ [.ref t6, .ref a6] = [.ref t1, .ref t2, .ref t4, .ref t6, .ref a6] from rfl]
    have x1 := same_upd (o := .lst [.ref t1, .ref t2, .ref t4, .ref t6, .ref a6]) np
    replace sC := sC.trans x1
    replace hw := x1 _ _ hw
    replace dT := dp_same x1 _ _ dT
    replace dG5 := dp_same x1 _ _ dG5
    replace dG4 := dp_same x1 _ _ dG4
    replace dG3 := dp_same x1 _ _ dG3
    replace hg := seqT x1 hg
    replace D1 := dp_same x1 _ _ D1
    replace D2 := dp_same x1 _ _ D2
    replace D3 := dp_same x1 _ _ D3
    replace D4 := dp_same x1 _ _ D4
    replace e_l1 := x1 _ _ e_l1
    replace D5 := dp_same x1 _ _ D5
    replace D6 := dp_same x1 _ _ D6
    replace e_l2 := x1 _ _ e_l2
    have e_l3 : (upd H59 l3 (.lst [.ref t1, .ref t2, .ref t4, .ref t6, .ref a6])) l3 = some (.lst [.ref t1, .ref t2, .ref t4, .ref t6, .ref a6]) := upd_same
    generalize upd H59 l3 (.lst [.ref t1, .ref t2, .ref t4, .ref t6, .ref a6]) = H60 at *
    clear x1 np
    clear e_l1 e_l2 hg dG5 dG4 dG3 D3 D5
    have av : ∀ (i : Nat) (x : V), ([.ref t1, .ref t2, .ref t4, .ref t6, .ref a6] : List V)[i]? = some x → ∃ d, Dp K H60 x d ∧ OkA d ∧ ([false, true, false, true, true] : List Bool)[i]? = some (isPart 6 "test" d) := by
      intro i x hx
      match i, hx with
      | 0, hx => cases (Option.some.inj hx); exact ⟨_, D1, ⟨_, Nat.le_of_ble_eq_true rfl, okt_ts _ (show TsF (.like (gl w0 5) (.num 1)) from ⟨gl_f n0 5, by show inB 1 = true; decide⟩)⟩, by rw [part_ts _ _ (show TsF (.like (gl w0 5) (.num 1)) from ⟨gl_f n0 5, by show inB 1 = true; decide⟩)]; rfl⟩
      | 1, hx => cases (Option.some.inj hx); exact ⟨_, D2, ⟨_, Nat.le_of_ble_eq_true rfl, okt_ts _ (show TsF (.like (gl w0 4) (.num 1)) from ⟨gl_f n0 4, by show inB 1 = true; decide⟩)⟩, by rw [part_ts _ _ (show TsF (.like (gl w0 4) (.num 1)) from ⟨gl_f n0 4, by show inB 1 = true; decide⟩)]; rfl⟩
      | 2, hx => cases (Option.some.inj hx); exact ⟨_, D4, ⟨_, Nat.le_of_ble_eq_true rfl, okt_ts _ (show TsF (.not_ (.like (gl w0 4) (.num 1))) from ⟨gl_f n0 4, by show inB 1 = true; decide⟩)⟩, by rw [part_ts _ _ (show TsF (.not_ (.like (gl w0 4) (.num 1))) from ⟨gl_f n0 4, by show inB 1 = true; decide⟩)]; rfl⟩
      | 3, hx => cases (Option.some.inj hx); exact ⟨_, D6, ⟨_, Nat.le_of_ble_eq_true rfl, okt_ts _ (show TsF (.not_ (.like (gl w0 3) (.num 1))) from ⟨gl_f n0 3, by show inB 1 = true; decide⟩)⟩, by rw [part_ts _ _ (show TsF (.not_ (.like (gl w0 3) (.num 1))) from ⟨gl_f n0 3, by show inB 1 = true; decide⟩)]; rfl⟩
      | 4, hx => cases (Option.some.inj hx); exact ⟨_, dT, ⟨_, Nat.le_of_ble_eq_true rfl, okt_ts _ fT⟩, by rw [part_ts _ _ fT]; rfl⟩
      | j + 5, hx => exact absurd hx (by simp)
    refine ⟨_, rfl, l3, rfl, ⟨_, SqL.of e_l3⟩, fun D nD => lc_it (walk_list (xs := [.ref t1, .ref t2, .ref t4, .ref t6, .ref a6])) (fun i H' => Same H60 H' ∧ H' D = some (.lst ((([false, true, false, true, true] : List Bool).take i).map V.bl))) ⟨same_upd nD, upd_same⟩ (fun i H' _ h => SqL.of (h.1 _ _ e_l3)) ?_ ?_⟩
    · rintro i x HA _ hi ⟨sA, hD⟩ ⟨rfl, ex⟩
      obtain ⟨d, h1, h2, h3⟩ := av i x ex
      refine ⟨rfl, ?_⟩
      unfold tYes
      refine iteT ⟨_, rfl, rfl, x, d, rfl, dp_same sA _ _ h1, h2, fun HB sB => ⟨_, sB _ _ hD, ?_, ?_, ?_⟩⟩
      · rw [List.length_map, List.length_take]
        exact Nat.lt_of_le_of_lt (Nat.min_le_right _ _) (by decide)
      · intro c o hc
        rw [upd_ne (ne_of_none hc nD)]
        exact sB _ _ (sA _ _ hc)
      · rw [upd_same, List.take_succ, h3, List.map_append]
        rfl
    clear av
    rintro H61 ⟨x1, e_lc⟩
    replace sC := sC.trans x1
    replace hw := x1 _ _ hw
    replace dT := dp_same x1 _ _ dT
    replace D1 := dp_same x1 _ _ D1
    replace D2 := dp_same x1 _ _ D2
    replace D4 := dp_same x1 _ _ D4
    replace D6 := dp_same x1 _ _ D6
    replace e_l3 := x1 _ _ e_l3
    clear x1 nD
    clear D1 D2 D4 D6 dT e_l3
    refine ⟨z5, fun l4 np => ?_⟩
    have x1 := same_upd (o := .lst [.bl false, .bl true, .bl false, .bl true, .bl true]) np
    replace sC := sC.trans x1
    replace hw := x1 _ _ hw
    replace e_lc := x1 _ _ e_lc
    have e_l4 : (upd H61 l4 (.lst [.bl false, .bl true, .bl false, .bl true, .bl true])) l4 = some (.lst [.bl false, .bl true, .bl false, .bl true, .bl true]) := upd_same
    generalize upd H61 l4 (.lst [.bl false, .bl true, .bl false, .bl true, .bl true]) = H62 at *
    clear x1 np
    replace e_lc : H62 D = some (.lst (([false, true, false, true, true] : List Bool).map V.bl)) := e_lc
    refine ⟨.ref D, .ref l4, .list (([false, true, false, true, true] : List Bool).map PyData.bool), rfl, .lst (SqL.of e_lc) (bls _), .lst (SqL.of e_l4) (bls ([false, true, false, true, true] : List Bool)), ⟨by decide, fun d hd => by obtain ⟨b, _, rfl⟩ := List.mem_map.mp hd; trivial⟩, fun H63 x1 => ⟨_, rfl, iteF ?_⟩⟩
    replace sC := sC.trans x1
    replace hw := x1 _ _ hw
    clear x1 e_lc e_l4 D
    exact ⟨s2.trans sC, _, _, _, _, _, _, _, _, _, _, _, _, _, _, _, _, rfl⟩
  · rintro σ H2 ⟨s2, o2, o3, o4, o5, o6, o7, o8, o9, o10, o11, o12, o13, o14, o15, o16, o17, rfl⟩
    exact q _
end
end Fd

set_option Elab.async false
set_option linter.all false
set_option maxRecDepth 100000
set_option maxHeartbeats 4000000
namespace Fd
open PySem PySem.Spec PyProof.Rows L2
section
variable {P : Program} {w : World} {K : PySem.W.Frag} {mg : Str → Option Value} {base : Heap}
theorem FnT.mono {CX : CXT} {j k : Nat} {x : Str} {ps ks : List Str} {sp : Sp} (G : FnT P w K mg base CX j x ps ks sp) (h : j ≤ k) : FnT P w K mg base CX k x ps ks sp := by
  obtain ⟨f, fd, F, r⟩ := G
  exact ⟨f, fd, F.mono h, r⟩
theorem value6 {C fI sp sm f fo : Addr} {fd fod : FuncData} {fs : BOp → Addr} (L : Looks5 P w K mg base C fI sp sm fs) (m_len : mg "len" = none) (DV : Df K mg "value_of" sVal ["look", "eyes"] f fd) (DO : Df K mg "outcome" sOut ["look", "eyes"] fo fod) : FnOk P w K mg base (L2.CX P w) 16 f fd ["look", "eyes"] (spVal K C 6) := by
  have O : FnG P w K mg base (L2.CX P w) 15 "outcome" ["look", "eyes"] (spOut K C 6) :=
    DO.g (ok_out (k := 14) L.W L.T DO.F (L.N.mono (by omega)) (L.F.mono (by omega)) (L.L.mono (by omega)) (ok_values L m_len DV DO 5) (fun o => (L.S o).mono (by omega)) m_len)
  exact ok_val (k := 15) L.T DV.F (L.I.mono (by omega)) O
theorem hold6 {C fI f : Addr} {fd : FuncData} (T : PySem.FellX.FellTxt K mg C fI) (D : Df K mg "holds" sHolds ["test", "eyes"] f fd) (G : ∀ n, FnG P w K mg base (L2.CX P w) (2 * n + 4) "value_of" ["look", "eyes"] (spVal K C n)) : FnOk P w K mg base (L2.CX P w) 15 f fd ["test", "eyes"] (spHold K C 6) :=
  ok_hold (k := 14) T D.F (G 5) (ok_holds T D G 5)
/-- one entry of a def, by its body there -/
theorem enter {x qual : Str} {st : Stmt} {f : Addr} {fd : FuncData} {N ps : List Str} {k : Nat} {A : Around} {outer : List Env} {s : Shared} {H : Hp} {args : Args} {us : List Value} {vs : List V} {Q : VK} {E : XK} (F : Fun K x qual st f fd) (S : FnScope N ps (defScope st))
    (hl : vs.length = ps.length) (hr : Room (k + 1) A) (e0 : Env0 P w K mg base A outer s H) (hb : BindsTo s fd args (ps.zip us)) (r : Vals vs us)
    (body : ∀ cdv : Value, Room k (A.deeper (envOfC qual (defScope st) s.heap.objs.size f cdv)) → ∃ t, PSs (cxOf CX0 P w K mg base N qual (defScope st) f cdv A outer s H E).nox (defBody st) t ∧ t { nx := fun _ H' => Q .non H', rt := Q } (L2.start N vs) H) :
    codeAny (model P w) A (.call (.ref f) args) (CR CX0 outer P w H s Q E) s := by
  obtain ⟨oc, od, kV, doc, pm, an, cdv, ct, osl, rfl, lk, hcd⟩ := F.ex
  obtain ⟨t, ht, hq⟩ := body cdv (hr.deeper _)
  have old : ∀ b o, base.get? b = some o → s.heap.get? b = some o := fun b o e => (e0.bs b o e).1
  refine codeAny_call_function hr.depth ((e0.mod.kin.keeps old) _ _ lk) rfl S.co S.gen rfl (PySem.W.codeRec_of (e0.mod.kin.keeps old) hcd) (hb _ _ _ _ (wpAny_newFunctionEnv_cells S.kind (fun y hy => ?_) fun env he s1 x => ?_))
  · exact (S.par y.1 (List.of_mem_zip (show (y.1, y.2) ∈ ps.zip us from hy)).1).elim .inl fun z => .inr ⟨z, PySem.W.cellsFrom_some _ _ _ (.inl z)⟩
  subst he
  refine ⟨(e0.mod.nolimit.keeps old).keeps x.toInCall.keep, codeAny_func (wpAny_mono (ht.nox.run [] s1 _ H _ (inv_start S hr.hd e0 hl r x) hq) (fun fl s' hs => ?_) fun _ _ hs => hs)⟩
  cases fl with
  | ret u =>
    obtain ⟨v, _, H', J, rv, q⟩ := hs
    exact ⟨v, H', J.os, J.bare, J.base, J.hok, rv, q⟩
  | next =>
    obtain ⟨_, H', J, q⟩ := hs
    exact ⟨.non, H', J.os, J.bare, J.base, J.hok, (rfl : RelV .non Value.none), q⟩
  | brk => obtain ⟨_, _, _, q⟩ := hs; exact q.elim
  | cont => obtain ⟨_, _, _, q⟩ := hs; exact q.elim
/-- the tracked heap at the law's entry: nothing, or the script alone -/
structure Entry (P : Program) (w : World) (K : PySem.W.Frag) (a : Addr) (h : Heap) (H : Hp) : Prop where
  only : Only H
  ok : HOk P w H h
  one : ∀ b, H b ≠ none → b = a
  free : H a ≠ none → K.lookup a = none
theorem Entry.none_of {a b : Addr} {h : Heap} {H : Hp} {o : Obj} (e : Entry P w K a h H) (hb : K.lookup b = some o) : H b = none := by
  cases z : H b with
  | none => rfl
  | some u =>
    have n : H b ≠ none := by rw [z]; exact nofun
    obtain rfl := e.one b n
    rw [e.free n] at hb
    cases hb
theorem Entry.dict {a b : Addr} {h : Heap} {H : Hp} {vs : Array Value} {o : Obj} {es : Array DictEntry} {ep n : Nat} (e : Entry P w K a h H) (ha : h.get? a = some { cls := .type "list", data := .seq vs n }) (hb : h.get? b = some o) (hd : o.data = .dict es ep) : H b = none := by
  cases z : H b with
  | none => rfl
  | some u =>
    obtain rfl := e.one b (by rw [z]; exact nofun)
    rw [ha] at hb
    cases hb
    cases hd
theorem entry_of {a : Addr} {h : Heap} {vs : List Value} {ns : List Int} (KX : K.In h) (ha : h.get? a = some { cls := .type "list", data := .seq vs.toArray }) (hi : IntsAre vs ns) (hl : ns.length ≤ sizeLine) : ∃ H, Entry P w K a h H ∧ SqL K H a (ns.map V.int) := by
  cases hk : K.lookup a with
  | some o =>
    have e := KX a o hk
    rw [ha] at e
    cases e
    exact ⟨fun _ => none, ⟨fun _ => .inl rfl, fun b u z => (nomatch (show (none : Option HO) = some u from z)), fun b z => absurd rfl z, fun z => absurd rfl z⟩,
      .inr ⟨_, vs.toArray, _, hk, rfl, rfl, rfl, by rw [List.size_toArray, hi.length]; exact hl, by simpa using vals_ints hi⟩⟩
  | none =>
    let o : HO := .frz { cls := .type "list", data := .seq vs.toArray } (.lst (ns.map V.int))
    have u1 : upd (fun _ => none) a o a = some o := upd_same
    have un : ∀ {b}, b ≠ a → upd (fun _ => none) a o b = none := fun n => upd_ne n
    refine ⟨upd (fun _ => none) a o, ⟨fun b => ?_, fun b u z => ?_, fun b n => ?_, fun _ => hk⟩, .inl (.inr ⟨_, u1⟩)⟩
    · by_cases e : b = a
      · subst e; exact .inr ⟨_, _, u1⟩
      · exact .inl (un e)
    · by_cases e : b = a
      · subst e
        rw [u1] at z
        cases z
        exact ⟨ha, by rw [List.length_map]; exact hl, vs, _, vals_ints hi, ha⟩
      · rw [un e] at z; cases z
    · exact Classical.byContradiction fun e => n (un e)
theorem law_at {mb : Str → Option Value} {k : Nat} {fa a : Addr} {fd : FuncData} {x : Str} {st : Stmt} {N : List Str} {nm : Str} {s₁ : Shared} {vs : List Value} {ns : List Int} (F : Fun K nm nm st fa fd) (S : FnScope N [x] (defScope st))
    (KX : K.In s₁.heap) (hns : s₁.heap.Ns mainGlobals mg) (hb : s₁.heap.Ns builtinsNs mb) (hbb : ∀ x : Str, x ≠ "__name__" → mb x = bootBuiltins x) (hlim : s₁.heap.NoLimit) (hg : s₁.gens = #[])
    (ha : s₁.heap.get? a = some { cls := .type "list", data := .seq vs.toArray }) (hi : IntsAre vs ns) (hl : ns.length ≤ sizeLine) (hr : Room (k + 1) callerA) (hbind : ∀ (s : Shared) (u : Value), BindsTo s fd ⟨[u], []⟩ [(x, u)])
    (body : ∀ (base : Heap) (cdv : Value) (H : Hp), K.In base → base.Ns mainGlobals mg → SqL K H a (ns.map V.int) → Room k (callerA.deeper (envOfC nm (defScope st) s₁.heap.objs.size fa cdv)) →
      ∃ t, PSs (cxOf CX0 P w K mg base N nm (defScope st) fa cdv callerA [] s₁ H fun _ _ _ => False).nox (defBody st) t ∧ t { nx := fun _ _ => V.non = .bl true, rt := fun v _ => v = .bl true } (L2.start N [.ref a]) H) :
    codeAny (model P w) callerA (.call (.ref fa) ⟨[.ref a], []⟩) (fun r s' => r = .ok (.ret (.bool true)) ∧ OldK s₁.heap s'.heap ∧ s'.os = s₁.os ∧ AllBare s'.gens) s₁ := by
  obtain ⟨H, en, hS⟩ := entry_of (P := P) (w := w) KX ha hi hl
  have kb : K.In (hidT s₁.heap H) := fun b o e => hidT_get (KX b o e) (en.none_of e)
  have nb : ∀ {b : Addr} {m : Str → Option Value}, s₁.heap.Ns b m → (hidT s₁.heap H).Ns b m := fun ⟨o, es, ep, e, d, r⟩ => ⟨o, es, ep, hidT_get e (en.dict ha e d), d, r⟩
  have lim : (hidT s₁.heap H).NoLimit := by
    obtain ⟨mc, h1, h2⟩ := hlim
    exact ⟨mc, nb h1, h2⟩
  have e0 : Env0 P w K mg (hidT s₁.heap H) callerA [] s₁ H := ⟨rfl, ⟨kb, nb hns, ⟨mb, nb hb, hbb⟩, lim⟩, fun b o e => of_hidT e, Nat.le_of_eq (hidT_size _ _), trivial, fun b hb => absurd (show b ∈ ([] : List Addr) from hb) (by simp), en.ok, .of_eq hg⟩
  refine codeAny_mono (enter (vs := [.ref a]) (us := [.ref a]) (Q := fun v _ => v = .bl true) (E := fun _ _ _ => False) F S rfl hr e0 (hbind s₁ (.ref a)) (.cons rfl .nil) fun cdv hr' => body _ cdv H kb (nb hns) hS hr') fun r s' h => ?_
  cases r with
  | error e => exact h.elim
  | ok fl =>
    cases fl with
    | ret u =>
      obtain ⟨v, H', os, bare, un, ok', rv, q⟩ := h
      obtain rfl : v = .bl true := q
      obtain rfl : u = Value.bool true := rv
      refine ⟨rfl, OldK.of_keep fun b o e => ?_, os, bare⟩
      rcases en.only b with z | ⟨ob, xs, z⟩
      · exact un.keep b o e z (fun y => absurd (show b ∈ ([] : List Addr) from y) (by simp)) (by simp)
      · obtain ⟨e1, _⟩ := en.ok b _ z
        obtain ⟨e2, _⟩ := ok' b _ (un.frzs b ob _ z)
        rw [e] at e1
        cases e1
        exact e2
    | next => exact h.elim
    | brk => exact h.elim
    | cont => exact h.elim
end
theorem walk_ex {l : PySem.W.OpenLaw} {n : Nat} {q : Program} {loose : List Str} {XP : (Str → Option Value) → Heap → Prop} {YP : World → Heap → Prop} {d : DefRec} (hn : l.most = some n) (hn2 : n ≤ 63) (hdf : d.params.defaults = []) (hd : d.name = "law")
    (F : ∀ (w : World) (mg : Str → Option Value) (fa : Addr) (h : Heap), YP w h → h.Ns mainGlobals mg → mg "law" = some (.ref fa) →
      ∃ (K : PySem.W.Frag) (fd : FuncData), K.In h ∧ Fun K "law" "law" sLaw fa fd ∧ (∀ (s : Shared) (v : Value), BindsTo s fd ⟨[v], []⟩ [("_law_script", v)]) ∧ ∀ base : Heap, K.In base → base.Ns mainGlobals mg → LawD l.prog w K mg base 30) :
    PySem.W.WalkO q loose XP YP l.row.toRowW d [] (fun f vs => PySem.call f vs) := by
  refine Att.attach_call hn hdf fun w s₀ s₁ mg mb fa o pm cd doc a vs ns G Y ho hd' hcd hmg hobj hints hlen hg => ?_
  rw [hd] at hmg
  obtain ⟨K, fd, hK, hF, hb, hL⟩ := F w mg fa _ Y G.T.g hmg
  exact law_at (k := 30) (x := "_law_script") hF scLaw hK G.T.g G.T.b G.T.builtins G.T.nolimit hg hobj hints (Nat.le_trans (Nat.le_trans hlen hn2) (by decide)) ⟨rfl, by decide, by decide⟩ hb
    fun base cdv H kb nb hS hr => law_body (hL base kb nb) cdv callerA [] s₁ H [.ref a] (fun v _ => v = .bl true) (fun _ _ _ => False) hr ⟨a, ns, rfl, hS, Nat.le_trans hlen hn2, fun _ => rfl⟩
end Fd

set_option Elab.async false
set_option linter.all false
set_option maxRecDepth 100000
set_option maxHeartbeats 0
noncomputable section
namespace K7
open PySem PySem.W PySem.Calls PyProof.Rows HandSHeadRun Fw
abbrev pr : Program := PySem.Challenge.pw_figuredeeds_k07_looks_known_and_shared
def dk (s : Stmt) : List (Option Expr) := match s with
  | .Assign _ (.Dict ks _ _) _ => ks
  | _ => []
def dv (s : Stmt) : List Expr := match s with
  | .Assign _ (.Dict _ vs _) _ => vs
  | _ => []
def dp (s : Stmt) : Pos := match s with
  | .Assign _ (.Dict _ _ p) _ => p
  | _ => default
def ap (s : Stmt) : Pos := match s with
  | .Assign _ _ p => p
  | _ => default
def np (s : Stmt) : Pos := match s with
  | .Assign [.Name _ p] _ _ => p
  | _ => default
def top (i : Nat) : Stmt := pr.main.body.getD i (.Pass ⟨0, 0, 0, 0⟩)
def st8 : Stmt := top 8
def st23 : Stmt := top 23
def parts : List PK := [("look", "name", ["name"]), ("look", "plus", ["look", "look"]), ("look", "minus", ["look", "look"]), ("look", "by", ["look", "look"]), ("look", "over", ["look", "look"]), ("look", "rest", ["look", "look"]), ("look", "item", ["list", "look"]), ("look", "many", ["list"]), ("look", "x", []), ("look", "y", []), ("look", "way", []), ("look", "number", []), ("test", "like", ["look", "look"]), ("test", "below", ["look", "look"]), ("test", "not", ["test"]), ("test", "both", ["test", "test"]), ("test", "any", ["test", "test"])]
def tn23 : List TN := [("plus", "plus", 133), ("minus", "minus", 140), ("by", "by", 147), ("over", "over", 154), ("rest", "rest", 161)]
def D : Many where
  p := pr
  env := { scope := pr.main.scope, locals := mainNs, globals := mainNs, cells := [], code := .ref 13, frame := some 14 }
  q0 := ⟨0, 0, 0, 0⟩
  pos0 := ⟨0, 0, 0, 0⟩
  k0 := 12
  kB := 3
  L := [.seg ((pr.main.body.drop 0).take 8) 680, .big "PARTS" (np st8) (dk st8) (dv st8) (dp st8) (ap st8) parts ("test", "meets", ["figure"]) 60, .seg ((pr.main.body.drop 9).take 14) 884, .txt "SUMS" (np st23) (dk st23) (dv st23) (dp st23) (ap st23) (svT tn23) (okN tn23) 60]
  rest := pr.main.body.drop 24
  M := 900
def fnd (x : Str) (i : Nat) : He.FnD := ⟨(x, none), x, x, L2.defArgs (top i), L2.defBody (top i), L2.defScope (top i)⟩
def ini : Stmt := match top 1 with
  | .ClassDef _ _ _ (s :: _) .. => s
  | _ => .Pass ⟨0, 0, 0, 0⟩
def fn : List He.FnD := [fnd "is_number" 10, fnd "is_value" 11, fnd "is_name" 12, fnd "is_look" 13, fnd "is_test" 14, fnd "is_part" 15, fnd "is_worded" 16, fnd "has_parts" 17, fnd "plus" 18, fnd "minus" 19, fnd "by" 20, fnd "over" 21, fnd "rest" 22, fnd "value_of" 24, fnd "outcome" 25, fnd "first_of" 26, fnd "place_in" 27, fnd "holds" 28, fnd "_law_folded" 30, fnd "_law_draws" 31, fnd "_law_take" 32, fnd "_law_same" 33, fnd "_law_names" 34, fnd "law" 35, ⟨("Fell", some "__init__"), "__init__", "Fell.__init__", L2.defArgs ini, L2.defBody ini, L2.defScope ini⟩]
def fa : List He.Fa := [.glo "is_number", .keep "is_number", .glo "is_value", .keep "is_value", .glo "is_name", .keep "is_name", .glo "is_look", .keep "is_look", .glo "is_test", .keep "is_test", .glo "is_part", .keep "is_part", .glo "is_worded", .keep "is_worded", .glo "has_parts", .keep "has_parts", .glo "plus", .keep "plus", .glo "minus", .keep "minus", .glo "by", .keep "by", .glo "over", .keep "over", .glo "rest", .keep "rest", .glo "value_of", .keep "value_of", .glo "outcome", .keep "outcome", .glo "first_of", .keep "first_of", .glo "place_in", .keep "place_in", .glo "holds", .keep "holds", .glo "_law_folded", .keep "_law_folded", .glo "_law_draws", .keep "_law_draws", .glo "_law_take", .keep "_law_take", .glo "_law_same", .keep "_law_same", .glo "_law_names", .keep "_law_names", .glo "law", .keep "law", .free "len", .free "int", .free "divmod", .free "list", .free "isinstance", .free "tuple", .free "all", .free "abs", .free "zip", .free "str", .free "bool", .free "range", .free "enumerate", .free "RuntimeError", .int "LEAST_VALUE" (-1000000), .int "MOST_VALUE" (1000000), .int "LONGEST_NAME" (8), .int "DEEPEST" (6), .glo "Fell"]
def ck (K : Frag) : Bool := fellB K && He.eqO (nsIn K mainGlobals "NAME_KINDS") (some (some (.ref 35))) && He.eqO (nsIn K mainGlobals "PARTS") (some (some (.ref 36))) && He.eqO (nsIn K mainGlobals "SPOT_WORDS") (some (some (.ref 74))) && He.eqO (nsIn K 162 "plus") (some (some (.ref (He.ga K "plus")))) && He.eqO (nsIn K 162 "minus") (some (some (.ref (He.ga K "minus")))) && He.eqO (nsIn K 162 "by") (some (some (.ref (He.ga K "by")))) && He.eqO (nsIn K 162 "over") (some (some (.ref (He.ga K "over")))) && He.eqO (nsIn K 162 "rest") (some (some (.ref (He.ga K "rest")))) && He.eqO (nsIn K mainGlobals "SUMS") (some (some (.ref 162)))
def as : List Addr := [35, 36, 37, 38, 39, 40, 41, 42, 43, 44, 45, 46, 47, 48, 49, 50, 51, 52, 53, 54, 55, 56, 57, 58, 59, 60, 61, 62, 63, 64, 65, 66, 67, 68, 69, 70, 71, 72, 73, 74, 162]
def objs (w : World) : List Obj := ([tO 227 ["name", "list", "figure"]]) ++ (finObjs w pr 36 231 parts ("test", "meets", ["figure"])) ++ ([tO 346 ["x", "y", "way", "number"]]) ++ ([dO (sEs w pr 447 (svT tn23))])
abbrev R : OpenRow := OpenLaw.row PySem.Challenge.rw_figuredeeds_k07_looks_known_and_shared
abbrev q : Program := view R.prog [35]
def loose : List PySem.Str := (["__name__", "Fell", "LEAST_VALUE", "MOST_VALUE", "LONGEST_NAME", "DEEPEST", "NAME_KINDS", "PARTS", "SPOT_WORDS", "is_number", "is_value", "is_name", "is_look", "is_test", "is_part"] : List PySem.Str) ++ (["is_worded", "has_parts", "plus", "minus", "by", "over", "rest", "SUMS", "value_of", "outcome", "first_of", "place_in", "holds", "_law_folded", "_law_draws"] : List PySem.Str) ++ (["_law_take", "_law_same", "_law_names"] : List PySem.Str)
theorem run : RunM D q loose (fun s => xlAt q [] s && recOk R.toRowW.records s) (obY fa fn ck as 234) (hookY fa fn ck as 234 objs).val := by
  intro w os ps hp
  match ps, hp with
  | [p0, p1], _ => kernel_rfl
end K7

end
set_option Elab.async false
set_option linter.all false
set_option maxRecDepth 100000
set_option maxHeartbeats 0
namespace K7
open PySem PySem.W PySem.Calls PyProof.Rows HandSHeadRun Fw
theorem D_ok : D.Ok := by
  refine ⟨by kernel_rfl, fun w x hx => ?_, by decide +kernel⟩
  have hx : x ∈ ([.seg ((pr.main.body.drop 0).take 8) 680, .big "PARTS" (np st8) (dk st8) (dv st8) (dp st8) (ap st8) parts ("test", "meets", ["figure"]) 60, .seg ((pr.main.body.drop 9).take 14) 884, .txt "SUMS" (np st23) (dk st23) (dv st23) (dp st23) (ap st23) (svT tn23) (okN tn23) 60] : List Stg) := hx
  rcases List.mem_cons.mp hx with rfl | hx
  · exact trivial
  rcases List.mem_cons.mp hx with rfl | hx
  · exact big_ok (by rfl) (by kernel_rfl) (by rfl) (by decide +kernel)
  rcases List.mem_cons.mp hx with rfl | hx
  · exact trivial
  rcases List.mem_cons.mp hx with rfl | hx
  · exact txt_ok (by rfl) (by rfl) (by rfl) (by rfl) (by decide +kernel) (by kernel_rfl) (by decide +kernel) (by decide +kernel)
  · exact nomatch hx
theorem op_ok : opening D.p = plainProg D.p.main.scope.names := by kernel_rfl
theorem fe_ok : ∀ s, fenceModules? D.p s = some s := fun s => by rfl
end K7

open PySem PySem.W PyProof.Rows
set_option Elab.async false
set_option linter.all false
set_option maxRecDepth 100000
set_option maxHeartbeats 8000000
namespace Fd
open PySem PySem.Spec PyProof.Rows L2
theorem law_mk {w : World} {h : Heap} {mg : Str → Option Value} {fa : Addr} (Y : (Fw.hookY K7.fa K7.fn K7.ck K7.as 234 K7.objs).says w h) (G : h.Ns mainGlobals mg) (hfa : mg "law" = some (.ref fa)) :
    ∃ (K : PySem.W.Frag) (fd : FuncData), K.In h ∧ Fun K "law" "law" sLaw fa fd ∧ (∀ (s : Shared) (v : Value), BindsTo s fd ⟨[v], []⟩ [("_law_script", v)]) ∧ ∀ base : Heap, K.In base → base.Ns mainGlobals mg → LawD PySem.Challenge.rw_figuredeeds_k07_looks_known_and_shared.prog w K mg base 30 := by
  obtain ⟨K, X, c, hck, hob⟩ := Y
  obtain ⟨oc0, od0, osl0, kV0, dc0, pm0, an0, cd0, ct0, l0, e0⟩ := c.def_ 0
  have F_is_number := fun_mk (x := "is_number") (qual := "is_number") (st := sIsNum) (f := He.ga K "is_number") l0 e0 (He.keep_ok (c.fact 1))
  have D_is_number : Df K mg "is_number" sIsNum ["thing"] (He.ga K "is_number") _ := ⟨F_is_number, He.glo_ok X G (c.fact 0), F_is_number.binds fun _ _ _ _ _ _ us hl => match us, hl with | [_], _ => rfl⟩
  obtain ⟨oc1, od1, osl1, kV1, dc1, pm1, an1, cd1, ct1, l1, e1⟩ := c.def_ 1
  have F_is_value := fun_mk (x := "is_value") (qual := "is_value") (st := sIsVal) (f := He.ga K "is_value") l1 e1 (He.keep_ok (c.fact 3))
  have D_is_value : Df K mg "is_value" sIsVal ["thing"] (He.ga K "is_value") _ := ⟨F_is_value, He.glo_ok X G (c.fact 2), F_is_value.binds fun _ _ _ _ _ _ us hl => match us, hl with | [_], _ => rfl⟩
  obtain ⟨oc2, od2, osl2, kV2, dc2, pm2, an2, cd2, ct2, l2, e2⟩ := c.def_ 2
  have F_is_name := fun_mk (x := "is_name") (qual := "is_name") (st := sIsName) (f := He.ga K "is_name") l2 e2 (He.keep_ok (c.fact 5))
  have D_is_name : Df K mg "is_name" sIsName ["thing"] (He.ga K "is_name") _ := ⟨F_is_name, He.glo_ok X G (c.fact 4), F_is_name.binds fun _ _ _ _ _ _ us hl => match us, hl with | [_], _ => rfl⟩
  obtain ⟨oc3, od3, osl3, kV3, dc3, pm3, an3, cd3, ct3, l3, e3⟩ := c.def_ 3
  have F_is_look := fun_mk (x := "is_look") (qual := "is_look") (st := sIsLk) (f := He.ga K "is_look") l3 e3 (He.keep_ok (c.fact 7))
  have D_is_look : Df K mg "is_look" sIsLk ["thing"] (He.ga K "is_look") _ := ⟨F_is_look, He.glo_ok X G (c.fact 6), F_is_look.binds fun _ _ _ _ _ _ us hl => match us, hl with | [_], _ => rfl⟩
  obtain ⟨oc4, od4, osl4, kV4, dc4, pm4, an4, cd4, ct4, l4, e4⟩ := c.def_ 4
  have F_is_test := fun_mk (x := "is_test") (qual := "is_test") (st := sIsTs) (f := He.ga K "is_test") l4 e4 (He.keep_ok (c.fact 9))
  have D_is_test : Df K mg "is_test" sIsTs ["thing"] (He.ga K "is_test") _ := ⟨F_is_test, He.glo_ok X G (c.fact 8), F_is_test.binds fun _ _ _ _ _ _ us hl => match us, hl with | [_], _ => rfl⟩
  obtain ⟨oc5, od5, osl5, kV5, dc5, pm5, an5, cd5, ct5, l5, e5⟩ := c.def_ 5
  have F_is_part := fun_mk (x := "is_part") (qual := "is_part") (st := sPart) (f := He.ga K "is_part") l5 e5 (He.keep_ok (c.fact 11))
  have D_is_part : Df K mg "is_part" sPart ["thing", "kind", "deep"] (He.ga K "is_part") _ := ⟨F_is_part, He.glo_ok X G (c.fact 10), F_is_part.binds fun _ _ _ _ _ _ us hl => match us, hl with | [_, _, _], _ => rfl⟩
  obtain ⟨oc6, od6, osl6, kV6, dc6, pm6, an6, cd6, ct6, l6, e6⟩ := c.def_ 6
  have F_is_worded := fun_mk (x := "is_worded") (qual := "is_worded") (st := sIsWd) (f := He.ga K "is_worded") l6 e6 (He.keep_ok (c.fact 13))
  have D_is_worded : Df K mg "is_worded" sIsWd ["thing"] (He.ga K "is_worded") _ := ⟨F_is_worded, He.glo_ok X G (c.fact 12), F_is_worded.binds fun _ _ _ _ _ _ us hl => match us, hl with | [_], _ => rfl⟩
  obtain ⟨oc7, od7, osl7, kV7, dc7, pm7, an7, cd7, ct7, l7, e7⟩ := c.def_ 7
  have F_has_parts := fun_mk (x := "has_parts") (qual := "has_parts") (st := sHas) (f := He.ga K "has_parts") l7 e7 (He.keep_ok (c.fact 15))
  have D_has_parts : Df K mg "has_parts" sHas ["thing", "kind", "deep"] (He.ga K "has_parts") _ := ⟨F_has_parts, He.glo_ok X G (c.fact 14), F_has_parts.binds fun _ _ _ _ _ _ us hl => match us, hl with | [_, _, _], _ => rfl⟩
  obtain ⟨oc8, od8, osl8, kV8, dc8, pm8, an8, cd8, ct8, l8, e8⟩ := c.def_ 8
  have F_plus := fun_mk (x := "plus") (qual := "plus") (st := sPlus) (f := He.ga K "plus") l8 e8 (He.keep_ok (c.fact 17))
  have D_plus : Df K mg "plus" sPlus ["first", "second"] (He.ga K "plus") _ := ⟨F_plus, He.glo_ok X G (c.fact 16), F_plus.binds fun _ _ _ _ _ _ us hl => match us, hl with | [_, _], _ => rfl⟩
  obtain ⟨oc9, od9, osl9, kV9, dc9, pm9, an9, cd9, ct9, l9, e9⟩ := c.def_ 9
  have F_minus := fun_mk (x := "minus") (qual := "minus") (st := sMinus) (f := He.ga K "minus") l9 e9 (He.keep_ok (c.fact 19))
  have D_minus : Df K mg "minus" sMinus ["first", "second"] (He.ga K "minus") _ := ⟨F_minus, He.glo_ok X G (c.fact 18), F_minus.binds fun _ _ _ _ _ _ us hl => match us, hl with | [_, _], _ => rfl⟩
  obtain ⟨oc10, od10, osl10, kV10, dc10, pm10, an10, cd10, ct10, l10, e10⟩ := c.def_ 10
  have F_by := fun_mk (x := "by") (qual := "by") (st := sBy) (f := He.ga K "by") l10 e10 (He.keep_ok (c.fact 21))
  have D_by : Df K mg "by" sBy ["first", "second"] (He.ga K "by") _ := ⟨F_by, He.glo_ok X G (c.fact 20), F_by.binds fun _ _ _ _ _ _ us hl => match us, hl with | [_, _], _ => rfl⟩
  obtain ⟨oc11, od11, osl11, kV11, dc11, pm11, an11, cd11, ct11, l11, e11⟩ := c.def_ 11
  have F_over := fun_mk (x := "over") (qual := "over") (st := sOver) (f := He.ga K "over") l11 e11 (He.keep_ok (c.fact 23))
  have D_over : Df K mg "over" sOver ["first", "second"] (He.ga K "over") _ := ⟨F_over, He.glo_ok X G (c.fact 22), F_over.binds fun _ _ _ _ _ _ us hl => match us, hl with | [_, _], _ => rfl⟩
  obtain ⟨oc12, od12, osl12, kV12, dc12, pm12, an12, cd12, ct12, l12, e12⟩ := c.def_ 12
  have F_rest := fun_mk (x := "rest") (qual := "rest") (st := sRest) (f := He.ga K "rest") l12 e12 (He.keep_ok (c.fact 25))
  have D_rest : Df K mg "rest" sRest ["first", "second"] (He.ga K "rest") _ := ⟨F_rest, He.glo_ok X G (c.fact 24), F_rest.binds fun _ _ _ _ _ _ us hl => match us, hl with | [_, _], _ => rfl⟩
  obtain ⟨oc13, od13, osl13, kV13, dc13, pm13, an13, cd13, ct13, l13, e13⟩ := c.def_ 13
  have F_value_of := fun_mk (x := "value_of") (qual := "value_of") (st := sVal) (f := He.ga K "value_of") l13 e13 (He.keep_ok (c.fact 27))
  have D_value_of : Df K mg "value_of" sVal ["look", "eyes"] (He.ga K "value_of") _ := ⟨F_value_of, He.glo_ok X G (c.fact 26), F_value_of.binds fun _ _ _ _ _ _ us hl => match us, hl with | [_, _], _ => rfl⟩
  obtain ⟨oc14, od14, osl14, kV14, dc14, pm14, an14, cd14, ct14, l14, e14⟩ := c.def_ 14
  have F_outcome := fun_mk (x := "outcome") (qual := "outcome") (st := sOut) (f := He.ga K "outcome") l14 e14 (He.keep_ok (c.fact 29))
  have D_outcome : Df K mg "outcome" sOut ["look", "eyes"] (He.ga K "outcome") _ := ⟨F_outcome, He.glo_ok X G (c.fact 28), F_outcome.binds fun _ _ _ _ _ _ us hl => match us, hl with | [_, _], _ => rfl⟩
  obtain ⟨oc15, od15, osl15, kV15, dc15, pm15, an15, cd15, ct15, l15, e15⟩ := c.def_ 15
  have F_first_of := fun_mk (x := "first_of") (qual := "first_of") (st := sFirst) (f := He.ga K "first_of") l15 e15 (He.keep_ok (c.fact 31))
  have D_first_of : Df K mg "first_of" sFirst ["pairs", "name"] (He.ga K "first_of") _ := ⟨F_first_of, He.glo_ok X G (c.fact 30), F_first_of.binds fun _ _ _ _ _ _ us hl => match us, hl with | [_, _], _ => rfl⟩
  obtain ⟨oc16, od16, osl16, kV16, dc16, pm16, an16, cd16, ct16, l16, e16⟩ := c.def_ 16
  have F_place_in := fun_mk (x := "place_in") (qual := "place_in") (st := sPlace) (f := He.ga K "place_in") l16 e16 (He.keep_ok (c.fact 33))
  have D_place_in : Df K mg "place_in" sPlace ["row", "place"] (He.ga K "place_in") _ := ⟨F_place_in, He.glo_ok X G (c.fact 32), F_place_in.binds fun _ _ _ _ _ _ us hl => match us, hl with | [_, _], _ => rfl⟩
  obtain ⟨oc17, od17, osl17, kV17, dc17, pm17, an17, cd17, ct17, l17, e17⟩ := c.def_ 17
  have F_holds := fun_mk (x := "holds") (qual := "holds") (st := sHolds) (f := He.ga K "holds") l17 e17 (He.keep_ok (c.fact 35))
  have D_holds : Df K mg "holds" sHolds ["test", "eyes"] (He.ga K "holds") _ := ⟨F_holds, He.glo_ok X G (c.fact 34), F_holds.binds fun _ _ _ _ _ _ us hl => match us, hl with | [_, _], _ => rfl⟩
  obtain ⟨oc18, od18, osl18, kV18, dc18, pm18, an18, cd18, ct18, l18, e18⟩ := c.def_ 18
  have F__law_folded := fun_mk (x := "_law_folded") (qual := "_law_folded") (st := sFolded) (f := He.ga K "_law_folded") l18 e18 (He.keep_ok (c.fact 37))
  have D__law_folded : Df K mg "_law_folded" sFolded ["_law_script", "_law_many"] (He.ga K "_law_folded") _ := ⟨F__law_folded, He.glo_ok X G (c.fact 36), F__law_folded.binds fun _ _ _ _ _ _ us hl => match us, hl with | [_, _], _ => rfl⟩
  obtain ⟨oc19, od19, osl19, kV19, dc19, pm19, an19, cd19, ct19, l19, e19⟩ := c.def_ 19
  have F__law_draws := fun_mk (x := "_law_draws") (qual := "_law_draws") (st := sDraws) (f := He.ga K "_law_draws") l19 e19 (He.keep_ok (c.fact 39))
  have D__law_draws : Df K mg "_law_draws" sDraws ["_law_script", "_law_k"] (He.ga K "_law_draws") _ := ⟨F__law_draws, He.glo_ok X G (c.fact 38), F__law_draws.binds fun _ _ _ _ _ _ us hl => match us, hl with | [_, _], _ => rfl⟩
  obtain ⟨oc20, od20, osl20, kV20, dc20, pm20, an20, cd20, ct20, l20, e20⟩ := c.def_ 20
  have F__law_take := fun_mk (x := "_law_take") (qual := "_law_take") (st := sTake) (f := He.ga K "_law_take") l20 e20 (He.keep_ok (c.fact 41))
  have D__law_take : Df K mg "_law_take" sTake ["_law_box", "_law_many"] (He.ga K "_law_take") _ := ⟨F__law_take, He.glo_ok X G (c.fact 40), F__law_take.binds fun _ _ _ _ _ _ us hl => match us, hl with | [_, _], _ => rfl⟩
  obtain ⟨oc21, od21, osl21, kV21, dc21, pm21, an21, cd21, ct21, l21, e21⟩ := c.def_ 21
  have F__law_same := fun_mk (x := "_law_same") (qual := "_law_same") (st := sSame) (f := He.ga K "_law_same") l21 e21 (He.keep_ok (c.fact 43))
  have D__law_same : Df K mg "_law_same" sSame ["_law_found", "_law_due"] (He.ga K "_law_same") _ := ⟨F__law_same, He.glo_ok X G (c.fact 42), F__law_same.binds fun _ _ _ _ _ _ us hl => match us, hl with | [_, _], _ => rfl⟩
  obtain ⟨oc22, od22, osl22, kV22, dc22, pm22, an22, cd22, ct22, l22, e22⟩ := c.def_ 22
  have F__law_names := fun_mk (x := "_law_names") (qual := "_law_names") (st := sNames) (f := He.ga K "_law_names") l22 e22 (He.keep_ok (c.fact 45))
  have D__law_names : Df K mg "_law_names" sNames ["_law_box", "_law_many"] (He.ga K "_law_names") _ := ⟨F__law_names, He.glo_ok X G (c.fact 44), F__law_names.binds fun _ _ _ _ _ _ us hl => match us, hl with | [_, _], _ => rfl⟩
  obtain ⟨oc23, od23, osl23, kV23, dc23, pm23, an23, cd23, ct23, l23, e23⟩ := c.def_ 23
  have F_law := fun_mk (x := "law") (qual := "law") (st := sLaw) (f := He.ga K "law") l23 e23 (He.keep_ok (c.fact 47))
  obtain rfl : fa = He.ga K "law" := Value.ref.inj (Option.some.inj (hfa.symm.trans (He.glo_ok X G (c.fact 46))))
  have m_len : mg "len" = none := He.free_ok X G (c.fact 48)
  have m_int : mg "int" = none := He.free_ok X G (c.fact 49)
  have m_divmod : mg "divmod" = none := He.free_ok X G (c.fact 50)
  have m_list : mg "list" = none := He.free_ok X G (c.fact 51)
  have m_isinstance : mg "isinstance" = none := He.free_ok X G (c.fact 52)
  have m_tuple : mg "tuple" = none := He.free_ok X G (c.fact 53)
  have m_all : mg "all" = none := He.free_ok X G (c.fact 54)
  have m_abs : mg "abs" = none := He.free_ok X G (c.fact 55)
  have m_zip : mg "zip" = none := He.free_ok X G (c.fact 56)
  have m_str : mg "str" = none := He.free_ok X G (c.fact 57)
  have m_bool : mg "bool" = none := He.free_ok X G (c.fact 58)
  have m_range : mg "range" = none := He.free_ok X G (c.fact 59)
  have m_enumerate : mg "enumerate" = none := He.free_ok X G (c.fact 60)
  have m_RuntimeError : mg "RuntimeError" = none := He.free_ok X G (c.fact 61)
  obtain ⟨t_LEAST, m_LEAST⟩ := He.int_ok X G (c.fact 62)
  obtain ⟨t_MOST, m_MOST⟩ := He.int_ok X G (c.fact 63)
  obtain ⟨t_LONGEST, m_LONGEST⟩ := He.int_ok X G (c.fact 64)
  obtain ⟨t_DEEPEST, m_DEEPEST⟩ := He.int_ok X G (c.fact 65)
  unfold K7.ck at hck
  simp only [Bool.and_eq_true] at hck
  obtain ⟨⟨⟨⟨⟨⟨⟨⟨⟨qF, qK⟩, qP⟩, qW⟩, qp⟩, qm⟩, qb⟩, qo⟩, qr⟩, qS⟩ := hck
  obtain ⟨ocI, odI, oslI, kVI, dcI, pmI, anI, cdI, ctI, lI, eI⟩ := c.def_ 24
  obtain ⟨tF, _, _⟩ := Fw.fell_of X G (c.fact 66) qF ⟨ocI, odI, oslI, kVI, dcI, pmI, anI, cdI, ctI, lI, eI⟩
  have m_NAME_KINDS : mg "NAME_KINDS" = some (.ref 35) := PySem.W.mg_of X G (He.eqO_ok qK)
  have m_PARTS : mg "PARTS" = some (.ref 36) := PySem.W.mg_of X G (He.eqO_ok qP)
  have m_SPOT : mg "SPOT_WORDS" = some (.ref 74) := PySem.W.mg_of X G (He.eqO_ok qW)
  have m_SUMS : mg "SUMS" = some (.ref 162) := PySem.W.mg_of X G (He.eqO_ok qS)
  have fl : (Fw.finObjs w K7.pr 36 231 K7.parts ("test", "meets", ["figure"])).length = 38 := rfl
  have hK : ∀ H, SqT K H 35 kindsV := fun H => Fw.tO_sqT (t := 227) (zs := ["name", "list", "figure"]) (hob 0 35 _ rfl rfl) (by decide)
  have hP : Fw.Parts PySem.Challenge.rw_figuredeeds_k07_looks_known_and_shared.prog w K 36 gP := Fw.parts_of (t := 231) (L := K7.parts) (p := ("test", "meets", ["figure"])) (fun i o ho => by
    have hi : i < 38 := by rw [← fl]; exact (List.getElem?_eq_some_iff.mp ho).1
    have ha : ∀ i, i < 38 → K7.as[i + 1]? = some (36 + i) := by decide
    refine hob (i + 1) (36 + i) o (ha i hi) ?_
    show (([Fw.tO 227 ["name", "list", "figure"]] ++ Fw.finObjs w K7.pr 36 231 K7.parts ("test", "meets", ["figure"])) ++ [Fw.tO 346 ["x", "y", "way", "number"]] ++ [Fw.dO (Fw.sEs w K7.pr 447 (Fw.svT K7.tn23))])[i + 1]? = some o
    rw [List.getElem?_append_left (by rw [List.length_append, List.length_append, fl]; show i + 1 < 1 + 38 + 1; omega), List.getElem?_append_left (by rw [List.length_append, fl]; show i + 1 < 1 + 38; omega)]
    exact ho) (by decide) (by decide +kernel) (fun x hx => by
    have : ∀ x ∈ K7.parts ++ ([("test", "meets", ["figure"])] : List Fw.PK), x.2.2.length ≤ 2 := by decide +kernel
    exact Nat.le_trans (this x hx) (by decide))
  have hW : K.lookup 74 = some (Fw.tO 346 ["x", "y", "way", "number"]) := hob 39 74 _ rfl rfl
  have hS : K.lookup 162 = some (Fw.dO (Fw.sEs w K7.pr 447 (Fw.svT K7.tn23))) := hob 40 162 _ rfl rfl
  refine ⟨K, _, X, F_law, fun s v => .of_eq rfl, fun base _ _ => ?_⟩
  let fs : BOp → Addr := fun o => match o with
    | .plus => He.ga K "plus" | .minus => He.ga K "minus" | .by_ => He.ga K "by" | .over => He.ga K "over" | .rest => He.ga K "rest"
  have kl : PySem.W.KeysLit w.params (Fw.sEs w K7.pr 447 (Fw.svT K7.tn23)) := ⟨⟨_, _, rfl, rfl⟩, ⟨_, _, rfl, rfl⟩, ⟨_, _, rfl, rfl⟩, ⟨_, _, rfl, rfl⟩, ⟨_, _, rfl, rfl⟩, trivial⟩
  have W : Wr K w mg 74 162 fs := ⟨m_SPOT, m_SUMS, ⟨_, _, _, hW, Fw.vals_toks _ _, by decide⟩, fun o => by
    cases o
    · exact ⟨_, _, _, hS, kl, He.eqO_ok qp, rfl⟩
    · exact ⟨_, _, _, hS, kl, He.eqO_ok qm, rfl⟩
    · exact ⟨_, _, _, hS, kl, He.eqO_ok qb, rfl⟩
    · exact ⟨_, _, _, hS, kl, He.eqO_ok qo, rfl⟩
    · exact ⟨_, _, _, hS, kl, He.eqO_ok qr, rfl⟩⟩

  have gN : FnG PySem.Challenge.rw_figuredeeds_k07_looks_known_and_shared.prog w K mg base CX0 1 "is_number" ["thing"] (spIsNum K) := D_is_number.g (ok_isNum D_is_number.F m_isinstance m_int m_bool)
  have gI : FnG PySem.Challenge.rw_figuredeeds_k07_looks_known_and_shared.prog w K mg base CX0 2 "is_value" ["thing"] spIsVal := D_is_value.g (ok_isVal D_is_value.F gN m_LEAST m_MOST)
  have gNB : FnG PySem.Challenge.rw_figuredeeds_k07_looks_known_and_shared.prog w K mg base CX0 1 "is_number" ["thing"] (spB K (fun _ => True) isNum) := D_is_number.g (ok_isNumB D_is_number.F m_isinstance m_int m_bool)
  have gIB : FnG PySem.Challenge.rw_figuredeeds_k07_looks_known_and_shared.prog w K mg base CX0 2 "is_value" ["thing"] (spB K (fun _ => True) isVal) := D_is_value.g (ok_isValB D_is_value.F gNB m_LEAST m_MOST)
  have gM : FnG PySem.Challenge.rw_figuredeeds_k07_looks_known_and_shared.prog w K mg base CX0 1 "is_name" ["thing"] (spB K TxOk isNm) := D_is_name.g (ok_isName D_is_name.F m_isinstance m_str m_len m_all m_LONGEST)
  have gW : FnG PySem.Challenge.rw_figuredeeds_k07_looks_known_and_shared.prog w K mg base CX0 1 "is_worded" ["thing"] (spB K (fun _ => True) isWd) := D_is_worded.g (ok_isWd D_is_worded.F m_isinstance m_tuple m_str m_len)
  have gPt := ok_parts (base := base) D_is_part D_has_parts (gM.mono (by decide)) (gIB.mono (by decide)) (gW.mono (by decide)) m_len m_all m_zip m_PARTS hP m_NAME_KINDS hK 6
  have gT : FnG PySem.Challenge.rw_figuredeeds_k07_looks_known_and_shared.prog w K mg base CX0 1 "_law_take" ["_law_box", "_law_many"] spTake := D__law_take.g (ok_take D__law_take.F m_divmod)
  have gNm : FnG PySem.Challenge.rw_figuredeeds_k07_looks_known_and_shared.prog w K mg base CX0 2 "_law_names" ["_law_box", "_law_many"] spNames := D__law_names.g (ok_names D__law_names.F gT m_len m_range)
  have gD : FnG PySem.Challenge.rw_figuredeeds_k07_looks_known_and_shared.prog w K mg base CX0 1 "_law_draws" ["_law_script", "_law_k"] (spDraws K) := D__law_draws.g (ok_draws D__law_draws.F m_len m_abs m_int)
  have gF : FnG PySem.Challenge.rw_figuredeeds_k07_looks_known_and_shared.prog w K mg base CX0 1 "_law_folded" ["_law_script", "_law_many"] (spFolded K) := D__law_folded.g (ok_folded D__law_folded.F m_list m_enumerate)
  have gS : FnG PySem.Challenge.rw_figuredeeds_k07_looks_known_and_shared.prog w K mg base CX0 3 "_law_same" ["_law_found", "_law_due"] (spSame K 3) := D__law_same.g (ok_same D__law_same.F ⟨m_isinstance, m_list, m_tuple, m_len, m_all, m_zip, m_str, m_int, m_bool⟩ D__law_same.m D__law_same.b 3)
  have L5 : Looks5 PySem.Challenge.rw_figuredeeds_k07_looks_known_and_shared.prog w K mg base _ _ 74 162 fs := ⟨tF, W, gN.mono (by decide), gI.mono (by decide), D_first_of.g (ok_first tF D_first_of.F), D_place_in.g (ok_place tF D_place_in.F m_len), fun o => by
    cases o
    · exact ⟨_, _, ok_plus D_plus.F, D_plus.F.kp, D_plus.b⟩
    · exact ⟨_, _, ok_minus D_minus.F, D_minus.F.kp, D_minus.b⟩
    · exact ⟨_, _, ok_by D_by.F, D_by.F.kp, D_by.b⟩
    · exact ⟨_, _, ok_over tF D_over.F, D_over.F.kp, D_over.b⟩
    · exact ⟨_, _, ok_rest tF D_rest.F, D_rest.F.kp, D_rest.b⟩⟩
  have gVs := ok_values L5 m_len D_value_of D_outcome
  exact ⟨gF.mono (by decide), gD.mono (by decide), gNm.mono (by decide), gT.mono (by decide), gS.mono (by decide), FnT.mono ⟨_, _, Fd.FnOk.calm (value6 L5 m_len D_value_of D_outcome) valOk, D_value_of.m, D_value_of.F.kp, D_value_of.b, fun _ us _ hl => match us, hl with | [_, _], _ => .of_eq rfl⟩ (by decide), FnT.mono ⟨_, _, Fd.FnOk.calm (hold6 tF D_holds gVs) holdOk, D_holds.m, D_holds.F.kp, D_holds.b, fun _ us _ hl => match us, hl with | [_, _], _ => .of_eq rfl⟩ (by decide),
    FnT.mono ⟨_, _, ok_isLk D_is_look.F gPt m_DEEPEST, D_is_look.m, D_is_look.F.kp, D_is_look.b, fun _ us _ hl => match us, hl with | [_], _ => .of_eq rfl⟩ (by decide), FnT.mono ⟨_, _, ok_isTs D_is_test.F gPt m_DEEPEST, D_is_test.m, D_is_test.F.kp, D_is_test.b, fun _ us _ hl => match us, hl with | [_], _ => .of_eq rfl⟩ (by decide), m_len, m_range⟩
end Fd

open PySem PySem.W PyProof.Rows
set_option Elab.async false
set_option linter.all false
set_option maxRecDepth 100000 in
set_option maxHeartbeats 0 in
theorem PySem.Challenge.cw_figuredeeds_k07_looks_known_and_shared_holds : PySem.Challenge.rw_figuredeeds_k07_looks_known_and_shared.Holds := by
  w_on; o_law
  refine Fw.head_many (r := K7.R) (D := K7.D) (q := K7.q) (loose := K7.loose) (H := Fw.hookY K7.fa K7.fn K7.ck K7.as 234 K7.objs) (ob := Fw.obY K7.fa K7.fn K7.ck K7.as 234) (d := HandSHeadRun.topDef K7.R.prog 35) (kwd := []) rfl K7.D_ok (fun s => Fw.obY_eq _ _ _ _ _ _ s) K7.op_ok K7.fe_ok K7.run
    (by kernel_rfl) (by kernel_rfl) (by kernel_rfl) (by rfl) (by first | assumption | decide +kernel) (by decide +kernel) ⟨rfl, rfl, rfl, rfl, rfl, by decide +kernel⟩ ?hw ?hc
  case hw => w_witness2
  case hc =>
    refine Fd.walk_ex (l := PySem.Challenge.rw_figuredeeds_k07_looks_known_and_shared) (n := 63) rfl (by decide) (by kernel_rfl) (by kernel_rfl) ?F
    intro w mg fa h Y G hmg
    exact Fd.law_mk Y G hmg

