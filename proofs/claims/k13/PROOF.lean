import PyProof.Rows.All
import Wide.All
import OpenK.AllK
import Wide.FinOn
import PyProof.EqAt
import PyProof.EqKinds
import PyProof.TupleCall
import KE.KExcInit
import KE.KExcIs
import HandS.ForMost
import HandS.ForExc
import HandS.IsInst
import HandS.ExcValue
import HandS.ExcField
import HandS.ExcOwn
import HandS.Codes
import HandS.Head0
import HandS.Head1
import HandS.Head2
import KE.KDictDisplayH
import HandS.HeadHook1
import HandS.Walk
import HandS.Dict
import HandS.ExcIs
import HandS.Strs
import HandS.More
import HandS.List
import HandS.TupMul
import HandS.Sort
import HandS.Style
import HandS.Wide
import HandS.Zip
import HandS.Star
import HandS.Deep
import HandS.TupAny
import HandS.TupLe
import HandS.Ends
import HandS.Words
import PySem.Challenge.RW_figuredeeds_k13_plays_at_the_bounds
set_option Elab.async false
set_option linter.all false
set_option maxRecDepth 100000
set_option maxHeartbeats 2000000
namespace PySem
namespace FellX
open PySem.W PySem.Calls PyProof.Rows PySem.HandSPX Builtin Builtin.ObjectAttr
abbrev rtTail : List Value := [.type "RuntimeError", .type "Exception", .type "BaseException", .type "object"]
/-- a first field of a fresh error whose class stands straight under RuntimeError -/
theorem rt_osa {prog : Program} {w : World} {A : Around} {R : Result → Shared → Prop} {hp : Heap} {gs : Array GenState} {dr : Drawn} {n : Nat} {os : OsState}
    {K : W.Frag} {f : Str} {tk : Tok} {v : Value} {x C : Addr} {fv : Array Value} {cd : ClassData} (X : K.In hp)
    (hx : hp.get? x = some { cls := .ref C, data := .fields fv }) (hcd : W.clsIn K C = some cd) (hm : cd.mro = .ref C :: rtTail) (hh : cd.hasDict = true)
    (ha : W.findIn K (.ref C) f = some none)
    (hq : ∀ h' tk' dx, (∀ b o, b ≠ x → hp.get? b = some o → h'.get? b = some o) → hp.objs.size ≤ dx → dx ≠ x →
      h'.get? x = some { cls := .ref C, dict := some dx, data := .fields fv } → h'.Ns1 dx (fun y => if y = f then some v else none) →
      R (.ok (.ret .none)) ⟨h', gs, dr, tk', os⟩) :
    codeAny (model prog w) A (.call (.builtin "object.__setattr__") ⟨[.ref x, .str f tk, v], []⟩) R ⟨hp, gs, dr, n, os⟩ := by
  have J : W.InstAt hp x { cls := .ref C, data := .fields fv } C none := ⟨hx, rfl, rfl, trivial⟩
  have S := F.store_object
  have hob : cd.mro.contains (.type "object") = true := by
    rw [hm, List.contains_cons, show rtTail.contains (.type "object") = true by decide +kernel, Bool.or_true]
  have xs : x ≠ hp.objs.size := Nat.ne_of_lt (Heap.lt_size hx)
  have su : W.Looks (model prog w) hp (isInstance (.ref x) (.type "object")) true := J.type.andThen
    (W.looks_mroIn X (by unfold W.mroIn; rw [hcd, Option.bind_some, if_neg (by rw [hm]; intro z; cases z), hob]))
  refine codeAny_call_builtin S.slot.plain S.entry
    (@W.check_slot (model prog w) _ _ ⟨hp, gs, dr, n, os⟩ "object.__setattr__" "object" "__setattr__" (.ref x) [.str f tk, v] [] _ S.kind S.split su
      (S.args (.ref x) (.str f tk) v) ?_)
  have lm : W.Looks (model prog w) hp (mroOf (.ref C)) cd.mro := (W.looks_clsIn X hcd).andThen .now
  have lt : W.Looks (model prog w) hp (storeTaker? none) none := .now
  have lc : W.Looks (model prog w) hp (classData C) cd := W.looks_clsIn X hcd
  rw [W.osa_eq, refuse_eq]
  refine wpAny_bind (wpAny_bind (J.type.at (wpAny_bind (lm.at ?_))))
  rw [hm, refuseLoop_ref, show refuseLoop (Value.ref x) "__setattr__" rtTail = pure () from F.store_RuntimeError.passes _]
  refine wpAny_pure (wpAny_bind (J.type.at (wpAny_bind
    ((W.looks_findIn X ha).at (wpAny_bind (lt.at ?_))))))
  show wpAny _ _ (storeInOwnDict (.ref x) (.ref C) (.str f tk) f v false) _ _ _
  obtain ⟨_, _, mro, _, _, hd, _, _, _, _, _⟩ := cd
  dsimp only at hh
  subst hh
  unfold storeInOwnDict ownDictForStores
  repeat (first
    | with_reducible refine store_in_new ?_ ?_
    | with_reducible refine wpAny_loadPart_at hx ?_
    | with_reducible refine lc.at ?_
    | wp_step)
  · exact ⟨_, #[], _, (Heap.get?_update_ne _ _ _ _ xs.symm).trans (Heap.get?_push_at rfl rfl), rfl,
      fun e he => absurd he (by simp), fun _ => rfl⟩
  · intro h' tk' hn' hs
    have hx' : (hp.push { cls := .type "dict", data := .dict #[] }).get? x = some { cls := .ref C, data := .fields fv } :=
      Heap.get?_push_of_some _ hx
    refine hq h' tk' hp.objs.size (fun b o nb e => ?_) (Nat.le_refl _) xs.symm ?_ hn'
    · exact (hs.2 b (Nat.ne_of_lt (Heap.lt_size e))).trans
        ((Heap.get?_update_ne _ _ _ _ nb).trans (Heap.get?_push_of_some _ e))
    · exact (hs.2 x xs).trans (Heap.get?_update_self _ hx' rfl)
end FellX
end PySem
namespace PySem
namespace FellX
open PySem.W PySem.Calls PyProof.Rows PySem.HandSPX
/-! ### the text of __init__ -/
def iA (p1 p2 : Pos) : Arguments := { posonlyargs := [], args := [{ arg := "self", annotation := none, pos := p1 }, { arg := "word", annotation := none, pos := p2 }], vararg := none, kwonlyargs := [], kw_defaults := [], kwarg := none, defaults := [] }
def iB (q1 q2 q3 q4 : Pos) : List Stmt := [.Assign [.Attribute (.Name "self" q1) "word" q2] (.Name "word" q3) q4]
def iS : Scope := { kind := .function, names := [(PySem.Str.ofString "self", .local), (PySem.Str.ofString "word", .local)], isGenerator := false, isCoroutine := false, more := [] }
/-- what the written part says of Fell, at C, and of its __init__, at fI -/
structure FellTxt (K : Frag) (mg : Str → Option Value) (C fI : Addr) : Prop where
  gC : mg "Fell" = some (.ref C)
  cls : ∃ nm q N bs bm sn sub ab col dd k0 k1 k2 k3 k5, K.lookup C = some (excClassObj nm q C N bs bm true sn sub ab col dd k0 k1 k2 k3 k5 "RuntimeError.__new__") ∧ bm = rtTail
  sa : findIn K (.ref C) "__setattr__" = some (some (.builtin "object.__setattr__"))
  ga : findIn K (.ref C) "__getattribute__" = some (some (.builtin "BaseException.__getattribute__"))
  gg : findIn K (.ref C) "__getattr__" = some none
  noN : findIn K (.ref C) "word" = some none
  iC : findIn K (.ref C) "__init__" = some (some (.ref fI))
  tC : typeIn K (.ref fI) = some (.type "function")
  kC : keepIn K (.ref C) = true
  exC : subIn K (.ref C) (.type "BaseException") = some true
  tyC : typeIn K (.ref C) = some (.type "type")
  hdC : hasDictIn K C = true
  te : exmOne K (.ref C) (.ref C) = some true
  fn : ∃ (oc : Value) (od : Option Addr) (doc pm : Value) (an : Option Addr) (cdv ct : Value) (osl : Array (Option Value)) (p1 p2 q1 q2 q3 q4 : Pos),
    K.lookup fI = some ⟨oc, od, .func (fnOf "__init__" "Fell.__init__" (iA p1 p2) (iB q1 q2 q3 q4) iS .none .none doc pm an cdv ct), osl⟩ ∧ codeIn K cdv "Fell.__init__" = true
theorem one_size (v : Value) : [v].length ≤ sizeLine := by
  rw [sizeLine_eq]
  exact (by decide : 1 ≤ 16777216)
theorem kept_but {K : Frag} {h h' : Heap} {x : Addr} (X : K.In h) (hx : K.lookup x = none) (k : ∀ b o, b ≠ x → h.get? b = some o → h'.get? b = some o) : K.In h' := fun a o e =>
  k a o (fun z => by rw [z, hx] at e; cases e) (X a o e)
theorem ldC {M : Model} {s : Shared} {name : Str} {scope : Scope} {L a : Addr} {cd : Value} {m : Str → Option Value} {x : Str} {pos : Pos} {v : Value} {Q : Value → Shared → Prop} {A : Around} {E : Value → Shared → Prop} (hn : s.heap.Ns L m) (hv : m x = some v) (h : Q v s)
    (hk : scope.kind = .function := by rfl) (hl : (envOfC name scope L a cd).kindOf x = some .local := by rfl) (hd : (x == ("__debug__" : Str)) = false := by decide) :
    wpAny M A (eval (.Name x pos) (envOfC name scope L a cd)) Q E s := wpAny_Name (wpAny_loadName_local hk hl hn hv h) hd
/-- what __init__ leaves of a fresh exception at x -/
structure InitEnd (h h' : Heap) (x C dx t1 : Addr) (v : Value) : Prop where
  keep : ∀ b o, b ≠ x → h.get? b = some o → h'.get? b = some o
  obj : h'.get? x = some { cls := .ref C, dict := some dx, data := .fields #[.ref t1, .none, .none, .none, .bool false, .none] }
  dbig : h.objs.size ≤ dx
  dne : dx ≠ x
  ns : h'.Ns1 dx (fun y => if y = "word" then some v else none)
/-- a made Fell -/
structure OwnMade (h h' : Heap) (e C d : Addr) (v : Value) : Prop where
  keep : ∀ b o, h.get? b = some o → h'.get? b = some o
  new : h.objs.size ≤ e
  obj : ∃ oe vs, h'.get? e = some oe ∧ oe.cls = .ref C ∧ oe.dict = some d ∧ oe.data = .fields vs ∧ vs[1]? = some .none
  dbig : h.objs.size ≤ d
  dne : d ≠ e
  ns : h'.Ns1 d (fun y => if y = "word" then some v else none)
section
variable {prog : Program} {w : World} {A : Around} {E : Value → Shared → Prop} {R : Result → Shared → Prop} {s : Shared} {K : Frag} {mg : Str → Option Value} {C fI : Addr}
theorem fell_init (T : FellTxt K mg C fI) {x t0 : Addr} {v : Value} (X : K.In s.heap) (hlim : s.heap.NoLimit) (hx : s.heap.get? x = some (excO C t0)) (hnx : K.lookup x = none) (hroom : A.depth < recursionLimit)
    (hq : ∀ h' tk dx, InitEnd s.heap h' x C dx t0 v → R (.ok (.ret .none)) { s with heap := h', toks := tk }) :
    codeAny (model prog w) A (.call (.ref fI) ⟨[.ref x, v], []⟩) R s := by
  obtain ⟨oc, od, doc, pm, an, cdv, ct, osl, p1, p2, q1, q2, q3, q4, ho, hcd⟩ := T.fn
  obtain ⟨nm, q, N, bs, bm, sn, sub, ab, col, dd, k0, k1, k2, k3, k5, hC, hbm⟩ := T.cls
  have hcl : clsIn K C = some { name := nm, bases := bs, mro := .ref C :: bm, ns := N, qualname := q, hasDict := true, slotNames := sn, subclasses := sub, abstract := ab, collection := col, hasDel := false } := by unfold clsIn; rw [hC] <;> rfl
  refine Att.call_fn (binds := [("self", .ref x), ("word", v)]) X hlim ho hcd hroom (BindsTo.of_eq (by first | rfl | with_unfolding_all rfl)) (by first | rfl | decide | with_unfolding_all rfl) (fun s₁ IC => ?_) rfl rfl rfl
  obtain ⟨h₁, tk₁, rfl⟩ := IC.toInCall.same
  have k : ∀ b o, s.heap.get? b = some o → h₁.get? b = some o := IC.toInCall.keep
  have hn := IC.toInCall.ns
  have hxL : s.heap.objs.size ≠ x := Nat.ne_of_gt (Heap.lt_size hx)
  have X₁ : K.In h₁ := X.keeps k
  have hx₁ := k _ _ hx
  -- self.by = by
  show wpAny _ _ (execs _ _) _ _ _
  refine wpAny_execs_cons (plainObj_wpAny_Assign_Attribute ?_)
  refine ldC (v := v) hn (by first | rfl | with_unfolding_all rfl | kernel_rfl) (ldC (v := .ref x) hn (by first | rfl | with_unfolding_all rfl | kernel_rfl) ?_)
  refine set_plain X₁ (ox := excO C t0) (od := none) ⟨hx₁, rfl, rfl, trivial⟩ T.sa ?_
  refine rt_osa X₁ hx₁ hcl (show (Value.ref C :: bm) = .ref C :: rtTail by rw [hbm]) rfl T.noN (fun h₃ tk₃ dx k₃ dn dne hx₃ hn₃ => ?_)
  show wpAny _ _ (execs _ _) _ _ _
  have z : s.heap.objs.size < h₁.objs.size := hn.lt
  exact wpAny_execs_nil (hq h₃ tk₃ dx ⟨fun b o hb e => k₃ b o hb (k b o e), hx₃, Nat.le_of_lt (Nat.lt_of_lt_of_le z dn), dne, hn₃⟩)
theorem fell_made (T : FellTxt K mg C fI) {v : Value} (X : K.In s.heap) (hlim : s.heap.NoLimit) (hroom : A.depth + 1 < recursionLimit)
    (hq : ∀ h' tk e d, OwnMade s.heap h' e C d v → R (.ok (.ret (.ref e))) { s with heap := h', toks := tk }) :
    codeAny (model prog w) A (.call (.ref C) ⟨[v], []⟩) R s := by
  obtain ⟨nm, q, N, bs, bm, sn, sub, ab, col, dd, k0, k1, k2, k3, k5, hC, hbm⟩ := T.cls
  obtain ⟨hp, g, dr, tk, os⟩ := s
  have k : ∀ b o, hp.get? b = some o → ((hp.push (kdv_tup [v])).push (excO C hp.objs.size)).get? b = some o := fun b o e => Heap.get?_push_of_some _ (Heap.get?_push_of_some _ e)
  have hget : ((hp.push (kdv_tup [v])).push (excO C hp.objs.size)).get? (hp.objs.size + 1) = some (excO C hp.objs.size) := by heap_get
  have hnx : K.lookup (hp.objs.size + 1) = none := by
    cases e : K.lookup (hp.objs.size + 1) with
    | none => rfl
    | some o =>
      have z : hp.get? (hp.objs.size + 1) = some o := X _ _ e
      exact absurd (Nat.lt_of_succ_lt (Heap.lt_size z)) (Nat.lt_irrefl _)
  refine call_own F.excBase_RuntimeError (fun X => by rw [hbm]) (X _ _ hC) (looks_findIn X T.iC) (fun self => bind_fn X self T.tC) (one_size v) ?_
  refine fell_init (s := ⟨(hp.push (kdv_tup [v])).push (excO C hp.objs.size), g, dr, tk, os⟩) T (X.keeps k) (hlim.keeps k) hget hnx ?_ fun h' tk' dx ⟨k', hx, dn, dne, hns⟩ => ?_
  · show A.depth + 1 < recursionLimit
    exact hroom
  · have old : ∀ b o, hp.get? b = some o → h'.get? b = some o := fun b o e => k' b o (Nat.ne_of_lt (Nat.lt_succ_of_lt (Heap.lt_size e))) (k b o e)
    have z : hp.objs.size + 1 + 1 ≤ dx := by
      first
        | (simpa only [Heap.size_push] using dn)
        | exact dn
        | (have q := dn; rw [Heap.size_push, Heap.size_push] at q; exact q)
    exact ⟨rfl, hq h' tk' (hp.objs.size + 1) dx ⟨old, Nat.le_succ _, ⟨_, _, hx, rfl, rfl, rfl, rfl⟩, Nat.le_trans (Nat.le_trans (Nat.le_succ _) (Nat.le_succ _)) z, dne, hns⟩⟩
end
end FellX
end PySem
namespace L2
open PySem PySem.Spec PyProof.Rows
theorem relO_fell {v : V} {v' : Value} (r : RelV v v') (f : Str) : RelO (List.lookup f [(("word" : Str), v)]) (if f = "word" then some v' else none) := by
  by_cases hw : f = "word"
  · subst hw
    rw [if_pos rfl]
    have q : List.lookup ("word" : Str) [(("word" : Str), v)] = some v := by simp [List.lookup]
    rw [q]
    exact r
  · rw [if_neg hw]
    have qw : (f == ("word" : Str)) = false := by simpa using hw
    have q2 : List.lookup f [(("word" : Str), v)] = none := by simp [List.lookup, qw]
    rw [q2]
    trivial
section
variable {X : Cx} {C fI : Addr}
/-- Fell(e) -/
def tMkFell (C : Addr) (ta : TA) : St → Hp → XK → Prop := fun σ H Q => ta σ H fun vs H1 => ∃ v, vs = [v] ∧ ∀ d, H1 d = none → Q (.ref C) (some d) (upd H1 d (.xd [(("word" : Str), v)]))
theorem pmk_fell {a : Expr} {ta : TA} {p pos : Pos} {k : Nat} (T : PySem.FellX.FellTxt X.K X.mg C fI) (hr : Room k X.A) (ha : PA X [a] ta) (hg : Gl X "Fell" := by rfl)
    (he : starEach (a :: []) X.env = (false, eval a X.env) :: starEach [] X.env := by rfl) (hpl : (backTo pos (starEach [] X.env)).any (·.1) = false := by rfl) :
    PMk X (.Call (.Name "Fell" p) [a] [] pos) (tMkFell C ta) := by
  intro pins s σ H Q I h
  refine wpAny_Call_Name_kw (ld_glob I hg T.gC ?_)
  refine PySem.W.callWith_K (h₀ := X.base) I.ok.mod.kin T.kC (thn (ha.run pos pins s σ H _ I h) fun us s1 hh => ?_) he hpl
  obtain ⟨vs, H1, I1, r1, v, ev, q1⟩ := hh
  subst ev
  refine ⟨I1.kIn, ?_⟩
  cases r1 with
  | cons rv rn =>
    rename_i v' us'
    cases rn
    show wpAny _ _ (call (.ref C) [v']) _ _ _
    have hlim := I1.nolimit
    obtain ⟨hp, g, dr, tk, os⟩ := s1
    refine wpAny_call (PySem.FellX.fell_made T I1.kIn hlim (by have := hr.dp; omega) fun h' tk' e d M => ?_)
    show MkP X pins σ Q (.ref e) ⟨h', g, dr, tk', os⟩
    obtain ⟨oe, fv, hoe, hc, hd, hdat, h1⟩ := M.obj
    have hns := M.ns
    obtain ⟨G', g1, g2⟩ := restrict h' fun b => decide (b ≠ e)
    have gk : ∀ b, b ≠ e → G'.get? b = h'.get? b := fun b hb => g1 b (decide_eq_true hb)
    have ge : G'.get? e = none := g2 e (by simp)
    have old : ∀ b o, hp.get? b = some o → G'.get? b = some o := fun b o q => (gk b (Nat.ne_of_lt (Nat.lt_of_lt_of_le (Heap.lt_size q) M.new))).trans (M.keep b o q)
    have ob : ObjOk X.prog X.w (upd H1 d (.xd [(("word" : Str), v)])) G' d (.xd [(("word" : Str), v)]) :=
      ⟨_, hns.at (fun o q => (gk d M.dne).trans q), fun f => relO_fell rv f⟩
    have J : Inv X pins σ (upd H1 d (.xd [(("word" : Str), v)])) ⟨G', g, dr, tk', os⟩ := I1.laid (t' := tk') old M.dbig ob
    refine ⟨e, oe, fv, ⟨G', g, dr, tk', os⟩, _, .ref C, some d, rfl, J, fun b o q => ?_, ge, hoe, ⟨hc, hd⟩, hdat, h1, ?_, rfl, I1.bare, raises_own T.exC T.tyC, q1 d (I1.hok.fresh M.dbig)⟩
    · by_cases hb : b = e
      · have q' : G'.get? b = some o := q
        rw [hb, ge] at q'; cases q'
      · exact (gk b hb).symm.trans q
    · rw [upd_ne (Ne.symm M.dne)]
      exact I1.hok.fresh M.new
/-- raise Fell(e) -/
def tRaiseFell (C : Addr) (W : WX) (ta : TA) : TS := fun _ σ H => tMkFell C ta σ H fun cls d H' => W cls d σ H'
theorem ps_raiseFell {a : Expr} {ta : TA} {W : WX} {p pos pos2 : Pos} {k : Nat} (hc : X.calm = true) (T : PySem.FellX.FellTxt X.K X.mg C fI) (hr : Room k X.A) (tk : Takes X W) (ha : PA X [a] ta) (hg : Gl X "Fell" := by rfl)
    (he : starEach (a :: []) X.env = (false, eval a X.env) :: starEach [] X.env := by rfl) (hpl : (backTo pos (starEach [] X.env)).any (·.1) = false := by rfl) :
    PS X (.Raise (some (.Call (.Name "Fell" p) [a] [] pos)) none pos2) (tRaiseFell C W ta) := ps_raise hc tk (pmk_fell T hr ha hg he hpl)
/-- low.by, low the exception that the suite holds (at a; its class cls, its dict d) -/
def tWord (C : Addr) (a : Addr) (cls : Value) (d : Option Addr) (te : TE) : TE := fun σ H Q => te σ H fun x H1 => x = .ref a ∧ cls = .ref C ∧ ∃ (dd : Addr) (v : V), d = some dd ∧ H1 dd = some (.xd [(("word" : Str), v)]) ∧ Q v H1
theorem pe_word {a : Addr} {oe : Obj} {cls : Value} {d : Option Addr} {pn : List (Addr × Obj)} {e : Expr} {te : TE} {pos : Pos} (T : PySem.FellX.FellTxt X.K X.mg C fI) (hz : Zc cls d oe) (hf : ∃ vs, oe.data = .fields vs) (he : PE (X.suite a ((a, oe) :: pn)) e te)
    (hb : attributeBase e "word" X.env (eval e X.env) = eval e X.env := by rfl) :
    PE (X.suite a ((a, oe) :: pn)) (.Attribute e "word" pos) (tWord C a cls d te) := by
  refine ⟨fun pins s σ H Q I h => ?_⟩
  refine attr_of hb (thn (he.run pins s σ H _ I h) fun u s1 hh => ?_)
  obtain ⟨x, H1, I1, rx, ex, ec, dd, v, ed, ea, q⟩ := hh
  subst ex
  obtain rfl : u = Value.ref a := rx
  subst ec
  subst ed
  obtain ⟨ha, _⟩ := I1.pin (a, oe) (List.mem_append_left _ List.mem_cons_self)
  obtain ⟨vs, hd⟩ := hf
  have hx : ObjOk X.prog X.w H1 s1.heap dd (.xd [(("word" : Str), v)]) := I1.hok dd _ ea
  obtain ⟨mA, hns, hr⟩ := hx
  obtain ⟨od, ho, hl⟩ := lookIn_ns hns
  have l : List.lookup ("word" : Str) [(("word" : Str), v)] = some v := by simp [List.lookup]
  obtain ⟨u, hu, ru⟩ := RelO.some_of (v := v) (o := mA "word") (by rw [← l]; exact hr "word")
  have J : PySem.W.InstAt s1.heap a oe C (some od) := ⟨ha, hz.1, by unfold PySem.W.notCls; rw [hd] <;> rfl, by rw [hz.2]; exact ho⟩
  exact HandSPX.exc_get I1.kIn J T.ga T.gg T.exC (PySem.W.findObj_own T.hdC T.noN rfl (by rw [hl, hu])) (handed_of ru) ⟨v, H1, I1.tok _, ru, q⟩
end
end L2


set_option Elab.async false
set_option linter.all false
set_option maxRecDepth 100000
set_option maxHeartbeats 2000000
/-! A try whose suite keeps the error by another name: behind it the error is tracked, its class and its fields are read. -/
namespace L2
open PySem PySem.Spec PyProof.Rows
/-- a caught error at a: its class, its own dict -/
def ErrO (cls : Value) (d : Option Addr) (a : Addr) : HO :=
  .ext fun h => ∃ (oe : Obj) (vs : Array Value), h.get? a = some oe ∧ Zc cls d oe ∧ oe.data = .fields vs
theorem errO_at {P : Program} {w : World} {H : Hp} {h : Heap} {a : Addr} {cls : Value} {d : Option Addr}
    (hk : HOk P w H h) (e : H a = some (ErrO cls d a)) : ∃ (oe : Obj) (vs : Array Value), h.get? a = some oe ∧ Zc cls d oe ∧ oe.data = .fields vs :=
  (show ObjOk P w H h a (ErrO cls d a) from hk a _ e).1
section
variable {X : Cx} {pins : List (Addr × Obj)} {σ : St} {H : Hp} {s : Shared}
/-- what was pinned is tracked from here on -/
theorem Inv.track {a : Addr} {oe : Obj} {cls : Value} {d : Option Addr} (I : Inv X ((a, oe) :: pins) σ H s) (hz : Zc cls d oe) (hf : ∃ vs, oe.data = .fields vs)
    (h0 : ∀ o, X.s_0.heap.get? a = some o → a ∉ X.ex → False) (hp : ∀ p ∈ X.pn ++ pins, p.1 ≠ a) : Inv X pins σ (upd H a (ErrO cls d a)) s := by
  have mem : (a, oe) ∈ X.pn ++ (a, oe) :: pins := List.mem_append_right _ List.mem_cons_self
  obtain ⟨ga, na, nl, nf, nc⟩ := I.pin _ mem
  dsimp only at ga na nl nf nc
  obtain ⟨vs, hv⟩ := hf
  have ne : ∀ {b : Addr} {o : HO}, H b = some o → b ≠ a := fun q => ne_of_none q na
  refine ⟨I.ok, I.os, I.bare, ⟨I.base.keep, I.base.slot, fun b o e n hx => ?_, I.base.there, fun b xs q => ?_, fun b o u q => ?_, fun b ps q => ?_⟩,
    I.loc, I.cell, ?_, fun x c e => ?_, fun p hm => ?_, ?_, I.len⟩
  · by_cases hb : b = a
    · subst hb
      exact (h0 o e hx).elim
    · rw [upd_ne hb]
      exact I.base.free b o e n hx
  · have q' := I.base.tups b xs q
    rw [upd_ne (ne q')]
    exact q'
  · have q' := I.base.frzs b o u q
    rw [upd_ne (ne q')]
    exact q'
  · obtain ⟨more, q'⟩ := I.base.tbls b ps q
    exact ⟨more, by rw [upd_ne (ne q')]; exact q'⟩
  · rw [upd_ne nl.symm]
    exact I.free
  · have nca : c ≠ a := fun z => by
      obtain ⟨v, o, go, hd⟩ := I.cell x c e
      rw [z, ga] at go
      cases go
      exact nc _ hd
    rw [upd_ne nca]
    exact I.freeC x c e
  · have hm' : p ∈ X.pn ++ (a, oe) :: pins := by
      rcases List.mem_append.mp hm with z | z
      · exact List.mem_append_left _ z
      · exact List.mem_append_right _ (List.mem_cons_of_mem _ z)
    obtain ⟨g1, n1, r1⟩ := I.pin p hm'
    exact ⟨g1, by rw [upd_ne (hp p hm)]; exact n1, r1⟩
  · exact I.hok.laidN (fun _ _ q => q) na ⟨⟨oe, vs, ga, hz, hv⟩, ⟨oe, ga⟩, fun _ _ ⟨o, v, q, r⟩ k => ⟨o, v, k o q, r⟩⟩
end
/-- what «except x as n» wishes of an error of the body, the error being tracked behind the suite -/
def wKeep (K : PySem.W.Frag) (c : Value) (i : Nat) (ts : Addr → Value → Option Addr → TS) (Wout : WX) (D : Ends) : WX := fun cls d σ H =>
  ∃ b, PySem.W.exmOne K cls c = some b ∧ (b = false → Wout cls d σ H) ∧ (b = true → ∀ a, H a = none →
    ts a cls d ({ nx := fun σ' H' => H' a = none → D.nx (σ'.set i none) (upd H' a (ErrO cls d a)), rt := fun _ _ => False, bk := fun _ _ => False, ct := fun _ _ => False } : Ends) (σ.set i (some (.ref a))) H)
section
variable {X : Cx} {x n : Str} {c : Value} {i : Nat} {body suite : List Stmt} {b₀ : Stmt} {np pos pos' : Pos} {tb : WX → TS} {ts : Addr → Value → Option Addr → TS} {Wout : WX}
theorem ps_try_keep (hs : X.stack = X.env :: X.outer) (hf : X.env.frame = some X.env.locals) (hN : X.N.Nodup) (hi : X.N[i]? = some n)
    (hln : X.env.kindOf n = some .local) (hc : Names X x c) (tk : Takes X Wout)
    (hb : ∀ (W : WX) (pn : List (Addr × Obj)) (xe : Value → Shared → Prop), Takes (X.tr pn xe) W →
      PassesOwn (model X.prog X.w) X.A X.env xe → PSs (X.tr pn xe) body (tb W))
    (hsu : ∀ (a : Addr) (oe : Obj) (cls : Value) (d : Option Addr) (pn : List (Addr × Obj)), Zc cls d oe → (∃ vs, oe.data = .fields vs) →
      PSs (X.suite a ((a, oe) :: pn)) (b₀ :: suite) (ts a cls d)) :
    PS X (.Try body [.ExceptHandler (some (.Name x np)) (some n) (b₀ :: suite) pos'] [] [] pos) (fun D σ H => tb (wKeep X.K c i ts Wout D) D σ H) := by
  refine ⟨fun pins s σ H D I h => ?_⟩
  have fr : X.A.frames = some (X.env :: X.outer) := by rw [I.ok.frames, hs]
  refine wpAny_Try_except ?_
  refine wpAny_mono ((hb (wKeep X.K c i ts Wout D) (X.pn ++ pins)
    (fun e s₁ => wpAny (model X.prog X.w) X.A (noteFrame e X.env) (fun _ s₂ =>
      wpAny (model X.prog X.w) X.A (setFlight e none) (fun _ s₃ =>
        wpAny (model X.prog X.w) X.A (handleBy e X.env [.ExceptHandler (some (.Name x np)) (some n) (b₀ :: suite) pos'])
          (SP X pins D) X.xe s₃) X.xe s₂) X.xe s₁)
    (fun u s' xx => ?_) PassesOwn.looking).run [] s σ H D (I.toTry _) h) (fun f s1 end1 => ?_) (fun e s1 he => he)
  · obtain ⟨a, B, sI, pi', σ1, H1, cls, d, rfl, I1', nb, up, sky, na, os, ag, b, hb1, hno, hyes⟩ := xx
    have I1 : Inv X pins σ1 H1 sI := I1'.ofTry I.ok
    have sk : Sky B (X.env :: X.outer) a (Zc cls d) X.env.locals s'.heap := by rw [← hs]; exact sky
    show wpAny (model X.prog X.w) X.A (noteFrame (.ref a) X.env) _ _ _
    refine Sky.land Zc.steady fr hf sk fun h3 fl up3 => ?_
    have I3 : Inv X pins σ1 H1 { s' with heap := h3 } := I1.landed nb fl.1 (up.trans up3) os ag
    obtain ⟨o3, v3, g3, z3, d3⟩ := fl.there
    have nfr : a ∉ frs (X.env :: X.outer) := fun hm => by
      obtain ⟨_, o', e', hnf⟩ := fl.2.2.1.mem hm
      rw [g3] at e'
      cases e'
      exact hnf _ d3
    have nL : a ≠ X.env.locals := fun z => nfr (List.mem_filterMap.mpr ⟨X.env, List.mem_cons_self, by rw [hf, z]⟩)
    have nF : a ∉ X.fs := fun hm => by
      obtain ⟨e, he, q⟩ := List.mem_filterMap.mp hm
      exact nfr (List.mem_filterMap.mpr ⟨e, List.mem_cons_of_mem _ he, q⟩)
    have nB : B.get? a = none := by
      rcases sky with z | z | z
      · exact z.2.1
      · exact z.2.1
      · exact z.2.1
    have gone : ∀ {b : Addr} {o : Obj}, sI.heap.get? b = some o → b ∉ frs X.stack → b ≠ a := fun {b o} q hb z => by
      have q' := nb b o q hb
      rw [z, nB] at q'
      cases q'
    have h0 : ∀ o, X.s_0.heap.get? a = some o → a ∉ X.ex → False := fun o q hx => by
      obtain ⟨o', q'⟩ := I1.base.there a o q hx
      exact gone q' (by rw [hs]; exact nfr) rfl
    have hp : ∀ p ∈ X.pn ++ pins, p.1 ≠ a := fun p hm => by
      obtain ⟨g, _, nl, nf, _⟩ := I1.pin p hm
      refine gone g fun hq => ?_
      rcases List.mem_cons.mp (I1.stkSub _ hq) with z | z
      · exact nl z
      · exact nf z
    have S3 := I3.suite g3 d3 na nL nF
    refine wpAny_handleBy_cons (codeAny_handlers_test ?_) (by intro q; cases q)
    have LT : PySem.W.Looks (model X.prog X.w) h3 (typeOf (.ref a)) cls := fun _ _ _ _ k q =>
      wpAny_typeOf_ref (k _ _ g3) (by rw [z3.1]; exact q)
    have LM := PySem.W.exm_one (M := model X.prog X.w) I3.kIn LT hb1
    have nameIs : ∀ {Q : Value → Shared → Prop} {E : Value → Shared → Prop}, Q c { s' with heap := h3 } →
        wpAny (model X.prog X.w) (X.A.mark (some (.ref a))) (eval (.Name x np) X.env) Q E { s' with heap := h3 } := fun {Q E} q => by
      obtain ⟨hg, hdbg, hm | ⟨hm, hv, hnn⟩⟩ := hc
      · exact ld_glob (X := X.suite a ((a, o3) :: (X.pn ++ pins))) S3 hg hm q hdbg
      · exact ld_blt (X := X.suite a ((a, o3) :: (X.pn ++ pins))) S3 hg hm hv q hnn hdbg
    refine nameIs (LM.here ?_)
    cases b with
    | true =>
      refine codeAny_handlers_suite_as ?_
      refine HandSPX.lands_againZ fl fun h4 fl4 up4 => ?_
      have I4 : Inv X pins σ1 H1 { s' with heap := h4 } := I1.landed nb fl4.1 ((up.trans up3).trans up4) os ag
      obtain ⟨o4, v4, g4, z4, d4⟩ := fl4.there
      have S4 := I4.suite g4 d4 na nL nF
      refine store_ok (X := X.suite a ((a, o4) :: (X.pn ++ pins))) (v := .ref a) S4 hN hi (.inl hln) rfl (fun s5 S5 => ?_) (.inr hln)
      refine wpAny_mono ((hsu a o4 cls d (X.pn ++ pins) z4 ⟨_, d4⟩).run [] s5 _ H1 _ S5 (hyes rfl a na)) (fun f s6 e6 => ?_) (fun _ _ z => False.elim z)
      cases f with
      | next =>
        obtain ⟨σ6, H6, S6, q6⟩ := e6
        have K6 : Inv X ((a, o4) :: pins) σ6 H6 s6 := ⟨I.ok, S6.os, S6.bare, S6.base, S6.loc, S6.cell, S6.free, S6.freeC, fun p hm => S6.pin p (by
          rw [List.append_nil]
          rcases List.mem_append.mp hm with z | z
          · exact List.mem_cons_of_mem _ (List.mem_append_left _ z)
          · rcases List.mem_cons.mp z with z | z
            · rw [z]; exact List.mem_cons_self
            · exact List.mem_cons_of_mem _ (List.mem_append_right _ z)), S6.hok, S6.len⟩
        have n6 : H6 a = none := (S6.pin (a, o4) (List.mem_append_left _ List.mem_cons_self)).2.1
        exact gone_ok K6 hN hi hln fun s7 K7 => ⟨_, _, K7.track z4 ⟨_, d4⟩ h0 hp, q6 n6⟩
      | brk => obtain ⟨_, _, _, q6⟩ := e6; exact q6.elim
      | cont => obtain ⟨_, _, _, q6⟩ := e6; exact q6.elim
      | ret u => obtain ⟨_, _, _, _, _, q6⟩ := e6; exact q6.elim
    | false =>
      show wpAny _ X.A (handleBy (.ref a) X.env []) _ _ _
      refine wpAny_handleBy_nil ?_
      obtain ⟨k1, k2, k3, oe, vs, T, oT, ts', he, hz, hd, h1, hr⟩ := id fl
      unfold PySem.passOn
      refine wpAny_bind (wpAny_field he hd h1 ?_)
      rw [if_neg (show ¬ ((Value.ref T == Value.none) = true) from by simp)]
      have fin : wpAny (model X.prog X.w) X.A (setFlight (.ref a) X.env.frame) (fun _ s4 =>
          wpAny (model X.prog X.w) X.A (throw (.ref a) : Sem Flow) (SP X pins D) X.xe s4) X.xe { s' with heap := h3 } := by
        rw [hf]
        refine HandSPX.setFlight_upZ fl fun h4 hh4 up4 => wpAny_throw (tk _ _ ?_)
        exact ⟨a, B, sI, pins, σ1, H1, cls, d, rfl, I1, nb, (up.trans up3).trans up4,
          .inr (.inr (by rw [hs]; exact hh4)), na, os, ag, hno rfl⟩
      first
        | exact wpAny_bind (wpAny_pure (wpAny_bind fin))
        | exact wpAny_bind fin
  · cases f with
    | next => obtain ⟨σ', H', J', q⟩ := end1; exact wpAny_execs_nil ⟨σ', H', J'.ofTry I.ok, q⟩
    | brk => obtain ⟨σ', H', J', q⟩ := end1; exact ⟨σ', H', J'.ofTry I.ok, q⟩
    | cont => obtain ⟨σ', H', J', q⟩ := end1; exact ⟨σ', H', J'.ofTry I.ok, q⟩
    | ret u => obtain ⟨v, σ', H', J', r, q⟩ := end1; exact ⟨v, σ', H', J'.ofTry I.ok, r, q⟩
end
/-! ### what a tracked error tells -/
/-- what its class says -/
structure ErrC (K : PySem.W.Frag) (C : Addr) : Prop extends XfC K C where
  ac : PySem.W.findIn K (.ref C) "__class__" = some (some (.builtin "object.__class__"))
  sg : PySem.W.specialIn K (.builtin "object.__class__") "__get__" = some (some (.builtin "getset_descriptor.__get__"))
  tk : PySem.W.takesIn K (.builtin "object.__class__") = some true
  mo : PySem.W.mroIn K C (.type "object") = some true
section
variable {X : Cx} {pins : List (Addr × Obj)} {σ : St} {H : Hp} {s : Shared} {C a d : Addr} {fs : List (Str × V)}
theorem errO_inst (I : Inv X pins σ H s) (ea : H a = some (ErrO (.ref C) (some d) a)) (ed : H d = some (.xd fs)) :
    ∃ (oe : Obj) (od : Obj), PySem.W.InstAt s.heap a oe C (some od) ∧ ∃ mA : Str → Option Value, (∀ n, PySem.W.lookIn n od = some (mA n)) ∧ ∀ f, RelO (fs.lookup f) (mA f) := by
  obtain ⟨oe, vs, g, hz, hv⟩ := errO_at I.hok ea
  obtain ⟨mA, hns, hr⟩ := (show ObjOk X.prog X.w H s.heap d (.xd fs) from I.hok d _ ed)
  obtain ⟨od, ho, hl⟩ := lookIn_ns hns
  exact ⟨oe, od, ⟨g, hz.1, by unfold PySem.W.notCls; rw [hv] <;> rfl, by rw [hz.2]; exact ho⟩, mA, hl, hr⟩
/-- e.f of a tracked error -/
def tErrF (C : Addr) (f : Str) (te : TE) : TE := fun σ H Q => te σ H fun x H1 => ∃ (a d : Addr) (fs : List (Str × V)) (v : V),
  x = .ref a ∧ H1 a = some (ErrO (.ref C) (some d) a) ∧ H1 d = some (.xd fs) ∧ fs.lookup f = some v ∧ Q v H1
theorem pe_errF {e : Expr} {te : TE} {pos : Pos} {n : Str} (T : ErrC X.K C) (hno : PySem.W.findIn X.K (.ref C) n = some none) (he : PE X e te)
    (hb : attributeBase e n X.env (eval e X.env) = eval e X.env := by rfl) : PE X (.Attribute e n pos) (tErrF C n te) := by
  refine ⟨fun pins s σ H Q I h => attr_of hb (thn (he.run pins s σ H _ I h) fun u s1 hh => ?_)⟩
  obtain ⟨x, H1, I1, rx, a, d, fs, v, rfl, ea, ed, l, q⟩ := hh
  obtain rfl : u = Value.ref a := rx
  obtain ⟨oe, od, J, mA, hl, hr⟩ := errO_inst I1 ea ed
  obtain ⟨u, hu, ru⟩ := RelO.some_of (v := v) (o := mA n) (by rw [← l]; exact hr n)
  exact HandSPX.exc_get I1.kIn J T.ga T.gg T.exC (PySem.W.findObj_own T.hdC hno rfl (by rw [hl, hu])) (handed_of ru) ⟨v, H1, I1.tok _, ru, q⟩
/-- isinstance(e, T) of a tracked error, T a built-in class -/
def rIsErr (K : PySem.W.Frag) (C : Addr) : List V → Hp → VK → Prop := fun xs H Q => ∃ (a d : Addr) (fs : List (Str × V)) (n : String) (b : Bool),
  xs = [.ref a, .ty n] ∧ H a = some (ErrO (.ref C) (some d) a) ∧ H d = some (.xd fs) ∧ PySem.W.kitOne K (.ref C) (.type n) = some b ∧ Q (.bl b) H
theorem call_isErr (T : ErrC X.K C) : CallR X (.builtin "isinstance") (rIsErr X.K C) := by
  intro pins s σ H xs us Q I r h
  obtain ⟨a, d, fs, n, b, rfl, ea, ed, e, q⟩ := h
  obtain ⟨u1, u2, rfl, r1, r2⟩ := vals2 r
  cases (show u1 = Value.ref a from r1)
  cases (show u2 = Value.type n from r2)
  obtain ⟨oe, od, J, _⟩ := errO_inst I ea ed
  have hcl : (PySem.W.clsIn X.K C).isSome = true := by
    obtain ⟨cd, hc, _⟩ := PySem.W.any_some T.hdC
    rw [hc]
    rfl
  exact PySem.W.kia_one (PySem.W.kitx_exc hcl T.ga T.gg T.exC T.ac T.sg T.tk T.mo) I.kIn J e (fun z => nomatch z) fun tk => ⟨.bl b, H, I.tok tk, rfl, q⟩
end
end L2

set_option Elab.async false
set_option linter.all false
set_option maxRecDepth 100000
set_option maxHeartbeats 2000000
/-! A call by names alone, in the parameters' order turned round, that may raise: f(d=.., c=.., b=.., a=..). -/
namespace KwX
open PySem PySem.Spec PyProof.Rows L2
/-- names ks, values ws: the def takes them as its parameters ps, turned round -/
def Turned (K : PySem.W.Frag) (fd : FuncData) (ps ks : List Str) : Prop := ∀ (s : Shared) (ws : List Value), K.In s.heap → ws.length = ks.length → BindsTo s fd ⟨[], ks.zip ws⟩ (ps.zip ws.reverse)
theorem vals_rev : ∀ {vs : List V} {us : List Value}, Vals vs us → Vals vs.reverse us.reverse
  | [], _, h => by cases h; exact .nil
  | v :: vs, _, h => by
    cases h with
    | cons r t =>
      rw [List.reverse_cons, List.reverse_cons]
      exact (vals_rev t).append (.cons r .nil)
def tTurned (sp : Sp) (n : Nat) (E : L2.St → XK) (t : TA) : TE := fun σ H Q => t σ H fun zs H1 => zs.length = n ∧ sp zs.reverse H1 Q (E σ)
theorem pe_turned {X : Cx} {k : Nat} {f : Addr} {fd : FuncData} {ps ks : List Str} {sp : Sp} {E : L2.St → XK} {x : Str} {p pos : Pos} {kws : List Keyword} {t : TA} {CX : CXT}
    (F : FnOk X.prog X.w X.K X.mg X.base CX k f fd ps sp) (hr : Room k X.A) (hg : Gl X x) (hm : X.mg x = some (.ref f)) (hk : PySem.W.keepIn X.K (.ref f) = true) (hb : Turned X.K fd ps ks) (hx : ∀ σ, PassesAt CX X σ (E σ)) (ha : PK X kws t)
    (h1 : (backToKw pos (keywordEach kws X.env)).all (·.1.isSome) = true := by rfl) (h2 : (backToKw pos (keywordEach kws X.env)).filterMap (·.1) = ks := by rfl)
    (h3 : ((backTo pos (starEach [] X.env)).any (·.1) || (backToKw pos (keywordEach kws X.env)).any (·.1.isNone)) = false := by rfl) (h4 : (x == ("__debug__" : Str)) = false := by decide) :
    PE X (.Call (.Name x p) [] kws pos) (tTurned sp ks.length E t) where
  run pins s σ H Q I h := by
    apply wpAny_Call_Name_kw
    apply ld_glob I hg hm _ h4
    apply PySem.W.callWith_KW0 (h₀ := X.base) I.ok.mod.kin hk h1 _ h3
    apply thn (ha.run pos pins s σ H _ I h)
    rintro ws s1 ⟨zs, H1, I1, rz, lz, hq⟩
    refine ⟨I1.kIn, ?_⟩
    rw [h2]
    have B : BindsTo s1 fd ⟨[], ks.zip ws⟩ (ps.zip ws.reverse) := hb s1 ws I1.kIn (rz.length.symm.trans lz)
    have R := F.run X.A X.stack s1 H1 ⟨[], ks.zip ws⟩ ws.reverse zs.reverse Q (E σ) hr I1.env0 B (vals_rev rz) hq
    refine wpAny_call (codeAny_mono R ?_)
    rintro (e | u | _ | _ | _) s2 z
    · exact hx σ pins H1 s1 e s2 I1 z
    all_goals first | exact I1.after z | exact False.elim z
end KwX

set_option Elab.async false
set_option linter.all false
set_option maxRecDepth 100000
set_option maxHeartbeats 2000000
/-! A module's top with one expression in its midst that the kernel can't run (it leans on the world's hashes): real steps ahead of it and behind it, the expression by wp. -/
namespace Fw
open PySem PySem.W PySem.Calls PyProof.Rows
/-! ### real steps -/
section
variable {tb : String → Option Builtin} {p : Program} {w : World} {n₀ : Nat} {ann : Option Value}
theorem go_one {s s' : Shared} {t t' : Thread} (h1 : through t = false) (h2 : stepOk n₀ ann t = true) (h3 : step (denote tb) p w s t = .go s' t') {m : Nat} {r : Shared × Thread} (h : topGo tb p w n₀ ann m s' t' = some r) : topGo tb p w n₀ ann (m + 1) s t = some r := by
  unfold topGo
  rw [h1, h2, h3]
  exact h
/-- one step of a topGo, looked at -/
theorem go_out {s : Shared} {t : Thread} {m : Nat} {r : Shared × Thread} (h : topGo tb p w n₀ ann (m + 1) s t = some r) : through t = false ∧ stepOk n₀ ann t = true ∧ ∃ s' t', step (denote tb) p w s t = .go s' t' ∧ topGo tb p w n₀ ann m s' t' = some r := by
  unfold topGo at h
  cases h1 : through t with
  | true => rw [h1] at h; exact nomatch h
  | false =>
    cases h2 : stepOk n₀ ann t with
    | false => rw [h1, h2] at h; exact nomatch h
    | true =>
      rw [h1, h2] at h
      cases h3 : step (denote tb) p w s t with
      | halt o x => rw [h3] at h; exact nomatch h
      | go s' t' => rw [h3] at h; exact ⟨rfl, rfl, s', t', rfl, h⟩
theorem go_trans : ∀ {n m : Nat} {s s1 : Shared} {t t1 : Thread} {r : Shared × Thread}, topGo tb p w n₀ ann n s t = some (s1, t1) → topGo tb p w n₀ ann m s1 t1 = some r → ∃ k, topGo tb p w n₀ ann k s t = some r
  | 0, m, s, s1, t, t1, r, h, q => by
    cases (show some (s, t) = some (s1, t1) from h)
    exact ⟨m, q⟩
  | n + 1, m, s, s1, t, t1, r, h, q => by
    obtain ⟨h1, h2, s', t', h3, h4⟩ := go_out h
    obtain ⟨k, hk⟩ := go_trans h4 q
    exact ⟨k + 1, go_one h1 h2 h3 hk⟩
/-- what real steps of the top leave alone -/
theorem go_keeps : ∀ {n : Nat} {s s' : Shared} {t t' : Thread}, topGo tb p w n₀ ann n s t = some (s', t') → s'.heap.life = s.heap.life ∧ s'.os = s.os ∧
    ∀ b o, b < n₀ → b ≠ mainNs → b ≠ cStatics → ann ≠ some (.ref b) → s.heap.get? b = some o → s'.heap.get? b = some o
  | 0, s, s', t, t', h => by
    cases (show some (s, t) = some (s', t') from h)
    exact ⟨rfl, rfl, fun _ _ _ _ _ _ e => e⟩
  | n + 1, s, s', t, t', h => by
    obtain ⟨h1, h2, s1, t1, h3, h4⟩ := go_out h
    obtain ⟨l, os, fr⟩ := go_keeps h4
    obtain ⟨hc, hk⟩ := Bool.and_eq_true_iff.mp h2
    refine ⟨l.trans (step_life (denote tb) p w s s1 t t1 h3), os.trans (step_os_same h3 (by revert hk; cases t.cur <;> simp)), fun b o q1 q2 q3 q4 q5 => fr b o q1 q2 q3 q4 ?_⟩
    have e := step_heap (denote tb) p w s s1 t t1 h3
    cases hcur : t.cur with
    | update a _ f _ =>
      rw [hcur] at e hk
      rw [e]
      have ne : b ≠ a := fun z => by
        subst z
        simp only [Bool.or_eq_true, Nat.ble_eq, beq_iff_eq] at hk
        rcases hk with ((z | z) | z) | z
        · omega
        · exact q2 z
        · exact q3 z
        · exact q4 z
      rw [Heap.get?_update_ne _ _ _ _ ne]
      exact q5
    | alloc x _ =>
      rw [hcur] at e
      rw [e]
      exact Heap.get?_push_of_some x q5
    | _ =>
      rw [hcur] at e
      rw [e]
      exact q5
section
variable {α : Type} {B : List Frame} {K' : α → Sem Fin} {H' : Value → Sem Fin} {gd : Bool → Bool} {lv : List Value → List Value} {res : α → Flow}
/-- a piece that comes to its end: the same steps with what stands behind it -/
theorem seg_goes (hB : splitAtGen B = none) : ∀ (n : Nat) {s s' : Shared} {t t' : Thread} {f : Flow} {c' : Code} {p' : Pos}, Rel2 (fun a => .pure (.done (res a))) K' deadEnd H' gd lv B t t' →
    segRun tb p w n₀ ann B.length n s t = some (f, s', c', p') → ∃ a m, res a = f ∧ topGo tb p w n₀ ann m s t' = some (s', ⟨K' a, c', p', B⟩)
  | 0, _, _, _, _, _, _, _, _, h => nomatch (show (none : Option (Flow × Shared × Code × Pos)) = some _ from h)
  | n + 1, s, s', t, t', f, c', p', R, h => by
    obtain ⟨cur, code, pos, st⟩ := t
    obtain ⟨cur', code', pos', st'⟩ := t'
    obtain ⟨ec, ep, R⟩ := R
    dsimp only at ec ep R
    subst ec ep
    replace h : (match endAt B.length ⟨cur, code, pos, st⟩ with
      | some g => some (g, s, code, pos)
      | none => match stepOk n₀ ann ⟨cur, code, pos, st⟩ with
        | false => none
        | true => match step (denote tb) p w s ⟨cur, code, pos, st⟩ with
          | .go s' t' => segRun tb p w n₀ ann B.length n s' t'
          | .halt _ _ => none) = some (f, s', c', p') := h
    cases he : endAt B.length ⟨cur, code, pos, st⟩ with
    | some g =>
      rw [he] at h
      cases h
      rcases R with ⟨u1, u2, x, u3, u4⟩ | ⟨u1, F⟩
      · have v1 := u1.symm
        have v2 := u2.symm
        subst v1 v2 u3 u4
        cases x with
        | pure a =>
          have z : some (res a) = some f := by
            rw [← he]
            simp only [endAt, Sem.wrap, beq_self_eq_true]
          exact ⟨a, 0, Option.some.inj z, rfl⟩
        | _ => exact absurd he (by simp [endAt, Sem.wrap])
      · have e : (st.length == B.length) = false := beq_eq_false_iff_ne.mpr (Nat.ne_of_gt F.longer.1)
        simp only [endAt, e] at he
        exact nomatch he
    | none =>
      rw [he] at h
      cases hk : stepOk n₀ ann ⟨cur, code, pos, st⟩ with
      | false => rw [hk] at h; exact nomatch h
      | true =>
        rw [hk] at h
        cases hs : step (denote tb) p w s ⟨cur, code, pos, st⟩ with
        | halt o x => rw [hs] at h; exact nomatch h
        | go s2 t2 =>
          rw [hs] at h
          have h : segRun tb p w n₀ ann B.length n s2 t2 = some (f, s', c', p') := h
          rcases R with ⟨u1, u2, x, u3, u4⟩ | ⟨u1, F⟩
          · have v1 := u1.symm
            have v2 := u2.symm
            subst v1 v2 u3 u4
            have np : ∀ a, x ≠ .pure a := fun a z => by
              subst z
              simp [endAt, Sem.wrap] at he
            have nr : ∀ e, x ≠ .raise e := fun e z => by
              subst z
              obtain ⟨x1, x2, x3, x4, x5⟩ := s
              simp only [Sem.wrap, step] at hs
              exact nomatch hs
            obtain ⟨k1, k2⟩ := okOuter (K' := K') (H' := H') np nr hk
            obtain ⟨t3, k3, R3⟩ := step_outer (K' := K') (H' := H') hB np hs
            obtain ⟨a, m, ea, hm⟩ := seg_goes hB n R3 h
            exact ⟨a, m + 1, ea, go_one k2 k1 k3 hm⟩
          · subst u1
            obtain ⟨k1, k2⟩ := okInner hB F hk
            obtain ⟨t3, k3, R3⟩ := step_inner hB F hs
            obtain ⟨a, m, ea, hm⟩ := seg_goes hB n R3 h
            exact ⟨a, m + 1, ea, go_one k2 k1 k3 hm⟩
end
end
theorem clean0 : leftWithCleanup (#[] : Array GenState) = false := by simp [leftWithCleanup]
theorem step_halt_done {den : Code → Sem Fin} {p : Program} {w : World} {s S : Shared} {t : Thread} {f : Flow} (h : step den p w s t = .halt (.done f) S) : through t = true := by
  obtain ⟨heap, gens, drawn, toks, os⟩ := s
  obtain ⟨cur, code, pos, stack⟩ := t
  cases cur <;> simp only [step, finish] at h <;> (repeat' split at h) <;> simp_all [through]
/-! ### a run that ends -/
section
variable {p : Program} {w : World} {n₀ : Nat} {ann : Option Value}
/-- the run from here ends, at S, each thread on the way calm -/
def Halts (p : Program) (w : World) (s : Shared) (t : Thread) (S : Shared) : Prop :=
  ∃ n f, runN (denote table) p w n s t = .halted (.done f) S ∧ ∀ k s1 t1, runN (denote table) p w k s t = .running s1 t1 → t1.calm = true
theorem halts_step {s s' S : Shared} {t t' : Thread} (hc : t.calm = true) (hs : step (denote table) p w s t = .go s' t') (h : Halts p w s' t' S) : Halts p w s t S := by
  obtain ⟨n, f, h1, h2⟩ := h
  refine ⟨n + 1, f, by simp only [runN, hs]; exact h1, fun k s1 t1 q => ?_⟩
  cases k with
  | zero => cases (show Run.running s t = .running s1 t1 from q); exact hc
  | succ k =>
    simp only [runN, hs] at q
    exact h2 k s1 t1 q
theorem halts_go : ∀ {m : Nat} {s s' S : Shared} {t t' : Thread}, topGo table p w n₀ ann m s t = some (s', t') → Halts p w s' t' S → Halts p w s t S
  | 0, s, s', S, t, t', h, q => by
    cases (show some (s, t) = some (s', t') from h)
    exact q
  | m + 1, s, s', S, t, t', h, q => by
    obtain ⟨h1, h2, s1, t1, h3, h4⟩ := go_out h
    exact halts_step (Bool.and_eq_true_iff.mp h2).1 h3 (halts_go h4 q)
theorem halts_through {s : Shared} {t : Thread} (h : through t = true) (hg : s.gens = #[]) : Halts p w s t s := by
  obtain ⟨cur, code, pos, st⟩ := t
  obtain ⟨h1, h2⟩ := Bool.and_eq_true_iff.mp h
  have h1 : st = [] := List.isEmpty_iff.mp h1
  subst h1
  cases cur with
  | pure fin =>
    cases fin with
    | done f =>
      obtain ⟨hp, gs, d, tk, os⟩ := s
      have hg : gs = #[] := hg
      subst hg
      have e : step (denote table) p w ⟨hp, #[], d, tk, os⟩ ⟨.pure (.done f), code, pos, []⟩ = .halt (.done f) ⟨hp, #[], d, tk, os⟩ := by
        show finish (.done f) ⟨hp, #[], d, tk, os⟩ = _
        unfold finish
        rw [if_neg (by rw [clean0]; exact Bool.false_ne_true)]
      refine ⟨1, f, by simp only [runN, e], fun k s1 t1 q => ?_⟩
      cases k with
      | zero =>
        cases (show Run.running _ _ = .running s1 t1 from q)
        rfl
      | succ k =>
        simp only [runN, e] at q
        exact nomatch q
    | again c => exact nomatch h2
  | _ => exact nomatch h2
theorem halts_top : ∀ {N : Nat} {s S : Shared} {t : Thread}, topRun table p w n₀ ann N s t = some S → S.gens = #[] → Halts p w s t S
  | 0, _, _, _, h, _ => nomatch (show (none : Option Shared) = some _ from h)
  | N + 1, s, S, t, h, hg => by
    unfold topRun at h
    cases h1 : through t with
    | true =>
      rw [h1] at h
      cases (show some s = some S from h)
      exact halts_through h1 hg
    | false =>
      cases h2 : stepOk n₀ ann t with
      | false => rw [h1, h2] at h; exact nomatch h
      | true =>
        rw [h1, h2] at h
        cases h3 : step (denote table) p w s t with
        | halt o x => rw [h3] at h; exact nomatch h
        | go s' t' =>
          rw [h3] at h
          exact halts_step (Bool.and_eq_true_iff.mp h2).1 h3 (halts_top h hg)
theorem forget_bare {s S : Shared} (h : s.forget = S.forget) (hg : S.gens = #[]) : s = S := by
  obtain ⟨hp, gs, d, tk, os⟩ := s
  obtain ⟨hp', gs', d', tk', os'⟩ := S
  have hg : gs' = #[] := hg
  subst hg
  have h : (⟨hp, gs.map GenState.forget, d, tk, os⟩ : Shared) = ⟨hp', #[], d', tk', os'⟩ := by
    have z : (⟨hp, gs.map GenState.forget, d, tk, os⟩ : Shared) = ⟨hp', (#[] : Array GenState).map GenState.forget, d', tk', os'⟩ := h
    rw [z, Array.map_empty]
  injection h with h1 h2 h3 h4 h5
  have hz : gs = #[] := by
    have := congrArg Array.size h2
    simp only [Array.size_map] at this
    exact Array.eq_empty_of_size_eq_zero this
  subst h1 h3 h4 h5 hz
  rfl
theorem halts_runs {s S : Shared} {cur : Sem Fin} {c : Code} {pos : Pos} {st : List Frame} (h : Halts p w s ⟨cur, c, pos, st⟩ S) (hg : S.gens = #[]) : ∃ f, Runs (model p w) ⟨c, none, none, [], none⟩ pos cur st s (.ret (.ok f)) S := by
  obtain ⟨n, f, h1, h2⟩ := h
  obtain ⟨s', h3, h4⟩ := runN_calm_runNI (denote table) p w h1 h2
  have e := forget_bare (s := s') (S := S) (by first | exact h4 | exact h4.symm) hg
  subst e
  exact ⟨f, (halts_iff (M := model p w) (r := .ok f)).mp ⟨n, h3⟩ |>.1⟩
theorem runs_halts {s S : Shared} {cur : Sem Fin} {c : Code} {pos : Pos} {st : List Frame} {f : Flow} (h : Runs (model p w) ⟨c, none, none, [], none⟩ pos cur st s (.ret (.ok f)) S) (hg : S.gens = #[]) : Halts p w s ⟨cur, c, pos, st⟩ S := by
  have hl : leftWithCleanup S.gens = false := by rw [hg]; exact clean0
  obtain ⟨n, hn⟩ := (halts_iff (M := model p w) (r := .ok f)).mpr ⟨h, hl⟩
  obtain ⟨s'', h1, h2, h3⟩ := runNI_real (denote table) p w (show runNI (denote table) p w n s ⟨cur, c, pos, st⟩ = .halted (.done f) S from hn) rfl
  have e := forget_bare h2 hg
  subst e
  exact ⟨n, f, h1, h3⟩
/-- an expression by wp, with what stands behind it -/
theorem halts_mid {α : Type} {m : Sem α} {K : α → Sem Fin} {H : Value → Sem Fin} {gd : Bool → Bool} {lv : List Value → List Value} {s S : Shared} {c : Code} {pos : Pos} {B : List Frame} {Q : α → Pos → Shared → Prop} (hg : S.gens = #[])
    (hw : Sem.wp (model p w) ((⟨c, none, none, [], none⟩ : Ctx).over B) m Q (fun _ _ _ => False) pos s) (hk : ∀ a p' s', Q a p' s' → Halts p w s' ⟨K a, c, p', B⟩ S) : Halts p w s ⟨m.wrap K H gd lv, c, pos, B⟩ S := by
  obtain ⟨e, s'', hr, f, he, hS⟩ := runs_wrap_of_wp (M := model p w) (Γ := ⟨c, none, none, [], none⟩) (fs := B) (Φ := fun e s'' => ∃ f, e = .ret (.ok f) ∧ s'' = S) K H gd lv m hw
    (fun a p' s' q => by
      obtain ⟨f, r⟩ := halts_runs (hk a p' s' q) hg
      exact ⟨_, _, r, f, rfl, rfl⟩) (fun _ _ _ q => q.elim)
  subst he hS
  exact runs_halts hr hg
/-- the end, seen by the scheduler -/
theorem halts_sched {s S : Shared} {t : Thread} (h : Halts p w s t S) (hr : s.asleep) : ∃ n t', schedN (denote table) p w n (.single s t) = .running (.single S t') ∧ through t' = true := by
  obtain ⟨n, f, h1, h2⟩ := h
  have last : ∀ (n : Nat) (s : Shared) (t : Thread), runN (denote table) p w n s t = .halted (.done f) S → ∃ k s' t', runN (denote table) p w k s t = .running s' t' ∧ step (denote table) p w s' t' = .halt (.done f) S := by
    intro n
    induction n with
    | zero => intro s t h; exact nomatch h
    | succ n ih =>
      intro s t h
      cases hs : step (denote table) p w s t with
      | go s' t' =>
        simp only [runN, hs] at h
        obtain ⟨k, s1, t1, q1, q2⟩ := ih s' t' h
        exact ⟨k + 1, s1, t1, by simp only [runN, hs]; exact q1, q2⟩
      | halt o s' =>
        simp only [runN, hs] at h
        cases h
        exact ⟨0, s, t, rfl, hs⟩
  obtain ⟨k, s', t', q1, q2⟩ := last n s t h1
  have e := step_halt_same (denote table) p w s' S t' _ q2
  subst e
  refine ⟨k, t', ?_, ?_⟩
  · have goes : ∀ (k j : Nat) (s : Shared) (t : Thread) (s1 : Shared) (t1 : Thread), j < k → (∃ s2 t2, runN (denote table) p w k s t = .running s2 t2) → runN (denote table) p w j s t = .running s1 t1 → ∃ s3 t3, step (denote table) p w s1 t1 = .go s3 t3 := by
      intro k
      induction k with
      | zero => intro j s t s1 t1 hj; omega
      | succ k ih =>
        intro j s t s1 t1 hj ⟨s2, t2, r⟩ q
        cases hs : step (denote table) p w s t with
        | halt o x => simp only [runN, hs] at r; exact nomatch r
        | go s' t' =>
          cases j with
          | zero =>
            cases (show Run.running s t = .running s1 t1 from q)
            exact ⟨s', t', hs⟩
          | succ j =>
            simp only [runN, hs] at r q
            exact ih j s' t' s1 t1 (by omega) ⟨s2, t2, r⟩ q
    rw [schedN_prefix (denote table) p w k s t hr fun j s1 t1 hj r => ⟨h2 j s1 t1 r, fun z => by
      obtain ⟨s3, t3, q3⟩ := goes k j s t s1 t1 hj ⟨_, _, q1⟩ r
      rw [q3] at z
      exact nomatch z⟩, q1]
    rfl
  · exact step_halt_done q2
end
end Fw

set_option Elab.async false
set_option linter.all false
set_option maxRecDepth 100000
set_option maxHeartbeats 2000000
/-! An open row from its top, world by world: the top's end is told for each world by itself, no bound of steps is asked. -/
namespace Fw
open PySem PySem.W PySem.Calls PyProof.Rows HandSHeadRun
/-- the top's end at a world -/
structure TopEnd (p q : Program) (loose : List Str) (Xt : Shared → Bool) {α : Type} (Yf : Shared → α) (Ya : World → α) (w : World) (s₀ s₁ : Shared) : Prop where
  run : Halts p w s₀ (topStub p) s₁
  ns : s₀.heap.isNs mainGlobals = true
  g0 : s₀.gens = #[]
  g1 : s₁.gens = #[]
  life : s₁.heap.life = s₀.heap.life
  os : s₁.os = s₀.os
  keeps : ∀ b o, b < s₀.heap.objs.size → b ≠ mainNs → b ≠ cStatics → s₀.heap.nsMap mainGlobals "__annotations__" ≠ some (.ref b) → s₀.heap.get? b = some o → s₁.heap.get? b = some o
  looks : looksF p s₀.heap s₁ = true
  seen : openSeen q loose (importedModules p.main.body) Xt true s₁ = openGood q loose
  obs : Yf s₁ = Ya w
def TopsE (p q : Program) (loose : List Str) (Xt : Shared → Bool) {α : Type} (Yf : Shared → α) (Ya : World → α) : Prop :=
  ∀ w : World, ∃ (N : Nat) (s₀ s₁ : Shared), fencedOpening table p w N = some s₀ ∧ TopEnd p q loose Xt Yf Ya w s₀ s₁
section
variable {p q : Program} {loose : List Str} {Xt : Shared → Bool} {XP : (Str → Option Value) → Heap → Prop} {α : Type} {Yf : Shared → α} {Ya : World → α}
/-- what stands behind the top -/
structure Stands (p q : Program) (loose : List Str) (XP : (Str → Option Value) → Heap → Prop) (w : World) (a b : Shared) : Prop where
  ran : TopRan p w a b
  sleeps : b.asleep
  bare : b.gens = #[]
  ns : b.heap.isNs mainGlobals = true
  gr : Ground q loose [] XP w b (b.heap.nsMap mainGlobals) (b.heap.nsMap builtinsNs) b.heap
theorem stands (T : TopsE p q loose Xt Yf Ya) (hX : ∀ s, Xt s = true → XP (s.heap.nsMap mainGlobals) s.heap) (hch : chainsOk q = true) (w : World) :
    (∃ s, AfterRun (opening p) w s) ∧ ∀ s, AfterRun (opening p) w s → ∃ a, fenceModules? p s = some a ∧ a.gens = #[] ∧ ∃ b, Stands p q loose XP w a b ∧ Yf b = Ya w := by
  obtain ⟨N, a, b, hf, E⟩ := T w
  obtain ⟨s, hi, hfe⟩ := Option.bind_eq_some_iff.mp hf
  have A := AfterImport.of_importEnds hi
  refine ⟨⟨s, A⟩, fun s' hs' => ?_⟩
  have es : s' = s := AfterImport.unique hs' A
  subst es
  have za : a.asleep := Shared.asleep_of_life (fence_lifeW hfe) A.life
  have lk : (staticsOk (importedModules p.main.body) a.heap b.heap && namesBound p b.heap && gensDone b && laidKept a.heap b.heap) = true := E.looks
  obtain ⟨lk, k4⟩ := Bool.and_eq_true_iff.mp lk
  obtain ⟨lk, k3⟩ := Bool.and_eq_true_iff.mp lk
  obtain ⟨k1, k2⟩ := Bool.and_eq_true_iff.mp lk
  obtain ⟨G, _, hns, c1, c2, c3, c4⟩ := ground_of_open (w := w) hX hch E.seen
  refine ⟨a, hfe, E.g0, b, ⟨⟨halts_sched E.run za, E.life, Shared.rest_eq E.os, fun x o hx nx => ?_, c1, statics_of_ok k1, c2, c3, c4, gens_of_done k3, names_of_bound k2, laid_of_kept k4⟩, Shared.asleep_of_life E.life za, E.g1, hns, G⟩, E.obs⟩
  exact E.keeps x o (Heap.lt_size hx) (fun z => nx (.inl z)) (fun z => nx (.inr (.inl z))) (fun z => nx (.inr (.inr ((Pin.globalOf_eq E.ns _).trans z)))) hx
end
/-- the row, from its top's ends and the walk of its call -/
theorem holdsE {r : OpenRow} {q : Program} {loose : List Str} {Xt : Shared → Bool} {XP : (Str → Option Value) → Heap → Prop} {H : Hook} {d : DefRec} {kwd : List (Str × Expr)}
    (T : TopsE r.prog q loose Xt H.obs H.val) (hX : ∀ s, Xt s = true → XP (s.heap.nsMap mainGlobals) s.heap) (hXk : ∀ mg h h', XP mg h → (∀ b o, h.get? b = some o → h'.get? b = some o) → XP mg h')
    (hdef : defOf q r.name = some (d, kwd)) (hp : r.prog.theDef r.name = some (d.params, d.body, d.scope)) (hk : kwWritten? d.params.kwonlyargs d.params.kw_defaults = some kwd) (hRf : ∀ s, Xt s = true → RecFacts r.records s.heap)
    (hwr : (!r.writes || r.records.isEmpty) = true) (k1 : r.wellSaid = true) (ok : (chainsOk q && opensWell r.prog && (frees r.toRowW && r.within.isEmpty)) = true) (hb : r.prog.bare) (hw : r.toRowW.promised)
    (call : WalkO q loose XP H.says r.toRowW d kwd fun f vs => PySem.call f vs) : r.Holds := by
  obtain ⟨ok12, ok34⟩ := Bool.and_eq_true_iff.mp ok
  obtain ⟨hch, opens⟩ := Bool.and_eq_true_iff.mp ok12
  obtain ⟨ok3, ok4⟩ := Bool.and_eq_true_iff.mp ok34
  obtain ⟨hsame, hu, ha, hap, hm⟩ := frees_parts ok3
  refine ⟨k1, hw, ⟨hb, opens, by show r.toRowW.makers.map _ = []; rw [hm]; rfl⟩, hw.witness, fun w => ⟨(stands T hX hch w).1, fun s' hs' => ?_⟩⟩
  obtain ⟨a, hf, ga, b, S, y⟩ := (stands (XP := fun mg h => XP mg h ∧ RecFacts r.toRowW.records h) T (fun s hs => ⟨hX s hs, hRf s hs⟩) hch w).2 s' hs'
  have G2 := S.gr
  have RF := G2.X.2
  have G1 : Ground q loose [] XP w b (b.heap.nsMap mainGlobals) (b.heap.nsMap builtinsNs) b.heap :=
    ⟨G2.T, G2.B, G2.D, G2.TE, G2.TD, G2.W, G2.X.1, G2.cls, G2.has, G2.apart, G2.once, G2.K⟩
  refine ⟨a, hf, ga, b, S.ran, fun n hn => ?_, RF.1, RF.2.1, ?_⟩
  · have en : n = r.name := by
      split at hn <;> simp_all
    subst en
    exact pinned_of_view S.ns G1 hdef hp hk
  have G := RF.ground (R := r.toRowW.records) G1
  refine ClaimW.callFrom_of_specG (c := r.toRowW.claim) S.sleeps S.bare fun args hpre hlay ord hord => ?_
  obtain ⟨⟨vs, s₁⟩, laid⟩ := Option.isSome_iff_exists.mp (layAllW_isSome (P := w.params) (ord := ord) G.has args r.toRowW.args b (pre_splitW hpre).1)
  have keeps := layAllW_keeps _ _ _ laid
  have rest := layAllW_rest _ _ _ laid
  obtain ⟨as, hrd, hin, hold⟩ := reads_layAllW hord _ _ _ laid hlay s₁.heap (fun _ _ e => e)
  have L : Laid r.toRowW.records w b s₁ args vs as := ⟨⟨ord, hord, laid⟩, hrd, hin, hold, keeps, rest.1.trans S.bare, rest.2.2.1⟩
  have Gk := G.keeps hXk keeps
  obtain ⟨fa, o, pm, cd, doc, dV, kV, h1, h2, h3, h4, h5⟩ := Gk.fn hdef
  have W := call w b s₁ _ _ Gk (H.keeps _ _ _ (H.of w b y) keeps) fa o pm cd doc dV kV h2 h3 h4 h5 (defOf_name hdef ▸ h1) L.gens args vs as hpre hlay L.reads L.well (L.low G.low)
  have idf := ident_freeW hu ha hap
  have wi : r.toRowW.claim.within = [] := List.isEmpty_iff.mp ok4
  refine ⟨vs, s₁, laid, wpAny_bind (wpAny_nsGet Gk.T.g ?_)⟩
  rw [h1]
  refine wpAny_bind (wpAny_mono W (fun v s' g => ?_) fun e s' g => ?_)
  · have z := g.laid (c := r.toRowW.claim) hsame wi idf L
    exact wpAny_pure ⟨_, rfl, z.1, z.2.1, z.2.2, fun qq => ⟨namesKept_of S.ran S.ns r.keeps keeps g.2.1.old, noTable hwr qq⟩⟩
  · have z := g.laid (c := r.toRowW.claim) hsame wi idf L
    exact ⟨z.1, z.2.1, z.2.2, fun qq => ⟨namesKept_of S.ran S.ns r.keeps keeps g.2.1.old, noTable hwr qq⟩⟩
end Fw

set_option Elab.async false
set_option linter.all false
set_option maxRecDepth 100000
set_option maxHeartbeats 2000000
/-! A display of 18 pairs whose keys are tuples of two texts, whose values are tuples of texts: what it leaves, object by object. -/
namespace Fw
open PySem PySem.W PySem.Calls PyProof.Rows
abbrev PK : Type := Str × Str × List Str
def key (p : PK) : List Str := [p.1, p.2.1]
def toksV : Nat → List Str → List Value
  | _, [] => []
  | t, x :: r => .str x t :: toksV (t + 1) r
/-- a tuple of texts, their tokens from t on -/
def tO (t : Nat) (zs : List Str) : Obj := { cls := .type "tuple", data := .seq (toksV t zs).toArray }
def dO (es : List DictEntry) : Obj := { cls := .type "dict", data := .dict es.toArray es.length }
def lo : Nat → List PK → List Obj
  | _, [] => []
  | t, p :: r => tO t (key p) :: tO (t + 2) p.2.2 :: lo (t + p.2.2.length + 5) r
def lt : Nat → List PK → Nat
  | t, [] => t
  | t, p :: r => lt (t + p.2.2.length + 5) r
def lx : Nat → List PK → List (List Str × Addr × Value)
  | _, [] => []
  | a, p :: r => (key p, a, .ref (a + 1)) :: lx (a + 2) r
theorem lo_app : ∀ (a b : List PK) (t : Nat), lo t (a ++ b) = lo t a ++ lo (lt t a) b
  | [], _, _ => rfl
  | p :: a, b, t => by
    show _ :: _ :: lo _ (a ++ b) = _
    rw [lo_app a b]
    rfl
theorem lt_app : ∀ (a b : List PK) (t : Nat), lt t (a ++ b) = lt (lt t a) b
  | [], _, _ => rfl
  | p :: a, b, t => lt_app a b _
theorem lo_len : ∀ (a : List PK) (t : Nat), (lo t a).length = 2 * a.length
  | [], _ => rfl
  | p :: a, t => by
    show (lo _ a).length + 1 + 1 = 2 * (a.length + 1)
    rw [lo_len a]
    omega
theorem lx_app : ∀ (a b : List PK) (i : Nat), lx i (a ++ b) = lx i a ++ lx (i + 2 * a.length) b
  | [], _, _ => rfl
  | p :: a, b, i => by
    show _ :: lx (i + 2) (a ++ b) = _
    rw [lx_app a b, show i + 2 + 2 * a.length = i + 2 * (p :: a).length by rw [List.length_cons]; omega]
    rfl
theorem lx_keys : ∀ (a : List PK) (i : Nat), (lx i a).map (·.1) = a.map key
  | [], _ => rfl
  | p :: a, i => by
    show _ :: (lx _ a).map _ = _
    rw [lx_keys a]
    rfl
theorem lx_len : ∀ (a : List PK) (i : Nat), (lx i a).length = a.length
  | [], _ => rfl
  | p :: a, i => congrArg (· + 1) (lx_len a _)
/-! ### a heap with objects behind -/
def ext (h : Heap) (l : List Obj) : Heap := ⟨h.objs ++ l.toArray, h.life⟩
theorem ext_nil (h : Heap) : ext h [] = h := by
  obtain ⟨o, l⟩ := h
  show (⟨o ++ ([] : List Obj).toArray, l⟩ : Heap) = ⟨o, l⟩
  rw [show o ++ ([] : List Obj).toArray = o by simp]
theorem ext_push (h : Heap) (l : List Obj) (o : Obj) : (ext h l).push o = ext h (l ++ [o]) := by
  show (⟨(h.objs ++ l.toArray).push o, h.life⟩ : Heap) = ⟨h.objs ++ (l ++ [o]).toArray, h.life⟩
  rw [show (h.objs ++ l.toArray).push o = h.objs ++ (l ++ [o]).toArray by simp]
theorem ext_size (h : Heap) (l : List Obj) : (ext h l).objs.size = h.objs.size + l.length := by
  show (h.objs ++ l.toArray).size = _
  simp
theorem ext_get {h : Heap} {l : List Obj} {i : Nat} {o : Obj} (e : l[i]? = some o) (ho : ∀ c d s, o ≠ ⟨c, d, .freed, s⟩) : (ext h l).get? (h.objs.size + i) = some o := by
  have g : (h.objs ++ l.toArray)[h.objs.size + i]? = some o := by
    rw [Array.getElem?_append_right (by omega), show h.objs.size + i - h.objs.size = i by omega]
    simpa using e
  unfold Heap.get? ext
  rw [g]
  obtain ⟨c, d, dt, s⟩ := o
  cases dt <;> first | rfl | exact absurd rfl (ho c d s)
theorem ext_upd (h : Heap) (o : Obj) (l : List Obj) (f : Obj → Obj) : (ext h (o :: l)).update h.objs.size f = ext h (f o :: l) := by
  show (⟨(h.objs ++ (o :: l).toArray).modify h.objs.size f, h.life⟩ : Heap) = ⟨h.objs ++ (f o :: l).toArray, h.life⟩
  congr 1
  apply Array.ext_getElem?
  intro i
  rw [Array.getElem?_modify]
  by_cases e : h.objs.size = i
  · subst e
    rw [if_pos rfl, Array.getElem?_append_right (Nat.le_refl _), Array.getElem?_append_right (Nat.le_refl _)]
    simp
  · rw [if_neg e]
    by_cases q : i < h.objs.size
    · rw [Array.getElem?_append_left q, Array.getElem?_append_left q]
    · rw [Array.getElem?_append_right (by omega), Array.getElem?_append_right (by omega)]
      obtain ⟨k, hk⟩ : ∃ k, i - h.objs.size = k + 1 := ⟨i - h.objs.size - 1, by omega⟩
      rw [hk]
      simp
section
variable {prog : Program} {w : World} {A : Around} {E : Value → Shared → Prop} {env : Env}
theorem items_of : ∀ (zs : List Str) (t : Nat), ItemsAre (strKind prog w) zs (toksV t zs)
  | [], _ => .nil
  | x :: r, t => .cons (by show Value.isStrOf x (.str x t) = true; simp [Value.isStrOf]) (items_of r (t + 1))
theorem tO_key {h : Heap} {l : List Obj} {i t : Nat} {zs : List Str} (e : l[i]? = some (tO t zs)) : IsTupleKey (strKind prog w) (ext h l) zs (h.objs.size + i) :=
  ⟨_, _, _, ext_get e (fun c d s z => by injection z with _ _ z _; exact nomatch z), rfl, rfl, by simpa using items_of zs t⟩
theorem lx_is {h : Heap} {l : List Obj} : ∀ (L : List PK) (t i : Nat), (∀ j o, (lo t L)[j]? = some o → l[i + j]? = some o) → ∀ x ∈ lx (h.objs.size + i) L, IsTupleKey (strKind prog w) (ext h l) x.1 x.2.1
  | [], _, _, _, x, hx => nomatch hx
  | p :: r, t, i, hl, x, hx => by
    rcases List.mem_cons.mp hx with z | z
    · subst z
      exact tO_key (hl 0 _ rfl)
    · refine lx_is r (t + p.2.2.length + 5) (i + 2) (fun j o e => ?_) x z
      rw [show i + 2 + j = i + (j + 2) by omega]
      exact hl (j + 2) o e
/-- texts, written -/
inductive CS : List Expr → List Str → Prop where
  | nil : CS [] []
  | cons {x : Str} {k : Nat} {pos : Pos} {es : List Expr} {zs : List Str} : CS es zs → CS (.Constant (.str x) k pos :: es) (x :: zs)
theorem wp_items {pos : Pos} : ∀ {es : List Expr} {zs : List Str} {s : Shared} {Q : List Value → Shared → Prop}, CS es zs → Q (toksV s.toks zs) { s with toks := s.toks + zs.length } → wpAny (model prog w) A (spliced (backTo pos (starEach es env))) Q E s
  | _, _, s, Q, .nil, h => wpAny_items_nil h
  | _, _, s, Q, .cons (zs := zs) c, h => wpAny_items_cons (wpAny_Constant_str (wp_items c (by
      show Q (_ :: toksV (s.toks + 1) zs) { s with toks := s.toks + 1 + zs.length }
      rw [show s.toks + 1 + zs.length = s.toks + (zs.length + 1) by omega]
      exact h)))
theorem toksV_len : ∀ (zs : List Str) (t : Nat), (toksV t zs).length = zs.length
  | [], _ => rfl
  | x :: r, t => congrArg (· + 1) (toksV_len r _)
theorem wp_tuple {es : List Expr} {zs : List Str} {k : Nat} {pos : Pos} {s : Shared} {Q : Value → Shared → Prop} (c : CS es zs) (hz : zs.length ≤ 100) (h : Q (.ref s.heap.objs.size) { s with heap := s.heap.push (tO s.toks zs), toks := s.toks + zs.length }) :
    wpAny (model prog w) A (eval (.Tuple es k pos) env) Q E s :=
  wpAny_Tuple (wp_items c ⟨by rw [toksV_len]; exact Nat.le_trans hz (by decide), h⟩)
/-- the pairs, as they are evaluated -/
inductive PairsAre (env : Env) (pos : Pos) : List (Sem Value × Sem Value) → List PK → Prop where
  | nil : PairsAre env pos [] []
  | cons {ke ve : List Expr} {kk vk : Nat} {kp vp : Pos} {p : PK} {ps : List (Sem Value × Sem Value)} {r : List PK} : CS ke (key p) → CS ve p.2.2 → p.2.2.length ≤ 100 → PairsAre env pos ps r →
    PairsAre env pos ((eval (.Tuple ke kk kp) env, (do let x ← eval (.Tuple ve vk vp) env; standAt pos; pure x)) :: ps) (p :: r)
/-- the state behind some of the pairs: the dict first, then keys and values -/
def mid (w : World) (prog : Program) (s : Shared) (L : List PK) : Shared := { s with heap := ext s.heap (dO ((lx (s.heap.objs.size + 1) L).map (entryOfKey (tupleKind (strKind prog w)))) :: lo s.toks L), toks := lt s.toks L }
/-- d[k] = v of a new key: the entry is the last -/
theorem wp_new {s : Shared} {L : List PK} {p : PK} {h : Heap} {t : Nat} {Q : Unit → Shared → Prop} (hu : A.units < cLine) (hs : s.heap = ext h (dO ((lx (h.objs.size + 1) L).map (entryOfKey (tupleKind (strKind prog w)))) :: lo t (L ++ [p])))
    (hn : ((L ++ [p]).map key).Nodup) (hz : L.length ≤ 1000) (q : Q () { s with heap := ext h (dO ((lx (h.objs.size + 1) (L ++ [p])).map (entryOfKey (tupleKind (strKind prog w)))) :: lo t (L ++ [p])), toks := s.toks + 3 }) :
    wpAny (model prog w) A (dictSet h.objs.size (.ref (h.objs.size + 1 + 2 * L.length)) (.ref (h.objs.size + 1 + 2 * L.length + 1))) Q E s := by
  obtain ⟨hp, g, d, tk, os⟩ := s
  have hs : hp = _ := hs
  have is : ∀ x ∈ lx (h.objs.size + 1) (L ++ [p]), IsTupleKey (strKind prog w) hp x.1 x.2.1 := by
    rw [hs]
    exact lx_is (L ++ [p]) t 1 fun j o e => by rw [show 1 + j = j + 1 by omega]; exact e
  have mine : IsTupleKey (strKind prog w) hp (key p) (h.objs.size + 1 + 2 * L.length) := is (key p, _, _) (by
    rw [lx_app]
    exact List.mem_append_right _ (List.mem_cons_self ..))
  have hd : hp.get? h.objs.size = some (dO ((lx (h.objs.size + 1) L).map (entryOfKey (tupleKind (strKind prog w))))) := by
    rw [hs]
    exact ext_get (h := h) (i := 0) rfl (fun c d s z => by injection z with _ _ z _; exact nomatch z)
  have nk : ∀ (j : Nat) (x : Addr × Value), (lx (h.objs.size + 1) L)[j]? ≠ some (key p, x) := fun j x z => by
    rw [List.map_append, List.nodup_append] at hn
    have m1 : key p ∈ L.map key := by
      rw [← lx_keys L (h.objs.size + 1)]
      exact List.mem_map.mpr ⟨_, List.mem_of_getElem? z, rfl⟩
    exact hn.2.2 _ m1 _ (List.mem_singleton.mpr rfl) rfl
  unfold dictSet
  try with_reducible refine wpAny_holding ?_
  refine wpAny_bind ((tupleKind (strKind prog w)).pyHash hu mine ?_)
  unfold dictSetHashed
  try with_reducible refine wpAny_holding ?_
  refine wpAny_bind (wpAny_dictFind_heap (knd := tupleKind (strKind prog w)) (s := ⟨hp, g, d, tk + 3, os⟩) hu mine hd rfl (by simp) (fun x hx => is x (by rw [lx_app]; exact List.mem_append_left _ hx)) (by
    rw [lx_keys]
    rw [List.map_append, List.nodup_append] at hn
    exact hn.1) (fun _ => ?_) fun j x z => absurd z (nk j x))
  refine wpAny_bind (wpAny_rule (wpAny_updateDictKeys (s := ⟨hp, g, d, tk + 3, os⟩) hd rfl ?_ (by
    rw [List.size_toArray, List.length_map, lx_len]
    exact Nat.le_trans hz (by decide))))
  have e : hp.update h.objs.size (Obj.mapDictKeys fun es => es.push ⟨(tupleKind (strKind prog w)).hash (key p), .ref (h.objs.size + 1 + 2 * L.length), .ref (h.objs.size + 1 + 2 * L.length + 1)⟩) = ext h (dO ((lx (h.objs.size + 1) (L ++ [p])).map (entryOfKey (tupleKind (strKind prog w)))) :: lo t (L ++ [p])) := by
    rw [hs, ext_upd]
    congr 2
    rw [lx_app, List.map_append]
    show (⟨_, _, _, _⟩ : Obj) = ⟨_, _, _, _⟩
    simp [dO, Obj.mapDictKeys, lx, entryOfKey]
  rw [e]
  exact q
/-- pair by pair -/
theorem wp_long {pos : Pos} {s : Shared} (hu : A.units < cLine) : ∀ (rest done : List PK) (pairs : List (Sem Value × Sem Value)) (Q : PUnit → Shared → Prop), PairsAre env pos pairs rest → ((done ++ rest).map key).Nodup → (done ++ rest).length ≤ 1000 → Q PUnit.unit (mid w prog s (done ++ rest)) →
    wpAny (model prog w) A (forIn pairs PUnit.unit fun (x : Sem Value × Sem Value) (_ : PUnit) => (do let kv ← x.1; let vv ← holding [kv] x.2; holding [kv, vv] (dictSet s.heap.objs.size kv vv); pure (ForInStep.yield PUnit.unit) : Sem (ForInStep PUnit))) Q E (mid w prog s done)
  | _, done, _, Q, .nil, _, _, q => by
    rw [List.append_nil] at q
    rw [List.forIn_nil]
    exact wpAny_pure q
  | _, done, _, Q, .cons (ke := ke) (ve := ve) (kk := kk) (vk := vk) (kp := kp) (vp := vp) (p := p) (ps := ps) (r := r) c1 c2 c3 c4, hn, hl, q => by
    rw [List.forIn_cons]
    dsimp only
    have ed : done ++ p :: r = (done ++ [p]) ++ r := by simp
    rw [ed] at hn hl q
    have hl' : (done ++ [p]).length ≤ 1000 := Nat.le_trans (by rw [List.length_append (as := done ++ [p])]; exact Nat.le_add_right _ _) hl
    have hn' : ((done ++ [p]).map key).Nodup := by
      rw [List.map_append] at hn
      exact (List.nodup_append.mp hn).1
    refine wpAny_bind (wpAny_bind (wp_tuple (k := kk) (pos := kp) c1 (by show 2 ≤ 100; decide) (wpAny_bind (wpAny_holding (wpAny_bind (wp_tuple (k := vk) (pos := vp) c2 c3 (wpAny_bind (wpAny_standAt (wpAny_pure ?_)))))))))
    have es : s.heap.objs.size + 1 + 2 * done.length = (mid w prog s done).heap.objs.size := by
      show _ = (ext s.heap _).objs.size
      rw [ext_size, List.length_cons, lo_len]
      omega
    have e2 : ∀ o, ((mid w prog s done).heap.push o).objs.size = s.heap.objs.size + 1 + 2 * done.length + 1 := fun o => by
      rw [Heap.size_push, es]
    have e1 : (ext s.heap (dO ((lx (s.heap.objs.size + 1) done).map (entryOfKey (tupleKind (strKind prog w)))) :: lo s.toks done)).objs.size = s.heap.objs.size + 1 + 2 * done.length := es.symm
    have eo : lo s.toks (done ++ [p]) = lo s.toks done ++ [tO (lt s.toks done) (key p)] ++ [tO (lt s.toks done + 2) p.2.2] := by
      rw [lo_app]
      simp [lo]
    have et : lt s.toks (done ++ [p]) = lt s.toks done + p.2.2.length + 5 := by
      rw [lt_app]
      rfl
    refine wpAny_bind (wpAny_holding ?_)
    show wpAny _ _ (dictSet s.heap.objs.size (.ref (mid w prog s done).heap.objs.size) (.ref ((mid w prog s done).heap.push _).objs.size)) _ _ _
    rw [e2, ← es]
    refine wp_new (t := s.toks) (p := p) hu ?_ hn' (by rw [List.length_append] at hl'; omega) (wpAny_pure ?_)
    · show ((ext s.heap _).push _).push _ = _
      rw [ext_push, ext_push, eo]
      rfl
    · refine (congrArg (fun x => wpAny (model prog w) A _ Q E x) ?_).mp (wp_long hu r (done ++ [p]) ps Q c4 hn hl q)
      show mid w prog s (done ++ [p]) = _
      unfold mid
      rw [et]
      show Shared.mk _ _ _ _ _ = Shared.mk _ _ _ _ _
      congr 1
      show lt s.toks done + p.2.2.length + 5 = lt s.toks done + 2 + p.2.2.length + 3
      omega
end
end Fw

set_option Elab.async false
set_option linter.all false
set_option maxRecDepth 100000
set_option maxHeartbeats 2000000
namespace Fw
open PySem PySem.W PySem.Calls PyProof.Rows
theorem ext_ext (h : Heap) (a b : List Obj) : ext (ext h a) b = ext h (a ++ b) := by
  show (⟨(h.objs ++ a.toArray) ++ b.toArray, h.life⟩ : Heap) = ⟨h.objs ++ (a ++ b).toArray, h.life⟩
  congr 1
  simp
section
variable {prog : Program} {w : World} {A : Around} {E : Value → Shared → Prop} {env : Env}
theorem pairs_len {pos : Pos} : ∀ {ps : List (Sem Value × Sem Value)} {L : List PK}, PairsAre env pos ps L → ps.length = L.length
  | _, _, .nil => rfl
  | _, _, .cons _ _ _ r => congrArg (· + 1) (pairs_len r)
theorem wp_sub_long {pos : Pos} {s : Shared} {ps : List (Sem Value × Sem Value)} {L : List PK} {Q : Addr → Shared → Prop} (hu : A.units < cLine) (c : PairsAre env pos ps L) (h15 : 15 < ps.length) (hn : (L.map key).Nodup) (hl : L.length ≤ 1000) (q : Q s.heap.objs.size (mid w prog s L)) :
    wpAny (model prog w) A (subDict ps) Q E s := by
  unfold subDict
  refine wpAny_bind (wpAny_alloc ?_)
  refine wpAny_bind (wpAny_holding ?_)
  rw [if_neg (by omega)]
  refine wpAny_bind (wpAny_rule ?_)
  have e : (Shared.mk (s.heap.push { cls := .type "dict", data := .dict #[] }) s.gens s.drawn s.toks s.os) = mid w prog s [] := by
    have z : s.heap.push { cls := .type "dict", data := .dict #[] } = ext s.heap [dO []] := by
      have z := ext_push s.heap [] { cls := .type "dict", data := .dict #[] }
      rw [ext_nil] at z
      exact z
    show Shared.mk _ _ _ _ _ = Shared.mk (ext s.heap [dO []]) _ _ _ _
    rw [z]
    rfl
  rw [e]
  exact wpAny_bind (wp_long (E := E) hu L [] ps _ c hn hl (wpAny_pure (wpAny_pure q)))
theorem wp_sub_one {pos : Pos} {s : Shared} {ps : List (Sem Value × Sem Value)} {p : PK} {Q : Addr → Shared → Prop} (hu : A.units < cLine) (c : PairsAre env pos ps [p]) (q : Q s.heap.objs.size (mid w prog s [p])) :
    wpAny (model prog w) A (subDict ps) Q E s := by
  cases c with
  | cons c1 c2 c3 c4 =>
    rename_i ke ve kk vk kp vp ps
    cases c4
    unfold subDict
    refine wpAny_bind (wpAny_alloc ?_)
    refine wpAny_bind (wpAny_holding ?_)
    rw [if_pos (by show 1 ≤ 15; decide)]
    unfold evalPairs
    refine wpAny_bind (wpAny_bind (wp_tuple (k := kk) (pos := kp) c1 (by show 2 ≤ 100; decide) (wpAny_bind (wpAny_holding (wpAny_bind (wp_tuple (k := vk) (pos := vp) c2 c3 (wpAny_bind (wpAny_standAt (wpAny_pure ?_)))))))))
    unfold evalPairs
    refine wpAny_bind (wpAny_holding (wpAny_pure (wpAny_pure ?_)))
    refine wpAny_holding ?_
    rw [List.forIn_cons]
    dsimp only
    have e1 : (s.heap.push { cls := .type "dict", data := .dict #[] }).objs.size = s.heap.objs.size + 1 + 2 * ([] : List PK).length := by rw [Heap.size_push]; rfl
    have e2 : ∀ o, ((s.heap.push { cls := .type "dict", data := .dict #[] }).push o).objs.size = s.heap.objs.size + 1 + 2 * ([] : List PK).length + 1 := fun o => by rw [Heap.size_push, Heap.size_push]; rfl
    rw [e1, e2]
    refine wpAny_bind (wpAny_bind (wpAny_bind (wp_new (t := s.toks) (p := p) (L := []) hu ?_ (by simp) (Nat.zero_le _) (wpAny_pure ?_))))
    · show ((s.heap.push _).push _).push _ = _
      conv => lhs; rw [← ext_nil s.heap]
      rw [ext_push, ext_push, ext_push]
      rfl
    · dsimp only
      rw [List.forIn_nil]
      refine wpAny_pure (wpAny_pure (wpAny_pure ?_))
      refine (congrArg (fun x => Q s.heap.objs.size x) ?_).mp q
      unfold mid
      show Shared.mk _ _ _ _ _ = Shared.mk _ _ _ _ _
      congr 1
      show s.toks + p.2.2.length + 5 = s.toks + 2 + p.2.2.length + 3
      omega
/-- the state behind the whole display -/
def fin (w : World) (prog : Program) (s : Shared) (L : List PK) (p : PK) : Shared :=
  let m := s.heap.objs.size
  let a := m + 1 + 2 * L.length
  let k := tupleKind (strKind prog w)
  { s with heap := ext s.heap (dO ((lx (m + 1) L ++ lx (a + 1) [p]).map (entryOfKey k)) :: (lo s.toks L ++ dO ((lx (a + 1) [p]).map (entryOfKey k)) :: lo (lt s.toks L) [p])), toks := lt s.toks (L ++ [p]) }
theorem wp_merge {s : Shared} {L : List PK} {p : PK} {Q : Unit → Shared → Prop} (hu : A.units < cLine) (hn : ((L ++ [p]).map key).Nodup) (hl : L.length ≤ 1000) (h0 : L ≠ []) (hm : sysModules < s.heap.objs.size) (q : Q () (fin w prog s L p)) :
    wpAny (model prog w) A (mergeMapping s.heap.objs.size (.ref (s.heap.objs.size + 1 + 2 * L.length)) false) Q E (mid w prog (mid w prog s L) [p]) := by
  have ea : (ext s.heap (dO ((lx (s.heap.objs.size + 1) L).map (entryOfKey (tupleKind (strKind prog w)))) :: lo s.toks L)).objs.size = s.heap.objs.size + 1 + 2 * L.length := by
    rw [ext_size, List.length_cons, lo_len]
    omega
  have eS : mid w prog (mid w prog s L) [p] = { s with heap := ext s.heap (dO ((lx (s.heap.objs.size + 1) L).map (entryOfKey (tupleKind (strKind prog w)))) :: (lo s.toks L ++ dO ((lx (s.heap.objs.size + 1 + 2 * L.length + 1) [p]).map (entryOfKey (tupleKind (strKind prog w)))) :: lo (lt s.toks L) [p])), toks := lt s.toks (L ++ [p]) } := by
    unfold mid
    dsimp only
    rw [ea, ext_ext, lt_app]
    rfl
  rw [eS]
  generalize hH : ext s.heap (dO ((lx (s.heap.objs.size + 1) L).map (entryOfKey (tupleKind (strKind prog w)))) :: (lo s.toks L ++ dO ((lx (s.heap.objs.size + 1 + 2 * L.length + 1) [p]).map (entryOfKey (tupleKind (strKind prog w)))) :: lo (lt s.toks L) [p])) = H
  have nf : ∀ es c d sl, dO es ≠ ⟨c, d, .freed, sl⟩ := fun es c d sl z => by injection z with _ _ z _; exact nomatch z
  have gd : H.get? s.heap.objs.size = some (dO ((lx (s.heap.objs.size + 1) L).map (entryOfKey (tupleKind (strKind prog w))))) := by
    rw [← hH]
    exact ext_get (h := s.heap) (i := 0) rfl (nf _)
  have gs : H.get? (s.heap.objs.size + 1 + 2 * L.length) = some (dO ((lx (s.heap.objs.size + 1 + 2 * L.length + 1) [p]).map (entryOfKey (tupleKind (strKind prog w))))) := by
    rw [← hH, show s.heap.objs.size + 1 + 2 * L.length = s.heap.objs.size + (1 + 2 * L.length) by omega]
    refine ext_get (h := s.heap) (i := 1 + 2 * L.length) ?_ (nf _)
    rw [show 1 + 2 * L.length = 2 * L.length + 1 by omega, List.getElem?_cons_succ, List.getElem?_append_right (by rw [lo_len]; exact Nat.le_refl _), lo_len, Nat.sub_self]
    rfl
  have is1 : ∀ x ∈ lx (s.heap.objs.size + 1) L, IsTupleKey (strKind prog w) H x.1 x.2.1 := by
    rw [← hH]
    refine lx_is L s.toks 1 fun j o e => ?_
    rw [show 1 + j = j + 1 by omega, List.getElem?_cons_succ, List.getElem?_append_left (by
      have := (List.getElem?_eq_some_iff.mp e).1
      exact this)]
    exact e
  have is2 : IsTupleKey (strKind prog w) H (key p) (s.heap.objs.size + 1 + 2 * L.length + 1) := by
    rw [← hH, show s.heap.objs.size + 1 + 2 * L.length + 1 = s.heap.objs.size + (2 * L.length + 2) by omega]
    refine tO_key (t := lt s.toks L) ?_
    rw [show 2 * L.length + 2 = (2 * L.length + 1) + 1 by omega, List.getElem?_cons_succ, List.getElem?_append_right (by rw [lo_len]; omega), lo_len, show 2 * L.length + 1 - 2 * L.length = 1 by omega]
    rfl
  have nk : ∀ (j : Nat) (x : Addr × Value), (lx (s.heap.objs.size + 1) L)[j]? ≠ some (key p, x) := fun j x z => by
    rw [List.map_append, List.nodup_append] at hn
    have m1 : key p ∈ L.map key := by
      rw [← lx_keys L (s.heap.objs.size + 1)]
      exact List.mem_map.mpr ⟨_, List.mem_of_getElem? z, rfl⟩
    exact hn.2.2 _ m1 _ (List.mem_singleton.mpr rfl) rfl
  have hT : (Shared.mk H s.gens s.drawn (lt s.toks (L ++ [p])) s.os).TypeIs (.ref (s.heap.objs.size + 1 + 2 * L.length)) "dict" := ⟨_, gs, rfl⟩
  unfold mergeMapping
  refine wpAny_bind (wpAny_isInstance hT isSubtype_dict_dict ?_)
  rw [if_pos rfl]
  refine wpAny_bind (wpAny_specialOf hT F.slot_dict_iter.lookup ?_)
  rw [show ((some (Value.builtin "dict.__iter__") : Option Value) == some (Value.builtin "dict.__iter__")) = true from beq_self_eq_true _]
  refine wpAny_bind (wpAny_pure ?_)
  dsimp only
  rw [if_neg (by
    rw [beq_iff_eq]
    intro z
    have y := hm
    rw [← z] at y
    exact absurd y (Nat.not_lt.mpr (by omega)))]
  refine wpAny_bind (wpAny_dictEntries gd rfl ?_)
  rw [if_neg (by
    intro z
    have : ((lx (s.heap.objs.size + 1) L).map (entryOfKey (tupleKind (strKind prog w)))) = [] := by simpa using z
    rw [List.map_eq_nil_iff] at this
    have := congrArg List.length this
    rw [lx_len] at this
    exact h0 (List.eq_nil_of_length_eq_zero this))]
  refine wpAny_bind (wpAny_dictEntries gs rfl ?_)
  refine wpAny_bind (wpAny_dictEpoch gs rfl ?_)
  show wpAny _ _ (forIn (List.range 1) PUnit.unit _ >>= _) _ _ _
  rw [show List.range 1 = [0] from rfl, List.forIn_cons]
  refine wpAny_bind (wpAny_bind (wpAny_bind (wpAny_dictEntries gs rfl ?_)))
  show wpAny _ _ (do
    holding [Value.ref (s.heap.objs.size + 1 + 2 * L.length + 1), Value.ref (s.heap.objs.size + 1 + 2 * L.length + 1 + 1)] (dictPut s.heap.objs.size ((tupleKind (strKind prog w)).hash (key p)) (Value.ref (s.heap.objs.size + 1 + 2 * L.length + 1)) (Value.ref (s.heap.objs.size + 1 + 2 * L.length + 1 + 1)))
    let x ← dictEpoch (s.heap.objs.size + 1 + 2 * L.length)
    if (x != 1) = true then do
        let _ ← (unsupported "dict.changed-during-merge" : Sem PUnit)
        pure (ForInStep.yield PUnit.unit)
      else pure (ForInStep.yield PUnit.unit) : Sem (ForInStep PUnit)) _ _ _
  refine wpAny_bind (wpAny_holding ?_)
  unfold dictPut
  refine wpAny_bind (wpAny_dictFind_heap (knd := tupleKind (strKind prog w)) hu is2 gd rfl (by simp) is1 (by
    rw [lx_keys]
    rw [List.map_append, List.nodup_append] at hn
    exact hn.1) (fun _ => ?_) fun j x z => absurd z (nk j x))
  refine wpAny_updateDictKeys gd rfl ?_ (by
    rw [List.size_toArray, List.length_map, lx_len]
    exact Nat.le_trans hl (by decide))
  have eH : H.update s.heap.objs.size (Obj.mapDictKeys fun es => es.push ⟨(tupleKind (strKind prog w)).hash (key p), .ref (s.heap.objs.size + 1 + 2 * L.length + 1), .ref (s.heap.objs.size + 1 + 2 * L.length + 1 + 1)⟩) = (fin w prog s L p).heap := by
    rw [← hH, ext_upd]
    show ext s.heap _ = ext s.heap _
    congr 2
    rw [List.map_append]
    show (⟨_, _, _, _⟩ : Obj) = ⟨_, _, _, _⟩
    simp [dO, Obj.mapDictKeys, lx, entryOfKey]
  rw [eH]
  have e9 : s.heap.objs.size + 1 + 2 * L.length = s.heap.objs.size + (2 * L.length + 1) := by omega
  have gs' : (fin w prog s L p).heap.get? (s.heap.objs.size + 1 + 2 * L.length) = some (dO ((lx (s.heap.objs.size + 1 + 2 * L.length + 1) [p]).map (entryOfKey (tupleKind (strKind prog w))))) := by
    refine (congrArg (fun a => (fin w prog s L p).heap.get? a) e9).trans (ext_get (h := s.heap) (i := 2 * L.length + 1) ?_ (nf _))
    rw [List.getElem?_cons_succ, List.getElem?_append_right (by rw [lo_len]; exact Nat.le_refl _), lo_len, Nat.sub_self]
    rfl
  refine wpAny_bind (wpAny_dictEpoch gs' rfl ?_)
  rw [if_neg (by show ¬ ((1 : Nat) != 1) = true; decide)]
  refine wpAny_pure ?_
  dsimp only
  rw [List.forIn_nil]
  exact wpAny_pure (wpAny_pure q)
end
end Fw

set_option Elab.async false
set_option linter.all false
set_option maxRecDepth 100000
set_option maxHeartbeats 2000000
namespace Fw
open PySem PySem.W PySem.Calls PyProof.Rows
abbrev PS : Type := Sem Value × Sem Value
theorem gather (f : (Option (Sem Value) × Sem Value) → (Option Addr × List PS) → Sem (ForInStep (Option Addr × List PS))) (hf : ∀ (p : PS) (run : List PS), run.length + 1 < 17 → f (some p.1, p.2) (none, run) = pure (.yield (none, run ++ [p]))) (rest : List PS) :
    ∀ (a run : List PS), run.length + a.length < 17 → forIn ((a ++ rest).map fun p => (some p.1, p.2)) ((none : Option Addr), run) f = forIn (rest.map fun p => (some p.1, p.2)) ((none : Option Addr), run ++ a) f
  | [], run, _ => by rw [List.append_nil]; rfl
  | p :: a, run, h => by
    rw [List.length_cons] at h
    rw [List.cons_append, List.map_cons, List.forIn_cons, hf p run (by omega), pure_bind]
    dsimp only
    rw [gather f hf rest a (run ++ [p]) (by rw [List.length_append]; show run.length + 1 + a.length < 17; omega), List.append_assoc]
    rfl
section
variable {prog : Program} {w : World} {A : Around} {E : Value → Shared → Prop} {env : Env}
theorem wp_display {pos : Pos} {s : Shared} {a : List PS} {b c : PS} {L : List PK} {p : PK} {Q : Value → Shared → Prop} (hu : A.units < cLine) (ha : a.length = 16) (c1 : PairsAre env pos (a ++ [b]) L) (c2 : PairsAre env pos [c] [p]) (hn : ((L ++ [p]).map key).Nodup) (hm : sysModules < s.heap.objs.size)
    (q : Q (.ref s.heap.objs.size) (fin w prog s L p)) : wpAny (model prog w) A (dictDisplay ((a ++ [b, c]).map fun p => (some p.1, p.2))) Q E s := by
  have hL : L.length = 17 := by
    rw [← pairs_len c1, List.length_append, ha]
    rfl
  have hn1 : (L.map key).Nodup := by
    rw [List.map_append] at hn
    exact (List.nodup_append.mp hn).1
  unfold dictDisplay
  dsimp only
  rw [gather _ (fun p run h => by
    have hne : ((run ++ [(p.1, p.2)]).length == 17) = false := by simp; omega
    simp only [hne, Bool.false_eq_true, if_false]) [b, c] a [] (by rw [ha]; decide)]
  rw [List.nil_append, List.map_cons, List.forIn_cons]
  have e17 : ((a ++ [(b.1, b.2)]).length == 17) = true := by rw [List.length_append, ha]; rfl
  have ne : (a ++ [(b.1, b.2)]).isEmpty = false := by cases a <;> rfl
  simp only [e17, if_true, ne, Bool.false_eq_true, if_false]
  refine wpAny_bind (wpAny_bind (wpAny_bind (wpAny_bind (wp_sub_long (w := w) (prog := prog) hu c1 (by rw [List.length_append, ha]; show 15 < 17; decide) hn1 (by rw [hL]; decide) ?_))))
  refine wpAny_pure (wpAny_pure ?_)
  dsimp only
  rw [List.map_cons, List.map_nil, List.forIn_cons]
  simp only [List.nil_append, List.length_singleton, show ((1 : Nat) == 17) = false from rfl, Bool.false_eq_true, if_false]
  refine wpAny_bind (wpAny_pure ?_)
  dsimp only
  rw [List.forIn_nil]
  refine wpAny_pure ?_
  simp only [List.isEmpty_cons, Bool.false_eq_true, if_false]
  refine wpAny_bind (wpAny_bind (wpAny_holding (wp_sub_one (w := w) (prog := prog) hu c2 ?_)))
  have es : (mid w prog s L).heap.objs.size = s.heap.objs.size + 1 + 2 * L.length := by
    show (ext s.heap _).objs.size = _
    rw [ext_size, List.length_cons, lo_len]
    omega
  rw [es]
  refine wpAny_bind (wpAny_onRaise (wpAny_holding (wp_merge hu hn (by rw [hL]; decide) (fun z => by rw [z] at hL; exact nomatch hL) hm ?_)))
  exact wpAny_pure (wpAny_pure q)
end
end Fw

set_option Elab.async false
set_option linter.all false
set_option maxRecDepth 100000
set_option maxHeartbeats 2000000
/-! The top with the display in its midst, run in the kernel ahead of it and behind it. -/
noncomputable section
namespace Fw
open PySem PySem.W PySem.Calls PyProof.Rows HandSHeadRun
section
variable (st : SharedT → Thread → Option (SharedT × Thread)) (n0 : Nat) (ann : Option Value)
def goS : Nat → SharedT → Thread → Option (SharedT × Thread)
  | 0, s, t => some (s, t)
  | m + 1, s, t => match through t with
    | true => none
    | false => match stepOk n0 ann t with
      | false => none
      | true => match st s t with
        | some (s', t') => frS s' fun s' => goS m s' t'
        | none => none
def segF : Nat → SharedT → Thread → Option (Flow × SharedT × Code × Pos)
  | 0, _, _ => none
  | m + 1, s, t => match endAt 1 t with
    | some f => some (f, s, t.code, t.pos)
    | none => match stepOk n0 ann t with
      | false => none
      | true => match st s t with
        | some (s', t') => frS s' fun s' => segF m s' t'
        | none => none
end
section
variable {tb : String → Option Builtin} {p : Program} {w : World} {n0 : Nat} {ann : Option Value}
theorem goS_ok : ∀ {m : Nat} {s s' : SharedT} {t t' : Thread}, goS (stepT (denote tb) p w) n0 ann m s t = some (s', t') → topGo tb p w n0 ann m s.abs t = some (s'.abs, t')
  | 0, s, s', t, t', h => by
    cases (show some (s, t) = some (s', t') from h)
    rfl
  | m + 1, s, s', t, t', h => by
    have h : (match through t with
      | true => none
      | false => match stepOk n0 ann t with
        | false => none
        | true => match stepT (denote tb) p w s t with
          | some (s', t') => frS s' fun s' => goS (stepT (denote tb) p w) n0 ann m s' t'
          | none => none) = some (s', t') := h
    cases h1 : through t with
    | true => rw [h1] at h; exact nomatch h
    | false =>
      cases h2 : stepOk n0 ann t with
      | false => rw [h1, h2] at h; exact nomatch h
      | true =>
        rw [h1, h2] at h
        cases h3 : stepT (denote tb) p w s t with
        | none => rw [h3] at h; exact nomatch h
        | some r =>
          obtain ⟨s2, t2⟩ := r
          rw [h3] at h
          have h : (frS s2 fun s' => goS (stepT (denote tb) p w) n0 ann m s' t2) = some (s', t') := h
          rw [frS_eq] at h
          exact go_one h1 h2 (stepT_spec h3) (goS_ok h)
theorem segF_ok : ∀ {m : Nat} {s s' : SharedT} {t : Thread} {f : Flow} {c : Code} {q : Pos}, segF (stepT (denote tb) p w) n0 ann m s t = some (f, s', c, q) → segRun tb p w n0 ann 1 m s.abs t = some (f, s'.abs, c, q)
  | 0, _, _, _, _, _, _, h => nomatch (show (none : Option (Flow × SharedT × Code × Pos)) = some _ from h)
  | m + 1, s, s', t, f, c, q, h => by
    have h : (match endAt 1 t with
      | some f => some (f, s, t.code, t.pos)
      | none => match stepOk n0 ann t with
        | false => none
        | true => match stepT (denote tb) p w s t with
          | some (s', t') => frS s' fun s' => segF (stepT (denote tb) p w) n0 ann m s' t'
          | none => none) = some (f, s', c, q) := h
    unfold segRun
    cases h1 : endAt 1 t with
    | some g =>
      rw [h1] at h
      cases (show some (g, s, t.code, t.pos) = some (f, s', c, q) from h)
      rfl
    | none =>
      cases h2 : stepOk n0 ann t with
      | false => rw [h1, h2] at h; exact nomatch h
      | true =>
        rw [h1, h2] at h
        cases h3 : stepT (denote tb) p w s t with
        | none => rw [h3] at h; exact nomatch h
        | some r =>
          obtain ⟨s2, t2⟩ := r
          rw [h3] at h
          have h : (frS s2 fun s' => segF (stepT (denote tb) p w) n0 ann m s' t2) = some (f, s', c, q) := h
          rw [frS_eq] at h
          show (match step (denote tb) p w s.abs t with
            | .go s' t' => segRun tb p w n0 ann 1 m s' t'
            | .halt _ _ => none) = some (f, s'.abs, c, q)
          rw [stepT_spec h3]
          exact segF_ok h
end
/-! ### the display's objects behind a tree -/
def finObjs (w : World) (prog : Program) (m t : Nat) (L : List PK) (p : PK) : List Obj :=
  dO ((lx (m + 1) L ++ lx (m + 1 + 2 * L.length + 1) [p]).map (entryOfKey (tupleKind (strKind prog w)))) :: (lo t L ++ dO ((lx (m + 1 + 2 * L.length + 1) [p]).map (entryOfKey (tupleKind (strKind prog w)))) :: lo (lt t L) [p])
def layT (w : World) (prog : Program) (L : List PK) (p : PK) (s : SharedT) : Option SharedT := match putAll (finObjs w prog s.n s.toks L p) s.tree s.n with
  | some (t, n) => frNat n fun n => some ⟨t, n, s.life, s.gens, s.drawn, lt s.toks (L ++ [p]), s.os⟩
  | none => none
theorem ext_foldl : ∀ (l : List Obj) (h : Heap), l.foldl (fun h o => h.push o) h = ext h l
  | [], h => (ext_nil h).symm
  | o :: l, h => by
    show l.foldl _ (h.push o) = _
    rw [ext_foldl l (h.push o)]
    have z := ext_push h [] o
    rw [ext_nil] at z
    rw [z, ext_ext]
    rfl
theorem layT_ok {w : World} {prog : Program} {L : List PK} {p : PK} {s s' : SharedT} (h : layT w prog L p s = some s') : s'.abs = fin w prog s.abs L p := by
  unfold layT at h
  cases e : putAll (finObjs w prog s.n s.toks L p) s.tree s.n with
  | none => rw [e] at h; exact nomatch h
  | some r =>
    obtain ⟨t, n⟩ := r
    rw [e] at h
    have h : (frNat n fun n => some (⟨t, n, s.life, s.gens, s.drawn, lt s.toks (L ++ [p]), s.os⟩ : SharedT)) = some s' := h
    rw [frNat_eq] at h
    cases h
    have q := putAll_ok (life := s.life) e
    rw [ext_foldl] at q
    have sz : (absHeap s.tree s.n s.life).objs.size = s.n := absHeap_size s.tree s.n s.life
    show Shared.mk (absHeap t n s.life) s.gens s.drawn _ s.os = Shared.mk (ext (absHeap s.tree s.n s.life) _) s.gens s.drawn _ s.os
    rw [q]
    show _ = Shared.mk (ext (absHeap s.tree s.n s.life) (finObjs w prog (absHeap s.tree s.n s.life).objs.size s.toks L p)) s.gens s.drawn _ s.os
    rw [sz]
    rfl
/-! ### the whole -/
structure Plan where
  p : Program
  env : Env
  q0 : Pos
  pos0 : Pos
  l : List Stmt
  rest : List Stmt
  x : Str
  np : Pos
  keys : List (Option Expr)
  values : List Expr
  dpos : Pos
  apos : Pos
  L : List PK
  pk : PK
  k0 : Nat
  kB : Nat
  kL : Nat
  kF : Nat
  M : Nat
def Plan.st (D : Plan) : Stmt := .Assign [.Name D.x D.np] (.Dict D.keys D.values D.dpos) D.apos
def Plan.b (D : Plan) : List Stmt := D.l ++ D.st :: D.rest
def Plan.c (D : Plan) : Code := .body (behindTheImports D.p) D.env
def Plan.B (D : Plan) : List Frame := [topFrame D.q0]
def Plan.F (D : Plan) (v : Value) : Sem Flow := do
  standAt D.np
  bindName D.env D.x v
  pure .next
structure Big where
  tA : Thread
  n1 : Nat
  cB : Code
  c1 : Code
  c3 : Code
  s4 : SharedT
def bigF (st : SharedT → Thread → Option (SharedT × Thread)) (D : Plan) (w : World) (os : OsState) (p2 : Pos) : Option Big := match putAll (boot_heap w.params).objs.toList .nil 0 with
  | none => none
  | some (t, n) => frNat n fun n0 => match goS st n0 (bootAnn w) D.k0 (bootT w os (t, n0)) (topStub D.p) with
    | none => none
    | some (sA, tA) => match segF st n0 (bootAnn w) D.kB sA (blockOf (behindTheImports D.p) D.env D.c D.pos0 D.B) with
      | some (.next, sB, cB, pB) => (match segF st n0 (bootAnn w) D.kL sB (piecesOf D.l D.env D.c pB D.B) with
        | some (.next, s1, c1, _) => (match layT w D.p D.L D.pk s1 with
          | some s2 => (match segF st n0 (bootAnn w) D.kF s2 ⟨(D.F (.ref s1.n)).wrap doneF deadEnd id id, D.c, p2, D.B⟩ with
            | some (.next, s3, c3, p3) => (match goF st n0 (bootAnn w) D.M s3 (restOf D.rest D.env D.c p3 D.B) with
              | some s4 => some ⟨tA, s1.n, cB, c1, c3, s4⟩
              | none => none)
            | _ => none)
          | none => none)
        | _ => none)
      | _ => none
end Fw

end
set_option Elab.async false
set_option linter.all false
set_option maxRecDepth 100000
set_option maxHeartbeats 2000000
noncomputable section
namespace Fw
open PySem PySem.W PySem.Calls PyProof.Rows HandSHeadRun
/-- an expression by wp, with what stands behind it; its end told by a property -/
theorem halts_mid' {p : Program} {w : World} {α : Type} {m : Sem α} {K : α → Sem Fin} {H : Value → Sem Fin} {gd : Bool → Bool} {lv : List Value → List Value} {s : Shared} {c : Code} {pos : Pos} {B : List Frame} {Q : α → Pos → Shared → Prop} {G : Shared → Prop}
    (hw : Sem.wp (model p w) ((⟨c, none, none, [], none⟩ : Ctx).over B) m Q (fun _ _ _ => False) pos s) (hk : ∀ a p' s', Q a p' s' → ∃ S, Halts p w s' ⟨K a, c, p', B⟩ S ∧ S.gens = #[] ∧ G S) : ∃ S, Halts p w s ⟨m.wrap K H gd lv, c, pos, B⟩ S ∧ S.gens = #[] ∧ G S := by
  obtain ⟨e, S, hr, f, he, hg, hS⟩ := runs_wrap_of_wp (M := model p w) (Γ := ⟨c, none, none, [], none⟩) (fs := B) (Φ := fun e s'' => ∃ f, e = .ret (.ok f) ∧ s''.gens = #[] ∧ G s'') K H gd lv m hw
    (fun a p' s' q => by
      obtain ⟨S, h1, h2, h3⟩ := hk a p' s' q
      obtain ⟨f, r⟩ := halts_runs h1 h2
      exact ⟨_, _, r, f, rfl, h2, h3⟩) (fun _ _ _ q => q.elim)
  subst he
  exact ⟨S, runs_halts hr hg, hg, hS⟩
/-- what an end keeps of a state -/
structure Keeps (n₀ : Nat) (ann : Option Value) (s S : Shared) : Prop where
  life : S.heap.life = s.heap.life
  os : S.os = s.os
  fr : ∀ b o, b < n₀ → b ≠ mainNs → b ≠ cStatics → ann ≠ some (.ref b) → s.heap.get? b = some o → S.heap.get? b = some o
theorem Keeps.trans {n₀ : Nat} {ann : Option Value} {a b c : Shared} (x : Keeps n₀ ann a b) (y : Keeps n₀ ann b c) : Keeps n₀ ann a c :=
  ⟨y.life.trans x.life, y.os.trans x.os, fun i o h1 h2 h3 h4 h => y.fr i o h1 h2 h3 h4 (x.fr i o h1 h2 h3 h4 h)⟩
theorem keeps_go {p : Program} {w : World} {tb : String → Option Builtin} {n₀ : Nat} {ann : Option Value} {n : Nat} {s s' : Shared} {t t' : Thread} (h : topGo tb p w n₀ ann n s t = some (s', t')) : Keeps n₀ ann s s' := by
  obtain ⟨a, b, c⟩ := go_keeps h
  exact ⟨a, b, c⟩
theorem keeps_fin {w : World} {prog : Program} {n₀ : Nat} {ann : Option Value} (s : Shared) (L : List PK) (p : PK) : Keeps n₀ ann s (fin w prog s L p) :=
  ⟨rfl, rfl, fun b o _ _ _ _ h => by
    have lt := Heap.lt_size h
    show (ext s.heap _).get? b = some o
    unfold Heap.get? ext at *
    rw [Array.getElem?_append_left lt]
    exact h⟩
section
variable {D : Plan} {w : World} {os : OsState}
/-- the Around of the top's body -/
def topA (D : Plan) : Around := { handled := none, depth := frameCount [(.builtin "claim.caller" {}, D.q0)] + D.c.weight, frames := none, guards := none, units := D.c.cUnits + unitsOf [(.builtin "claim.caller" {}, D.q0)] }
theorem top_in : ((⟨D.c, none, none, [], none⟩ : Ctx).over D.B).In (topA D) :=
  ⟨rfl, Nat.le_refl _, fun l hl => (nomatch (show (none : Option (List Env)) = some l from hl)), fun g hg => (nomatch (show (none : Option (List Code)) = some g from hg)), Nat.le_refl _⟩
/-- what must be shown of a plan -/
structure Plan.Ok (D : Plan) : Prop where
  body : behindTheImports D.p = D.l ++ D.st :: D.rest
  sw : swapsWith (.Dict D.keys D.values D.dpos) (some (.Name D.x D.np)) D.apos.line D.env = pure false
  shape : ∃ (a : List PS) (b c : PS), a.length = 16 ∧ (evalEachOpt D.keys D.env).zip ((evalEach D.values D.env).map fun v => do let x ← v; standAt D.dpos; pure x) = (a ++ [b, c]).map (fun p => (some p.1, p.2)) ∧ PairsAre D.env D.dpos (a ++ [b]) D.L ∧ PairsAre D.env D.dpos [c] [D.pk]
  nd : ((D.L ++ [D.pk]).map key).Nodup
  un : D.c.cUnits + unitsOf [(.builtin "claim.caller" {}, D.q0)] < cLine
theorem big_ends {D : Plan} {w : World} {os : OsState} {G : SharedT → Prop} (O : D.Ok)
    (run : ∀ p2, ∃ r, bigF (stepT (denote table) D.p w) D w os p2 = some r ∧ r.tA = ⟨denote table D.c, D.c, D.pos0, D.B⟩ ∧ Nat.blt sysModules r.n1 = true ∧ r.cB = D.c ∧ r.c1 = D.c ∧ r.c3 = D.c ∧ r.s4.gens = #[] ∧ G r.s4) (hz : (⟨boot_heap w.params, #[], boot_drawn, boot_toks, os⟩ : Shared).asleep) :
    ∃ S : SharedT, Halts D.p w ⟨boot_heap w.params, #[], boot_drawn, boot_toks, os⟩ (topStub D.p) S.abs ∧ S.gens = #[] ∧ Keeps (boot_heap w.params).objs.size (bootAnn w) ⟨boot_heap w.params, #[], boot_drawn, boot_toks, os⟩ S.abs ∧ G S := by
  -- what the run is, piece by piece
  have parts : ∀ p2, ∃ (sA sB s1 s2 s3 s4 : SharedT) (pB p1 p3 : Pos) (t : PySem.W.BT) (n : Nat), putAll (boot_heap w.params).objs.toList .nil 0 = some (t, n) ∧ goS (stepT (denote table) D.p w) n (bootAnn w) D.k0 (bootT w os (t, n)) (topStub D.p) = some (sA, ⟨denote table D.c, D.c, D.pos0, D.B⟩) ∧
      segF (stepT (denote table) D.p w) n (bootAnn w) D.kB sA (blockOf (behindTheImports D.p) D.env D.c D.pos0 D.B) = some (.next, sB, D.c, pB) ∧ segF (stepT (denote table) D.p w) n (bootAnn w) D.kL sB (piecesOf D.l D.env D.c pB D.B) = some (.next, s1, D.c, p1) ∧ Nat.blt sysModules s1.n = true ∧ layT w D.p D.L D.pk s1 = some s2 ∧
      segF (stepT (denote table) D.p w) n (bootAnn w) D.kF s2 ⟨(D.F (.ref s1.n)).wrap doneF deadEnd id id, D.c, p2, D.B⟩ = some (.next, s3, D.c, p3) ∧ goF (stepT (denote table) D.p w) n (bootAnn w) D.M s3 (restOf D.rest D.env D.c p3 D.B) = some s4 ∧ s4.gens = #[] ∧ G s4 := by
    intro p2
    obtain ⟨r, hr, e1, en1, e2, e3, e4, hg, hG⟩ := run p2
    unfold bigF at hr
    split at hr
    · exact nomatch hr
    rename_i t n ht
    rw [frNat_eq] at hr
    split at hr
    · exact nomatch hr
    rename_i sA tA hA
    split at hr
    · rename_i sB cB pB hB
      split at hr
      · rename_i s1 c1 p1 h1
        split at hr
        · rename_i s2 h2
          split at hr
          · rename_i s3 c3 p3 h3
            split at hr
            · rename_i s4 h4
              cases hr
              dsimp only at e1 en1 e2 e3 e4 hg hG
              subst e1 e2 e3 e4
              exact ⟨sA, sB, s1, s2, s3, s4, pB, p1, p3, t, n, ht, hA, hB, h1, en1, h2, h3, h4, hg, hG⟩
            · exact nomatch hr
          · exact nomatch hr
        · exact nomatch hr
      · exact nomatch hr
    · exact nomatch hr
  obtain ⟨sA, sB, s1, s2, _, _, pB, p1, _, t, n, ht, hA, hB, h1, n1, h2, _⟩ := parts default
  have eh := putAll_heap ht
  have en : (boot_heap w.params).objs.size = n := by
    rw [← eh]
    exact absHeap_size t n _
  have eb : (bootT w os (t, n)).abs = ⟨boot_heap w.params, #[], boot_drawn, boot_toks, os⟩ := by
    show (⟨absHeap t n (boot_heap w.params).life, #[], boot_drawn, boot_toks, os⟩ : Shared) = _
    rw [eh]
  have suffix : ∀ p2, ∃ (s3 s4 : SharedT) (p3 : Pos), segF (stepT (denote table) D.p w) n (bootAnn w) D.kF s2 ⟨(D.F (.ref s1.n)).wrap doneF deadEnd id id, D.c, p2, D.B⟩ = some (.next, s3, D.c, p3) ∧ goF (stepT (denote table) D.p w) n (bootAnn w) D.M s3 (restOf D.rest D.env D.c p3 D.B) = some s4 ∧ s4.gens = #[] ∧ G s4 := by
    intro p2
    obtain ⟨sA', sB', s1', s2', s3, s4, pB', p1', p3, t', n', ht', hA', hB', h1', _, h2', h3, h4, hg, hG⟩ := parts p2
    rw [ht] at ht'
    cases ht'
    rw [hA] at hA'
    cases hA'
    rw [hB] at hB'
    cases hB'
    rw [h1] at h1'
    cases h1'
    rw [h2] at h2'
    cases h2'
    exact ⟨s3, s4, p3, h3, h4, hg, hG⟩
  have goA := goS_ok hA
  rw [eb] at goA
  have kA := keeps_go goA
  have sB0 : splitAtGen D.B = none := rfl
  obtain ⟨_, mB, _, goB⟩ := seg_goes (res := fun _ : Unit => Flow.next) (K' := fun _ => (execs (behindTheImports D.p) D.env).wrap doneF (leaveH D.env) id id) (H' := Sem.raise) (B := D.B) sB0 D.kB (t := blockOf (behindTheImports D.p) D.env D.c D.pos0 D.B)
    (t' := ⟨(blockStart (behindTheImports D.p) D.env).wrap (fun _ => (execs (behindTheImports D.p) D.env).wrap doneF (leaveH D.env) id id) .raise id id, D.c, D.pos0, D.B⟩) ⟨rfl, rfl, .inl ⟨rfl, rfl, _, rfl, rfl⟩⟩ (segF_ok hB)
  have kB := keeps_go goB
  obtain ⟨fC, mC, eC, goC⟩ := seg_goes (res := fun f : Flow => f) (K' := fun f => match f with | .next => (execs (D.st :: D.rest) D.env).wrap doneF (leaveH D.env) id id | f => doneF f) (H' := leaveH D.env) (B := D.B) sB0 D.kL (t := piecesOf D.l D.env D.c pB D.B)
    (t' := ⟨(execs D.l D.env).wrap (fun f => match f with | .next => (execs (D.st :: D.rest) D.env).wrap doneF (leaveH D.env) id id | f => doneF f) (leaveH D.env) id id, D.c, pB, D.B⟩) ⟨rfl, rfl, .inl ⟨rfl, rfl, _, rfl, rfl⟩⟩ (segF_ok h1)
  have eC : fC = .next := eC
  subst eC
  have kC := keeps_go goC
  have K1 : Keeps n (bootAnn w) ⟨boot_heap w.params, #[], boot_drawn, boot_toks, os⟩ s1.abs := (kA.trans kB).trans kC
  have sz : s1.abs.heap.objs.size = s1.n := absHeap_size s1.tree s1.n s1.life
  -- behind the display
  have behind : ∀ p', ∃ S, Halts D.p w (fin w D.p s1.abs D.L D.pk) ⟨(D.F (.ref s1.abs.heap.objs.size)).wrap (fun f => match f with | .next => (execs D.rest D.env).wrap doneF (leaveH D.env) id id | f => doneF f) (leaveH D.env) id id, D.c, p', D.B⟩ S ∧ S.gens = #[] ∧
      ∃ S4 : SharedT, S = S4.abs ∧ S4.gens = #[] ∧ Keeps n (bootAnn w) s1.abs S ∧ G S4 := by
    intro p'
    obtain ⟨s3, s4, p3, h3, h4, hg, hG⟩ := suffix p'
    rw [sz, ← layT_ok h2]
    obtain ⟨fE, mE, eE, goE⟩ := seg_goes (res := fun f : Flow => f) (K' := fun f => match f with | .next => (execs D.rest D.env).wrap doneF (leaveH D.env) id id | f => doneF f) (H' := leaveH D.env) (B := D.B) sB0 D.kF (t := ⟨(D.F (.ref s1.n)).wrap doneF deadEnd id id, D.c, p', D.B⟩)
      (t' := ⟨(D.F (.ref s1.n)).wrap (fun f => match f with | .next => (execs D.rest D.env).wrap doneF (leaveH D.env) id id | f => doneF f) (leaveH D.env) id id, D.c, p', D.B⟩) ⟨rfl, rfl, .inl ⟨rfl, rfl, _, rfl, rfl⟩⟩ (segF_ok h3)
    have eE : fE = .next := eE
    subst eE
    have top := goF_ok h4
    have kE := keeps_go goE
    have k2 : Keeps n (bootAnn w) s1.abs s2.abs := by
      rw [layT_ok h2]
      exact keeps_fin _ _ _
    have K3 := (K1.trans k2).trans kE
    obtain ⟨_, l4, o4, f4⟩ := topRun_spec _ _ _ _ (Shared.asleep_of_life K3.life hz) top
    have k4 : Keeps n (bootAnn w) s3.abs s4.abs := ⟨l4, o4, f4⟩
    exact ⟨s4.abs, halts_go goE (halts_top top hg), hg, s4, rfl, hg, (k2.trans kE).trans k4, hG⟩
  have ex : exec D.st D.env = ((do standAt D.apos; eval (.Dict D.keys D.values D.dpos) D.env) : Sem Value) >>= D.F := by
    show exec (.Assign [.Name D.x D.np] (.Dict D.keys D.values D.dpos) D.apos) D.env = _
    rw [exec_Assign_Name _ _ _ _ _ O.sw]
    rfl
  obtain ⟨a, b, c, ha, hsh, c1, c2⟩ := O.shape
  have hu : (topA D).units < cLine := O.un
  have hm : sysModules < s1.abs.heap.objs.size := by
    rw [sz]
    exact Nat.le_of_ble_eq_true n1
  have wpD : wpAny (model D.p w) (topA D) ((do standAt D.apos; eval (.Dict D.keys D.values D.dpos) D.env) : Sem Value) (fun v s' => v = .ref s1.abs.heap.objs.size ∧ s' = fin w D.p s1.abs D.L D.pk) (fun _ _ => False) s1.abs := by
    refine wpAny_bind (wpAny_standAt ?_)
    rw [arm_eval_Dict, hsh]
    exact wpAny_bind (wpAny_standAt (wp_display hu ha c1 c2 O.nd hm ⟨rfl, rfl⟩))
  obtain ⟨S, hS, hg, S4, rfl, hg4, hk4, hG⟩ := halts_mid' (p := D.p) (w := w) (K := fun v => (D.F v).wrap (fun f => match f with | .next => (execs D.rest D.env).wrap doneF (leaveH D.env) id id | f => doneF f) (leaveH D.env) id id) (H := leaveH D.env) (gd := id) (lv := id) (c := D.c) (pos := p1) (B := D.B)
    (G := fun S => ∃ S4 : SharedT, S = S4.abs ∧ S4.gens = #[] ∧ Keeps n (bootAnn w) s1.abs S ∧ G S4) (wpD _ p1 top_in) (fun v p' s' q => by
      obtain ⟨rfl, rfl⟩ := q
      exact behind p')
  refine ⟨S4, ?_, hg4, by rw [en]; exact K1.trans hk4, hG⟩
  refine halts_go goA ?_
  have eB : denote table D.c = (blockStart (behindTheImports D.p) D.env).wrap (fun _ => (execs (behindTheImports D.p) D.env).wrap doneF (leaveH D.env) id id) .raise id id := body_wrap _
  rw [eB]
  refine halts_go goB ?_
  rw [show (execs (behindTheImports D.p) D.env).wrap doneF (leaveH D.env) id id = (execs D.l D.env).wrap (fun f => match f with | .next => (execs (D.st :: D.rest) D.env).wrap doneF (leaveH D.env) id id | f => doneF f) (leaveH D.env) id id by rw [O.body, execs_app_wrap]; rfl]
  refine halts_go goC ?_
  show Halts D.p w s1.abs ⟨(execs (D.st :: D.rest) D.env).wrap doneF (leaveH D.env) id id, D.c, p1, D.B⟩ S4.abs
  rw [execs_cons_wrap, ex, Sem.bind_eq_wrap', Sem.wrap_wrap]
  exact hS
end
end Fw

end
set_option Elab.async false
set_option linter.all false
set_option maxRecDepth 100000
set_option maxHeartbeats 2000000
noncomputable section
namespace Fw
open PySem PySem.W PySem.Calls PyProof.Rows HandSHeadRun
/-- what is read off a run's end -/
def seeB (D : Plan) (q : Program) (loose : List Str) (Xt : Shared → Bool) {α : Type} (ob : SharedT → α) (w : World) (r : Big) := (r.tA, Nat.blt sysModules r.n1, r.cB, r.c1, r.c3, r.s4.gens.size, looksF D.p (boot_heap w.params) r.s4.abs, seenQ q loose (importedModules D.p.main.body) Xt r.s4.abs, ob r.s4)
def RunB (D : Plan) (q : Program) (loose : List Str) (Xt : Shared → Bool) {α : Type} (ob : SharedT → α) (val : World → α) : Prop :=
  ∀ (w : World) (os : OsState) (p2 : Pos), (bigF (stepQ (denQ tabQ) D.p w) D w os p2).map (seeB D q loose Xt ob w) = some (⟨denQ tabQ D.c, D.c, D.pos0, D.B⟩, true, D.c, D.c, D.c, 0, true, openGood q loose, val w)
theorem tops_of {D : Plan} {q : Program} {loose : List Str} {Xt : Shared → Bool} {H : Hook} {ob : SharedT → H.α} (O : D.Ok) (ho : ∀ s : SharedT, ob s = H.obs s.abs) (e : opening D.p = plainProg D.p.main.scope.names) (f : ∀ s, fenceModules? D.p s = some s) (run : RunB D q loose Xt ob H.val) :
    TopsE D.p q loose Xt H.obs H.val := fun w => by
  obtain ⟨⟨hp, gs, dr, tk, os⟩, hf, e0⟩ := Option.map_eq_some_iff.mp (boot_open (N := 600) e rfl f w)
  obtain ⟨rfl, rfl, rfl, rfl⟩ : hp = boot_heap w.params ∧ gs = Array.mk [] ∧ dr = boot_drawn ∧ tk = boot_toks := by simpa using e0
  rw [← table_eq_tree] at hf
  obtain ⟨s, hi, hfe⟩ := Option.bind_eq_some_iff.mp hf
  have A := AfterImport.of_importEnds hi
  have hz := Shared.asleep_of_life (fence_lifeW hfe) A.life
  have eq : ∀ p2, bigF (stepQ (denQ tabQ) D.p w) D w os p2 = bigF (stepT (denote table) D.p w) D w os p2 := fun p2 => by
    rw [← stepQ_eq, ← denQ_eq, ← tabQ_eq, table_eq_tree]
  obtain ⟨S, hS, hg, kS, g1, g2, g3⟩ := big_ends (w := w) (os := os) (G := fun S => looksF D.p (boot_heap w.params) S.abs = true ∧ openSeen q loose (importedModules D.p.main.body) Xt true S.abs = openGood q loose ∧ H.obs S.abs = H.val w) O (fun p2 => by
    obtain ⟨r, hr, hv⟩ := Option.map_eq_some_iff.mp (run w os p2)
    rw [eq] at hr
    have hv : seeB D q loose Xt ob w r = _ := hv
    unfold seeB at hv
    simp only [Prod.mk.injEq] at hv
    obtain ⟨v1, v2, v3, v4, v5, v6, v7, v8, v9⟩ := hv
    refine ⟨r, hr, ?_, v2, v3, v4, v5, Array.eq_empty_of_size_eq_zero v6, v7, ?_, ?_⟩
    · rw [v1, ← denQ_eq, ← tabQ_eq, table_eq_tree]
    · rw [seenQ_eq]
      exact v8
    · rw [← ho]
      exact v9) hz
  exact ⟨600, _, S.abs, hf, ⟨hS, boot_ns _, rfl, hg, kS.life, kS.os, kS.fr, g1, g2, g3⟩⟩
/-- a row whose top has the display in its midst -/
theorem head_big {r : OpenRow} {D : Plan} {q : Program} {loose : List Str} {H : Hook} {ob : SharedT → H.α} {d : DefRec} {kwd : List (Str × Expr)} (hD : D.p = r.prog) (O : D.Ok) (ho : ∀ s : SharedT, ob s = H.obs s.abs) (e : opening D.p = plainProg D.p.main.scope.names) (f : ∀ s, fenceModules? D.p s = some s)
    (run : RunB D q loose (fun s => xlAt q [] s && recOk r.toRowW.records s) ob H.val) (hdef : defOf q r.name = some (d, kwd)) (hp : r.prog.theDef r.name = some (d.params, d.body, d.scope)) (hk : kwWritten? d.params.kwonlyargs d.params.kw_defaults = some kwd)
    (hwr : (!r.writes || r.records.isEmpty) = true) (k1 : r.wellSaid = true) (ok : (chainsOk q && opensWell r.prog && (frees r.toRowW && r.within.isEmpty)) = true) (hb : r.prog.bare) (hw : r.toRowW.promised)
    (call : WalkO q loose (XL q []) H.says r.toRowW d kwd fun f vs => PySem.call f vs) : r.Holds := by
  have T := tops_of O ho e f run
  rw [hD] at T
  exact holdsE T (fun s z => xl_of s (Bool.and_eq_true_iff.mp z).1) XL.keeps hdef hp hk (fun s z => recFacts_of (Bool.and_eq_true_iff.mp z).2) hwr k1 ok hb hw call
/-! ### the hook: functions, facts, and some objects outright -/
def obsX (fa : List He.Fa) (fn : List He.FnD) (gs : List (Str × Addr)) (m k n : Nat) (g : Addr → Option Obj) : He.Al × Bool × List (Option Obj) :=
  let K := He.frG g (List.range n)
  (He.obsE fa fn K, gs.all fun x => He.eqO (nsIn K mainGlobals x.1) (some (some (.ref x.2))), (List.range k).map fun i => K.lookup (m + i))
def hookX (fa : List He.Fa) (fn : List He.FnD) (gs : List (Str × Addr)) (m k n : Nat) (os : World → List Obj) : Hook where
  α := He.Al × Bool × List (Option Obj)
  obs := fun s => obsX fa fn gs m k n s.heap.get?
  val := fun w => (He.valE fn, true, (os w).map some)
  says := fun w h => ∃ K : Frag, K.In h ∧ He.SaysE fa fn K ∧ (∀ x ∈ gs, nsIn K mainGlobals x.1 = some (some (.ref x.2))) ∧ ∀ i o, (os w)[i]? = some o → K.lookup (m + i) = some o
  of := fun w s e => by
    have e1 := congrArg (fun z : He.Al × Bool × List (Option Obj) => z.1) e
    have e2 := congrArg (fun z : He.Al × Bool × List (Option Obj) => z.2.1) e
    have e3 : (List.range k).map (fun i => (He.frG s.heap.get? (List.range n)).lookup (m + i)) = (os w).map some := congrArg (fun z : He.Al × Bool × List (Option Obj) => z.2.2) e
    refine ⟨_, He.frG_in, e1, fun x hx => He.eqO_ok (List.all_eq_true.mp e2 x hx), fun i o h => ?_⟩
    have z : ((List.range k).map (fun i => (He.frG s.heap.get? (List.range n)).lookup (m + i)))[i]? = ((os w).map some)[i]? := by rw [e3]
    rw [List.getElem?_map, List.getElem?_map, h] at z
    cases q : (List.range k)[i]? with
    | none => rw [q] at z; exact nomatch z
    | some j =>
      rw [q] at z
      have ej : j = i := by
        have := (List.getElem?_eq_some_iff.mp q)
        obtain ⟨h1, h2⟩ := this
        rw [List.getElem_range] at h2
        exact h2.symm
      subst ej
      exact Option.some.inj z
  keeps := fun _ _ _ ⟨K, hK, c⟩ k => ⟨K, Frag.In.keeps hK k, c⟩
def obX (fa : List He.Fa) (fn : List He.FnD) (gs : List (Str × Addr)) (m k n : Nat) (s : SharedT) : He.Al × Bool × List (Option Obj) := obsX fa fn gs m k n (getT s)
theorem obX_eq (fa : List He.Fa) (fn : List He.FnD) (gs : List (Str × Addr)) (m k n : Nat) (os : World → List Obj) (s : SharedT) : obX fa fn gs m k n s = (hookX fa fn gs m k n os).obs s.abs := by
  have e : getT s = s.abs.heap.get? := funext (getT_eq s)
  show obsX fa fn gs m k n (getT s) = obsX fa fn gs m k n s.abs.heap.get?
  rw [e]
end Fw

end
set_option Elab.async false
set_option linter.all false
set_option maxRecDepth 100000
set_option maxHeartbeats 2000000
/-! a plan is sound: by looks that the kernel takes -/
namespace Fw
open PySem PySem.W PySem.Calls PyProof.Rows
def csB : List Expr → List Str → Bool
  | [], [] => true
  | .Constant (.str x) _ _ :: es, z :: zs => decide (x = z) && csB es zs
  | _, _ => false
theorem csB_ok : ∀ {es : List Expr} {zs : List Str}, csB es zs = true → CS es zs
  | [], [], _ => .nil
  | e :: es, z :: zs, h => by
    unfold csB at h
    split at h
    · rename_i h1 h2; cases h1
    · rename_i x k pos es' z' zs' h1 h2
      cases h1
      cases h2
      obtain ⟨a, b⟩ := Bool.and_eq_true_iff.mp h
      have := of_decide_eq_true a
      subst this
      exact .cons (csB_ok b)
    · cases h
  | [], _ :: _, h => by simp [csB] at h
  | e :: es, [], h => by
    unfold csB at h
    split at h
    · rename_i h1 h2; cases h1
    · rename_i h1 h2; cases h2
    · cases h
def pairB : Option Expr → Expr → PK → Bool
  | some (.Tuple ke _ _), .Tuple ve _ _, p => csB ke (key p) && csB ve p.2.2 && decide (p.2.2.length ≤ 100)
  | _, _, _ => false
def pairsB : List (Option Expr) → List Expr → List PK → Bool
  | [], [], [] => true
  | k :: ks, v :: vs, p :: ps => pairB k v p && pairsB ks vs ps
  | _, _, _ => false
theorem pairsB_ok {env : Env} {pos : Pos} : ∀ {ks : List (Option Expr)} {vs : List Expr} {L : List PK}, pairsB ks vs L = true →
    ∃ ps : List PS, PairsAre env pos ps L ∧ (evalEachOpt ks env).zip ((evalEach vs env).map fun v => do let x ← v; standAt pos; pure x) = ps.map (fun p => (some p.1, p.2))
  | [], [], [], _ => ⟨[], .nil, rfl⟩
  | k :: ks, v :: vs, p :: ps, h => by
    have h : (pairB k v p && pairsB ks vs ps) = true := h
    obtain ⟨h1, h2⟩ := Bool.and_eq_true_iff.mp h
    obtain ⟨r, hr, e⟩ := pairsB_ok h2
    unfold pairB at h1
    split at h1
    · rename_i ke kk kp ve vk vp hh
      obtain ⟨h3, h5⟩ := Bool.and_eq_true_iff.mp h1
      obtain ⟨h3, h4⟩ := Bool.and_eq_true_iff.mp h3
      refine ⟨_ :: r, .cons (kk := kk) (vk := vk) (kp := kp) (vp := vp) (csB_ok h3) (csB_ok h4) (of_decide_eq_true h5) hr, ?_⟩
      show (some (eval (.Tuple ke kk kp) env), _) :: (evalEachOpt ks env).zip _ = (some _, _) :: r.map _
      rw [e]
    · cases h1
  | [], [], _ :: _, h => by simp [pairsB] at h
  | [], _ :: _, _, h => by simp [pairsB] at h
  | _ :: _, [], _, h => by simp [pairsB] at h
  | _ :: _, _ :: _, [], h => by simp [pairsB] at h
theorem pairs_split {env : Env} {pos : Pos} : ∀ {L : List PK} {p : PK} {ps : List PS}, PairsAre env pos ps (L ++ [p]) → ∃ a c, ps = a ++ [c] ∧ a.length = L.length ∧ PairsAre env pos a L ∧ PairsAre env pos [c] [p]
  | [], p, _, .cons h1 h2 h3 .nil => ⟨[], _, rfl, rfl, .nil, .cons h1 h2 h3 .nil⟩
  | q :: L, p, _, .cons h1 h2 h3 r => by
    obtain ⟨a, c, rfl, hl, ha, hc⟩ := pairs_split r
    exact ⟨_ :: a, c, rfl, congrArg (· + 1) hl, .cons h1 h2 h3 ha, hc⟩
theorem Plan.ok_of {D : Plan} (body : behindTheImports D.p = D.l ++ D.st :: D.rest) (sw : swapsWith (.Dict D.keys D.values D.dpos) (some (.Name D.x D.np)) D.apos.line D.env = pure false) (hp : pairsB D.keys D.values (D.L ++ [D.pk]) = true) (hl : D.L.length = 17)
    (nd : ((D.L ++ [D.pk]).map key).Nodup) (un : D.c.cUnits + unitsOf [(.builtin "claim.caller" {}, D.q0)] < cLine) : D.Ok := by
  refine ⟨body, sw, ?_, nd, un⟩
  obtain ⟨ps, h1, h2⟩ := pairsB_ok (env := D.env) (pos := D.dpos) hp
  obtain ⟨a, c, rfl, al, ha, hc⟩ := pairs_split h1
  rw [hl] at al
  obtain ⟨a', b, rfl⟩ : ∃ a' b, a = a' ++ [b] := ⟨a.dropLast, a.getLast (fun z => by rw [z] at al; cases al), (List.dropLast_concat_getLast _).symm⟩
  rw [List.length_append] at al
  have al' : a'.length + 1 = 17 := al
  exact ⟨a', b, c, by omega, by rw [h2, List.append_assoc]; rfl, ha, hc⟩
end Fw

set_option Elab.async false
set_option linter.all false
set_option maxRecDepth 100000
set_option maxHeartbeats 2000000
/-! d.get((a, b)) of a dict that the module's top laid, keyed by tuples of texts, whose values are tuples of texts -/
namespace Fw
open PySem PySem.Spec PyProof.Rows L2
structure Parts (prog : Program) (w : World) (K : PySem.W.Frag) (d : Addr) (g : List Str → Option (List Str)) : Prop where
  is : ∃ (xs : List (List Str × Addr × Value)) (o : Obj) (ep : Nat), K.lookup d = some o ∧ o.ExactDict ∧ o.data = .dict (xs.map (entryOfKey (tupleKind (strKind prog w)))).toArray ep ∧
    (∀ x ∈ xs, ∃ t, K.lookup x.2.1 = some (tO t x.1)) ∧ (xs.map (·.1)).Nodup ∧
    ∀ k, (valueAt (pairsH xs) k = none ∧ g k = none) ∨ ∃ b t zs, valueAt (pairsH xs) k = some (.ref b) ∧ g k = some zs ∧ K.lookup b = some (tO t zs) ∧ zs.length ≤ sizeLine
  hd : (d == sysModules) = false
theorem vals_toks : ∀ (zs : List Str) (t : Nat), Vals (zs.map V.str) (toksV t zs)
  | [], _ => .nil
  | z :: r, t => .cons ⟨t, rfl⟩ (vals_toks r (t + 1))
theorem tO_sqT {K : PySem.W.Frag} {H : Hp} {b : Addr} {t : Nat} {zs : List Str} (h : K.lookup b = some (tO t zs)) (hz : zs.length ≤ sizeLine) : SqT K H b (zs.map V.str) :=
  .inr ⟨_, (toksV t zs).toArray, _, h, rfl, rfl, by rw [List.size_toArray, toksV_len]; exact hz, vals_toks zs t⟩
def tPG (K : PySem.W.Frag) (d : Addr) (g : List Str → Option (List Str)) (to : TE) (t : TA) : TE := fun σ H Q => to σ H fun x H1 => x = .ref d ∧ t σ H1 fun ys H2 =>
  ∃ p k1 k2, ys = [.ref p] ∧ H2 p = some (.tup [.str k1, .str k2]) ∧ (g [k1, k2] = none → Q .non H2) ∧ ∀ b zs, g [k1, k2] = some zs → SqT K H2 b (zs.map V.str) → Q (.ref b) H2
variable {X : Cx}
theorem pe_pget {d : Addr} {g : List Str → Option (List Str)} {o e : Expr} {to : TE} {t : TA} {apos cpos : Pos} (hp : Parts X.prog X.w X.K d g) (hu : X.A.units + 1 < cLine) (ho : PE X o to) (ha : PA X [e] t)
    (hbase : attributeBase o "get" X.env (eval o X.env) = eval o X.env := by rfl)
    (hfew : ((backTo cpos (starEach [e] X.env)).all (fun x => !x.1) && (backToKw cpos (keywordEach [] X.env)).all (fun x => x.1.isSome)
      && decide ([e].length + ([] : List Keyword).length + (if ([] : List Keyword).isEmpty then 0 else 1) < 30)) = true := by rfl)
    (hline : (apos.endLine == cpos.line) = true := by rfl) (hs : starEach [e] X.env = (false, eval e X.env) :: starEach [] X.env := by rfl) (hplain : (backTo cpos (starEach [] X.env)).any (·.1) = false := by rfl) :
    PE X (.Call (.Attribute o "get" apos) [e] [] cpos) (tPG X.K d g to t) := by
  refine ⟨fun pins s σ H Q I h => ?_⟩
  obtain ⟨⟨xs, ob, ep, hk, hex, hdt, hks, hnd, hv⟩, hsm⟩ := hp
  refine wpAny_Call_method_late hbase hfew hline rfl (thn (ho.run pins s σ H _ I h) fun v s1 ⟨x, H1, I1, r1, ex, q1⟩ => ?_)
  subst ex
  cases (show v = Value.ref d from r1)
  refine ⟨"dict", "dict.get", PySem.F.plainAttrs_dict, PySem.F.slot_dict_get, PySem.F.type_dict_get, ⟨ob, I1.kIn d ob hk, hex.1⟩, fun a z => ?_, ?_⟩
  · cases z
    exact ⟨ob, I1.kIn _ ob hk, hex.2.1⟩
  have hA := ha.run cpos pins s1 σ H1 _ I1 q1
  rw [hs] at hA ⊢
  refine Calls.callWith_builtin (by show (false || (backTo cpos (starEach [] X.env)).any (·.1)) = false; rw [hplain] <;> rfl) (Calls.evalArgs_plain ?_)
  refine thn hA fun us s2 hh => ?_
  obtain ⟨vs, H2, I2, r2, p, k1, k2, rfl, hp2, qn, qs⟩ := hh
  obtain ⟨u, rfl, ru⟩ := Vals.one r2
  cases (show u = Value.ref p from ru)
  obtain ⟨its, rv, ⟨o', e', c', n', d'⟩, _⟩ := I2.tuple (SqT.of (K := X.K) hp2)
  obtain ⟨u1, u2, rfl, ⟨t1, rfl⟩, ⟨t2, rfl⟩⟩ := Vals.two rv
  have key : IsTupleKey (strKind X.prog X.w) s2.heap [k1, k2] p := ⟨o', _, n', e', c', d', by
    exact .cons (by show Value.isStrOf k1 (.str k1 t1) = true; simp [Value.isStrOf]) (.cons (by show Value.isStrOf k2 (.str k2 t2) = true; simp [Value.isStrOf]) .nil)⟩
  have dk : s2.heap.DictKeyed (tupleKind (strKind X.prog X.w)) d (pairsH xs) := Heap.DictKeyed.ofEntries xs (I2.kIn d ob hk) hex hdt rfl (fun x hx => by
    obtain ⟨t, ht⟩ := hks x hx
    exact ⟨_, _, _, I2.kIn _ _ ht, rfl, rfl, by simpa using items_of x.1 t⟩) hnd
  refine get_keyed (tupleKind_room_in1 hu) key hsm dk ?_
  rcases hv [k1, k2] with ⟨z1, z2⟩ | ⟨b, t, zs, z1, z2, z3, z4⟩
  · rw [z1]
    exact ⟨.non, H2, I2.tok _, rfl, qn z2⟩
  · rw [z1]
    exact ⟨.ref b, H2, I2.tok _, rfl, qs b zs z2 (tO_sqT z3 z4)⟩
end Fw

set_option Elab.async false
set_option linter.all false
set_option maxRecDepth 100000
set_option maxHeartbeats 2000000
/-! the display's objects, as Parts -/
namespace Fw
open PySem PySem.Spec PyProof.Rows L2
theorem lo_at : ∀ {L : List PK} {j t : Nat} {p : PK}, L[j]? = some p → (∃ t', (lo t L)[2 * j]? = some (tO t' (key p))) ∧ ∃ t', (lo t L)[2 * j + 1]? = some (tO t' p.2.2)
  | [], _, _, _, h => by simp at h
  | q :: L, 0, t, p, h => by
    cases Option.some.inj h
    exact ⟨⟨t, rfl⟩, ⟨t + 2, rfl⟩⟩
  | q :: L, j + 1, t, p, h => by
    obtain ⟨h1, h2⟩ := lo_at (L := L) (j := j) (t := t + q.2.2.length + 5) h
    rw [show 2 * (j + 1) = 2 * j + 1 + 1 by omega, show 2 * j + 1 + 1 + 1 = (2 * j + 1) + 1 + 1 by omega]
    exact ⟨h1, h2⟩
theorem lx_at : ∀ {L : List PK} {i : Nat} {x : List Str × Addr × Value}, x ∈ lx i L → ∃ j p, L[j]? = some p ∧ x = (key p, i + 2 * j, .ref (i + 2 * j + 1))
  | [], _, _, h => nomatch h
  | q :: L, i, x, h => by
    rcases List.mem_cons.mp h with z | z
    · exact ⟨0, q, rfl, z⟩
    · obtain ⟨j, p, h1, h2⟩ := lx_at z
      exact ⟨j + 1, p, h1, by rw [h2, show i + 2 + 2 * j = i + 2 * (j + 1) by omega]⟩
theorem find_lx (k : List Str) : ∀ (L : List PK) (i : Nat), ((pairsH (lx i L)).find? (fun kv => decide (kv.1 = k)) = none ∧ L.find? (fun p => decide (key p = k)) = none) ∨
    ∃ j p, L[j]? = some p ∧ L.find? (fun p => decide (key p = k)) = some p ∧ (pairsH (lx i L)).find? (fun kv => decide (kv.1 = k)) = some (key p, .ref (i + 2 * j + 1))
  | [], _ => .inl ⟨rfl, rfl⟩
  | q :: L, i => by
    by_cases h : key q = k
    · refine .inr ⟨0, q, rfl, ?_, ?_⟩
      · rw [List.find?_cons, decide_eq_true h]
      · show ((key q, Value.ref (i + 1)) :: pairsH (lx (i + 2) L)).find? _ = _
        rw [List.find?_cons, decide_eq_true h]
    · rcases find_lx k L (i + 2) with ⟨h1, h2⟩ | ⟨j, p, h1, h2, h3⟩
      · refine .inl ⟨?_, ?_⟩
        · show ((key q, Value.ref (i + 1)) :: pairsH (lx (i + 2) L)).find? _ = _
          rw [List.find?_cons, decide_eq_false h]
          exact h1
        · rw [List.find?_cons, decide_eq_false h]
          exact h2
      · refine .inr ⟨j + 1, p, h1, ?_, ?_⟩
        · rw [List.find?_cons, decide_eq_false h]
          exact h2
        · show ((key q, Value.ref (i + 1)) :: pairsH (lx (i + 2) L)).find? _ = _
          rw [List.find?_cons, decide_eq_false h, show i + 2 * (j + 1) + 1 = i + 2 + 2 * j + 1 by omega]
          exact h3
theorem parts_of {prog : Program} {w : World} {K : PySem.W.Frag} {m t : Nat} {L : List PK} {p : PK} (h : ∀ i o, (finObjs w prog m t L p)[i]? = some o → K.lookup (m + i) = some o) (hm : (m == sysModules) = false) (nd : ((L ++ [p]).map key).Nodup)
    (hl : ∀ x ∈ L ++ [p], x.2.2.length ≤ sizeLine) : Parts prog w K m (fun k => ((L ++ [p]).find? fun q => decide (key q = k)).map (·.2.2)) := by
  have ll : ∀ s, (lo s L).length = 2 * L.length := lo_len L
  have inL : ∀ {j : Nat} {o : Obj}, (lo t L)[j]? = some o → K.lookup (m + 1 + j) = some o := fun {j o} e => by
    have hj : j < (lo t L).length := (List.getElem?_eq_some_iff.mp e).1
    have := h (j + 1) o (by
      show ((lo t L) ++ _)[j]? = some o
      rw [List.getElem?_append_left hj]
      exact e)
    rw [show m + 1 + j = m + (j + 1) by omega]
    exact this
  have inP : ∀ {j : Nat} {o : Obj}, (lo (lt t L) [p])[j]? = some o → K.lookup (m + 1 + 2 * L.length + 1 + j) = some o := fun {j o} e => by
    have := h (2 * L.length + 1 + j + 1) o (by
      show ((lo t L) ++ _)[2 * L.length + 1 + j]? = some o
      rw [List.getElem?_append_right (by rw [ll]; omega), ll, show 2 * L.length + 1 + j - 2 * L.length = j + 1 by omega]
      exact e)
    rw [show m + 1 + 2 * L.length + 1 + j = m + (2 * L.length + 1 + j + 1) by omega]
    exact this
  refine ⟨⟨lx (m + 1) L ++ lx (m + 1 + 2 * L.length + 1) [p], _, _, h 0 _ rfl, ⟨rfl, rfl, ?_⟩, rfl, fun x hx => ?_, ?_, fun k => ?_⟩, hm⟩
  · rfl
  · rcases List.mem_append.mp hx with z | z
    · obtain ⟨j, q, h1, rfl⟩ := lx_at z
      obtain ⟨⟨t', h2⟩, _⟩ := lo_at (t := t) h1
      exact ⟨t', inL h2⟩
    · obtain ⟨j, q, h1, rfl⟩ := lx_at z
      obtain ⟨⟨t', h2⟩, _⟩ := lo_at (t := lt t L) h1
      exact ⟨t', inP h2⟩
  · rw [List.map_append, lx_keys, lx_keys, ← List.map_append]
    exact nd
  · have val : ∀ {j : Nat} {q : PK}, L[j]? = some q → ∃ t', K.lookup (m + 1 + 2 * j + 1) = some (tO t' q.2.2) := fun {j q} e => by
      obtain ⟨_, t', h2⟩ := lo_at (t := t) e
      exact ⟨t', inL h2⟩
    have e1 : pairsH (lx (m + 1) L ++ lx (m + 1 + 2 * L.length + 1) [p]) = pairsH (lx (m + 1) L) ++ pairsH (lx (m + 1 + 2 * L.length + 1) [p]) := List.map_append
    unfold valueAt
    rw [e1, List.find?_append, List.find?_append]
    rcases find_lx k L (m + 1) with ⟨h1, h2⟩ | ⟨j, q, h1, h2, h3⟩
    · rw [h1, h2]
      rcases find_lx k [p] (m + 1 + 2 * L.length + 1) with ⟨h3, h4⟩ | ⟨j, q, h3, h4, h5⟩
      · rw [h3, h4]
        exact .inl ⟨rfl, rfl⟩
      · rw [h4, h5]
        obtain ⟨_, t', h6⟩ := lo_at (t := lt t L) h3
        exact .inr ⟨_, t', _, rfl, rfl, inP h6, hl q (List.mem_append.mpr (.inr (List.mem_of_getElem? h3)))⟩
    · rw [h2, h3]
      obtain ⟨t', ht'⟩ := val h1
      exact .inr ⟨_, t', _, rfl, rfl, ht', hl q (List.mem_append.mpr (.inl (List.mem_of_getElem? h1)))⟩
end Fw

set_option Elab.async false
set_option linter.all false
set_option maxRecDepth 100000
set_option maxHeartbeats 2000000
/-! A display of at most 15 pairs whose keys are texts: what it leaves, object by object. -/
namespace Fw
open PySem PySem.W PySem.Calls PyProof.Rows
abbrev SV : Type := Str × Value
section
variable {prog : Program} {w : World} {A : Around} {E : Value → Shared → Prop} {env : Env}
def sEs (w : World) (prog : Program) : Nat → List SV → List DictEntry
  | _, [] => []
  | t, p :: r => ⟨(strKind prog w).hash p.1, .str p.1 t, p.2⟩ :: sEs w prog (t + 1) r
def kvs : Nat → List SV → List (Value × Value)
  | _, [] => []
  | t, p :: r => (.str p.1 t, p.2) :: kvs (t + 1) r
theorem sEs_app : ∀ (a b : List SV) (t : Nat), sEs w prog t (a ++ b) = sEs w prog t a ++ sEs w prog (t + a.length) b
  | [], _, _ => rfl
  | p :: a, b, t => by
    show _ :: sEs w prog (t + 1) (a ++ b) = _
    rw [sEs_app a b, show t + 1 + a.length = t + (p :: a).length by rw [List.length_cons]; omega]
    rfl
theorem sEs_len : ∀ (a : List SV) (t : Nat), (sEs w prog t a).length = a.length
  | [], _ => rfl
  | p :: a, t => congrArg (· + 1) (sEs_len a _)
theorem sEs_mem : ∀ {a : List SV} {t : Nat} {e : DictEntry}, e ∈ sEs w prog t a → ∃ p ∈ a, ∃ t', e = ⟨(strKind prog w).hash p.1, .str p.1 t', p.2⟩
  | [], _, _, h => nomatch h
  | p :: a, t, e, h => by
    rcases List.mem_cons.mp h with z | z
    · exact ⟨p, List.mem_cons_self .., t, z⟩
    · obtain ⟨q, hq, r⟩ := sEs_mem z
      exact ⟨q, List.mem_cons_of_mem _ hq, r⟩
/-- the state with the dict laid behind h -/
def midS (w : World) (prog : Program) (s : Shared) (t k : Nat) (L : List SV) : Shared := { s with heap := ext s.heap [dO (sEs w prog t L)], toks := k }
theorem wp_setS {s : Shared} {t k : Nat} {L : List SV} {x : Str} {v : Value} {Q : Unit → Shared → Prop} (hn : x ∉ L.map (·.1)) (hz : L.length ≤ 1000)
    (q : Q () (midS w prog s t (k + 1) (L ++ [(x, v)]))) : wpAny (model prog w) A (dictSet s.heap.objs.size (.str x (t + L.length)) v) Q E (midS w prog s t k L) := by
  have is : (strKind prog w).is x (.str x (t + L.length)) = true := by show Value.isStrOf x (.str x (t + L.length)) = true; simp [Value.isStrOf]
  have hd : (midS w prog s t (k + 1) L).heap.get? s.heap.objs.size = some (dO (sEs w prog t L)) := ext_get (h := s.heap) (i := 0) rfl (fun c d s z => by injection z with _ _ z _; exact nomatch z)
  unfold dictSet
  try with_reducible refine wpAny_holding ?_
  refine wpAny_bind ((strKind prog w).pyHash is ?_)
  unfold dictSetHashed
  try with_reducible refine wpAny_holding ?_
  refine wpAny_bind (wpAny_dictFind_of (knd := strKind prog w) (s := midS w prog s t (k + 1) L) is hd rfl (fun e he => ?_) ?_)
  · obtain ⟨p, _, t', rfl⟩ := sEs_mem (List.mem_toArray.mp he)
    exact ⟨p.1, by show Value.isStrOf p.1 (.str p.1 t') = true; simp [Value.isStrOf], rfl⟩
  have no : (sEs w prog t L).toArray.findIdx? (fun e => (strKind prog w).is x e.key) = none := by
    rw [List.findIdx?_toArray, List.findIdx?_eq_none_iff]
    intro e he
    obtain ⟨p, hp, t', rfl⟩ := sEs_mem he
    show Value.isStrOf x (.str p.1 t') = false
    cases hh : Value.isStrOf x (.str p.1 t') with
    | false => rfl
    | true =>
      obtain ⟨u, hu⟩ := Value.isStrOf_shape hh
      injection hu with hx _
      exact absurd (List.mem_map.mpr ⟨p, hp, hx⟩) hn
  rw [no]
  refine wpAny_bind (wpAny_rule (wpAny_updateDictKeys (s := midS w prog s t (k + 1) L) hd rfl ?_ (by
    rw [List.size_toArray, sEs_len]
    exact Nat.le_trans hz (by decide))))
  have e : (ext s.heap [dO (sEs w prog t L)]).update s.heap.objs.size (Obj.mapDictKeys fun es => es.push ⟨(strKind prog w).hash x, .str x (t + L.length), v⟩) = ext s.heap [dO (sEs w prog t (L ++ [(x, v)]))] := by
    rw [ext_upd]
    congr 2
    rw [sEs_app]
    show (⟨_, _, _, _⟩ : Obj) = ⟨_, _, _, _⟩
    simp [dO, Obj.mapDictKeys, sEs]
  show Q () { s with heap := (ext s.heap [dO (sEs w prog t L)]).update s.heap.objs.size _, toks := k + 1 }
  rw [e]
  exact q
theorem wp_storeS {s : Shared} {t : Nat} : ∀ (rest done : List SV) (k : Nat) (Q : PUnit → Shared → Prop), ((done ++ rest).map (·.1)).Nodup → (done ++ rest).length ≤ 1000 → Q PUnit.unit (midS w prog s t (k + rest.length) (done ++ rest)) →
    wpAny (model prog w) A (forIn (kvs (t + done.length) rest) PUnit.unit fun (x : Value × Value) (_ : PUnit) => (do dictSet s.heap.objs.size x.1 x.2; pure (ForInStep.yield PUnit.unit) : Sem (ForInStep PUnit))) Q E (midS w prog s t k done)
  | [], done, k, Q, _, _, q => by
    rw [List.append_nil] at q
    show wpAny _ _ (forIn [] PUnit.unit _) _ _ _
    rw [List.forIn_nil]
    exact wpAny_pure q
  | p :: r, done, k, Q, hn, hl, q => by
    have ed : done ++ p :: r = (done ++ [p]) ++ r := by simp
    rw [ed] at hn hl q
    show wpAny _ _ (forIn ((Value.str p.1 (t + done.length), p.2) :: kvs (t + done.length + 1) r) PUnit.unit _) _ _ _
    rw [List.forIn_cons]
    dsimp only
    have hn' : p.1 ∉ done.map (·.1) := fun z => by
      rw [List.map_append, List.map_append] at hn
      exact (List.nodup_append.mp (List.nodup_append.mp hn).1).2.2 _ z _ (List.mem_singleton.mpr rfl) rfl
    have hl' : done.length ≤ 1000 := by
      rw [List.length_append, List.length_append] at hl
      omega
    refine wpAny_bind (wpAny_bind (wp_setS hn' hl' (wpAny_pure ?_)))
    dsimp only
    have := wp_storeS (s := s) (t := t) r (done ++ [p]) (k + 1) Q hn hl (by
      rw [show k + 1 + r.length = k + (p :: r).length by rw [List.length_cons]; omega]
      exact q)
    rw [show t + (done ++ [p]).length = t + done.length + 1 by rw [List.length_append]; rfl] at this
    exact this
/-- pairs, written: a text, and what comes to a value wherever the objects of s stand -/
inductive PairsS (prog : Program) (w : World) (A : Around) (E : Value → Shared → Prop) (env : Env) (s : Shared) : List (Sem Value × Sem Value) → List SV → Prop where
  | nil : PairsS prog w A E env s [] []
  | cons {x : Str} {k : Nat} {kp : Pos} {m : Sem Value} {v : Value} {ps : List (Sem Value × Sem Value)} {r : List SV} :
      (∀ (s' : Shared) (Q : Value → Shared → Prop), (∀ b o, s.heap.get? b = some o → s'.heap.get? b = some o) → Q v s' → wpAny (model prog w) A m Q E s') → PairsS prog w A E env s ps r →
      PairsS prog w A E env s ((eval (.Constant (.str x) k kp) env, m) :: ps) ((x, v) :: r)
theorem pairsS_len {s : Shared} : ∀ {ps : List (Sem Value × Sem Value)} {L : List SV}, PairsS prog w A E env s ps L → ps.length = L.length
  | _, _, .nil => rfl
  | _, _, .cons _ r => congrArg (· + 1) (pairsS_len r)
theorem wp_pairsS {s s' : Shared} : ∀ {ps : List (Sem Value × Sem Value)} {L : List SV} {k : Nat} {Q : List (Value × Value) → Shared → Prop}, PairsS prog w A E env s ps L → (∀ b o, s.heap.get? b = some o → s'.heap.get? b = some o) →
    Q (kvs k L) { s' with toks := k + L.length } → wpAny (model prog w) A (evalPairs ps) Q E { s' with toks := k }
  | _, _, k, Q, .nil, _, q => by
    unfold evalPairs
    exact wpAny_pure q
  | _, _, k, Q, .cons (r := r) h c, hk, q => by
    unfold evalPairs
    refine wpAny_bind (wpAny_Constant_str (wpAny_bind (wpAny_holding (h _ _ hk (wpAny_bind (wpAny_holding ?_))))))
    refine wp_pairsS (k := k + 1) c hk (wpAny_pure ?_)
    rw [show k + 1 + r.length = k + (r.length + 1) by omega]
    exact q
theorem wp_subS {s : Shared} {ps : List (Sem Value × Sem Value)} {L : List SV} {Q : Addr → Shared → Prop} (c : PairsS prog w A E env s ps L) (h15 : ps.length ≤ 15) (hn : (L.map (·.1)).Nodup) (q : Q s.heap.objs.size (midS w prog s s.toks (s.toks + 2 * L.length) L)) :
    wpAny (model prog w) A (subDict ps) Q E s := by
  have ll := pairsS_len c
  unfold subDict
  refine wpAny_bind (wpAny_alloc ?_)
  refine wpAny_bind (wpAny_holding ?_)
  rw [if_pos h15]
  have e : ∀ k, ({ s with heap := s.heap.push { cls := .type "dict", data := .dict #[] }, toks := k } : Shared) = midS w prog s s.toks k [] := fun k => by
    have z : s.heap.push { cls := .type "dict", data := .dict #[] } = ext s.heap [dO []] := by
      have z := ext_push s.heap [] { cls := .type "dict", data := .dict #[] }
      rw [ext_nil] at z
      exact z
    show Shared.mk _ _ _ _ _ = Shared.mk (ext s.heap [dO []]) _ _ _ _
    rw [z]
  refine wpAny_bind (wp_pairsS (s := s) (s' := { s with heap := s.heap.push { cls := .type "dict", data := .dict #[] } }) (k := s.toks) c (fun b o z => Heap.get?_push_of_some _ z) ?_)
  refine wpAny_holding ?_
  show wpAny _ _ _ _ _ ({ s with heap := s.heap.push { cls := .type "dict", data := .dict #[] }, toks := s.toks + L.length } : Shared)
  rw [e]
  refine wpAny_bind (wp_storeS (s := s) (t := s.toks) L [] (s.toks + L.length) _ hn (by show L.length ≤ 1000; omega) (wpAny_pure (wpAny_pure ?_)))
  rw [show s.toks + L.length + L.length = s.toks + 2 * L.length by omega]
  exact q
theorem wp_displayS {pos : Pos} {s : Shared} {keys : List (Option Expr)} {values : List Expr} {ps : List (Sem Value × Sem Value)} {L : List SV} {Q : Value → Shared → Prop}
    (hshape : (evalEachOpt keys env).zip ((evalEach values env).map fun v => do let x ← v; standAt pos; pure x) = ps.map fun p => (some p.1, p.2)) (c : PairsS prog w A E env s ps L) (h0 : ps ≠ []) (h15 : ps.length ≤ 15) (hn : (L.map (·.1)).Nodup)
    (q : Q (.ref s.heap.objs.size) (midS w prog s s.toks (s.toks + 2 * L.length) L)) : wpAny (model prog w) A (eval (.Dict keys values pos) env) Q E s := by
  rw [arm_eval_Dict, hshape, dictDisplay_pairs ps h0 (by omega)]
  exact wpAny_bind (wpAny_standAt (wpAny_bind (wp_subS c h15 hn (wpAny_pure q))))
end
end Fw

set_option Elab.async false
set_option linter.all false
set_option maxRecDepth 100000
set_option maxHeartbeats 2000000
/-! A display of more than 17 and at most 32 pairs, keys texts, values tuples of texts: what it leaves, object by object. -/
namespace Fw
open PySem PySem.W PySem.Calls PyProof.Rows
abbrev SP : Type := Str × List Str
abbrev E3 : Type := Str × Nat × Value
section
variable {prog : Program} {w : World} {A : Around} {E : Value → Shared → Prop} {env : Env}
/-- c: tokens behind a pair -/
def ta (c : Nat) : Nat → List SP → List Obj
  | _, [] => []
  | t, p :: r => tO (t + 1) p.2 :: ta c (t + p.2.length + c) r
def tk (c : Nat) : Nat → List SP → Nat
  | t, [] => t
  | t, p :: r => tk c (t + p.2.length + c) r
def te (c : Nat) : Nat → Nat → List SP → List E3
  | _, _, [] => []
  | a, t, p :: r => (p.1, t, .ref a) :: te c (a + 1) (t + p.2.length + c) r
theorem ta_app (c : Nat) : ∀ (a b : List SP) (t : Nat), ta c t (a ++ b) = ta c t a ++ ta c (tk c t a) b
  | [], _, _ => rfl
  | p :: a, b, t => by
    show _ :: ta c _ (a ++ b) = _
    rw [ta_app c a b]
    rfl
theorem tk_app (c : Nat) : ∀ (a b : List SP) (t : Nat), tk c t (a ++ b) = tk c (tk c t a) b
  | [], _, _ => rfl
  | p :: a, b, t => tk_app c a b _
theorem ta_len (c : Nat) : ∀ (a : List SP) (t : Nat), (ta c t a).length = a.length
  | [], _ => rfl
  | p :: a, t => congrArg (· + 1) (ta_len c a _)
theorem te_app (c : Nat) : ∀ (a b : List SP) (i t : Nat), te c i t (a ++ b) = te c i t a ++ te c (i + a.length) (tk c t a) b
  | [], _, _, _ => rfl
  | p :: a, b, i, t => by
    show _ :: te c (i + 1) _ (a ++ b) = _
    rw [te_app c a b, show i + 1 + a.length = i + (p :: a).length by rw [List.length_cons]; omega]
    rfl
theorem te_keys (c : Nat) : ∀ (a : List SP) (i t : Nat), (te c i t a).map (·.1) = a.map (·.1)
  | [], _, _ => rfl
  | p :: a, i, t => by
    show _ :: (te c _ _ a).map _ = _
    rw [te_keys c a]
    rfl
theorem te_len (c : Nat) : ∀ (a : List SP) (i t : Nat), (te c i t a).length = a.length
  | [], _, _ => rfl
  | p :: a, i, t => congrArg (· + 1) (te_len c a _ _)
def ent (w : World) (prog : Program) (x : E3) : DictEntry := ⟨(strKind prog w).hash x.1, .str x.1 x.2.1, x.2.2⟩
def dE (w : World) (prog : Program) (l : List E3) : Obj := dO (l.map (ent w prog))
theorem nf_dE (l : List E3) : ∀ c d sl, dE w prog l ≠ ⟨c, d, .freed, sl⟩ := fun c d sl z => by injection z with _ _ z _; exact nomatch z
theorem dE_push (l : List E3) (x : E3) : Obj.mapDictKeys (fun es => es.push (ent w prog x)) (dE w prog l) = dE w prog (l ++ [x]) := by
  show (⟨_, _, _, _⟩ : Obj) = ⟨_, _, _, _⟩
  simp [dE, dO, Obj.mapDictKeys]
theorem wp_findE {hp : Heap} {d : Addr} {g dr tks os} {l : List E3} {x : Str} {t : Nat} {Q : Option Nat → Shared → Prop} (hd : hp.get? d = some (dE w prog l)) (hn : x ∉ l.map (·.1)) (q : Q none ⟨hp, g, dr, tks, os⟩) :
    wpAny (model prog w) A (dictFind d (.str x t) ((strKind prog w).hash x)) Q E ⟨hp, g, dr, tks, os⟩ := by
  have is : (strKind prog w).is x (.str x t) = true := by show Value.isStrOf x (.str x t) = true; simp [Value.isStrOf]
  refine wpAny_dictFind_of (knd := strKind prog w) is hd rfl (fun e he => ?_) ?_
  · obtain ⟨y, hy, rfl⟩ := List.mem_map.mp (List.mem_toArray.mp he)
    exact ⟨y.1, by show Value.isStrOf y.1 (.str y.1 y.2.1) = true; simp [Value.isStrOf], rfl⟩
  have no : (l.map (ent w prog)).toArray.findIdx? (fun e => (strKind prog w).is x e.key) = none := by
    rw [List.findIdx?_toArray, List.findIdx?_eq_none_iff]
    intro e he
    obtain ⟨y, hy, rfl⟩ := List.mem_map.mp he
    show Value.isStrOf x (.str y.1 y.2.1) = false
    cases hh : Value.isStrOf x (.str y.1 y.2.1) with
    | false => rfl
    | true =>
      obtain ⟨u, hu⟩ := Value.isStrOf_shape hh
      injection hu with hx _
      exact absurd (List.mem_map.mpr ⟨y, hy, hx⟩) hn
  rw [no]
  exact q
theorem wp_setE {h hp : Heap} {g dr tks os} {l : List E3} {rest : List Obj} {x : Str} {t : Nat} {v : Value} {Q : Unit → Shared → Prop} (hs : hp = ext h (dE w prog l :: rest)) (hn : x ∉ l.map (·.1)) (hz : l.length ≤ 1000)
    (q : Q () ⟨ext h (dE w prog (l ++ [(x, t, v)]) :: rest), g, dr, tks + 1, os⟩) : wpAny (model prog w) A (dictSet h.objs.size (.str x t) v) Q E ⟨hp, g, dr, tks, os⟩ := by
  subst hs
  have is : (strKind prog w).is x (.str x t) = true := by show Value.isStrOf x (.str x t) = true; simp [Value.isStrOf]
  have hd : (ext h (dE w prog l :: rest)).get? h.objs.size = some (dE w prog l) := ext_get (h := h) (i := 0) rfl (nf_dE l)
  unfold dictSet
  try with_reducible refine wpAny_holding ?_
  refine wpAny_bind ((strKind prog w).pyHash is ?_)
  unfold dictSetHashed
  try with_reducible refine wpAny_holding ?_
  refine wpAny_bind (wp_findE hd hn ?_)
  refine wpAny_bind (wpAny_rule (wpAny_updateDictKeys hd rfl ?_ (by
    rw [List.size_toArray, List.length_map]
    exact Nat.le_trans hz (by decide))))
  rw [ext_upd]
  show Q () ⟨ext h (Obj.mapDictKeys (fun es => es.push (ent w prog (x, t, v))) (dE w prog l) :: rest), g, dr, tks + 1, os⟩
  rw [dE_push]
  exact q
/-- the pairs, as they are evaluated -/
inductive PairsT (env : Env) (pos : Pos) : List (Sem Value × Sem Value) → List SP → Prop where
  | nil : PairsT env pos [] []
  | cons {ve : List Expr} {x : Str} {kk vk : Nat} {kp vp : Pos} {zs : List Str} {ps : List (Sem Value × Sem Value)} {r : List SP} : CS ve zs → zs.length ≤ 100 → PairsT env pos ps r →
    PairsT env pos ((eval (.Constant (.str x) kk kp) env, (do let x ← eval (.Tuple ve vk vp) env; standAt pos; pure x)) :: ps) ((x, zs) :: r)
theorem pairsT_len {pos : Pos} : ∀ {ps : List (Sem Value × Sem Value)} {L : List SP}, PairsT env pos ps L → ps.length = L.length
  | _, _, .nil => rfl
  | _, _, .cons _ _ r => congrArg (· + 1) (pairsT_len r)
/-- behind some of the pairs -/
def midT (w : World) (prog : Program) (s : Shared) (L : List SP) : Shared := { s with heap := ext s.heap (dE w prog (te 2 (s.heap.objs.size + 1) s.toks L) :: ta 2 s.toks L), toks := tk 2 s.toks L }
theorem wp_longT {pos : Pos} {s : Shared} : ∀ (rest done : List SP) (pairs : List (Sem Value × Sem Value)) (Q : PUnit → Shared → Prop), PairsT env pos pairs rest → ((done ++ rest).map (·.1)).Nodup → (done ++ rest).length ≤ 1000 → Q PUnit.unit (midT w prog s (done ++ rest)) →
    wpAny (model prog w) A (forIn pairs PUnit.unit fun (x : Sem Value × Sem Value) (_ : PUnit) => (do let kv ← x.1; let vv ← holding [kv] x.2; holding [kv, vv] (dictSet s.heap.objs.size kv vv); pure (ForInStep.yield PUnit.unit) : Sem (ForInStep PUnit))) Q E (midT w prog s done)
  | _, done, _, Q, .nil, _, _, q => by
    rw [List.append_nil] at q
    rw [List.forIn_nil]
    exact wpAny_pure q
  | _, done, _, Q, .cons (ve := ve) (x := x) (kk := kk) (vk := vk) (kp := kp) (vp := vp) (zs := zs) (ps := ps) (r := r) c2 c3 c4, hn, hl, q => by
    rw [List.forIn_cons]
    dsimp only
    have ed : done ++ (x, zs) :: r = (done ++ [(x, zs)]) ++ r := by simp
    rw [ed] at hn hl q
    have hl' : (done ++ [(x, zs)]).length ≤ 1000 := Nat.le_trans (by rw [List.length_append (as := done ++ [(x, zs)])]; exact Nat.le_add_right _ _) hl
    have hn' : x ∉ (te 2 (s.heap.objs.size + 1) s.toks done).map (·.1) := fun z => by
      rw [te_keys] at z
      rw [List.map_append, List.map_append] at hn
      exact (List.nodup_append.mp (List.nodup_append.mp hn).1).2.2 _ z _ (List.mem_singleton.mpr rfl) rfl
    refine wpAny_bind (wpAny_bind (wpAny_Constant_str (wpAny_bind (wpAny_holding (wpAny_bind (wp_tuple (k := vk) (pos := vp) c2 c3 (wpAny_bind (wpAny_standAt (wpAny_pure ?_)))))))))
    have es : (ext s.heap (dE w prog (te 2 (s.heap.objs.size + 1) s.toks done) :: ta 2 s.toks done)).objs.size = s.heap.objs.size + 1 + done.length := by
      rw [ext_size, List.length_cons, ta_len]
      omega
    refine wpAny_bind (wpAny_holding ?_)
    show wpAny _ _ (dictSet s.heap.objs.size (.str x (tk 2 s.toks done)) (.ref (ext s.heap (dE w prog (te 2 (s.heap.objs.size + 1) s.toks done) :: ta 2 s.toks done)).objs.size)) _ _ _
    rw [es]
    refine wp_setE (h := s.heap) (rest := ta 2 s.toks (done ++ [(x, zs)])) ?_ hn' (by rw [te_len]; rw [List.length_append] at hl'; omega) (wpAny_pure ?_)
    · show (ext s.heap _).push _ = _
      rw [ext_push, ta_app]
      rfl
    · refine (congrArg (fun y => wpAny (model prog w) A _ Q E y) ?_).mp (wp_longT r (done ++ [(x, zs)]) ps Q c4 hn hl q)
      unfold midT
      rw [te_app, tk_app]
      show Shared.mk _ _ _ _ _ = Shared.mk _ _ _ _ _
      congr 1
      show tk 2 s.toks done + zs.length + 2 = tk 2 s.toks done + 1 + zs.length + 1
      omega
theorem wp_sub_longT {pos : Pos} {s : Shared} {ps : List (Sem Value × Sem Value)} {L : List SP} {Q : Addr → Shared → Prop} (c : PairsT env pos ps L) (h15 : 15 < ps.length) (hn : (L.map (·.1)).Nodup) (hl : L.length ≤ 1000) (q : Q s.heap.objs.size (midT w prog s L)) :
    wpAny (model prog w) A (subDict ps) Q E s := by
  unfold subDict
  refine wpAny_bind (wpAny_alloc ?_)
  refine wpAny_bind (wpAny_holding ?_)
  rw [if_neg (by omega)]
  refine wpAny_bind (wpAny_rule ?_)
  have e : (Shared.mk (s.heap.push { cls := .type "dict", data := .dict #[] }) s.gens s.drawn s.toks s.os) = midT w prog s [] := by
    have z : s.heap.push { cls := .type "dict", data := .dict #[] } = ext s.heap [dO []] := by
      have z := ext_push s.heap [] { cls := .type "dict", data := .dict #[] }
      rw [ext_nil] at z
      exact z
    show Shared.mk _ _ _ _ _ = Shared.mk (ext s.heap [dO []]) _ _ _ _
    rw [z]
    rfl
  rw [e]
  exact wpAny_bind (wp_longT (E := E) L [] ps _ c hn hl (wpAny_pure (wpAny_pure q)))
/-- keys and values of a short run -/
def kvT (l : List E3) : List (Value × Value) := l.map fun x => (.str x.1 x.2.1, x.2.2)
theorem wp_pairsT {pos : Pos} {h : Heap} {l : List Obj} {g dr os} : ∀ {ps : List (Sem Value × Sem Value)} {L : List SP} (done : List SP) (t : Nat) {Q : List (Value × Value) → Shared → Prop}, PairsT env pos ps L →
    Q (kvT (te 1 (h.objs.size + l.length + done.length) (tk 1 t done) L)) ⟨ext h (l ++ ta 1 t (done ++ L)), g, dr, tk 1 t (done ++ L), os⟩ → wpAny (model prog w) A (evalPairs ps) Q E ⟨ext h (l ++ ta 1 t done), g, dr, tk 1 t done, os⟩
  | _, _, done, t, Q, .nil, q => by
    unfold evalPairs
    rw [List.append_nil] at q
    exact wpAny_pure q
  | _, _, done, t, Q, .cons (ve := ve) (x := x) (kk := kk) (vk := vk) (kp := kp) (vp := vp) (zs := zs) (ps := ps) (r := r) c2 c3 c4, q => by
    unfold evalPairs
    refine wpAny_bind (wpAny_Constant_str (wpAny_bind (wpAny_holding (wpAny_bind (wp_tuple (k := vk) (pos := vp) c2 c3 (wpAny_bind (wpAny_standAt (wpAny_pure ?_))))))))
    refine wpAny_bind (wpAny_holding ?_)
    have ed : done ++ (x, zs) :: r = (done ++ [(x, zs)]) ++ r := by simp
    have e1 : (ext h (l ++ ta 1 t done)).objs.size = h.objs.size + l.length + done.length := by
      rw [ext_size, List.length_append, ta_len]
      omega
    have eS : (⟨(ext h (l ++ ta 1 t done)).push (tO (tk 1 t done + 1) zs), g, dr, tk 1 t done + 1 + zs.length, os⟩ : Shared) = ⟨ext h (l ++ ta 1 t (done ++ [(x, zs)])), g, dr, tk 1 t (done ++ [(x, zs)]), os⟩ := by
      rw [ext_push, ta_app, tk_app, List.append_assoc]
      show Shared.mk _ _ _ _ _ = Shared.mk _ _ _ _ _
      congr 1
      show tk 1 t done + 1 + zs.length = tk 1 t done + zs.length + 1
      omega
    show wpAny _ _ _ _ _ (⟨(ext h (l ++ ta 1 t done)).push (tO (tk 1 t done + 1) zs), g, dr, tk 1 t done + 1 + zs.length, os⟩ : Shared)
    rw [eS]
    refine wp_pairsT (done ++ [(x, zs)]) t c4 (wpAny_pure ?_)
    rw [ed] at q
    show Q ((Value.str x (tk 1 t done), Value.ref (ext h (l ++ ta 1 t done)).objs.size) :: _) _
    rw [e1, tk_app, show h.objs.size + l.length + (done ++ [(x, zs)]).length = h.objs.size + l.length + done.length + 1 by rw [List.length_append]; rfl]
    exact q
theorem wp_storeT {h : Heap} {g dr os} {vals : List Obj} : ∀ (rest done : List E3) (k : Nat) (Q : PUnit → Shared → Prop), ((done ++ rest).map (·.1)).Nodup → (done ++ rest).length ≤ 1000 → Q PUnit.unit ⟨ext h (dE w prog (done ++ rest) :: vals), g, dr, k + rest.length, os⟩ →
    wpAny (model prog w) A (forIn (kvT rest) PUnit.unit fun (x : Value × Value) (_ : PUnit) => (do dictSet h.objs.size x.1 x.2; pure (ForInStep.yield PUnit.unit) : Sem (ForInStep PUnit))) Q E ⟨ext h (dE w prog done :: vals), g, dr, k, os⟩
  | [], done, k, Q, _, _, q => by
    rw [List.append_nil] at q
    show wpAny _ _ (forIn [] PUnit.unit _) _ _ _
    rw [List.forIn_nil]
    exact wpAny_pure q
  | p :: r, done, k, Q, hn, hl, q => by
    have ed : done ++ p :: r = (done ++ [p]) ++ r := by simp
    rw [ed] at hn hl q
    show wpAny _ _ (forIn ((Value.str p.1 p.2.1, p.2.2) :: kvT r) PUnit.unit _) _ _ _
    rw [List.forIn_cons]
    dsimp only
    have hn' : p.1 ∉ done.map (·.1) := fun z => by
      rw [List.map_append, List.map_append] at hn
      exact (List.nodup_append.mp (List.nodup_append.mp hn).1).2.2 _ z _ (List.mem_singleton.mpr rfl) rfl
    have hl' : done.length ≤ 1000 := by
      rw [List.length_append, List.length_append] at hl
      omega
    refine wpAny_bind (wpAny_bind (wp_setE (h := h) rfl hn' hl' (wpAny_pure ?_)))
    dsimp only
    exact wp_storeT r (done ++ [p]) (k + 1) Q hn hl (by
      rw [show k + 1 + r.length = k + (p :: r).length by rw [List.length_cons]; omega]
      exact q)
/-- a short run: the dict, then its values -/
def midU (w : World) (prog : Program) (s : Shared) (L : List SP) : Shared := { s with heap := ext s.heap (dE w prog (te 1 (s.heap.objs.size + 1) s.toks L) :: ta 1 s.toks L), toks := tk 1 s.toks L + L.length }
theorem wp_sub_shortT {pos : Pos} {s : Shared} {ps : List (Sem Value × Sem Value)} {L : List SP} {Q : Addr → Shared → Prop} (c : PairsT env pos ps L) (h15 : ps.length ≤ 15) (hn : (L.map (·.1)).Nodup) (q : Q s.heap.objs.size (midU w prog s L)) :
    wpAny (model prog w) A (subDict ps) Q E s := by
  have ll := pairsT_len c
  obtain ⟨hp, g, dr, t, os⟩ := s
  unfold subDict
  refine wpAny_bind (wpAny_alloc ?_)
  refine wpAny_bind (wpAny_holding ?_)
  rw [if_pos h15]
  have e : (⟨hp.push { cls := .type "dict", data := .dict #[] }, g, dr, t, os⟩ : Shared) = ⟨ext hp ([dE w prog []] ++ ta 1 t []), g, dr, tk 1 t [], os⟩ := by
    have z : hp.push { cls := .type "dict", data := .dict #[] } = ext hp [dO []] := by
      have z := ext_push hp [] { cls := .type "dict", data := .dict #[] }
      rw [ext_nil] at z
      exact z
    show Shared.mk _ _ _ _ _ = Shared.mk (ext hp [dO []]) _ _ _ _
    rw [z]
    rfl
  show wpAny _ _ _ _ _ (⟨hp.push { cls := .type "dict", data := .dict #[] }, g, dr, t, os⟩ : Shared)
  rw [e]
  refine wpAny_bind (wp_pairsT [] t c ?_)
  refine wpAny_holding ?_
  have q' : Q hp.objs.size ⟨ext hp (dE w prog (te 1 (hp.objs.size + 1) t L) :: ta 1 t L), g, dr, tk 1 t L + L.length, os⟩ := q
  refine wpAny_bind (wp_storeT (h := hp) (vals := ta 1 t L) (te 1 (hp.objs.size + 1) t L) [] (tk 1 t L) _ (by rw [List.nil_append, te_keys]; exact hn) (by rw [List.nil_append, te_len]; omega) (wpAny_pure (wpAny_pure ?_)))
  rw [List.nil_append, te_len]
  exact q'
/-- behind the whole display -/
def objsT (w : World) (prog : Program) (m t : Nat) (L M : List SP) : List Obj :=
  dE w prog (te 2 (m + 1) t L ++ te 1 (m + 1 + L.length + 1) (tk 2 t L) M) :: (ta 2 t L ++ dE w prog (te 1 (m + 1 + L.length + 1) (tk 2 t L) M) :: ta 1 (tk 2 t L) M)
def finT (w : World) (prog : Program) (s : Shared) (L M : List SP) : Shared := { s with heap := ext s.heap (objsT w prog s.heap.objs.size s.toks L M), toks := tk 1 (tk 2 s.toks L) M + M.length }
theorem wp_loopT {h : Heap} {g dr tks os} {vals tail : List Obj} {all : List E3} {a : Addr} (ha : a = h.objs.size + (vals.length + 1)) : ∀ (n : Nat) (done : List E3) (e2 : List E3) (pre : Nat) (Q : PUnit → Shared → Prop), n = e2.length → pre + n = all.length → all.drop pre = e2 → ((done ++ e2).map (·.1)).Nodup → (done ++ e2).length ≤ 1000 →
    Q PUnit.unit ⟨ext h (dE w prog (done ++ e2) :: (vals ++ dE w prog all :: tail)), g, dr, tks, os⟩ →
    wpAny (model prog w) A (forIn ((List.range all.length).drop pre) PUnit.unit fun (i : Nat) (_ : PUnit) => (do
      let __do_lift ← dictEntries a
      match __do_lift[i]? with
        | some e => do
          holding [e.key, e.val] (do
            dictPut h.objs.size e.hash e.key e.val)
          let __do_lift ← dictEpoch a
          if (__do_lift != all.length) = true then do
              let _ ← (unsupported "dict.changed-during-merge" : Sem PUnit)
              pure (ForInStep.yield PUnit.unit)
            else pure (ForInStep.yield PUnit.unit)
        | x => unsupported "dict.changed-during-merge" : Sem (ForInStep PUnit))) Q E ⟨ext h (dE w prog done :: (vals ++ dE w prog all :: tail)), g, dr, tks, os⟩
  | 0, done, [], pre, Q, _, hp, _, _, _, q => by
    rw [List.drop_eq_nil_of_le (by rw [List.length_range]; omega), List.forIn_nil]
    rw [List.append_nil] at q
    exact wpAny_pure q
  | n + 1, done, [], pre, Q, h0, _, _, _, _, _ => nomatch h0
  | 0, done, _ :: _, pre, Q, h0, _, _, _, _, _ => nomatch h0
  | n + 1, done, p :: r, pre, Q, h0, hp, hd, hn, hl, q => by
    have ed : done ++ p :: r = (done ++ [p]) ++ r := by simp
    rw [ed] at hn hl q
    have lt : pre < all.length := by omega
    have ep : all[pre]? = some p := by
      have : (all.drop pre)[0]? = some p := by rw [hd]; rfl
      rw [List.getElem?_drop] at this
      exact this
    have hr : (List.range all.length).drop pre = pre :: (List.range all.length).drop (pre + 1) := by
      rw [List.drop_eq_getElem_cons (by rw [List.length_range]; exact lt), List.getElem_range]
    have hn' : p.1 ∉ done.map (·.1) := fun z => by
      rw [List.map_append, List.map_append] at hn
      exact (List.nodup_append.mp (List.nodup_append.mp hn).1).2.2 _ z _ (List.mem_singleton.mpr rfl) rfl
    have hl' : done.length ≤ 1000 := by
      rw [List.length_append, List.length_append] at hl
      omega
    have g1 : ∀ x : Obj, (ext h (x :: (vals ++ dE w prog all :: tail))).get? a = some (dE w prog all) := fun x => by
      rw [ha]
      refine ext_get (h := h) (i := vals.length + 1) ?_ (nf_dE all)
      rw [List.getElem?_cons_succ, List.getElem?_append_right (Nat.le_refl _), Nat.sub_self]
      rfl
    have g0 : (ext h (dE w prog done :: (vals ++ dE w prog all :: tail))).get? h.objs.size = some (dE w prog done) := ext_get (h := h) (i := 0) rfl (nf_dE done)
    rw [hr, List.forIn_cons]
    refine wpAny_bind (wpAny_bind (wpAny_dictEntries (g1 _) rfl ?_))
    have ei : ((all.map (ent w prog)).toArray)[pre]? = some (ent w prog p) := by
      rw [List.getElem?_toArray, List.getElem?_map, ep]
      rfl
    rw [ei]
    dsimp only
    refine wpAny_bind (wpAny_holding ?_)
    unfold dictPut
    refine wpAny_bind (wp_findE g0 hn' ?_)
    refine wpAny_updateDictKeys g0 rfl ?_ (by
      rw [List.size_toArray, List.length_map]
      exact Nat.le_trans hl' (by decide))
    rw [ext_upd]
    show wpAny _ _ _ _ _ (⟨ext h (Obj.mapDictKeys (fun es => es.push (ent w prog p)) (dE w prog done) :: (vals ++ dE w prog all :: tail)), g, dr, tks, os⟩ : Shared)
    rw [dE_push]
    refine wpAny_bind (wpAny_dictEpoch (g1 _) rfl ?_)
    rw [if_neg (by
      show ¬ (((all.map (ent w prog)).length != all.length) = true)
      rw [List.length_map, bne_self_eq_false]
      exact Bool.false_ne_true)]
    refine wpAny_pure ?_
    exact wp_loopT ha n (done ++ [p]) r (pre + 1) Q (by simpa using h0) (by omega) (by rw [← List.drop_drop, hd]; rfl) hn hl q
end
end Fw

set_option Elab.async false
set_option linter.all false
set_option maxRecDepth 100000
set_option maxHeartbeats 2000000
namespace Fw
open PySem PySem.W PySem.Calls PyProof.Rows
section
variable {prog : Program} {w : World} {A : Around} {E : Value → Shared → Prop} {env : Env}
theorem wp_mergeT {s : Shared} {L M : List SP} {Q : Unit → Shared → Prop} (hn : ((L ++ M).map (·.1)).Nodup) (hl : (L ++ M).length ≤ 1000) (h0 : L ≠ []) (hm : sysModules < s.heap.objs.size) (q : Q () (finT w prog s L M)) :
    wpAny (model prog w) A (mergeMapping s.heap.objs.size (.ref (s.heap.objs.size + 1 + L.length)) false) Q E (midU w prog (midT w prog s L) M) := by
  obtain ⟨hp, g, dr, t, os⟩ := s
  have ea : (ext hp (dE w prog (te 2 (hp.objs.size + 1) t L) :: ta 2 t L)).objs.size = hp.objs.size + 1 + L.length := by
    rw [ext_size, List.length_cons, ta_len]
    omega
  generalize h1 : te 2 (hp.objs.size + 1) t L = e1 at *
  have k1 : e1.map (·.1) = L.map (·.1) := by rw [← h1, te_keys]
  have l1 : e1.length = L.length := by rw [← h1, te_len]
  generalize h2 : te 1 (hp.objs.size + 1 + L.length + 1) (tk 2 t L) M = e2 at *
  have k2 : e2.map (·.1) = M.map (·.1) := by rw [← h2, te_keys]
  have l2 : e2.length = M.length := by rw [← h2, te_len]
  have eS : midU w prog (midT w prog ⟨hp, g, dr, t, os⟩ L) M = ⟨ext hp (dE w prog e1 :: (ta 2 t L ++ dE w prog e2 :: ta 1 (tk 2 t L) M)), g, dr, tk 1 (tk 2 t L) M + M.length, os⟩ := by
    unfold midU midT
    dsimp only
    rw [h1, ea, ext_ext, h2]
    rfl
  have eF : finT w prog ⟨hp, g, dr, t, os⟩ L M = ⟨ext hp (dE w prog (e1 ++ e2) :: (ta 2 t L ++ dE w prog e2 :: ta 1 (tk 2 t L) M)), g, dr, tk 1 (tk 2 t L) M + M.length, os⟩ := by
    unfold finT objsT
    dsimp only
    rw [h1, h2]
  rw [eS]
  rw [eF] at q
  generalize tk 1 (tk 2 t L) M + M.length = tks at *
  have ha : hp.objs.size + 1 + L.length = hp.objs.size + ((ta 2 t L).length + 1) := by rw [ta_len]; omega
  have lv : (ta 2 t L).length = L.length := ta_len 2 L t
  generalize ta 2 t L = vals at *
  generalize ta 1 (tk 2 t L) M = tail at *
  have gd : (ext hp (dE w prog e1 :: (vals ++ dE w prog e2 :: tail))).get? hp.objs.size = some (dE w prog e1) := ext_get (h := hp) (i := 0) rfl (nf_dE e1)
  have gs : (ext hp (dE w prog e1 :: (vals ++ dE w prog e2 :: tail))).get? (hp.objs.size + 1 + L.length) = some (dE w prog e2) := by
    rw [ha]
    refine ext_get (h := hp) (i := vals.length + 1) ?_ (nf_dE e2)
    rw [List.getElem?_cons_succ, List.getElem?_append_right (Nat.le_refl _), Nat.sub_self]
    rfl
  have hT : (Shared.mk (ext hp (dE w prog e1 :: (vals ++ dE w prog e2 :: tail))) g dr tks os).TypeIs (.ref (hp.objs.size + 1 + L.length)) "dict" := ⟨_, gs, rfl⟩
  unfold mergeMapping
  refine wpAny_bind (wpAny_isInstance hT isSubtype_dict_dict ?_)
  rw [if_pos rfl]
  refine wpAny_bind (wpAny_specialOf hT F.slot_dict_iter.lookup ?_)
  rw [show ((some (Value.builtin "dict.__iter__") : Option Value) == some (Value.builtin "dict.__iter__")) = true from beq_self_eq_true _]
  refine wpAny_bind (wpAny_pure ?_)
  dsimp only
  rw [if_neg (by
    rw [beq_iff_eq]
    intro z
    have y : sysModules < hp.objs.size := hm
    rw [← z] at y
    exact absurd y (Nat.not_lt.mpr (by omega)))]
  refine wpAny_bind (wpAny_dictEntries gd rfl ?_)
  rw [if_neg (by
    intro z
    have : e1.map (ent w prog) = [] := by simpa using z
    rw [List.map_eq_nil_iff] at this
    rw [this] at l1
    exact h0 (List.eq_nil_of_length_eq_zero l1.symm))]
  refine wpAny_bind (wpAny_dictEntries gs rfl ?_)
  refine wpAny_bind (wpAny_dictEpoch gs rfl ?_)
  have es : ((e2.map (ent w prog)).toArray).size = e2.length := by rw [List.size_toArray, List.length_map]
  have ee : (e2.map (ent w prog)).length = e2.length := List.length_map ..
  show wpAny _ _ (forIn (List.range ((e2.map (ent w prog)).toArray).size) PUnit.unit _ >>= _) _ _ _
  rw [es]
  have hn2 : ((e1 ++ e2).map (·.1)).Nodup := by
    rw [List.map_append, k1, k2, ← List.map_append]
    exact hn
  have hl2 : (e1 ++ e2).length ≤ 1000 := by
    rw [List.length_append, l1, l2, ← List.length_append]
    exact hl
  have lp := wp_loopT (prog := prog) (w := w) (A := A) (E := E) (h := hp) (g := g) (dr := dr) (tks := tks) (os := os) (vals := vals) (tail := tail) (all := e2) ha e2.length e1 e2 0 (fun u s => wpAny (model prog w) A (pure ()) Q E s) rfl (Nat.zero_add _) rfl hn2 hl2 (wpAny_pure q)
  rw [List.drop_zero] at lp
  simp only [ee, Bool.false_eq_true, if_false] at *
  exact wpAny_bind lp
theorem gatherN (f : (Option (Sem Value) × Sem Value) → (Option Addr × List PS) → Sem (ForInStep (Option Addr × List PS))) (d : Option Addr) (hf : ∀ (p : PS) (run : List PS), run.length + 1 < 17 → f (some p.1, p.2) (d, run) = pure (.yield (d, run ++ [p]))) (rest : List PS) :
    ∀ (a run : List PS), run.length + a.length < 17 → forIn ((a ++ rest).map fun p => (some p.1, p.2)) (d, run) f = forIn (rest.map fun p => (some p.1, p.2)) (d, run ++ a) f
  | [], run, _ => by rw [List.append_nil]; rfl
  | p :: a, run, h => by
    rw [List.length_cons] at h
    rw [List.cons_append, List.map_cons, List.forIn_cons, hf p run (by omega), pure_bind]
    dsimp only
    rw [gatherN f d hf rest a (run ++ [p]) (by rw [List.length_append]; show run.length + 1 + a.length < 17; omega), List.append_assoc]
    rfl
theorem wp_displayT {pos : Pos} {s : Shared} {a c : List PS} {b : PS} {L M : List SP} {Q : Value → Shared → Prop} (ha : a.length = 16) (hc0 : c ≠ []) (hc : c.length ≤ 15) (c1 : PairsT env pos (a ++ [b]) L) (c2 : PairsT env pos c M) (hn : ((L ++ M).map (·.1)).Nodup) (hm : sysModules < s.heap.objs.size)
    (q : Q (.ref s.heap.objs.size) (finT w prog s L M)) : wpAny (model prog w) A (dictDisplay ((a ++ b :: c).map fun p => (some p.1, p.2))) Q E s := by
  have hL : L.length = 17 := by
    rw [← pairsT_len c1, List.length_append, ha]
    rfl
  have hM : M.length ≤ 15 := by rw [← pairsT_len c2]; exact hc
  have hn1 : (L.map (·.1)).Nodup := by
    rw [List.map_append] at hn
    exact (List.nodup_append.mp hn).1
  have hn2 : (M.map (·.1)).Nodup := by
    rw [List.map_append] at hn
    exact (List.nodup_append.mp hn).2.1
  unfold dictDisplay
  dsimp only
  rw [gatherN _ none (fun p run h => by
    have hne : ((run ++ [(p.1, p.2)]).length == 17) = false := by simp; omega
    simp only [hne, Bool.false_eq_true, if_false]) (b :: c) a [] (by rw [ha]; decide)]
  rw [List.nil_append, List.map_cons, List.forIn_cons]
  have e17 : ((a ++ [(b.1, b.2)]).length == 17) = true := by rw [List.length_append, ha]; rfl
  have ne : (a ++ [(b.1, b.2)]).isEmpty = false := by cases a <;> rfl
  simp only [e17, if_true, ne, Bool.false_eq_true, if_false]
  refine wpAny_bind (wpAny_bind (wpAny_bind (wpAny_bind (wp_sub_longT (w := w) (prog := prog) c1 (by rw [List.length_append, ha]; show 15 < 17; decide) hn1 (by rw [hL]; decide) ?_))))
  refine wpAny_pure (wpAny_pure ?_)
  dsimp only
  rw [← List.append_nil c, gatherN _ (some s.heap.objs.size) (fun p run h => by
    have hne : ((run ++ [(p.1, p.2)]).length == 17) = false := by simp; omega
    simp only [hne, Bool.false_eq_true, if_false]) [] c [] (by show 0 + c.length < 17; omega)]
  rw [List.nil_append, List.map_nil, List.forIn_nil]
  refine wpAny_pure ?_
  have hce : c.isEmpty = false := by cases c with | nil => exact absurd rfl hc0 | cons _ _ => rfl
  simp only [hce, Bool.false_eq_true, if_false]
  refine wpAny_bind (wpAny_bind (wpAny_holding (wp_sub_shortT (w := w) (prog := prog) c2 hc hn2 ?_)))
  have es : (midT w prog s L).heap.objs.size = s.heap.objs.size + 1 + L.length := by
    show (ext s.heap _).objs.size = _
    rw [ext_size, List.length_cons, ta_len]
    omega
  rw [es]
  refine wpAny_bind (wpAny_onRaise (wpAny_holding (wp_mergeT hn (by rw [List.length_append, hL]; omega) (fun z => by rw [z] at hL; exact nomatch hL) hm ?_)))
  exact wpAny_pure (wpAny_pure q)
end
end Fw

set_option Elab.async false
set_option linter.all false
set_option maxRecDepth 100000
set_option maxHeartbeats 2000000
/-! d.get(x) of a dict that the module's top laid, keyed by texts, whose values are tuples of texts -/
namespace Fw
open PySem PySem.Spec PyProof.Rows L2
def e2 (l : List E3) : List (Str × Value) := l.map fun e => (e.1, e.2.2)
structure Deeds (prog : Program) (w : World) (K : PySem.W.Frag) (d : Addr) (g : Str → Option (List Str)) : Prop where
  is : ∃ l : List E3, K.lookup d = some (dE w prog l) ∧ (l.map (·.1)).Nodup ∧
    ∀ k, (valueAt (e2 l) k = none ∧ g k = none) ∨ ∃ b t zs, valueAt (e2 l) k = some (.ref b) ∧ g k = some zs ∧ K.lookup b = some (tO t zs) ∧ zs.length ≤ sizeLine
  hd : (d == sysModules) = false
theorem pairs_ent {prog : Program} {w : World} : ∀ l : List E3, Pairs (strKind prog w) (l.map (ent w prog)) (e2 l)
  | [] => .nil
  | x :: r => .cons (by show Value.isStrOf x.1 (.str x.1 x.2.1) = true; simp [Value.isStrOf]) rfl (pairs_ent r)
theorem dict_ent {prog : Program} {w : World} {h : Heap} {d : Addr} {l : List E3} (e : h.get? d = some (dE w prog l)) (n : (l.map (·.1)).Nodup) : h.DictOf (strKind prog w) d (e2 l) :=
  ⟨_, _, _, e, ⟨rfl, rfl, rfl⟩, rfl, fun e he => by
    obtain ⟨y, _, rfl⟩ := List.mem_map.mp (List.mem_toArray.mp he)
    exact ⟨y.1, by show Value.isStrOf y.1 (.str y.1 y.2.1) = true; simp [Value.isStrOf], rfl⟩, pairs_ent l, by
    show ((l.map _).map _).Nodup
    rw [List.map_map]
    exact n⟩
def tDG (K : PySem.W.Frag) (d : Addr) (g : Str → Option (List Str)) (to : TE) (t : TA) : TE := fun σ H Q => to σ H fun x H1 => x = .ref d ∧ t σ H1 fun ys H2 =>
  ∃ k, ys = [.str k] ∧ (g k = none → Q .non H2) ∧ ∀ b zs, g k = some zs → SqT K H2 b (zs.map V.str) → Q (.ref b) H2
variable {X : Cx}
theorem pe_dgetT {d : Addr} {g : Str → Option (List Str)} {o e : Expr} {to : TE} {t : TA} {apos cpos : Pos} (hp : Deeds X.prog X.w X.K d g) (ho : PE X o to) (ha : PA X [e] t)
    (hbase : attributeBase o "get" X.env (eval o X.env) = eval o X.env := by rfl)
    (hfew : ((backTo cpos (starEach [e] X.env)).all (fun x => !x.1) && (backToKw cpos (keywordEach [] X.env)).all (fun x => x.1.isSome)
      && decide ([e].length + ([] : List Keyword).length + (if ([] : List Keyword).isEmpty then 0 else 1) < 30)) = true := by rfl)
    (hline : (apos.endLine == cpos.line) = true := by rfl) (hs : starEach [e] X.env = (false, eval e X.env) :: starEach [] X.env := by rfl) (hplain : (backTo cpos (starEach [] X.env)).any (·.1) = false := by rfl) :
    PE X (.Call (.Attribute o "get" apos) [e] [] cpos) (tDG X.K d g to t) := by
  refine ⟨fun pins s σ H Q I h => ?_⟩
  obtain ⟨⟨l, hk, hnd, hv⟩, hsm⟩ := hp
  refine wpAny_Call_method_late hbase hfew hline rfl (thn (ho.run pins s σ H _ I h) fun v s1 ⟨x, H1, I1, r1, ex, q1⟩ => ?_)
  subst ex
  cases (show v = Value.ref d from r1)
  refine ⟨"dict", "dict.get", PySem.F.plainAttrs_dict, PySem.F.slot_dict_get, PySem.F.type_dict_get, ⟨_, I1.kIn d _ hk, rfl⟩, fun a z => ?_, ?_⟩
  · cases z
    exact ⟨_, I1.kIn _ _ hk, rfl⟩
  have hA := ha.run cpos pins s1 σ H1 _ I1 q1
  rw [hs] at hA ⊢
  refine Calls.callWith_builtin (by show (false || (backTo cpos (starEach [] X.env)).any (·.1)) = false; rw [hplain] <;> rfl) (Calls.evalArgs_plain ?_)
  refine thn hA fun us s2 hh => ?_
  obtain ⟨vs, H2, I2, r2, k, rfl, qn, qs⟩ := hh
  obtain ⟨u, rfl, ⟨tt, rfl⟩⟩ := Vals.one r2
  have dk := dict_ent (prog := X.prog) (w := X.w) (I2.kIn d _ hk) hnd
  refine call_meetsIn PySem.F.slot_dict_get dk.typeIs PySem.F.entry_dict_get (PySem.F.args_dict_get_2 _ _) (meets_dict_get (strKind X.prog X.w) d (by show Value.isStrOf k (.str k tt) = true; simp [Value.isStrOf]) hsm) ⟨_, dk.mapOf, ?_⟩
  rcases hv k with ⟨z1, z2⟩ | ⟨b, t, zs, z1, z2, z3, z4⟩
  · rw [z1]
    exact ⟨.non, H2, I2.tok _, rfl, qn z2⟩
  · rw [z1]
    exact ⟨.ref b, H2, I2.tok _, rfl, qs b zs z2 (tO_sqT z3 z4)⟩
/-! ### from the objects -/
theorem ta_at {c : Nat} : ∀ {L : List SP} {t j : Nat} {q : SP}, L[j]? = some q → ∃ t', (ta c t L)[j]? = some (tO t' q.2)
  | [], _, _, _, h => by simp at h
  | p :: r, t, 0, q, h => by cases (Option.some.inj h); exact ⟨_, rfl⟩
  | p :: r, t, j + 1, q, h => ta_at (L := r) (j := j) h
theorem find_te {c : Nat} (x : Str) : ∀ (L : List SP) (a t : Nat), ((e2 (te c a t L)).find? (fun kv => kv.1 = x) = none ∧ L.find? (fun p => decide (p.1 = x)) = none) ∨
    ∃ j q, L[j]? = some q ∧ (e2 (te c a t L)).find? (fun kv => kv.1 = x) = some (q.1, .ref (a + j)) ∧ L.find? (fun p => decide (p.1 = x)) = some q
  | [], _, _ => .inl ⟨rfl, rfl⟩
  | p :: r, a, t => by
    show (((p.1, Value.ref a) :: e2 (te c (a + 1) (t + p.2.length + c) r)).find? _ = none ∧ _) ∨ ∃ j q, _ ∧ ((p.1, Value.ref a) :: e2 (te c (a + 1) (t + p.2.length + c) r)).find? _ = _ ∧ _
    rw [List.find?_cons, List.find?_cons]
    by_cases h : p.1 = x
    · simp only [h, decide_true]
      exact .inr ⟨0, p, rfl, by rw [h]; rfl, rfl⟩
    · simp only [h, decide_false]
      rcases find_te x r (a + 1) (t + p.2.length + c) with ⟨h1, h2⟩ | ⟨j, q, h1, h2, h3⟩
      · exact .inl ⟨h1, h2⟩
      · exact .inr ⟨j + 1, q, h1, by rw [show a + (j + 1) = a + 1 + j by omega]; exact h2, h3⟩
theorem deeds_of {prog : Program} {w : World} {K : PySem.W.Frag} {m t : Nat} {L M : List SP} (h : ∀ i o, (objsT w prog m t L M)[i]? = some o → K.lookup (m + i) = some o) (hm : (m == sysModules) = false) (nd : ((L ++ M).map (·.1)).Nodup)
    (hl : ∀ x ∈ L ++ M, x.2.length ≤ sizeLine) : Deeds prog w K m (fun k => ((L ++ M).find? fun q => decide (q.1 = k)).map (·.2)) := by
  have inL : ∀ {j : Nat} {o : Obj}, (ta 2 t L)[j]? = some o → K.lookup (m + 1 + j) = some o := fun {j o} e => by
    have hj : j < (ta 2 t L).length := (List.getElem?_eq_some_iff.mp e).1
    have := h (j + 1) o (by
      show ((ta 2 t L) ++ _)[j]? = some o
      rw [List.getElem?_append_left hj]
      exact e)
    rw [show m + 1 + j = m + (j + 1) by omega]
    exact this
  have inM : ∀ {j : Nat} {o : Obj}, (ta 1 (tk 2 t L) M)[j]? = some o → K.lookup (m + 1 + L.length + 1 + j) = some o := fun {j o} e => by
    have := h (L.length + 1 + j + 1) o (by
      show ((ta 2 t L) ++ _)[L.length + 1 + j]? = some o
      rw [List.getElem?_append_right (by rw [ta_len]; omega), ta_len, show L.length + 1 + j - L.length = j + 1 by omega]
      exact e)
    rw [show m + 1 + L.length + 1 + j = m + (L.length + 1 + j + 1) by omega]
    exact this
  refine ⟨⟨te 2 (m + 1) t L ++ te 1 (m + 1 + L.length + 1) (tk 2 t L) M, h 0 _ rfl, ?_, fun k => ?_⟩, hm⟩
  · rw [List.map_append, te_keys, te_keys, ← List.map_append]
    exact nd
  · have e1 : e2 (te 2 (m + 1) t L ++ te 1 (m + 1 + L.length + 1) (tk 2 t L) M) = e2 (te 2 (m + 1) t L) ++ e2 (te 1 (m + 1 + L.length + 1) (tk 2 t L) M) := List.map_append
    unfold valueAt
    rw [e1, List.find?_append, List.find?_append]
    rcases find_te (c := 2) k L (m + 1) t with ⟨h1, h2⟩ | ⟨j, q, h1, h2, h3⟩
    · rw [h1, h2]
      rcases find_te (c := 1) k M (m + 1 + L.length + 1) (tk 2 t L) with ⟨h3, h4⟩ | ⟨j, q, h3, h4, h5⟩
      · rw [h3, h4]
        exact .inl ⟨rfl, rfl⟩
      · rw [h4, h5]
        obtain ⟨t', h6⟩ := ta_at (c := 1) (t := tk 2 t L) h3
        exact .inr ⟨_, t', _, rfl, rfl, inM h6, hl q (List.mem_append.mpr (.inr (List.mem_of_getElem? h3)))⟩
    · rw [h2, h3]
      obtain ⟨t', ht'⟩ := ta_at (c := 2) (t := t) h1
      exact .inr ⟨_, t', _, rfl, rfl, inL ht', hl q (List.mem_append.mpr (.inl (List.mem_of_getElem? h1)))⟩
end Fw

set_option Elab.async false
set_option linter.all false
set_option maxRecDepth 100000
set_option maxHeartbeats 2000000
/-! a top with any number of displays: pieces in the kernel, displays by wp -/
noncomputable section
namespace Fw
open PySem PySem.W PySem.Calls PyProof.Rows HandSHeadRun
structure Base where
  p : Program
  env : Env
  q0 : Pos
  pos0 : Pos
  k0 : Nat
  kB : Nat
def Base.c (D : Base) : Code := .body (behindTheImports D.p) D.env
def Base.B (D : Base) : List Frame := [topFrame D.q0]
def Base.A (D : Base) : Around := { handled := none, depth := frameCount [(.builtin "claim.caller" {}, D.q0)] + D.c.weight, frames := none, guards := none, units := D.c.cUnits + unitsOf [(.builtin "claim.caller" {}, D.q0)] }
theorem base_in {D : Base} : ((⟨D.c, none, none, [], none⟩ : Ctx).over D.B).In D.A :=
  ⟨rfl, Nat.le_refl _, fun l hl => (nomatch (show (none : Option (List Env)) = some l from hl)), fun g hg => (nomatch (show (none : Option (List Code)) = some g from hg)), Nat.le_refl _⟩
def bindF (env : Env) (x : Str) (np : Pos) (v : Value) : Sem Flow := do
  standAt np
  bindName env x v
  pure .next
section
variable {D : Base} {w : World} {n₀ : Nat} {ann : Option Value} {G : SharedT → Prop}
/-- the pieces b come to an end from here -/
def EndsAt (D : Base) (w : World) (n₀ : Nat) (ann : Option Value) (G : SharedT → Prop) (b : List Stmt) (s : SharedT) (p : Pos) : Prop :=
  s.abs.asleep → ∃ S : SharedT, Halts D.p w s.abs ⟨(execs b D.env).wrap doneF (leaveH D.env) id id, D.c, p, D.B⟩ S.abs ∧ S.gens = #[] ∧ Keeps n₀ ann s.abs S.abs ∧ G S
theorem ends_seg {l b : List Stmt} {k : Nat} {s s1 : SharedT} {p p1 : Pos} (h : segF (stepT (denote table) D.p w) n₀ ann k s (piecesOf l D.env D.c p D.B) = some (.next, s1, D.c, p1)) (e : EndsAt D w n₀ ann G b s1 p1) : EndsAt D w n₀ ann G (l ++ b) s p := by
  intro hz
  have sB0 : splitAtGen D.B = none := rfl
  obtain ⟨fC, mC, eC, goC⟩ := seg_goes (res := fun f : Flow => f) (K' := fun f => match f with | .next => (execs b D.env).wrap doneF (leaveH D.env) id id | f => doneF f) (H' := leaveH D.env) (B := D.B) sB0 k (t := piecesOf l D.env D.c p D.B)
    (t' := ⟨(execs l D.env).wrap (fun f => match f with | .next => (execs b D.env).wrap doneF (leaveH D.env) id id | f => doneF f) (leaveH D.env) id id, D.c, p, D.B⟩) ⟨rfl, rfl, .inl ⟨rfl, rfl, _, rfl, rfl⟩⟩ (segF_ok h)
  have eC : fC = .next := eC
  subst eC
  have kC := keeps_go goC
  obtain ⟨S, h1, h2, h3, h4⟩ := e (Shared.asleep_of_life kC.life hz)
  refine ⟨S, ?_, h2, kC.trans h3, h4⟩
  rw [execs_app_wrap]
  exact halts_go goC h1
theorem ends_go {b : List Stmt} {M : Nat} {s s4 : SharedT} {p : Pos} (h : goF (stepT (denote table) D.p w) n₀ ann M s (restOf b D.env D.c p D.B) = some s4) (hg : s4.gens = #[]) (hG : G s4) : EndsAt D w n₀ ann G b s p := by
  intro hz
  have top := goF_ok h
  obtain ⟨_, l4, o4, f4⟩ := topRun_spec _ _ _ _ hz top
  exact ⟨s4, halts_top top hg, hg, ⟨l4, o4, f4⟩, hG⟩
theorem ends_dict {b : List Stmt} {k : Nat} {s s2 : SharedT} {p : Pos} {x : Str} {np : Pos} {keys : List (Option Expr)} {values : List Expr} {dpos apos : Pos}
    (sw : swapsWith (.Dict keys values dpos) (some (.Name x np)) apos.line D.env = pure false)
    (wpD : wpAny (model D.p w) D.A (eval (.Dict keys values dpos) D.env) (fun v s' => v = .ref s.n ∧ s' = s2.abs) (fun _ _ => False) s.abs) (k2 : Keeps n₀ ann s.abs s2.abs)
    (h : ∀ p', ∃ s3 p3, segF (stepT (denote table) D.p w) n₀ ann k s2 ⟨(bindF D.env x np (.ref s.n)).wrap doneF deadEnd id id, D.c, p', D.B⟩ = some (.next, s3, D.c, p3) ∧ EndsAt D w n₀ ann G b s3 p3) :
    EndsAt D w n₀ ann G (.Assign [.Name x np] (.Dict keys values dpos) apos :: b) s p := by
  intro hz
  have sB0 : splitAtGen D.B = none := rfl
  have behind : ∀ p', ∃ S, Halts D.p w s2.abs ⟨(bindF D.env x np (.ref s.n)).wrap (fun f => match f with | .next => (execs b D.env).wrap doneF (leaveH D.env) id id | f => doneF f) (leaveH D.env) id id, D.c, p', D.B⟩ S ∧ S.gens = #[] ∧
      ∃ S4 : SharedT, S = S4.abs ∧ S4.gens = #[] ∧ Keeps n₀ ann s.abs S ∧ G S4 := by
    intro p'
    obtain ⟨s3, p3, h3, e⟩ := h p'
    obtain ⟨fE, mE, eE, goE⟩ := seg_goes (res := fun f : Flow => f) (K' := fun f => match f with | .next => (execs b D.env).wrap doneF (leaveH D.env) id id | f => doneF f) (H' := leaveH D.env) (B := D.B) sB0 k (t := ⟨(bindF D.env x np (.ref s.n)).wrap doneF deadEnd id id, D.c, p', D.B⟩)
      (t' := ⟨(bindF D.env x np (.ref s.n)).wrap (fun f => match f with | .next => (execs b D.env).wrap doneF (leaveH D.env) id id | f => doneF f) (leaveH D.env) id id, D.c, p', D.B⟩) ⟨rfl, rfl, .inl ⟨rfl, rfl, _, rfl, rfl⟩⟩ (segF_ok h3)
    have eE : fE = .next := eE
    subst eE
    have kE := keeps_go goE
    have k3 := k2.trans kE
    obtain ⟨S, h1, h2, h4, h5⟩ := e (Shared.asleep_of_life k3.life hz)
    exact ⟨S.abs, halts_go goE h1, h2, S, rfl, h2, k3.trans h4, h5⟩
  have ex : exec (.Assign [.Name x np] (.Dict keys values dpos) apos) D.env = ((do standAt apos; eval (.Dict keys values dpos) D.env) : Sem Value) >>= bindF D.env x np := by
    rw [exec_Assign_Name _ _ _ _ _ sw]
    rfl
  have wpE : wpAny (model D.p w) D.A ((do standAt apos; eval (.Dict keys values dpos) D.env) : Sem Value) (fun v s' => v = .ref s.n ∧ s' = s2.abs) (fun _ _ => False) s.abs := wpAny_bind (wpAny_standAt wpD)
  obtain ⟨S, hS, hg, S4, rfl, hg4, hk4, hG⟩ := halts_mid' (p := D.p) (w := w) (K := fun v => (bindF D.env x np v).wrap (fun f => match f with | .next => (execs b D.env).wrap doneF (leaveH D.env) id id | f => doneF f) (leaveH D.env) id id) (H := leaveH D.env) (gd := id) (lv := id) (c := D.c) (pos := p) (B := D.B)
    (G := fun S => ∃ S4 : SharedT, S = S4.abs ∧ S4.gens = #[] ∧ Keeps n₀ ann s.abs S ∧ G S4) (wpE _ p base_in) (fun v p' s' q => by
      obtain ⟨rfl, rfl⟩ := q
      exact behind p')
  refine ⟨S4, ?_, hg4, hk4, hG⟩
  rw [execs_cons_wrap, ex, Sem.bind_eq_wrap', Sem.wrap_wrap]
  exact hS
end
/-! ### the stages of a top -/
inductive Stg where
  | seg (l : List Stmt) (k : Nat)
  | big (x : Str) (np : Pos) (keys : List (Option Expr)) (values : List Expr) (dpos apos : Pos) (L : List PK) (pk : PK) (k : Nat)
  | txt (x : Str) (np : Pos) (keys : List (Option Expr)) (values : List Expr) (dpos apos : Pos) (L : List SV) (ok : SharedT → Bool) (k : Nat)
  | two (x : Str) (np : Pos) (keys : List (Option Expr)) (values : List Expr) (dpos apos : Pos) (L M : List SP) (k : Nat)
def Stg.ss : Stg → List Stmt
  | .seg l _ => l
  | .big x np ks vs dp ap .. => [.Assign [.Name x np] (.Dict ks vs dp) ap]
  | .txt x np ks vs dp ap .. => [.Assign [.Name x np] (.Dict ks vs dp) ap]
  | .two x np ks vs dp ap .. => [.Assign [.Name x np] (.Dict ks vs dp) ap]
def layU (w : World) (prog : Program) (L M : List SP) (s : SharedT) : Option SharedT := match putAll (objsT w prog s.n s.toks L M) s.tree s.n with
  | some (t, n) => frNat n fun n => some ⟨t, n, s.life, s.gens, s.drawn, tk 1 (tk 2 s.toks L) M + M.length, s.os⟩
  | none => none
theorem layU_ok {w : World} {prog : Program} {L M : List SP} {s s' : SharedT} (h : layU w prog L M s = some s') : s'.abs = finT w prog s.abs L M := by
  unfold layU at h
  cases e : putAll (objsT w prog s.n s.toks L M) s.tree s.n with
  | none => rw [e] at h; exact nomatch h
  | some r =>
    obtain ⟨t, n⟩ := r
    rw [e] at h
    have h : (frNat n fun n => some (⟨t, n, s.life, s.gens, s.drawn, tk 1 (tk 2 s.toks L) M + M.length, s.os⟩ : SharedT)) = some s' := h
    rw [frNat_eq] at h
    cases h
    have q := putAll_ok (life := s.life) e
    rw [ext_foldl] at q
    have sz : (absHeap s.tree s.n s.life).objs.size = s.n := absHeap_size s.tree s.n s.life
    show Shared.mk (absHeap t n s.life) s.gens s.drawn _ s.os = Shared.mk (ext (absHeap s.tree s.n s.life) (objsT w prog (absHeap s.tree s.n s.life).objs.size s.toks L M)) s.gens s.drawn _ s.os
    rw [q, sz]
    rfl
theorem keeps_finT {w : World} {prog : Program} {n₀ : Nat} {ann : Option Value} (s : Shared) (L M : List SP) : Keeps n₀ ann s (finT w prog s L M) :=
  ⟨rfl, rfl, fun b o _ _ _ _ h => by
    have lt := Heap.lt_size h
    show (ext s.heap _).get? b = some o
    unfold Heap.get? ext at *
    rw [Array.getElem?_append_left lt]
    exact h⟩
def layS (w : World) (prog : Program) (L : List SV) (s : SharedT) : Option SharedT := match putAll [dO (sEs w prog s.toks L)] s.tree s.n with
  | some (t, n) => frNat n fun n => some ⟨t, n, s.life, s.gens, s.drawn, s.toks + 2 * L.length, s.os⟩
  | none => none
theorem layS_ok {w : World} {prog : Program} {L : List SV} {s s' : SharedT} (h : layS w prog L s = some s') : s'.abs = midS w prog s.abs s.abs.toks (s.abs.toks + 2 * L.length) L := by
  unfold layS at h
  cases e : putAll [dO (sEs w prog s.toks L)] s.tree s.n with
  | none => rw [e] at h; exact nomatch h
  | some r =>
    obtain ⟨t, n⟩ := r
    rw [e] at h
    have h : (frNat n fun n => some (⟨t, n, s.life, s.gens, s.drawn, s.toks + 2 * L.length, s.os⟩ : SharedT)) = some s' := h
    rw [frNat_eq] at h
    cases h
    have q := putAll_ok (life := s.life) e
    rw [ext_foldl] at q
    show Shared.mk (absHeap t n s.life) s.gens s.drawn _ s.os = Shared.mk (ext (absHeap s.tree s.n s.life) _) s.gens s.drawn _ s.os
    rw [q]
    rfl
structure Trail where
  s : SharedT
  p : Pos
  cs : List Code
  fl : List Bool
def goStg (st : SharedT → Thread → Option (SharedT × Thread)) (D : Base) (w : World) (n₀ : Nat) (ann : Option Value) : List Stg → List Pos → SharedT → Pos → Option Trail
  | [], _, s, p => some ⟨s, p, [], []⟩
  | .seg l k :: r, ps, s, p => match segF st n₀ ann k s (piecesOf l D.env D.c p D.B) with
    | some (.next, s1, c1, p1) => (match goStg st D w n₀ ann r ps s1 p1 with
      | some t => some ⟨t.s, t.p, c1 :: t.cs, t.fl⟩
      | none => none)
    | _ => none
  | .big x np _ _ _ _ L pk k :: r, ps, s, p => match layT w D.p L pk s with
    | some s2 => (match segF st n₀ ann k s2 ⟨(bindF D.env x np (.ref s.n)).wrap doneF deadEnd id id, D.c, ps.headD p, D.B⟩ with
      | some (.next, s3, c3, p3) => (match goStg st D w n₀ ann r ps.tail s3 p3 with
        | some t => some ⟨t.s, t.p, c3 :: t.cs, Nat.blt sysModules s.n :: t.fl⟩
        | none => none)
      | _ => none)
    | none => none
  | .txt x np _ _ _ _ L ok k :: r, ps, s, p => match layS w D.p L s with
    | some s2 => (match segF st n₀ ann k s2 ⟨(bindF D.env x np (.ref s.n)).wrap doneF deadEnd id id, D.c, ps.headD p, D.B⟩ with
      | some (.next, s3, c3, p3) => (match goStg st D w n₀ ann r ps.tail s3 p3 with
        | some t => some ⟨t.s, t.p, c3 :: t.cs, ok s :: t.fl⟩
        | none => none)
      | _ => none)
    | none => none
  | .two x np _ _ _ _ L M k :: r, ps, s, p => match layU w D.p L M s with
    | some s2 => (match segF st n₀ ann k s2 ⟨(bindF D.env x np (.ref s.n)).wrap doneF deadEnd id id, D.c, ps.headD p, D.B⟩ with
      | some (.next, s3, c3, p3) => (match goStg st D w n₀ ann r ps.tail s3 p3 with
        | some t => some ⟨t.s, t.p, c3 :: t.cs, Nat.blt sysModules s.n :: t.fl⟩
        | none => none)
      | _ => none)
    | none => none
def Stg.Ok (D : Base) (w : World) : Stg → Prop
  | .seg _ _ => True
  | .big x np keys values dpos apos L pk _ => swapsWith (.Dict keys values dpos) (some (.Name x np)) apos.line D.env = pure false ∧ ((L ++ [pk]).map key).Nodup ∧
      ∃ (a : List PS) (b c : PS), a.length = 16 ∧ (evalEachOpt keys D.env).zip ((evalEach values D.env).map fun v => do let x ← v; standAt dpos; pure x) = (a ++ [b, c]).map (fun p => (some p.1, p.2)) ∧ PairsAre D.env dpos (a ++ [b]) L ∧ PairsAre D.env dpos [c] [pk]
  | .txt x np keys values dpos apos L ok _ => swapsWith (.Dict keys values dpos) (some (.Name x np)) apos.line D.env = pure false ∧ (L.map (·.1)).Nodup ∧
      ∀ s : SharedT, ok s = true → ∃ ps : List PS, (evalEachOpt keys D.env).zip ((evalEach values D.env).map fun v => do let x ← v; standAt dpos; pure x) = ps.map (fun p => (some p.1, p.2)) ∧ PairsS D.p w D.A (fun _ _ => False) D.env s.abs ps L ∧ ps ≠ [] ∧ ps.length ≤ 15
  | .two x np keys values dpos apos L M _ => swapsWith (.Dict keys values dpos) (some (.Name x np)) apos.line D.env = pure false ∧ ((L ++ M).map (·.1)).Nodup ∧
      ∃ (a c : List PS) (b : PS), a.length = 16 ∧ c ≠ [] ∧ c.length ≤ 15 ∧ (evalEachOpt keys D.env).zip ((evalEach values D.env).map fun v => do let x ← v; standAt dpos; pure x) = (a ++ b :: c).map (fun p => (some p.1, p.2)) ∧ PairsT D.env dpos (a ++ [b]) L ∧ PairsT D.env dpos c M
def Stg.disp : Stg → Nat
  | .seg _ _ => 0
  | _ => 1
theorem keeps_midS {w : World} {prog : Program} {n₀ : Nat} {ann : Option Value} (s : Shared) (t k : Nat) (L : List SV) : Keeps n₀ ann s (midS w prog s t k L) :=
  ⟨rfl, rfl, fun b o _ _ _ _ h => by
    have lt := Heap.lt_size h
    show (ext s.heap _).get? b = some o
    unfold Heap.get? ext at *
    rw [Array.getElem?_append_left lt]
    exact h⟩
theorem stg_ends {D : Base} {w : World} {n₀ : Nat} {ann : Option Value} {G : SharedT → Prop} {b : List Stmt} (un : D.A.units < cLine) : ∀ (L : List Stg) (s : SharedT) (p : Pos), (∀ x ∈ L, x.Ok D w) →
    (∀ ps : List Pos, ps.length = (L.map Stg.disp).sum → ∃ t, goStg (stepT (denote table) D.p w) D w n₀ ann L ps s p = some t ∧ (∀ c ∈ t.cs, c = D.c) ∧ (∀ f ∈ t.fl, f = true) ∧ EndsAt D w n₀ ann G b t.s t.p) →
    EndsAt D w n₀ ann G (L.flatMap Stg.ss ++ b) s p
  | [], s, p, _, run => by
    obtain ⟨t, h, _, _, e⟩ := run [] rfl
    cases h
    exact e
  | .seg l k :: r, s, p, ok, run => by
    show EndsAt D w n₀ ann G ((l ++ r.flatMap Stg.ss) ++ b) s p
    rw [List.append_assoc]
    obtain ⟨t0, h0, c0, _, _⟩ := run (List.replicate ((Stg.seg l k :: r).map Stg.disp).sum default) (List.length_replicate ..)
    cases hs : segF (stepT (denote table) D.p w) n₀ ann k s (piecesOf l D.env D.c p D.B) with
    | none => simp [goStg, hs] at h0
    | some v =>
      obtain ⟨f, s1, c1, p1⟩ := v
      cases f with
      | next =>
        have ec : c1 = D.c := by
          simp only [goStg, hs] at h0
          split at h0
          · cases h0
            exact c0 c1 (List.mem_cons_self ..)
          · cases h0
        subst ec
        refine ends_seg hs (stg_ends un r s1 p1 (fun x hx => ok x (List.mem_cons_of_mem _ hx)) fun ps hp => ?_)
        obtain ⟨t, h, c, f, e⟩ := run ps (by rw [hp, List.map_cons, List.sum_cons]; exact (Nat.zero_add _).symm)
        simp only [goStg, hs] at h
        split at h
        · rename_i t' ht'
          cases h
          exact ⟨t', ht', fun x hx => c x (List.mem_cons_of_mem _ hx), f, e⟩
        · cases h
      | _ => simp [goStg, hs] at h0
  | .big x np keys values dpos apos L pk k :: r, s, p, ok, run => by
    obtain ⟨sw, nd, a, bb, cc, al, hsh, p1, p2⟩ := ok _ (List.mem_cons_self ..)
    show EndsAt D w n₀ ann G (.Assign [.Name x np] (.Dict keys values dpos) apos :: (r.flatMap Stg.ss ++ b)) s p
    obtain ⟨t0, h0, _, f0, _⟩ := run (List.replicate ((Stg.big x np keys values dpos apos L pk k :: r).map Stg.disp).sum default) (List.length_replicate ..)
    cases hs : layT w D.p L pk s with
    | none => simp [goStg, hs] at h0
    | some s2 =>
      have sz : s.abs.heap.objs.size = s.n := absHeap_size s.tree s.n s.life
      have blt : Nat.blt sysModules s.n = true := by
        simp only [goStg, hs] at h0
        split at h0
        · split at h0
          · cases h0
            exact f0 _ (List.mem_cons_self ..)
          · cases h0
        · cases h0
      refine ends_dict (k := k) sw ?_ (by rw [layT_ok hs]; exact keeps_fin _ _ _) fun p' => ?_
      · rw [arm_eval_Dict, hsh]
        refine wpAny_bind (wpAny_standAt (wp_display un al p1 p2 nd (by rw [sz]; exact Nat.le_of_ble_eq_true blt) ?_))
        rw [sz, layT_ok hs]
        exact ⟨rfl, rfl⟩
      · obtain ⟨t1, h1, c1, _, _⟩ := run (p' :: List.replicate (r.map Stg.disp).sum default) (by rw [List.length_cons, List.length_replicate, List.map_cons, List.sum_cons]; exact Nat.add_comm _ _)
        simp only [goStg, hs, List.headD_cons, List.tail_cons] at h1
        split at h1
        · rename_i s3 c3 p3 h3
          have ec : c3 = D.c := by
            split at h1
            · cases h1
              exact c1 c3 (List.mem_cons_self ..)
            · cases h1
          subst ec
          refine ⟨s3, p3, h3, stg_ends un r s3 p3 (fun x hx => ok x (List.mem_cons_of_mem _ hx)) fun ps hp => ?_⟩
          obtain ⟨t, h, c, f, e⟩ := run (p' :: ps) (by rw [List.length_cons, hp, List.map_cons, List.sum_cons]; exact Nat.add_comm _ _)
          simp only [goStg, hs, List.headD_cons, List.tail_cons, h3] at h
          split at h
          · rename_i t' ht'
            cases h
            exact ⟨t', ht', fun x hx => c x (List.mem_cons_of_mem _ hx), fun x hx => f x (List.mem_cons_of_mem _ hx), e⟩
          · cases h
        · cases h1
  | .txt x np keys values dpos apos L okB k :: r, s, p, ok, run => by
    obtain ⟨sw, nd, hps⟩ := ok _ (List.mem_cons_self ..)
    show EndsAt D w n₀ ann G (.Assign [.Name x np] (.Dict keys values dpos) apos :: (r.flatMap Stg.ss ++ b)) s p
    obtain ⟨t0, h0, _, f0, _⟩ := run (List.replicate ((Stg.txt x np keys values dpos apos L okB k :: r).map Stg.disp).sum default) (List.length_replicate ..)
    cases hs : layS w D.p L s with
    | none => simp [goStg, hs] at h0
    | some s2 =>
      have sz : s.abs.heap.objs.size = s.n := absHeap_size s.tree s.n s.life
      have okS : okB s = true := by
        simp only [goStg, hs] at h0
        split at h0
        · split at h0
          · cases h0
            exact f0 _ (List.mem_cons_self ..)
          · cases h0
        · cases h0
      obtain ⟨pss, hsh, hP, h0', h15⟩ := hps s okS
      refine ends_dict (k := k) sw ?_ (by rw [layS_ok hs]; exact keeps_midS _ _ _ _) fun p' => ?_
      · refine wp_displayS hsh hP h0' h15 nd ?_
        rw [sz, layS_ok hs]
        exact ⟨rfl, rfl⟩
      · obtain ⟨t1, h1, c1, _, _⟩ := run (p' :: List.replicate (r.map Stg.disp).sum default) (by rw [List.length_cons, List.length_replicate, List.map_cons, List.sum_cons]; exact Nat.add_comm _ _)
        simp only [goStg, hs, List.headD_cons, List.tail_cons] at h1
        split at h1
        · rename_i s3 c3 p3 h3
          have ec : c3 = D.c := by
            split at h1
            · cases h1
              exact c1 c3 (List.mem_cons_self ..)
            · cases h1
          subst ec
          refine ⟨s3, p3, h3, stg_ends un r s3 p3 (fun x hx => ok x (List.mem_cons_of_mem _ hx)) fun ps hp => ?_⟩
          obtain ⟨t, h, c, f, e⟩ := run (p' :: ps) (by rw [List.length_cons, hp, List.map_cons, List.sum_cons]; exact Nat.add_comm _ _)
          simp only [goStg, hs, List.headD_cons, List.tail_cons, h3] at h
          split at h
          · rename_i t' ht'
            cases h
            exact ⟨t', ht', fun x hx => c x (List.mem_cons_of_mem _ hx), fun x hx => f x (List.mem_cons_of_mem _ hx), e⟩
          · cases h
        · cases h1
  | .two x np keys values dpos apos L M k :: r, s, p, ok, run => by
    obtain ⟨sw, nd, a, cc, bb, al, hc0, hc, hsh, p1, p2⟩ := ok _ (List.mem_cons_self ..)
    show EndsAt D w n₀ ann G (.Assign [.Name x np] (.Dict keys values dpos) apos :: (r.flatMap Stg.ss ++ b)) s p
    obtain ⟨t0, h0, _, f0, _⟩ := run (List.replicate ((Stg.two x np keys values dpos apos L M k :: r).map Stg.disp).sum default) (List.length_replicate ..)
    cases hs : layU w D.p L M s with
    | none => simp [goStg, hs] at h0
    | some s2 =>
      have sz : s.abs.heap.objs.size = s.n := absHeap_size s.tree s.n s.life
      have blt : Nat.blt sysModules s.n = true := by
        simp only [goStg, hs] at h0
        split at h0
        · split at h0
          · cases h0
            exact f0 _ (List.mem_cons_self ..)
          · cases h0
        · cases h0
      refine ends_dict (k := k) sw ?_ (by rw [layU_ok hs]; exact keeps_finT _ _ _) fun p' => ?_
      · rw [arm_eval_Dict, hsh]
        refine wpAny_bind (wpAny_standAt (wp_displayT al hc0 hc p1 p2 nd (by rw [sz]; exact Nat.le_of_ble_eq_true blt) ?_))
        rw [sz, layU_ok hs]
        exact ⟨rfl, rfl⟩
      · obtain ⟨t1, h1, c1, _, _⟩ := run (p' :: List.replicate (r.map Stg.disp).sum default) (by rw [List.length_cons, List.length_replicate, List.map_cons, List.sum_cons]; exact Nat.add_comm _ _)
        simp only [goStg, hs, List.headD_cons, List.tail_cons] at h1
        split at h1
        · rename_i s3 c3 p3 h3
          have ec : c3 = D.c := by
            split at h1
            · cases h1
              exact c1 c3 (List.mem_cons_self ..)
            · cases h1
          subst ec
          refine ⟨s3, p3, h3, stg_ends un r s3 p3 (fun x hx => ok x (List.mem_cons_of_mem _ hx)) fun ps hp => ?_⟩
          obtain ⟨t, h, c, f, e⟩ := run (p' :: ps) (by rw [List.length_cons, hp, List.map_cons, List.sum_cons]; exact Nat.add_comm _ _)
          simp only [goStg, hs, List.headD_cons, List.tail_cons, h3] at h
          split at h
          · rename_i t' ht'
            cases h
            exact ⟨t', ht', fun x hx => c x (List.mem_cons_of_mem _ hx), fun x hx => f x (List.mem_cons_of_mem _ hx), e⟩
          · cases h
        · cases h1
end Fw

end
set_option Elab.async false
set_option linter.all false
set_option maxRecDepth 100000
set_option maxHeartbeats 2000000
/-! the head of a row whose top has displays: as HeadX, for the stages of TopMany -/
noncomputable section
namespace Fw
open PySem PySem.W PySem.Calls PyProof.Rows HandSHeadRun
structure Many extends Base where
  L : List Stg
  rest : List Stmt
  M : Nat
structure ManyR where
  tA : Thread
  cB : Code
  cs : List Code
  fl : List Bool
  s4 : SharedT
def manyF (st : SharedT → Thread → Option (SharedT × Thread)) (D : Many) (w : World) (os : OsState) (ps : List Pos) : Option ManyR := match putAll (boot_heap w.params).objs.toList .nil 0 with
  | none => none
  | some (t, n) => frNat n fun n0 => match goS st n0 (bootAnn w) D.k0 (bootT w os (t, n0)) (topStub D.p) with
    | none => none
    | some (sA, tA) => match segF st n0 (bootAnn w) D.kB sA (blockOf (behindTheImports D.p) D.env D.toBase.c D.pos0 D.toBase.B) with
      | some (.next, sB, cB, pB) => (match goStg st D.toBase w n0 (bootAnn w) D.L ps sB pB with
        | some t => (match goF st n0 (bootAnn w) D.M t.s (restOf D.rest D.env D.toBase.c t.p D.toBase.B) with
          | some s4 => some ⟨tA, cB, t.cs, t.fl, s4⟩
          | none => none)
        | none => none)
      | _ => none
def Many.d (D : Many) : Nat := (D.L.map Stg.disp).sum
structure Many.Ok (D : Many) : Prop where
  body : behindTheImports D.p = D.L.flatMap Stg.ss ++ D.rest
  st : ∀ w, ∀ x ∈ D.L, x.Ok D.toBase w
  un : D.toBase.A.units < cLine
theorem many_ends {D : Many} {w : World} {os : OsState} {G : SharedT → Prop} (O : D.Ok)
    (run : ∀ ps : List Pos, ps.length = D.d → ∃ r, manyF (stepT (denote table) D.p w) D w os ps = some r ∧ r.tA = ⟨denote table D.toBase.c, D.toBase.c, D.pos0, D.toBase.B⟩ ∧ r.cB = D.toBase.c ∧ (∀ c ∈ r.cs, c = D.toBase.c) ∧ (∀ f ∈ r.fl, f = true) ∧ r.s4.gens = #[] ∧ G r.s4)
    (hz : (⟨boot_heap w.params, #[], boot_drawn, boot_toks, os⟩ : Shared).asleep) :
    ∃ S : SharedT, Halts D.p w ⟨boot_heap w.params, #[], boot_drawn, boot_toks, os⟩ (topStub D.p) S.abs ∧ S.gens = #[] ∧ Keeps (boot_heap w.params).objs.size (bootAnn w) ⟨boot_heap w.params, #[], boot_drawn, boot_toks, os⟩ S.abs ∧ G S := by
  have parts : ∀ ps : List Pos, ps.length = D.d → ∃ (sA sB : SharedT) (pB : Pos) (t : PySem.W.BT) (n : Nat) (tr : Trail) (s4 : SharedT), putAll (boot_heap w.params).objs.toList .nil 0 = some (t, n) ∧ goS (stepT (denote table) D.p w) n (bootAnn w) D.k0 (bootT w os (t, n)) (topStub D.p) = some (sA, ⟨denote table D.toBase.c, D.toBase.c, D.pos0, D.toBase.B⟩) ∧
      segF (stepT (denote table) D.p w) n (bootAnn w) D.kB sA (blockOf (behindTheImports D.p) D.env D.toBase.c D.pos0 D.toBase.B) = some (.next, sB, D.toBase.c, pB) ∧ goStg (stepT (denote table) D.p w) D.toBase w n (bootAnn w) D.L ps sB pB = some tr ∧ (∀ c ∈ tr.cs, c = D.toBase.c) ∧ (∀ f ∈ tr.fl, f = true) ∧
      goF (stepT (denote table) D.p w) n (bootAnn w) D.M tr.s (restOf D.rest D.env D.toBase.c tr.p D.toBase.B) = some s4 ∧ s4.gens = #[] ∧ G s4 := by
    intro ps hp
    obtain ⟨r, hr, e1, e2, e3, e4, hg, hG⟩ := run ps hp
    unfold manyF at hr
    split at hr
    · exact nomatch hr
    rename_i t n ht
    rw [frNat_eq] at hr
    split at hr
    · exact nomatch hr
    rename_i sA tA hA
    split at hr
    · rename_i sB cB pB hB
      split at hr
      · rename_i tr h1
        split at hr
        · rename_i s4 h4
          cases hr
          dsimp only at e1 e2 e3 e4 hg hG
          subst e1 e2
          exact ⟨sA, sB, pB, t, n, tr, s4, ht, hA, hB, h1, e3, e4, h4, hg, hG⟩
        · exact nomatch hr
      · exact nomatch hr
    · exact nomatch hr
  obtain ⟨sA, sB, pB, t, n, _, _, ht, hA, hB, _⟩ := parts (List.replicate D.d default) (List.length_replicate ..)
  have eh := putAll_heap ht
  have en : (boot_heap w.params).objs.size = n := by
    rw [← eh]
    exact absHeap_size t n _
  have eb : (bootT w os (t, n)).abs = ⟨boot_heap w.params, #[], boot_drawn, boot_toks, os⟩ := by
    show (⟨absHeap t n (boot_heap w.params).life, #[], boot_drawn, boot_toks, os⟩ : Shared) = _
    rw [eh]
  have goA := goS_ok hA
  rw [eb] at goA
  have kA := keeps_go goA
  have sB0 : splitAtGen D.toBase.B = none := rfl
  obtain ⟨_, mB, _, goB⟩ := seg_goes (res := fun _ : Unit => Flow.next) (K' := fun _ => (execs (behindTheImports D.p) D.env).wrap doneF (leaveH D.env) id id) (H' := Sem.raise) (B := D.toBase.B) sB0 D.kB (t := blockOf (behindTheImports D.p) D.env D.toBase.c D.pos0 D.toBase.B)
    (t' := ⟨(blockStart (behindTheImports D.p) D.env).wrap (fun _ => (execs (behindTheImports D.p) D.env).wrap doneF (leaveH D.env) id id) .raise id id, D.toBase.c, D.pos0, D.toBase.B⟩) ⟨rfl, rfl, .inl ⟨rfl, rfl, _, rfl, rfl⟩⟩ (segF_ok hB)
  have kB := keeps_go goB
  have KB := kA.trans kB
  have E : EndsAt D.toBase w n (bootAnn w) G (D.L.flatMap Stg.ss ++ D.rest) sB pB := stg_ends O.un D.L sB pB (O.st w) fun ps hp => by
    obtain ⟨sA', sB', pB', t', n', tr, s4, ht', hA', hB', h1, c1, f1, h4, hg, hG⟩ := parts ps hp
    rw [ht] at ht'
    cases ht'
    rw [hA] at hA'
    cases hA'
    rw [hB] at hB'
    cases hB'
    exact ⟨tr, h1, c1, f1, ends_go h4 hg hG⟩
  obtain ⟨S, h1, h2, h3, h4⟩ := E (Shared.asleep_of_life KB.life hz)
  refine ⟨S, ?_, h2, by rw [en]; exact KB.trans h3, h4⟩
  refine halts_go goA ?_
  have eB : denote table D.toBase.c = (blockStart (behindTheImports D.p) D.env).wrap (fun _ => (execs (behindTheImports D.p) D.env).wrap doneF (leaveH D.env) id id) .raise id id := body_wrap _
  rw [eB]
  refine halts_go goB ?_
  rw [O.body]
  exact h1
/-- what is read off a run's end -/
def seeM (D : Many) (q : Program) (loose : List Str) (Xt : Shared → Bool) {α : Type} (ob : SharedT → α) (w : World) (r : ManyR) := (r.tA, r.cB, r.cs, r.fl, r.s4.gens.size, looksF D.p (boot_heap w.params) r.s4.abs, seenQ q loose (importedModules D.p.main.body) Xt r.s4.abs, ob r.s4)
def RunM (D : Many) (q : Program) (loose : List Str) (Xt : Shared → Bool) {α : Type} (ob : SharedT → α) (val : World → α) : Prop :=
  ∀ (w : World) (os : OsState) (ps : List Pos), ps.length = D.d → (manyF (stepQ (denQ tabQ) D.p w) D w os ps).map (seeM D q loose Xt ob w) = some (⟨denQ tabQ D.toBase.c, D.toBase.c, D.pos0, D.toBase.B⟩, D.toBase.c, List.replicate D.L.length D.toBase.c, List.replicate D.d true, 0, true, openGood q loose, val w)
theorem tops_many {D : Many} {q : Program} {loose : List Str} {Xt : Shared → Bool} {H : Hook} {ob : SharedT → H.α} (O : D.Ok) (ho : ∀ s : SharedT, ob s = H.obs s.abs) (e : opening D.p = plainProg D.p.main.scope.names) (f : ∀ s, fenceModules? D.p s = some s) (run : RunM D q loose Xt ob H.val) :
    TopsE D.p q loose Xt H.obs H.val := fun w => by
  obtain ⟨⟨hp, gs, dr, tk, os⟩, hf, e0⟩ := Option.map_eq_some_iff.mp (boot_open (N := 600) e rfl f w)
  obtain ⟨rfl, rfl, rfl, rfl⟩ : hp = boot_heap w.params ∧ gs = Array.mk [] ∧ dr = boot_drawn ∧ tk = boot_toks := by simpa using e0
  rw [← table_eq_tree] at hf
  obtain ⟨s, hi, hfe⟩ := Option.bind_eq_some_iff.mp hf
  have A := AfterImport.of_importEnds hi
  have hz := Shared.asleep_of_life (fence_lifeW hfe) A.life
  have eq : ∀ ps, manyF (stepQ (denQ tabQ) D.p w) D w os ps = manyF (stepT (denote table) D.p w) D w os ps := fun ps => by
    rw [← stepQ_eq, ← denQ_eq, ← tabQ_eq, table_eq_tree]
  obtain ⟨S, hS, hg, kS, g1, g2, g3⟩ := many_ends (w := w) (os := os) (G := fun S => looksF D.p (boot_heap w.params) S.abs = true ∧ openSeen q loose (importedModules D.p.main.body) Xt true S.abs = openGood q loose ∧ H.obs S.abs = H.val w) O (fun ps hps => by
    obtain ⟨r, hr, hv⟩ := Option.map_eq_some_iff.mp (run w os ps hps)
    rw [eq] at hr
    have hv : seeM D q loose Xt ob w r = _ := hv
    unfold seeM at hv
    simp only [Prod.mk.injEq] at hv
    obtain ⟨v1, v2, v3, v4, v5, v6, v7, v8⟩ := hv
    refine ⟨r, hr, ?_, v2, fun c hc => ?_, fun f hf => ?_, Array.eq_empty_of_size_eq_zero v5, v6, ?_, ?_⟩
    · rw [v1, ← denQ_eq, ← tabQ_eq, table_eq_tree]
    · rw [v3] at hc
      exact List.eq_of_mem_replicate hc
    · rw [v4] at hf
      exact List.eq_of_mem_replicate hf
    · rw [seenQ_eq]
      exact v7
    · rw [← ho]
      exact v8) hz
  exact ⟨600, _, S.abs, hf, ⟨hS, boot_ns _, rfl, hg, kS.life, kS.os, kS.fr, g1, g2, g3⟩⟩
theorem head_many {r : OpenRow} {D : Many} {q : Program} {loose : List Str} {H : Hook} {ob : SharedT → H.α} {d : DefRec} {kwd : List (Str × Expr)} (hD : D.p = r.prog) (O : D.Ok) (ho : ∀ s : SharedT, ob s = H.obs s.abs) (e : opening D.p = plainProg D.p.main.scope.names) (f : ∀ s, fenceModules? D.p s = some s)
    (run : RunM D q loose (fun s => xlAt q [] s && recOk r.toRowW.records s) ob H.val) (hdef : defOf q r.name = some (d, kwd)) (hp : r.prog.theDef r.name = some (d.params, d.body, d.scope)) (hk : kwWritten? d.params.kwonlyargs d.params.kw_defaults = some kwd)
    (hwr : (!r.writes || r.records.isEmpty) = true) (k1 : r.wellSaid = true) (ok : (chainsOk q && opensWell r.prog && (frees r.toRowW && r.within.isEmpty)) = true) (hb : r.prog.bare) (hw : r.toRowW.promised)
    (call : WalkO q loose (XL q []) H.says r.toRowW d kwd fun f vs => PySem.call f vs) : r.Holds := by
  have T := tops_many O ho e f run
  rw [hD] at T
  exact holdsE T (fun s z => xl_of s (Bool.and_eq_true_iff.mp z).1) XL.keeps hdef hp hk (fun s z => recFacts_of (Bool.and_eq_true_iff.mp z).2) hwr k1 ok hb hw call
end Fw

end
set_option Elab.async false
set_option linter.all false
set_option maxRecDepth 100000
set_option maxHeartbeats 2000000
/-! a display of texts whose values are names of the module: its stage is sound, by looks that the kernel takes -/
noncomputable section
namespace Fw
open PySem PySem.W PySem.Calls PyProof.Rows HandSHeadRun
abbrev TN : Type := Str × Str × Addr
def okN (T : List TN) (s : SharedT) : Bool :=
  let K := He.frG (getT s) (List.range s.n)
  nsOkIn K mainGlobals && T.all fun x => He.eqO (nsIn K mainGlobals x.2.1) (some (some (.ref x.2.2)))
def svT (T : List TN) : List SV := T.map fun x => (x.1, .ref x.2.2)
def txtB : List (Option Expr) → List Expr → List TN → Bool
  | [], [], [] => true
  | some (.Constant (.str x) _ _) :: ks, .Name y _ :: vs, t :: T => decide (x = t.1) && decide (y = t.2.1) && !(y == ("__debug__" : Str)) && txtB ks vs T
  | _, _, _ => false
theorem okN_ok {T : List TN} {s : SharedT} (h : okN T s = true) : ∃ mg, s.abs.heap.Ns mainGlobals mg ∧ ∀ x ∈ T, mg x.2.1 = some (.ref x.2.2) := by
  have eg : getT s = s.abs.heap.get? := funext (getT_eq s)
  unfold okN at h
  rw [eg] at h
  obtain ⟨h1, h2⟩ := Bool.and_eq_true_iff.mp h
  have X : (He.frG s.abs.heap.get? (List.range s.n)).In s.abs.heap := He.frG_in
  have N : s.abs.heap.Ns mainGlobals _ := .of_isNs (isNs_of_in X h1)
  exact ⟨_, N, fun x hx => mg_of X N (He.eqO_ok (List.all_eq_true.mp h2 x hx))⟩
theorem txt_pairs {prog : Program} {w : World} {A : Around} {E : Value → Shared → Prop} {env : Env} {pos : Pos} {s : Shared} {mg : Str → Option Value} (hk : env.scope.kind = .module) (hl : env.locals = env.globals) (hg : env.globals = mainGlobals) (N : s.heap.Ns mainGlobals mg) :
    ∀ {ks : List (Option Expr)} {vs : List Expr} {T : List TN}, txtB ks vs T = true → (∀ x ∈ T, mg x.2.1 = some (.ref x.2.2)) →
    ∃ ps : List PS, (evalEachOpt ks env).zip ((evalEach vs env).map fun v => do let x ← v; standAt pos; pure x) = ps.map (fun p => (some p.1, p.2)) ∧ PairsS prog w A E env s ps (svT T)
  | [], [], [], _, _ => ⟨[], rfl, .nil⟩
  | some (.Constant (.str x) k kp) :: ks, .Name y yp :: vs, t :: T, h, hm => by
    have h : (decide (x = t.1) && decide (y = t.2.1) && !(y == ("__debug__" : Str)) && txtB ks vs T) = true := h
    obtain ⟨h, h4⟩ := Bool.and_eq_true_iff.mp h
    obtain ⟨h, h3⟩ := Bool.and_eq_true_iff.mp h
    obtain ⟨h1, h2⟩ := Bool.and_eq_true_iff.mp h
    obtain ⟨tx, ty, ta⟩ := t
    obtain rfl : x = tx := of_decide_eq_true h1
    obtain rfl : y = ty := of_decide_eq_true h2
    have h3 : (y == ("__debug__" : Str)) = false := by simpa using h3
    obtain ⟨ps, e, P⟩ := txt_pairs hk hl hg N h4 fun z hz => hm z (List.mem_cons_of_mem _ hz)
    refine ⟨(eval (.Constant (.str x) k kp) env, do let x ← eval (.Name y yp) env; standAt pos; pure x) :: ps, ?_, .cons (fun s' Q kp' q => ?_) P⟩
    · show (some _, _) :: (evalEachOpt ks env).zip _ = _ :: ps.map _
      rw [e]
    · refine wpAny_bind (Name_module hk hl (loadGlobal_global (mg := mg) (by rw [hg]; exact N.keeps kp') (hm (x, y, ta) (List.mem_cons_self ..)) ?_) h3)
      exact wpAny_bind (wpAny_standAt (wpAny_pure q))
  | [], [], _ :: _, h, _ => by simp [txtB] at h
  | [], _ :: _, _, h, _ => by simp [txtB] at h
  | _ :: _, [], _, h, _ => by simp [txtB] at h
  | _ :: _, _ :: _, [], h, _ => by simp [txtB] at h
theorem txt_ok {D : Base} {w : World} {x : Str} {np dpos apos : Pos} {keys : List (Option Expr)} {values : List Expr} {T : List TN} {k : Nat} (hk : D.env.scope.kind = .module) (hl : D.env.locals = D.env.globals) (hg : D.env.globals = mainGlobals)
    (sw : swapsWith (.Dict keys values dpos) (some (.Name x np)) apos.line D.env = pure false) (nd : (T.map (·.1)).Nodup) (hB : txtB keys values T = true) (h0 : T ≠ []) (h15 : T.length ≤ 15) :
    Stg.Ok D w (.txt x np keys values dpos apos (svT T) (okN T) k) := by
  refine ⟨sw, ?_, fun s h => ?_⟩
  · show ((T.map _).map _).Nodup
    rw [List.map_map]
    exact nd
  · obtain ⟨mg, N, hm⟩ := okN_ok h
    obtain ⟨ps, e, P⟩ := txt_pairs (prog := D.p) (w := w) (A := D.A) (E := fun _ _ => False) (pos := dpos) hk hl hg N hB hm
    have ll := pairsS_len P
    have l2 : (svT T).length = T.length := List.length_map ..
    refine ⟨ps, e, P, fun z => ?_, by omega⟩
    subst z
    cases T with
    | nil => exact h0 rfl
    | cons a T => cases ll
theorem big_ok {D : Base} {w : World} {x : Str} {np dpos apos : Pos} {keys : List (Option Expr)} {values : List Expr} {L : List PK} {pk : PK} {k : Nat} (sw : swapsWith (.Dict keys values dpos) (some (.Name x np)) apos.line D.env = pure false)
    (hp : pairsB keys values (L ++ [pk]) = true) (hl : L.length = 17) (nd : ((L ++ [pk]).map key).Nodup) : Stg.Ok D w (.big x np keys values dpos apos L pk k) := by
  refine ⟨sw, nd, ?_⟩
  obtain ⟨ps, h1, h2⟩ := pairsB_ok (env := D.env) (pos := dpos) hp
  obtain ⟨a, c, rfl, al, ha, hc⟩ := pairs_split h1
  rw [hl] at al
  obtain ⟨a', b, rfl⟩ : ∃ a' b, a = a' ++ [b] := ⟨a.dropLast, a.getLast (fun z => by rw [z] at al; cases al), (List.dropLast_concat_getLast _).symm⟩
  rw [List.length_append] at al
  have al' : a'.length + 1 = 17 := al
  exact ⟨a', b, c, by omega, by rw [h2, List.append_assoc]; rfl, ha, hc⟩
end Fw

end
set_option Elab.async false
set_option linter.all false
set_option maxRecDepth 100000
set_option maxHeartbeats 2000000
/-! a display of texts whose values are written truths -/
noncomputable section
namespace Fw
open PySem PySem.W PySem.Calls PyProof.Rows HandSHeadRun
def svB (T : List (Str × Bool)) : List SV := T.map fun x => (x.1, .bool x.2)
def boolB : List (Option Expr) → List Expr → List (Str × Bool) → Bool
  | [], [], [] => true
  | some (.Constant (.str x) _ _) :: ks, .Constant (.bool b) _ _ :: vs, t :: T => decide (x = t.1) && decide (b = t.2) && boolB ks vs T
  | _, _, _ => false
theorem bool_pairs {prog : Program} {w : World} {A : Around} {E : Value → Shared → Prop} {env : Env} {pos : Pos} {s : Shared} : ∀ {ks : List (Option Expr)} {vs : List Expr} {T : List (Str × Bool)}, boolB ks vs T = true →
    ∃ ps : List PS, (evalEachOpt ks env).zip ((evalEach vs env).map fun v => do let x ← v; standAt pos; pure x) = ps.map (fun p => (some p.1, p.2)) ∧ PairsS prog w A E env s ps (svB T)
  | [], [], [], _ => ⟨[], rfl, .nil⟩
  | some (.Constant (.str x) k kp) :: ks, .Constant (.bool b) bk bp :: vs, t :: T, h => by
    have h : (decide (x = t.1) && decide (b = t.2) && boolB ks vs T) = true := h
    obtain ⟨h, h3⟩ := Bool.and_eq_true_iff.mp h
    obtain ⟨h1, h2⟩ := Bool.and_eq_true_iff.mp h
    obtain ⟨tx, tb⟩ := t
    obtain rfl : x = tx := of_decide_eq_true h1
    obtain rfl : b = tb := of_decide_eq_true h2
    obtain ⟨ps, e, P⟩ := bool_pairs (prog := prog) (w := w) (A := A) (E := E) (env := env) (pos := pos) (s := s) h3
    refine ⟨(eval (.Constant (.str x) k kp) env, do let x ← eval (.Constant (.bool b) bk bp) env; standAt pos; pure x) :: ps, ?_, .cons (fun s' Q kp' q => ?_) P⟩
    · show (some _, _) :: (evalEachOpt ks env).zip _ = _ :: ps.map _
      rw [e]
    · exact wpAny_bind (wpAny_Constant_bool (wpAny_bind (wpAny_standAt (wpAny_pure q))))
  | [], [], _ :: _, h => by simp [boolB] at h
  | [], _ :: _, _, h => by simp [boolB] at h
  | _ :: _, [], _, h => by simp [boolB] at h
  | _ :: _, _ :: _, [], h => by simp [boolB] at h
theorem bool_ok {D : Base} {w : World} {x : Str} {np dpos apos : Pos} {keys : List (Option Expr)} {values : List Expr} {T : List (Str × Bool)} {k : Nat}
    (sw : swapsWith (.Dict keys values dpos) (some (.Name x np)) apos.line D.env = pure false) (nd : (T.map (·.1)).Nodup) (hB : boolB keys values T = true) (h0 : T ≠ []) (h15 : T.length ≤ 15) :
    Stg.Ok D w (.txt x np keys values dpos apos (svB T) (fun _ => true) k) := by
  refine ⟨sw, ?_, fun s _ => ?_⟩
  · show ((T.map _).map _).Nodup
    rw [List.map_map]
    exact nd
  · obtain ⟨ps, e, P⟩ := bool_pairs (prog := D.p) (w := w) (A := D.A) (E := fun _ _ => False) (pos := dpos) (env := D.env) (s := s.abs) hB
    have ll := pairsS_len P
    have l2 : (svB T).length = T.length := List.length_map ..
    refine ⟨ps, e, P, fun z => ?_, by omega⟩
    subst z
    cases T with
    | nil => exact h0 rfl
    | cons a T => cases ll
end Fw

end
set_option Elab.async false
set_option linter.all false
set_option maxRecDepth 100000
set_option maxHeartbeats 2000000
/-! a display of 18 to 32 pairs, keys texts, values tuples of texts: its stage is sound, by looks that the kernel takes -/
noncomputable section
namespace Fw
open PySem PySem.W PySem.Calls PyProof.Rows HandSHeadRun
def twoB : List (Option Expr) → List Expr → List SP → Bool
  | [], [], [] => true
  | some (.Constant (.str x) _ _) :: ks, .Tuple es _ _ :: vs, p :: r => decide (x = p.1) && csB es p.2 && decide (p.2.length ≤ 100) && twoB ks vs r
  | _, _, _ => false
theorem twoB_ok {env : Env} {pos : Pos} : ∀ {ks : List (Option Expr)} {vs : List Expr} {L : List SP}, twoB ks vs L = true →
    ∃ ps : List PS, PairsT env pos ps L ∧ (evalEachOpt ks env).zip ((evalEach vs env).map fun v => do let x ← v; standAt pos; pure x) = ps.map (fun p => (some p.1, p.2))
  | [], [], [], _ => ⟨[], .nil, rfl⟩
  | some (.Constant (.str x) kk kp) :: ks, .Tuple es vk vp :: vs, p :: r, h => by
    have h : (decide (x = p.1) && csB es p.2 && decide (p.2.length ≤ 100) && twoB ks vs r) = true := h
    obtain ⟨h, h4⟩ := Bool.and_eq_true_iff.mp h
    obtain ⟨h, h3⟩ := Bool.and_eq_true_iff.mp h
    obtain ⟨h1, h2⟩ := Bool.and_eq_true_iff.mp h
    obtain ⟨px, pz⟩ := p
    obtain rfl : x = px := of_decide_eq_true h1
    obtain ⟨ps, hr, e⟩ := twoB_ok (env := env) (pos := pos) h4
    refine ⟨_ :: ps, .cons (kk := kk) (vk := vk) (kp := kp) (vp := vp) (csB_ok h2) (of_decide_eq_true h3) hr, ?_⟩
    show (some (eval (.Constant (.str x) kk kp) env), _) :: (evalEachOpt ks env).zip _ = (some _, _) :: ps.map _
    rw [e]
  | [], [], _ :: _, h => by simp [twoB] at h
  | [], _ :: _, _, h => by simp [twoB] at h
  | _ :: _, [], _, h => by simp [twoB] at h
  | _ :: _, _ :: _, [], h => by simp [twoB] at h
theorem pairsT_split {env : Env} {pos : Pos} : ∀ {L : List SP} {ps : List PS} {M : List SP}, PairsT env pos ps (L ++ M) → ∃ a c, ps = a ++ c ∧ a.length = L.length ∧ PairsT env pos a L ∧ PairsT env pos c M
  | [], ps, M, h => ⟨[], ps, rfl, rfl, .nil, h⟩
  | p :: L, _, M, h => by
    cases h with
    | cons c1 c2 c3 =>
      obtain ⟨a, c, rfl, al, h1, h2⟩ := pairsT_split (L := L) c3
      exact ⟨_ :: a, c, rfl, congrArg (· + 1) al, .cons c1 c2 h1, h2⟩
theorem two_ok {D : Base} {w : World} {x : Str} {np dpos apos : Pos} {keys : List (Option Expr)} {values : List Expr} {L M : List SP} {k : Nat} (sw : swapsWith (.Dict keys values dpos) (some (.Name x np)) apos.line D.env = pure false)
    (hp : twoB keys values (L ++ M) = true) (hl : L.length = 17) (h0 : M ≠ []) (hM : M.length ≤ 15) (nd : ((L ++ M).map (·.1)).Nodup) : Stg.Ok D w (.two x np keys values dpos apos L M k) := by
  refine ⟨sw, nd, ?_⟩
  obtain ⟨ps, h1, h2⟩ := twoB_ok (env := D.env) (pos := dpos) hp
  obtain ⟨a, c, rfl, al, ha, hc⟩ := pairsT_split h1
  rw [hl] at al
  obtain ⟨a', b, rfl⟩ : ∃ a' b, a = a' ++ [b] := ⟨a.dropLast, a.getLast (fun z => by rw [z] at al; cases al), (List.dropLast_concat_getLast _).symm⟩
  rw [List.length_append] at al
  have al' : a'.length + 1 = 17 := al
  have lc := pairsT_len hc
  exact ⟨a', c, b, by omega, fun z => by rw [z] at lc; exact h0 (List.eq_nil_of_length_eq_zero lc.symm), by omega, by rw [h2, List.append_assoc]; rfl, ha, hc⟩
end Fw

end
set_option Elab.async false
set_option linter.all false
set_option maxRecDepth 100000
set_option maxHeartbeats 2000000
/-! the hook with any looks at the fragment (ck), and some objects outright by their addresses; the class Fell by such looks -/
noncomputable section
namespace Fw
open PySem PySem.W PySem.Calls PyProof.Rows HandSHeadRun
def obsY (fa : List He.Fa) (fn : List He.FnD) (ck : Frag → Bool) (as : List Addr) (n : Nat) (g : Addr → Option Obj) : He.Al × Bool × List (Option Obj) :=
  let K := He.frG g (List.range n)
  (He.obsE fa fn K, ck K, as.map fun a => K.lookup a)
def hookY (fa : List He.Fa) (fn : List He.FnD) (ck : Frag → Bool) (as : List Addr) (n : Nat) (os : World → List Obj) : Hook where
  α := He.Al × Bool × List (Option Obj)
  obs := fun s => obsY fa fn ck as n s.heap.get?
  val := fun w => (He.valE fn, true, (os w).map some)
  says := fun w h => ∃ K : Frag, K.In h ∧ He.SaysE fa fn K ∧ ck K = true ∧ ∀ (i : Nat) (a : Addr) (o : Obj), as[i]? = some a → (os w)[i]? = some o → K.lookup a = some o
  of := fun w s e => by
    have e1 := congrArg (fun z : He.Al × Bool × List (Option Obj) => z.1) e
    have e2 := congrArg (fun z : He.Al × Bool × List (Option Obj) => z.2.1) e
    have e3 : as.map (fun a => (He.frG s.heap.get? (List.range n)).lookup a) = (os w).map some := congrArg (fun z : He.Al × Bool × List (Option Obj) => z.2.2) e
    refine ⟨_, He.frG_in, e1, e2, fun i a o ha ho => ?_⟩
    have z : (as.map (fun a => (He.frG s.heap.get? (List.range n)).lookup a))[i]? = ((os w).map some)[i]? := by rw [e3]
    rw [List.getElem?_map, List.getElem?_map, ha, ho] at z
    exact Option.some.inj z
  keeps := fun _ _ _ ⟨K, hK, c⟩ k => ⟨K, Frag.In.keeps hK k, c⟩
def obY (fa : List He.Fa) (fn : List He.FnD) (ck : Frag → Bool) (as : List Addr) (n : Nat) (s : SharedT) : He.Al × Bool × List (Option Obj) := obsY fa fn ck as n (getT s)
theorem obY_eq (fa : List He.Fa) (fn : List He.FnD) (ck : Frag → Bool) (as : List Addr) (n : Nat) (os : World → List Obj) (s : SharedT) : obY fa fn ck as n s = (hookY fa fn ck as n os).obs s.abs := by
  have e : getT s = s.abs.heap.get? := funext (getT_eq s)
  show obsY fa fn ck as n (getT s) = obsY fa fn ck as n s.abs.heap.get?
  rw [e]
/-! ### the class Fell -/
def clsB (K : Frag) (C : Addr) : Bool := match K.lookup C with
  | some ⟨.type "type", _, .cls cd, sl⟩ => (match cd.mro, sl.toList with
    | .ref C' :: bm, [_, _, _, _, some (.builtin n), _] => decide (C' = C) && decide (n = "RuntimeError.__new__") && !cd.hasDel && cd.hasDict && decide (bm = PySem.FellX.rtTail)
    | _, _ => false)
  | _ => false
theorem clsB_ok {K : Frag} {C : Addr} (q : clsB K C = true) : ∃ nm qn N bs bm sn sub ab col dd k0 k1 k2 k3 k5, K.lookup C = some (excClassObj nm qn C N bs bm true sn sub ab col dd k0 k1 k2 k3 k5 "RuntimeError.__new__") ∧ bm = PySem.FellX.rtTail := by
  unfold clsB at q
  split at q
  · rename_i dd cd sl ho
    split at q
    · rename_i C' bm k0 k1 k2 k3 n k5 hm hs
      simp only [Bool.and_eq_true, decide_eq_true_eq, Bool.not_eq_true'] at q
      obtain ⟨⟨⟨⟨rfl, rfl⟩, hdel⟩, hdct⟩, ht⟩ := q
      obtain ⟨nm, bs, mro, ns, qn, hd, sn, sub, ab, col, del⟩ := cd
      dsimp only at hm hdel hdct
      subst hm hdel hdct
      have hsl : sl = #[k0, k1, k2, k3, some (.builtin "RuntimeError.__new__"), k5] := by
        obtain ⟨l⟩ := sl
        simp only at hs
        rw [hs]
      subst hsl
      exact ⟨nm, qn, ns, bs, bm, sn, sub, ab, col, dd, k0, k1, k2, k3, k5, ho, ht⟩
    · cases q
  · cases q
def kwB (K : Frag) (a : Addr) : Bool := match K.lookup a with
  | some ⟨_, _, .func fd, _⟩ => decide (fd.kwdefaults = .none)
  | _ => false
def fellB (K : Frag) : Bool :=
  let C := He.ga K "Fell"
  let I := He.ma K C "__init__"
  clsB K C && He.eqO (findIn K (.ref C) "__setattr__") (some (some (.builtin "object.__setattr__"))) && He.eqO (findIn K (.ref C) "__getattribute__") (some (some (.builtin "BaseException.__getattribute__"))) && He.eqO (findIn K (.ref C) "__getattr__") (some none) &&
  He.eqO (findIn K (.ref C) "word") (some none) && He.eqO (findIn K (.ref C) "__init__") (some (some (.ref I))) && decide (typeIn K (.ref I) = some (.type "function")) && keepIn K (.ref C) && decide (subIn K (.ref C) (.type "BaseException") = some true) && decide (typeIn K (.ref C) = some (.type "type")) &&
  hasDictIn K C && decide (subIn K (.ref C) (.ref C) = some true) && kwB K I && He.eqO (findIn K (.ref C) "__class__") (some (some (.builtin "object.__class__"))) && He.eqO (specialIn K (.builtin "object.__class__") "__get__") (some (some (.builtin "getset_descriptor.__get__"))) &&
  decide (takesIn K (.builtin "object.__class__") = some true) && decide (mroIn K C (.type "object") = some true) && decide (subIn K (.ref C) (.type "RuntimeError") = some true)
theorem fell_of {K : Frag} {h : Heap} {mg : Str → Option Value} (X : K.In h) (G : h.Ns mainGlobals mg) (g : (He.Fa.glo "Fell").ok K = true) (q : fellB K = true) {p1 p2 q1 q2 q3 q4 : Pos}
    (fn : ∃ oc od osl kV doc pm an cdv ct, K.lookup (He.ma K (He.ga K "Fell") "__init__") = some ⟨oc, od, .func (fnOf "__init__" "Fell.__init__" (PySem.FellX.iA p1 p2) (PySem.FellX.iB q1 q2 q3 q4) PySem.FellX.iS .none kV doc pm an cdv ct), osl⟩ ∧ codeIn K cdv "Fell.__init__" = true) :
    PySem.FellX.FellTxt K mg (He.ga K "Fell") (He.ma K (He.ga K "Fell") "__init__") ∧ L2.ErrC K (He.ga K "Fell") ∧ subIn K (.ref (He.ga K "Fell")) (.type "RuntimeError") = some true := by
  unfold fellB at q
  dsimp only at q
  simp only [Bool.and_eq_true, decide_eq_true_eq] at q
  obtain ⟨⟨⟨⟨⟨⟨⟨⟨⟨⟨⟨⟨⟨⟨⟨⟨⟨c1, c2⟩, c3⟩, c4⟩, c5⟩, c6⟩, c7⟩, c8⟩, c9⟩, c10⟩, c11⟩, c12⟩, c13⟩, c14⟩, c15⟩, c16⟩, c17⟩, c18⟩ := q
  obtain ⟨oc, od, osl, kV, doc, pm, an, cdv, ct, l, e⟩ := fn
  have ek : kV = .none := by
    unfold kwB at c13
    rw [l] at c13
    exact of_decide_eq_true c13
  subst ek
  refine ⟨⟨He.glo_ok X G g, clsB_ok c1, He.eqO_ok c2, He.eqO_ok c3, He.eqO_ok c4, He.eqO_ok c5, He.eqO_ok c6, c7, c8, c9, c10, c11, exm_ref c9 c11 c10 c12, ⟨oc, od, doc, pm, an, cdv, ct, osl, p1, p2, q1, q2, q3, q4, l, e⟩⟩,
    { ga := He.eqO_ok c3, gg := He.eqO_ok c4, exC := c9, hdC := c11, ac := He.eqO_ok c14, sg := He.eqO_ok c15, tk := c16, mo := c17 }, c18⟩
end Fw

end
set_option Elab.async false
set_option linter.all false
/-! a run of objects that a hook gives outright -/
namespace Fw
open PySem PySem.W
theorem seg_of {K : Frag} {as : List Addr} {l pre seg post : List Obj} {m k n : Nat} (hob : ∀ (i : Nat) (a : Addr) (o : Obj), as[i]? = some a → l[i]? = some o → K.lookup a = some o) (hl : l = pre ++ (seg ++ post)) (hk : pre.length = k) (hn : seg.length = n)
    (ha : ∀ i, i < n → as[k + i]? = some (m + i)) : ∀ (i : Nat) (o : Obj), seg[i]? = some o → K.lookup (m + i) = some o := fun i o ho => by
  have hi : i < seg.length := (List.getElem?_eq_some_iff.mp ho).1
  refine hob (k + i) (m + i) o (ha i (by omega)) ?_
  rw [hl, List.getElem?_append_right (by omega), hk, show k + i - k = i by omega, List.getElem?_append_left hi]
  exact ho
end Fw

set_option Elab.async false
set_option linter.all false
set_option maxRecDepth 100000
set_option maxHeartbeats 4000000
/-! len(set(t)) of a list or tuple of texts, any number of them -/
namespace Fw
open PySem PySem.Spec PyProof.Rows L2
abbrev emp (led : Bool) : Obj := { cls := .type "set", dict := none, data := .set #[] 0 (.fresh 0 0 led) }
/-- how many unlike ones stand among the first i -/
def unl (xs : List Str) : Nat → Nat
  | 0 => 0
  | i + 1 => if (xs.take i).any (· == xs.getD i Str.empty) = true then unl xs i else unl xs i + 1
theorem unl_le (xs : List Str) : ∀ i, unl xs i ≤ i
  | 0 => Nat.le_refl _
  | i + 1 => by
    have := unl_le xs i
    unfold unl
    split <;> omega
theorem any_next {xs : List Str} {i : Nat} (h : i < xs.length) (y : Str) : ((xs.take i).any (· == y) || decide (y = xs.getD i Str.empty)) = (xs.take (i + 1)).any (· == y) := by
  rw [List.take_succ, List.getElem?_eq_getElem h, List.any_append, List.getD_eq_getElem?_getD, List.getElem?_eq_getElem h]
  congr 1
  show decide (y = xs[i]) = ((xs[i] == y) || false)
  rw [Bool.or_false]
  by_cases e : y = xs[i]
  · rw [← e, decide_eq_true rfl, beq_self_eq_true]
  · rw [decide_eq_false e, beq_eq_false_iff_ne.mpr (fun z => e z.symm)]
theorem unl_full (xs : List Str) : ∀ i, i ≤ xs.length → (unl xs i = i ↔ (xs.take i).Nodup)
  | 0, _ => ⟨fun _ => by simp, fun _ => rfl⟩
  | i + 1, h => by
    have ih := unl_full xs i (by omega)
    have le := unl_le xs i
    have hi : i < xs.length := h
    have eg : xs.getD i Str.empty = xs[i] := by rw [List.getD_eq_getElem?_getD, List.getElem?_eq_getElem hi]; rfl
    rw [List.take_succ, List.getElem?_eq_getElem hi, List.nodup_append]
    unfold unl
    rw [eg]
    by_cases c : (xs.take i).any (· == xs[i]) = true
    · rw [if_pos c]
      constructor
      · intro z; omega
      · rintro ⟨_, _, z⟩
        obtain ⟨y, hy, e⟩ := List.any_eq_true.mp c
        exact absurd (beq_iff_eq.mp e) (z y hy _ (by simp))
    · rw [if_neg c]
      constructor
      · intro z
        refine ⟨ih.mp (by omega), by simp, fun a ha b hb e => c (List.any_eq_true.mpr ⟨a, ha, ?_⟩)⟩
        have hb : b = xs[i] := by simpa using hb
        rw [e, hb]
        exact beq_self_eq_true _
      · rintro ⟨z, _, _⟩
        rw [ih.mpr z]
section
variable {prog : Program} {w : World} {A : Around} {R : Result → Shared → Prop} {I S : Addr} {fp wr : List Addr} {G : Array GenState → Array GenState → Prop} {n : Nat} {P : Nat → Value → Prop} {St : Nat → Shared → Prop} {xs : List Str}
def Grown (prog : Program) (w : World) (S : Addr) (xs : List Str) (i : Nat) (h : Heap) : Prop := h.SetOf (PySem.strKind prog w) S (fun y => (xs.take i).any (· == y)) (unl xs i)
theorem Grown.at {h h' : Heap} {i : Nat} (g : Grown prog w S xs i h) (k : ∀ o, h.get? S = some o → h'.get? S = some o) : Grown prog w S xs i h' := by
  obtain ⟨o, es, ep, t, e, r⟩ := g
  exact ⟨o, es, ep, t, k o e, r⟩
theorem grow (W : WalksS prog w A.in1 I fp wr G n P St) (nf : S ∉ fp) (few : n + 1 < scanBound) (all : n ≤ xs.length) (txt : ∀ i v, P i v → ∃ t, v = .str (xs.getD i Str.empty) t) :
    ∀ (k i : Nat) (s : Shared), i + k = n → St i s → Grown prog w S xs i s.heap → (∀ s', Moved (S :: wr) G s s' → Grown prog w S xs n s'.heap → R (.ok (.ret .none)) s') → codeAny (model prog w) A (.builtin "set.update.loop" ⟨[.ref S, .ref I], []⟩) R s
  | 0, i, s, e, st, g, r => by
    cases (show i = n from e)
    refine codeAny_builtin PyProof.Rows.F.entry_set_update_loop (Around.under_plainId PyProof.Rows.F.plain_set_update_loop _ ▸ ?_)
    refine wpAny_bind (m := pyNext (.ref I)) (W.done s _ _ st fun s' mv => ?_)
    exact wpAny_pure (r s' (mv.mono fun b hb => List.mem_cons_of_mem _ hb) (g.at fun o => mv.heap S o fun z => nf (W.sub _ z)))
  | k + 1, i, s, e, st, g, r => by
    have lt : i < n := by omega
    refine codeAny_builtin PyProof.Rows.F.entry_set_update_loop (Around.under_plainId PyProof.Rows.F.plain_set_update_loop _ ▸ ?_)
    refine wpAny_bind (m := pyNext (.ref I)) (W.item i s _ _ lt st fun v s1 pv st1 mv => ?_)
    obtain ⟨t, rfl⟩ := txt i v pv
    have g1 := g.at (h' := s1.heap) fun o => mv.heap S o fun z => nf (W.sub _ z)
    refine wpAny_bind (m := holding [_] (setAdd S (.str (xs.getD i Str.empty) t))) (wpAny_holding ?_)
    unfold setAdd
    refine wpAny_holding (wpAny_bind ((PySem.strKind prog w).pyHash (k := xs.getD i Str.empty) (strKind_is ..) ?_))
    have ul := unl_le xs i
    refine wpAny_setAddHashed_of (s := ⟨s1.heap, s1.gens, s1.drawn, s1.toks + 1, s1.os⟩) (strKind_is ..) rfl g1 (by omega) fun h2 same g2 => ?_
    have g3 : Grown prog w S xs (i + 1) h2 := SetOf_congr g2 (any_next (by omega)) rfl
    have mv2 : Moved (S :: wr) G s ⟨h2, s1.gens, s1.drawn, s1.toks + 1, s1.os⟩ := (mv.mono fun b hb => List.mem_cons_of_mem _ hb).then_heap (Nat.le_succ _) fun b o nb z => (same.2 b fun y => nb (y ▸ List.mem_cons_self ..)).trans z
    refine wpAny_pure ⟨plainId_quiet PyProof.Rows.F.plain_set_update_loop _, grow W nf few all txt k (i + 1) _ (by omega) (W.frame _ s1 _ _ st1 (Nat.le_succ _) fun b hb o z => (same.2 b fun y => nf (y ▸ hb)).trans z) g3 fun s' m g' => r s' (mv2.trans W.gtrans m) g'⟩
end
section
variable {prog : Program} {w : World} {A : Around} {E : Value → Shared → Prop} {s : Shared} {l : Addr} {items : Array Value} {xs : List Str} {Q : Value → Shared → Prop}
/-- what is left behind set(l): the set, all else as it was -/
def Left (prog : Program) (w : World) (s : Shared) (xs : List Str) (n : Nat) (h : Heap) : Prop := Grown prog w s.heap.objs.size xs n h ∧ ∀ b o, b < s.heap.objs.size → s.heap.get? b = some o → h.get? b = some o
theorem set_open (go : ∀ led : Bool, codeAny (model prog w) A.in1 (.call (.builtin "set.__init__") ⟨[.ref s.heap.objs.size, .ref l], []⟩) (wants (fun v s2 => v = .none ∧ ∃ h tk, s2 = { s with heap := h, toks := tk } ∧ Left prog w s xs items.size h) E) { s with heap := s.heap.push (emp led) })
    (q : ∀ (h : Heap) (tk : Nat), Left prog w s xs items.size h → Q (.ref s.heap.objs.size) { s with heap := h, toks := tk }) : wpAny (model prog w) A (call (.type "set") [.ref l]) Q E s := by
  obtain ⟨_, _, mro⟩ := PySem.F.called_set.mro
  have f1 := PySem.F.called_set.made
  have f2 := PySem.F.called_set.sub
  have f3 := PySem.F.called_set.notType
  have f4 := PySem.F.called_set.canCreate
  have f5 := PySem.F.typeCall_set_1 (.ref l)
  refine wpAny_call (codeAny_of_tree (wpAny_pure ⟨Code.quiet_builtin _ (by decide +kernel), codeAny_builtin PySem.F.entry_type_call (Around.under_plain (weight_type_call_type "set" [.ref l] []) rfl ▸ ?_)⟩))
  all_goals (repeat first | wp_step | assumption)
  refine codeAny_mono (code_set_new_1 (.ref l) (E := E) (Q₁ := fun v z => ∃ led, v = .ref s.heap.objs.size ∧ z = { s with heap := s.heap.push (emp led) }) fun led => ⟨led, rfl, rfl⟩) fun fl z got => ?_
  cases fl with
  | error e => exact got
  | ok fl => cases fl with
    | ret v =>
      obtain ⟨led, rfl, rfl⟩ := got
      have g1 : (s.heap.push (emp led)).get? s.heap.objs.size = some (emp led) := Heap.get?_push_size _ rfl
      have g2 : Shared.TypeIs { s with heap := s.heap.push (emp led) } (.ref s.heap.objs.size) "set" := ⟨_, g1, rfl⟩
      have f6 := PySem.F.called_set.init.lookup
      have f7 := PySem.F.called_set.init.bind (.ref s.heap.objs.size)
      all_goals (repeat first | wp_step | assumption)
      refine codeAny_mono (go led) fun fl z got => ?_
      cases fl with
      | error e => exact got
      | ok fl => cases fl with
        | ret v =>
          obtain ⟨rfl, h, tk, rfl, hL⟩ := got
          all_goals (repeat first | wp_step | assumption)
          exact q _ _ hL
        | _ => exact got.elim
    | _ => exact got.elim
theorem init_list (hh : A.handled = none) (hl : s.heap.IsList l items) (hi : StrsAre items.toList xs) (few : items.size + 1 < scanBound) (led : Bool) :
    codeAny (model prog w) A.in1 (.call (.builtin "set.__init__") ⟨[.ref s.heap.objs.size, .ref l], []⟩) (wants (fun v s2 => v = .none ∧ ∃ h tk, s2 = { s with heap := h, toks := tk } ∧ Left prog w s xs items.size h) E) { s with heap := s.heap.push (emp led) } := by
  have g1 : (s.heap.push (emp led)).get? s.heap.objs.size = some (emp led) := Heap.get?_push_size _ rfl
  have g2 : Shared.TypeIs { s with heap := s.heap.push (emp led) } (.ref s.heap.objs.size) "set" := ⟨_, g1, rfl⟩
  refine codeAny_call_builtin PySem.F.called_set.init.plain PySem.F.entry_set_init (check_set_init_1 g2 ?_)
  have lt : l < s.heap.objs.size := let ⟨_, z, _⟩ := hl; Heap.lt_size z
  have hl1 : (s.heap.push (emp led)).IsList l items := hl.push _
  obtain ⟨⟨c0, d0, t0, sl0⟩, a1, a2, a3, a4⟩ := hl1
  cases (show c0 = _ from a2)
  cases (show t0 = _ from a4)
  have f1 := PySem.F.sub_list_set
  have f2 := PySem.F.sub_list_frozenset
  have f3 : (Value.type "list" == Value.type "dict") = false := by decide
  unfold Builtin.«set.__init__» noKeywords Builtin.Frozenset.updateFrom
  generalize hp : pyIter = pI
  wp_walk
  subst hp
  refine wpAny_pyIter_list ⟨_, a1, rfl, _, rfl⟩ (wpAny_bind (wpAny_runValue ?_))
  have ne : l ≠ (s.heap.push (emp led)).objs.size := by rw [Heap.size_push]; exact Nat.ne_of_lt (Nat.lt_succ_of_lt lt)
  have nf : s.heap.objs.size ∉ [(s.heap.push (emp led)).objs.size, l] := fun z => by
    rw [Heap.size_push] at z
    rcases List.mem_cons.mp z with z | z
    · exact absurd z (Nat.ne_of_lt (Nat.lt_succ_self _))
    · exact absurd (List.mem_singleton.mp z) (Nat.ne_of_gt lt)
  have sz : xs.length = items.size := by rw [← StrsAre.len_eq hi, Array.length_toList]
  refine grow (xs := xs) ((Walks.list (by simp [hh]) _ l ne items).toS) nf few (by omega) (fun i v hv => SS.strs_at hi i v (by rw [Array.getElem?_toList]; exact hv)) items.size 0 _ (Nat.zero_add _) ⟨⟨_, Heap.get?_push_size _ rfl, rfl, rfl⟩, ⟨_, Heap.get?_push_of_some _ a1, rfl, _, rfl⟩⟩ ?_ fun z mv g => ?_
  · exact SetOf_congr ((setObjOf_fresh (knd := PySem.strKind prog w) led).setOf (Heap.get?_push_of_some _ g1) (by unfold scanBound; omega)) (fun _ => rfl) rfl
  · obtain ⟨h, g', d', tk, os'⟩ := z
    cases (show g' = _ from mv.gens)
    cases (show d' = _ from mv.drawn)
    cases (show os' = _ from mv.os)
    refine wpAny_pure (wpAny_pure ⟨rfl, h, tk, rfl, g, fun b o hb e => mv.heap b o (fun z => ?_) (Heap.get?_push_of_some _ (Heap.get?_push_of_some _ e))⟩)
    rcases List.mem_cons.mp z with z | z
    · exact absurd z (Nat.ne_of_lt hb)
    · have y := List.mem_singleton.mp z
      rw [Heap.size_push] at y
      exact absurd y (Nat.ne_of_lt (Nat.lt_succ_of_lt hb))
theorem init_tuple (hh : A.handled = none) (hl : s.heap.IsTuple l items) (hi : StrsAre items.toList xs) (few : items.size + 1 < scanBound) (led : Bool) :
    codeAny (model prog w) A.in1 (.call (.builtin "set.__init__") ⟨[.ref s.heap.objs.size, .ref l], []⟩) (wants (fun v s2 => v = .none ∧ ∃ h tk, s2 = { s with heap := h, toks := tk } ∧ Left prog w s xs items.size h) E) { s with heap := s.heap.push (emp led) } := by
  have g1 : (s.heap.push (emp led)).get? s.heap.objs.size = some (emp led) := Heap.get?_push_size _ rfl
  have g2 : Shared.TypeIs { s with heap := s.heap.push (emp led) } (.ref s.heap.objs.size) "set" := ⟨_, g1, rfl⟩
  refine codeAny_call_builtin PySem.F.called_set.init.plain PySem.F.entry_set_init (check_set_init_1 g2 ?_)
  have lt : l < s.heap.objs.size := let ⟨_, z, _⟩ := hl; Heap.lt_size z
  have hl1 : (s.heap.push (emp led)).IsTuple l items := hl.push _
  obtain ⟨⟨c0, d0, t0, sl0⟩, a1, a2, a3, a4⟩ := hl1
  cases (show c0 = _ from a2)
  cases (show t0 = _ from a4)
  have f1 := PySem.F.sub_tuple_set
  have f2 := PySem.F.sub_tuple_frozenset
  have f3 : (Value.type "tuple" == Value.type "dict") = false := by decide
  unfold Builtin.«set.__init__» noKeywords Builtin.Frozenset.updateFrom
  generalize hp : pyIter = pI
  wp_walk
  subst hp
  refine wpAny_pyIter_tuple ⟨_, a1, rfl, _, rfl⟩ (wpAny_bind (wpAny_runValue ?_))
  have ne : l ≠ (s.heap.push (emp led)).objs.size := by rw [Heap.size_push]; exact Nat.ne_of_lt (Nat.lt_succ_of_lt lt)
  have nf : s.heap.objs.size ∉ [(s.heap.push (emp led)).objs.size, l] := fun z => by
    rw [Heap.size_push] at z
    rcases List.mem_cons.mp z with z | z
    · exact absurd z (Nat.ne_of_lt (Nat.lt_succ_self _))
    · exact absurd (List.mem_singleton.mp z) (Nat.ne_of_gt lt)
  have sz : xs.length = items.size := by rw [← StrsAre.len_eq hi, Array.length_toList]
  refine grow (xs := xs) ((Walks.tuple (by simp [hh]) _ l ne items).toS) nf few (by omega) (fun i v hv => SS.strs_at hi i v (by rw [Array.getElem?_toList]; exact hv)) items.size 0 _ (Nat.zero_add _) ⟨⟨_, Heap.get?_push_size _ rfl, rfl, rfl⟩, ⟨_, Heap.get?_push_of_some _ a1, rfl, _, rfl⟩⟩ ?_ fun z mv g => ?_
  · exact SetOf_congr ((setObjOf_fresh (knd := PySem.strKind prog w) led).setOf (Heap.get?_push_of_some _ g1) (by unfold scanBound; omega)) (fun _ => rfl) rfl
  · obtain ⟨h, g', d', tk, os'⟩ := z
    cases (show g' = _ from mv.gens)
    cases (show d' = _ from mv.drawn)
    cases (show os' = _ from mv.os)
    refine wpAny_pure (wpAny_pure ⟨rfl, h, tk, rfl, g, fun b o hb e => mv.heap b o (fun z => ?_) (Heap.get?_push_of_some _ (Heap.get?_push_of_some _ e))⟩)
    rcases List.mem_cons.mp z with z | z
    · exact absurd z (Nat.ne_of_lt hb)
    · have y := List.mem_singleton.mp z
      rw [Heap.size_push] at y
      exact absurd y (Nat.ne_of_lt (Nat.lt_succ_of_lt hb))
end
variable {X : Cx}
def tLenU (K : PySem.W.Frag) (ta : TE) : TE := fun σ H Q => ta σ H fun x H1 => ∃ (l : Addr) (xs : List Str), x = .ref l ∧ (SqL K H1 l (xs.map V.str) ∨ SqT K H1 l (xs.map V.str)) ∧ xs.length ≤ 1000 ∧ Q (.int (unl xs xs.length)) H1
theorem pe_lenU {a : Expr} {ta : TE} {p p2 q pos : Pos} (calm : X.calm = true) (g1 : Gl X "len") (m1 : X.mg "len" = none) (g2 : Gl X "set") (m2 : X.mg "set" = none) (ha : PE X a ta)
    (one : starEach [a] X.env = (false, eval a X.env) :: starEach [] X.env := by rfl) : PE X (.Call (.Name "len" p) [.Call (.Name "set" p2) [a] [] q] [] pos) (tLenU X.K ta) := by
  refine ⟨fun pins s σ H Q I h => Call_ (ld_blt I g1 m1 boot_len (callWith_builtin1 (args_cons (Call_ (ld_blt I g2 m2 boot_set (callWith_type1 (args_cons (thn (ha.run pins s σ H _ I h) fun v s1 ⟨x, H1, I1, r1, z⟩ => args_nil ?_) one) one rfl))) rfl) rfl rfl))⟩
  obtain ⟨l, xs, rfl, hq, few, z⟩ := z
  cases r1
  have done : ∀ its : List Value, Vals (xs.map V.str) its → ∀ (h : Heap) (tk : Nat), Left X.prog X.w s1 xs its.toArray.size h →
      wpAny (model X.prog X.w) X.A (spliced (backTo pos (starEach [] X.env))) (fun vs s₂ => wpAny (model X.prog X.w) X.A (call (.builtin "len") (Value.ref s1.heap.objs.size :: vs)) (EP X pins σ Q) X.xe s₂) X.xe { s1 with heap := h, toks := tk } := fun its r h tk L => by
    have sz : its.toArray.size = xs.length := by rw [List.size_toArray, ← r.length, List.length_map]
    rw [sz] at L
    obtain ⟨⟨o, es, ep, t, e1, e2, e3, _, _, _, e4, e5⟩, old⟩ := L
    have I2 : Inv X pins σ H1 { s1 with heap := h, toks := tk } := I1.kept fun b o e => old b o (Heap.lt_size e) e
    have ul := unl_le xs xs.length
    exact args_nil (call_len_set e1 e2 e3 e4 (by rw [e5]; omega) ⟨.int (unl xs xs.length), H1, I2.tok _, ⟨_, by rw [e5]⟩, z⟩)
  rcases hq with hq | hq
  · obtain ⟨its, r, pl, hz⟩ := I1.list hq
    have sz : its.toArray.size = xs.length := by rw [List.size_toArray, ← r.length, List.length_map]
    exact set_open (items := its.toArray) (xs := xs) (init_list (I1.ok.hd calm) pl.isList (by simpa using strsAre_of r) (by rw [sz]; unfold scanBound; omega)) fun h tk L => done its r h tk L
  · obtain ⟨its, r, pl, hz⟩ := I1.tuple hq
    have sz : its.toArray.size = xs.length := by rw [List.size_toArray, ← r.length, List.length_map]
    exact set_open (items := its.toArray) (xs := xs) (init_tuple (I1.ok.hd calm) pl (by simpa using strsAre_of r) (by rw [sz]; unfold scanBound; omega)) fun h tk L => done its r h tk L
end Fw

set_option Elab.async false
set_option linter.all false
set_option maxRecDepth 100000
set_option maxHeartbeats 2000000
/-! d[x] of the dicts that the module's top laid: keyed by tuples of texts, or by texts; values tuples of texts -/
namespace Fw
open PySem PySem.Spec PyProof.Rows L2
def rIxP (K : PySem.W.Frag) (d : Addr) (g : List Str → Option (List Str)) : R2 := fun x y H Q => ∃ p k1 k2 zs, x = .ref d ∧ y = .ref p ∧ H p = some (.tup [.str k1, .str k2]) ∧ g [k1, k2] = some zs ∧ ∀ b, SqT K H b (zs.map V.str) → Q (.ref b) H
def rIxW (K : PySem.W.Frag) (d : Addr) (g : Str → Option (List Str)) : R2 := fun x y H Q => ∃ k zs, x = .ref d ∧ y = .str k ∧ g k = some zs ∧ ∀ b, SqT K H b (zs.map V.str) → Q (.ref b) H
variable {X : Cx}
theorem ix_parts {d : Addr} {g : List Str → Option (List Str)} (hp : Parts X.prog X.w X.K d g) (hu : X.A.units + 1 < cLine) : IxR X (rIxP X.K d g) := by
  intro value slice pins s σ H x y v u Q I rx ry h hs
  obtain ⟨p, k1, k2, zs, rfl, rfl, hp2, hg, q⟩ := h
  obtain ⟨⟨xs, ob, ep, hk, hex, hdt, hks, hnd, hv⟩, hsm⟩ := hp
  cases (show v = Value.ref d from rx)
  cases (show u = Value.ref p from ry)
  obtain ⟨its, rv, ⟨o', e', c', n', d'⟩, _⟩ := I.tuple (SqT.of (K := X.K) hp2)
  obtain ⟨u1, u2, rfl, ⟨t1, rfl⟩, ⟨t2, rfl⟩⟩ := Vals.two rv
  have key : IsTupleKey (strKind X.prog X.w) s.heap [k1, k2] p := ⟨o', _, n', e', c', d', by
    exact .cons (by show Value.isStrOf k1 (.str k1 t1) = true; simp [Value.isStrOf]) (.cons (by show Value.isStrOf k2 (.str k2 t2) = true; simp [Value.isStrOf]) .nil)⟩
  have dk : s.heap.DictKeyed (tupleKind (strKind X.prog X.w)) d (pairsH xs) := Heap.DictKeyed.ofEntries xs (I.kIn d ob hk) hex hdt rfl (fun x hx => by
    obtain ⟨t, ht⟩ := hks x hx
    exact ⟨_, _, _, I.kIn _ _ ht, rfl, rfl, by simpa using items_of x.1 t⟩) hnd
  rcases hv [k1, k2] with ⟨z1, z2⟩ | ⟨b, t, zs', z1, z2, z3, z4⟩
  · rw [hg] at z2; cases z2
  · rw [hg] at z2
    cases z2
    exact tail_any dk.typeIs PySem.F.slot_dict_getitem.lookup (getItem_keyed (tupleKind_room_in1 hu) key dk z1 ⟨.ref b, H, I.tok _, rfl, q b (tO_sqT z3 z4)⟩) hs
theorem ix_deeds {d : Addr} {g : Str → Option (List Str)} (hp : Deeds X.prog X.w X.K d g) : IxR X (rIxW X.K d g) := by
  intro value slice pins s σ H x y v u Q I rx ry h hs
  obtain ⟨k, zs, rfl, rfl, hg, q⟩ := h
  obtain ⟨⟨l, hk, hnd, hv⟩, hsm⟩ := hp
  cases (show v = Value.ref d from rx)
  obtain ⟨t, rfl⟩ := ry
  have dk := dict_ent (prog := X.prog) (w := X.w) (I.kIn d _ hk) hnd
  rcases hv k with ⟨z1, z2⟩ | ⟨b, t', zs', z1, z2, z3, z4⟩
  · rw [hg] at z2; cases z2
  · rw [hg] at z2
    cases z2
    exact tail_any dk.typeIs PySem.F.slot_dict_getitem.lookup (wpAny_getItem_of (strKind_is X.prog X.w k t) dk.mapOf z1 ⟨.ref b, H, I.tok _, rfl, q b (tO_sqT z3 z4)⟩) hs
end Fw

set_option Elab.async false
set_option linter.all false
set_option maxRecDepth 100000
set_option maxHeartbeats 2000000
/-! d.update(e) of two dicts keyed by texts or numbers -/
namespace Fw
open PySem PySem.Spec PyProof.Rows L2
def rUpdate : V → List V → Hp → VK → Prop := fun x vs H Q => ∃ a b kvs more, x = .ref a ∧ vs = [.ref b] ∧ H a = some (.dK kvs) ∧ H b = some (.dK more) ∧ a ≠ b ∧ kvs.length + more.length ≤ sizeLine ∧ (mergeK kvs more).length ≤ sizeLine ∧ Q .non (upd H a (.dK (mergeK kvs more)))
variable {X : Cx}
theorem mt_update : MtM X "dict.update" rUpdate := by
  intro pins s σ H x vs v us Q I rx rv h
  obtain ⟨a, b, kvs, more, rfl, rfl, ha, hb, ne, sz, sz2, q⟩ := h
  cases (show v = Value.ref a from rx)
  obtain ⟨u, rfl, ru⟩ := Vals.one rv
  cases (show u = Value.ref b from ru)
  obtain ⟨_, hd, ws, rel, dd⟩ := dk_of I.hok ha
  obtain ⟨_, he, zs, rel2, dd2⟩ := dk_of I.hok hb
  refine call_meetsIn PySem.F.slot_dict_update dd.typeIs PySem.F.entry_dict_update (PySem.F.args_dict_update_2 _ _) (meets_dict_update (mixKind X.prog X.w) a b ne he) ⟨ws, zs, dd, dd2, by rw [← rel.length, ← rel2.length]; exact sz, fun h' d1 _ hs => ?_⟩
  obtain ⟨o, es, ep, ho, r⟩ := id d1
  exact ⟨.non, _, d_write (t' := s.toks) I (by rw [ha]; exact True.intro) hs ⟨o, ho⟩ (dk_new sz2 hd (rel2.merge rel) d1), rfl, q⟩
end Fw

set_option Elab.async false
set_option linter.all false
set_option maxRecDepth 100000
set_option maxHeartbeats 4000000
/-! a tuple so many times, once and never too -/
namespace Fw
open PySem PySem.Spec PyProof.Rows L2
section
variable {X : Cx}
theorem tuple_mul1 (l : Addr) (items : Array Value) (n : Nat) (dd : Option Addr) (sl : Array (Option Value)) (u : Tok) :
    Meets (Builtin.«tuple.__mul__» ⟨[.ref l, .int 1 u], []⟩) (fun _ R s => s.heap.get? l = some { cls := .type "tuple", dict := dd, data := .seq items n, slots := sl } ∧ R (.ok (.ret (Value.ref l))) s) :=
  .of_wp fun prog w A R s h => by
    obtain ⟨hp, g, d, tk, os⟩ := s
    obtain ⟨hl, h⟩ := h
    have f1 := AutoSeq1.idx_int
    have c1 : (items.isEmpty || (1 : Int) == 1) = true := by simp
    wp_walk using wpAny_loadPart' hl
    repeat (first
      | (refine wpAny_ite_false (decide_eq_false (by decide)) ?_; wp_walk using wpAny_loadPart' hl)
      | (refine wpAny_ite_true (decide_eq_true c1) ?_; wp_walk using wpAny_loadPart' hl))
    exact ⟨_, rfl, h⟩
theorem tuple_mul0 (l : Addr) (items : Array Value) (n : Nat) (dd : Option Addr) (sl : Array (Option Value)) (u : Tok) (ne : items.isEmpty = false) :
    Meets (Builtin.«tuple.__mul__» ⟨[.ref l, .int 0 u], []⟩) (fun _ R s => s.heap.get? l = some { cls := .type "tuple", dict := dd, data := .seq items n, slots := sl } ∧ R (.ok (.ret (Value.ref s.heap.objs.size))) { s with heap := s.heap.push { cls := .type "tuple", data := .seq #[] } }) :=
  .of_wp fun prog w A R s h => by
    obtain ⟨hp, g, d, tk, os⟩ := s
    obtain ⟨hl, h⟩ := h
    have f1 := AutoSeq1.idx_int
    have c1 : ¬ (items.isEmpty || (0 : Int) == 1) = true := by rw [ne]; decide
    have c2 : (decide ((0 : Int) ≤ 0) || items.isEmpty) = true := by simp
    wp_walk using wpAny_loadPart' hl
    repeat (first
      | (refine wpAny_ite_false (decide_eq_false (by decide)) ?_; wp_walk using wpAny_loadPart' hl)
      | (refine wpAny_ite_false (decide_eq_false c1) ?_; wp_walk using wpAny_loadPart' hl)
      | (refine wpAny_ite_true (decide_eq_true c2) ?_; wp_walk using wpAny_loadPart' hl))
    exact ⟨_, rfl, h⟩
def rRepZ (K : PySem.W.Frag) : R2 := fun x y H Q => ∃ (l : Addr) (k : Nat) (xs : List V), x = .ref l ∧ y = .int k ∧ SqT K H l xs ∧ xs ≠ [] ∧ k ≤ 1000 ∧ xs.length ≤ 1000 ∧ (k = 1 → Q (.ref l) H) ∧ (k ≠ 1 → ∀ p, H p = none → Q (.ref p) (upd H p (.tup (List.replicate k xs).flatten)))
theorem op_repZ : OpR X (binaryOp .Mult) (rRepZ X.K) := by
  intro pins s σ H x y v u Q I rx ry h
  obtain ⟨l, k, xs, rfl, rfl, hT, hne, h2, hz, q1, q2⟩ := h
  by_cases hk : 2 ≤ k
  · exact op_repT pins s σ H _ _ v u Q I rx ry ⟨l, k, xs, rfl, rfl, hT, hne, by omega, by omega, hz, fun p np => by
      rw [Int.toNat_natCast]
      exact q2 (by omega) p np⟩
  cases rx
  obtain ⟨t, rfl⟩ := ry
  obtain ⟨its, r, ⟨⟨cls, dd, data, sl⟩, ho, hc, n, hd⟩, hs⟩ := I.tuple hT
  simp only at hc hd
  subst hc hd
  have : k = 0 ∨ k = 1 := by omega
  rcases this with rfl | rfl
  · have ne : its.toArray.isEmpty = false := by
      cases its with
      | nil => exact absurd (List.eq_nil_of_length_eq_zero (r.length.trans rfl)) hne
      | cons _ _ => rfl
    refine wpAny_binaryOp_repeat_ref (T := "tuple") (U := "int") (by decide) ⟨_, ho, rfl⟩ (fun s' => typeIs_int s' 0 t) noFill_tuple_mul F.fills_int_mul F.slot_int_rmul repeat_tuple F.slot_int_index.lookup
      (call_meets F.slot_int_rmul (typeIs_int s 0 t) F.entry_int_rmul (F.args_int_rmul_2 _ _) (int_rmul_tuple 0 t l its.toArray n dd sl)
        ⟨ho, rfl, ⟨_, ho, rfl⟩, call_meets F.slot_tuple_mul ⟨_, ho, rfl⟩ F.entry_tuple_mul (F.args_tuple_mul_2 _ _) (tuple_mul0 l its.toArray n dd sl t ne) ⟨ho, ?_⟩⟩)
    exact ⟨.ref _, _, I.laid (a := s.heap.objs.size) (o := .tup []) (t' := s.toks) (fun _ _ q => Heap.get?_push_of_some _ q) (Nat.le_refl _) ⟨by show 0 ≤ sizeLine; decide, [], .nil, ⟨_, Heap.get?_push_size _ rfl, rfl, _, rfl⟩⟩, rfl, q2 (by decide) _ I.fresh⟩
  · refine wpAny_binaryOp_repeat_ref (T := "tuple") (U := "int") (by decide) ⟨_, ho, rfl⟩ (fun s' => typeIs_int s' 1 t) noFill_tuple_mul F.fills_int_mul F.slot_int_rmul repeat_tuple F.slot_int_index.lookup
      (call_meets F.slot_int_rmul (typeIs_int s 1 t) F.entry_int_rmul (F.args_int_rmul_2 _ _) (int_rmul_tuple 1 t l its.toArray n dd sl)
        ⟨ho, rfl, ⟨_, ho, rfl⟩, call_meets F.slot_tuple_mul ⟨_, ho, rfl⟩ F.entry_tuple_mul (F.args_tuple_mul_2 _ _) (tuple_mul1 l its.toArray n dd sl t) ⟨ho, ?_⟩⟩)
    exact ⟨.ref l, H, I, rfl, q1 rfl⟩
end
end Fw

set_option Elab.async false
set_option linter.all false
namespace Fw
open PySem PySem.Spec PyProof.Rows L2 PyProof
/-- range(n) as a value -/
theorem cr_range1 {X : Cx} : CallR X (.type "range") (fun vs H Q => ∃ n, vs = [V.int n] ∧ ∀ p, H p = none → Q (.ref p) (upd H p (.rng 0 n))) := by
  rintro pins s σ H vs us Q I r ⟨n, rfl, q⟩
  cases r with | cons r0 r1 =>
  cases r1
  obtain ⟨t, rfl⟩ := r0
  refine call_range_1 ⟨V.ref s.heap.objs.size, upd H s.heap.objs.size (.rng 0 n), I.laid (t' := s.toks + 1 + 1) (fun b o e => Heap.get?_push_of_some _ e) (Nat.le_refl _) ⟨s.toks, t, s.toks + 1, Heap.get?_push_size _ rfl⟩, rfl, q _ (I.hok.fresh (Nat.le_refl _))⟩
end Fw

set_option Elab.async false
set_option linter.all false
set_option maxRecDepth 100000
set_option maxHeartbeats 4000000
namespace Fw
open PySem PySem.Spec PyProof.Rows L2
/-- x is not True, x any flat thing -/
def nb (x : V) (b : Bool) : Bool := match x with | .bl a => !decide (a = b) | _ => true
theorem op_notFl {X : Cx} : OpR X (compareOp .IsNot) (fun x y H Q => ∃ b : Bool, y = .bl b ∧ flatV x = true ∧ Q (.bl (nb x b)) H) := by
  intro pins s σ H x y v u Q I rx ry h
  obtain ⟨b, rfl, fx, q⟩ := h
  cases (show u = Value.bool b from ry)
  cases x with
  | non =>
    cases (show v = Value.none from rx)
    exact wpAny_isNot_other rfl (by intro z; cases z) ⟨.bl true, H, I, rfl, q⟩
  | bl a =>
    cases (show v = Value.bool a from rx)
    by_cases e : a = b
    · subst e
      exact wpAny_isNot_self rfl ⟨.bl false, H, I, rfl, by simpa [nb] using q⟩
    · exact wpAny_isNot_other rfl (fun z => e (Value.bool.inj z)) ⟨.bl true, H, I, rfl, by simpa [nb, e] using q⟩
  | int i =>
    obtain ⟨t, rfl⟩ := rx
    exact wpAny_isNot_other rfl (by intro z; cases z) ⟨.bl true, H, I, rfl, q⟩
  | str i =>
    obtain ⟨t, rfl⟩ := rx
    exact wpAny_isNot_other rfl (by intro z; cases z) ⟨.bl true, H, I, rfl, q⟩
  | _ => cases fx
end Fw

set_option Elab.async false
set_option linter.all false
set_option maxRecDepth 100000
set_option maxHeartbeats 2000000
namespace Fd
open PySem PySem.Spec PyProof.Rows L2
def top (i : Nat) : Stmt := PySem.Challenge.pw_figuredeeds_k13_plays_at_the_bounds.main.body.getD i (.Pass ⟨0, 0, 0, 0⟩)
/-! ### defs by their names -/
structure Df (K : PySem.W.Frag) (mg : Str → Option Value) (x : Str) (st : Stmt) (ps : List Str) (f : Addr) (fd : FuncData) : Prop where
  F : Fun K x x st f fd
  m : mg x = some (.ref f)
  b : Binds K fd ps []
/-- the def that the module's name x holds keeps sp -/
def FnG (P : Program) (w : World) (K : PySem.W.Frag) (mg : Str → Option Value) (base : Heap) (CX : CXT) (k : Nat) (x : Str) (ps : List Str) (sp : Sp) : Prop :=
  ∃ f fd, FnOk P w K mg base CX k f fd ps sp ∧ mg x = some (.ref f) ∧ PySem.W.keepIn K (.ref f) = true ∧ Binds K fd ps []
theorem Df.g {P : Program} {w : World} {K : PySem.W.Frag} {mg : Str → Option Value} {base : Heap} {CX : CXT} {k : Nat} {x : Str} {st : Stmt} {ps : List Str} {f : Addr} {fd : FuncData} {sp : Sp}
    (D : Df K mg x st ps f fd) (G : FnOk P w K mg base CX k f fd ps sp) : FnG P w K mg base CX k x ps sp := ⟨f, fd, G, D.m, D.F.kp, D.b⟩
/-! ### heaps -/
/-- all that was tracked stands, but for what is at a -/
def But (a : Addr) (H H' : Hp) : Prop := ∀ b o, b ≠ a → H b = some o → H' b = some o
theorem But.refl (a : Addr) (H : Hp) : But a H H := fun _ _ _ h => h
theorem But.trans {a : Addr} {H H1 H2 : Hp} (x : But a H H1) (y : But a H1 H2) : But a H H2 := fun b o n h => y b o n (x b o n h)
theorem But.of {a : Addr} {H H' : Hp} (s : Same H H') : But a H H' := fun b o _ h => s b o h
theorem But.upd {a : Addr} {H : Hp} {o : HO} : But a H (upd H a o) := fun b u n h => by rw [upd_ne n]; exact h
theorem same_upd {H : Hp} {p : Addr} {o : HO} (h : H p = none) : Same H (upd H p o) := fun b x e => by
  rw [upd_ne (ne_of_none e h)]
  exact e
theorem But.get {a b : Addr} {H H' : Hp} {o u : HO} (s : But a H H') (ha : H a = some u) (hb : H b = some o) (d : o ≠ u) : H' b = some o := s b o (ne_of hb ha d) hb
/-- an if whose both ways come to a value of which R holds, the heap as it was -/
theorem ifE {c : Prop} [Decidable c] {ta tb : TE} {σ : L2.St} {H : Hp} {Q : VK} (R : V → Prop) (h1 : c → ∃ v, R v ∧ ∀ Q' : VK, Q' v H → ta σ H Q') (h2 : ¬ c → ∃ v, R v ∧ ∀ Q' : VK, Q' v H → tb σ H Q')
    (h : ∀ v, R v → Q v H) : if c then ta σ H Q else tb σ H Q := by
  by_cases hc : c
  · rw [if_pos hc]
    obtain ⟨v, r, k⟩ := h1 hc
    exact k Q (h v r)
  · rw [if_neg hc]
    obtain ⟨v, r, k⟩ := h2 hc
    exact k Q (h v r)
theorem ixN_is {n j : Nat} (h : j < n) : ixN n (j : Int) = some j := by
  unfold ixN
  rw [if_pos (by omega), if_pos (by omega), Int.toNat_natCast]
theorem cut_to (xs : List V) (m : Nat) : cutV xs none (some (m : Int)) = xs.take m := by
  unfold cutV
  rw [HT.sIx_none, HT.sIx_nat, List.drop_zero, Nat.sub_zero]
  by_cases h : m ≤ xs.length
  · rw [Nat.min_eq_left h]
  · rw [Nat.min_eq_right (by omega), List.take_of_length_le (Nat.le_refl _), List.take_of_length_le (by omega)]
theorem cut_mid (xs : List V) (m n : Nat) : cutV xs (some (m : Int)) (some (n : Int)) = (xs.drop m).take (min n xs.length - min m xs.length) := by
  unfold cutV
  rw [HT.sIx_nat, HT.sIx_nat]
  by_cases h : m ≤ xs.length
  · rw [Nat.min_eq_left h]
  · rw [Nat.min_eq_right (by omega : xs.length ≤ m), List.drop_eq_nil_of_le (Nat.le_refl _), List.drop_eq_nil_of_le (by omega)]
theorem dpAll_ints {K : PySem.W.Frag} {H : Hp} : ∀ ms : List Int, DpAll K H (ms.map V.int) (ms.map PyData.int)
  | [] => .nil
  | m :: r => .cons (.int m) (dpAll_ints r)
theorem lay_ints : ∀ ms : List Int, PyData.canLayAll0 (ms.map PyData.int) = true
  | [] => rfl
  | m :: r => by show (true && PyData.canLayAll0 (r.map PyData.int)) = true; rw [lay_ints r]; rfl
theorem deep_ints : ∀ ms : List Int, PyData.depthAll (ms.map PyData.int) = 0
  | [] => rfl
  | m :: r => by show max 0 (PyData.depthAll (r.map PyData.int)) = 0; rw [deep_ints r]; rfl
theorem shaped_ints (ms : List Int) : SeqAt.shaped (.list (ms.map PyData.int)) = true := by
  unfold SeqAt.shaped
  rw [show (PyData.list (ms.map PyData.int)).canLay0 = PyData.canLayAll0 (ms.map PyData.int) from rfl, lay_ints,
    show (PyData.list (ms.map PyData.int)).depth = PyData.depthAll (ms.map PyData.int) + 1 from rfl, deep_ints]
  rfl
/-! ### the heap without some -/
def rmL (as : List Addr) (H : Hp) : Hp := fun b => if b ∈ as then none else H b
theorem rmL_at {as : List Addr} {b : Addr} {H : Hp} (h : b ∉ as) : rmL as H b = H b := if_neg h
theorem rmL_in {as : List Addr} {b : Addr} {H : Hp} (h : b ∈ as) : rmL as H b = none := if_pos h
theorem rmL_less {as bs : List Addr} {H : Hp} (h : ∀ b ∈ as, b ∈ bs) : Same (rmL bs H) (rmL as H) := fun b o q => by
  by_cases e : b ∈ bs
  · rw [rmL_in e] at q; cases q
  · rw [rmL_at e] at q
    rw [rmL_at (fun z => e (h b z))]
    exact q
theorem rmL_upd {as : List Addr} {D : Addr} {o : HO} {H : Hp} (h : D ∈ as) : rmL as (upd H D o) = rmL as H := funext fun b => by
  by_cases e : b ∈ as
  · rw [rmL_in e, rmL_in e]
  · rw [rmL_at e, rmL_at e, upd_ne (fun z => e (by rw [z]; exact h))]
/-- all that was tracked stands, but for some -/
def ButL (as : List Addr) (H H' : Hp) : Prop := ∀ b o, b ∉ as → H b = some o → H' b = some o
theorem ButL.trans {as : List Addr} {H H1 H2 : Hp} (x : ButL as H H1) (y : ButL as H1 H2) : ButL as H H2 := fun b o n h => y b o n (x b o n h)
theorem ButL.of {a : Addr} {as : List Addr} {H H' : Hp} (s : But a H H') (h : a ∈ as) : ButL as H H' := fun b o n q => s b o (fun z => n (by rw [z]; exact h)) q
theorem ButL.same {as : List Addr} {H H' : Hp} (s : Same H H') : ButL as H H' := fun b o _ q => s b o q
theorem ButL.more {as bs : List Addr} {H H' : Hp} (s : ButL as H H') (h : ∀ b ∈ as, b ∈ bs) : ButL bs H H' := fun b o n q => s b o (fun z => n (h b z)) q
theorem ButL.one {a : Addr} {H H' : Hp} (s : ButL [a] H H') : But a H H' := fun b o n q => s b o (fun z => n (List.mem_singleton.mp z)) q
theorem rmL_but {as : List Addr} {H H' : Hp} (s : ButL as H H') : Same (rmL as H) (rmL as H') := fun b o q => by
  by_cases e : b ∈ as
  · rw [rmL_in e] at q; cases q
  · rw [rmL_at e] at q ⊢
    exact s b o e q

/-! ### the drawer: its cells and its turn, drawn from at most n times -/
def Dr (H : Hp) (a c : Addr) (n : Nat) : Prop := ∃ (t : Int) (ns : List Int), H a = some (.dK [(Sum.inr "cells", .ref c), (Sum.inr "turn", .int t)]) ∧ H c = some (.lst (ns.map V.int)) ∧ ns ≠ [] ∧ ns.length ≤ 63 ∧ 0 ≤ t ∧ t ≤ n
theorem Dr.same {H H' : Hp} {a c : Addr} {n : Nat} (b : Dr H a c n) (s : Same H H') : Dr H' a c n := by
  obtain ⟨t, ns, h1, h2, r⟩ := b
  exact ⟨t, ns, s _ _ h1, s _ _ h2, r⟩
theorem Dr.le {H : Hp} {a c : Addr} {n m : Nat} (b : Dr H a c n) (h : n ≤ m) : Dr H a c m := by
  obtain ⟨t, ns, h1, h2, h3, h4, h5, h6⟩ := b
  exact ⟨t, ns, h1, h2, h3, h4, h5, by omega⟩
theorem Dr.in_ {H : Hp} {a c : Addr} {n : Nat} (b : Dr H a c n) : ∀ d ∈ [a, c], ∃ u, H d = some u := fun d hd => by
  obtain ⟨t, ns, h1, h2, _⟩ := b
  rcases List.mem_cons.mp hd with z | z
  · rw [z]; exact ⟨_, h1⟩
  · rw [List.mem_singleton.mp z]; exact ⟨_, h2⟩
theorem Dr.ne {H : Hp} {a c d : Addr} {n : Nat} (b : Dr H a c n) (h : H d = none) : d ∉ [a, c] := fun z => by
  obtain ⟨u, hu⟩ := b.in_ d z
  rw [h] at hu
  cases hu
section
variable {P : Program} {w : World} {K : PySem.W.Frag} {mg : Str → Option Value} {base : Heap} {f : Addr} {fd : FuncData}
/-! ### _law_begin -/
abbrev sBegin : Stmt := top 60
theorem scBegin : FnScope ["_law_script", "_law_handed"] ["_law_script"] (defScope sBegin) := ⟨rfl, rfl, rfl, by decide +kernel, rfl, by decide +kernel, by decide +kernel⟩
def spBegin (K : PySem.W.Frag) : Sp := fun vs H Q _ => ∃ (a : Addr) (ns : List Int), vs = [.ref a] ∧ SqL K H a (ns.map V.int) ∧ ns.length ≤ 63 ∧ ∀ p c H', Same H H' → H p = none → Dr H' p c 0 → Q (.ref p) H'
theorem ok_begin {k : Nat} (F : Fun K "_law_begin" "_law_begin" sBegin f fd) (m_list : mg "list" = none) : FnOk P w K mg base CX0 (k + 1) f fd ["_law_script"] (spBegin K) := by
  have sc := scBegin
  refine F.ok sc (fun vs H Q E h => ?_) (fun cdv A outer s H vs Q E hr h => ?_)
  · obtain ⟨a, ns, rfl, _⟩ := h
    rfl
  obtain ⟨a, ns, rfl, hS, hl, q⟩ := h
  refine ⟨_, (pss_cons (ps_set (i := 1) sc.nd rfl (.inl rfl) (pe_callTy call_list_of (by rfl) m_list (by decide +kernel) (pa_cons (pe_slice sl_list (pv 0) po_none (po_some pe_int)) pa_nil)))
      (pss_cons (ps_if (pt_cmpR (op_eqD hr.units) (pv 1) (pe_lst pa_nil) (nomark _)) (pss_one (ps_set (i := 1) sc.nd rfl (.inl rfl) (pe_lst (pa_cons pe_int pa_nil)))) pss_nil)
      (pss_one (ps_ret (pe_disp (pps_cons pe_str (pv 1) (pps_cons pe_str pe_int pps_nil)) rfl rfl (by decide) (by decide)))))), ?_⟩
  refine ⟨_, rfl, 63, rfl, a, _, rfl, hS, fun c nc => ?_⟩
  rw [show cutV (ns.map V.int) none (some 63) = ns.map V.int from (cut_to _ 63).trans (List.take_of_length_le (by rw [List.length_map]; exact hl))]
  refine ⟨c, _, rfl, .inl (SqL.of upd_same), fun p np => ?_⟩
  have s1 : Same H (upd H c (.lst (ns.map V.int))) := same_upd nc
  have s2 := s1.trans (same_upd (o := .lst (ns.map V.int)) np)
  refine ⟨_, rfl, by show 0 ≤ sizeLine; decide, fun t nt => ?_⟩
  have ht := same_upd (o := .lst []) nt
  have hp := ht _ _ (upd_same (a := p) (o := .lst (ns.map V.int)))
  have s3 := s2.trans ht
  refine ⟨.list (ns.map PyData.int), .list [], .lst (SqL.of hp) (dpAll_ints ns), .lst (SqL.of upd_same) .nil, shaped_ints ns, by decide, _, rfl, ?_⟩
  generalize upd (upd (upd H c (.lst (ns.map V.int))) p (.lst (ns.map V.int))) t (.lst []) = H3 at *
  have fin : ∀ (c' : Addr) (ms : List Int) (H4 : Hp), Same H3 H4 → H4 c' = some (.lst (ms.map V.int)) → ms ≠ [] → ms.length ≤ 63 → ∀ d, H4 d = none → upd H4 d (.dK []) d = some (.dK []) ∧ ∃ kvs : List (L2.Key × V), [(V.str "cells", V.ref c'), (V.str "turn", V.int 0)] = kvs.map (fun kv => (kV kv.1, kv.2)) ∧ kvs.length ≤ 15 ∧ Q (.ref d) (upd (upd H4 d (.dK [])) d (.dK (mergeK [] kvs))) := fun c' ms H4 s4 hc mn ml d nd => by
    refine ⟨upd_same, [(Sum.inr "cells", .ref c'), (Sum.inr "turn", .int 0)], rfl, (show 2 ≤ 15 by decide), ?_⟩
    have e : upd (upd H4 d (.dK [])) d (.dK (mergeK [] [(Sum.inr "cells", V.ref c'), (Sum.inr "turn", .int 0)])) = upd H4 d (.dK (mergeK [] [(Sum.inr "cells", V.ref c'), (Sum.inr "turn", .int 0)])) := funext fun x => by
      by_cases z : x = d
      · rw [z, upd_same, upd_same]
      · rw [upd_ne z, upd_ne z, upd_ne z]
    rw [e]
    refine q d c' _ ((s3.trans s4).trans (same_upd nd)) ((s3.trans s4).free nd) ⟨0, ms, ?_, same_upd nd _ _ hc, mn, ml, Int.le_refl _, Int.le_refl _⟩
    rw [upd_same]
    rfl
  cases ns with
  | nil =>
    refine iteT ⟨by show 1 ≤ sizeLine; decide, fun u nu => ?_⟩
    intro d nd
    exact ⟨_, rfl, fin u [17] _ (same_upd nu) upd_same (by simp) (by decide) d nd⟩
  | cons x r =>
    refine iteF ?_
    intro d nd
    exact ⟨_, rfl, fin p (x :: r) _ (Same.refl _) hp (by simp) hl d nd⟩
/-! ### _law_take -/
abbrev sTake : Stmt := top 61
theorem scTake : FnScope ["_law_state", "_law_below", "_law_turn", "_law_place", "_law_cell", "_law_digit", "_law_near", "_law_mixed"] ["_law_state", "_law_below"] (defScope sTake) := ⟨rfl, rfl, rfl, by decide +kernel, rfl, by decide +kernel, by decide +kernel⟩
def spTake : Sp := fun vs H Q _ => ∃ (a c : Addr) (n : Nat) (m : Int), vs = [.ref a, .int m] ∧ Dr H a c n ∧ n ≤ 1000000 ∧ 0 < m ∧ m ≤ 100000 ∧
  ∀ r H', 0 ≤ r → r < m → ButL [a, c] H H' → Dr H' a c (n + 1) → Q (.int r) H'
theorem ok_take {k : Nat} (F : Fun K "_law_take" "_law_take" sTake f fd) (m_divmod : mg "divmod" = none) (m_len : mg "len" = none) : FnOk P w K mg base CX0 (k + 1) f fd ["_law_state", "_law_below"] spTake := by
  have sc := scTake
  refine F.ok sc (fun vs H Q E h => ?_) (fun cdv A outer s H vs Q E hr h => ?_)
  · obtain ⟨a, c, n, m, rfl, _⟩ := h
    rfl
  obtain ⟨a, c, n, m, rfl, hD, hn, m0, m1, q⟩ := h
  refine ⟨_, (pss_cons (ps_set (i := 2) sc.nd rfl (.inl rfl) (pe_op op_add (pe_dget (hu_of hr) (pv 0) pe_str (fun _ _ => rfl)) pe_int))
      (pss_cons (ps_dput (hu_of hr) (pv 0) pe_str (pv 2) rfl)
      (pss_cons (ps_set (i := 3) sc.nd rfl (.inl rfl) (pe_op op_mod (pv 2) (pe_callB call_len_seq (by rfl) m_len (by decide +kernel) (pa_cons (pe_dget (hu_of hr) (pv 0) pe_str (fun _ _ => rfl)) pa_nil))))
      (pss_cons (ps_set (i := 4) sc.nd rfl (.inl rfl) (pe_ix ix_list (pe_dget (hu_of hr) (pv 0) pe_str (fun _ _ => rfl)) (pv 3) (fun _ _ => rfl)))
      (pss_cons (ps_if (pt_cmpR op_ge (pv 4) (pe_op op_pow pe_int pe_int) (nomark _)) (pss_cons (ps_asg (pe_callB call_divmod (by rfl) m_divmod (by decide +kernel) (pa_cons (pv 4) (pa_cons (pv 1) pa_nil))) (pg_tup (by rfl) (pgs_cons (pg_sub (pe_dget (hu_of hr) (pv 0) pe_str (fun _ _ => rfl)) (pv 3) set_list) (pgs_cons (pg_name (i := 5) sc.nd rfl (.inl rfl)) pgs_nil))))
      (pss_one (ps_ret (pv 5)))) pss_nil)
      (pss_cons (ps_set (i := 6) sc.nd rfl (.inl rfl) (pe_op op_add (pe_op op_mod (pv 4) pe_int) (pe_op op_mul (pe_op op_mod (pe_op op_fdivW (pv 4) pe_int) pe_int) pe_int)))
      (pss_cons (ps_set (i := 7) sc.nd rfl (.inl rfl) (pe_op op_mod (pe_op op_mul (pe_op op_add (pe_op op_add (pv 6) (pe_op op_mul (pe_op op_mul (pv 2) (pv 2)) pe_int)) pe_int) pe_int) pe_int))
      (pss_cons (ps_set (i := 7) sc.nd rfl (.inl rfl) (pe_op op_mod (pe_op op_mul (pv 7) (pv 7)) pe_int))
      (pss_one (ps_ret (pe_op op_mod (pe_op op_fdivW (pe_op op_mod (pe_op op_mul (pe_op op_add (pv 7) (pe_op op_mul (pv 2) pe_int)) pe_int) pe_int) pe_int) (pv 1)))))))))))), ?_⟩
  obtain ⟨t, ns, ha, hc, n0, n63, t0, tn⟩ := hD
  have ca : c ≠ a := fun z => by rw [z, ha] at hc; cases hc
  refine ⟨_, rfl, a, .int t, rfl, DGet.k (k := Sum.inr "turn") ha, t, 1, rfl, rfl, ?_⟩
  refine ⟨_, rfl, _, rfl, a, _, rfl, DPut.k (k := Sum.inr "turn") ha (by show 2 < sizeLine; decide), ?_⟩
  have ha1 : upd H a (.dK (putK [(Sum.inr "cells", .ref c), (Sum.inr "turn", .int t)] (Sum.inr "turn") (.int (t + 1)))) a = some (.dK [(Sum.inr "cells", .ref c), (Sum.inr "turn", .int (t + 1))]) := upd_same
  have hc1 : upd H a (.dK (putK [(Sum.inr "cells", .ref c), (Sum.inr "turn", .int t)] (Sum.inr "turn") (.int (t + 1)))) c = some (.lst (ns.map V.int)) := by rw [upd_ne ca]; exact hc
  have b1 : ButL [a, c] H (upd H a (.dK (putK [(Sum.inr "cells", .ref c), (Sum.inr "turn", .int t)] (Sum.inr "turn") (.int (t + 1))))) := fun b o nb h => by rw [upd_ne (fun z => nb (by rw [z]; exact List.mem_cons_self ..))]; exact h
  generalize upd H a (.dK (putK [(Sum.inr "cells", .ref c), (Sum.inr "turn", .int t)] (Sum.inr "turn") (.int (t + 1)))) = H1 at *
  have nl : 0 < ns.length := List.length_pos_iff.mpr n0
  have N0 : (0 : Int) < ((ns.map V.int).length : Nat) := by rw [List.length_map]; omega
  obtain ⟨j, hj, ej⟩ : ∃ j : Nat, j < ns.length ∧ (t + 1) % ((ns.map V.int).length : Nat) = (j : Int) := by
    have h1 := Int.emod_lt_of_pos (t + 1) N0
    have h2 := Int.emod_nonneg (t + 1) (show (((ns.map V.int).length : Nat) : Int) ≠ 0 by omega)
    refine ⟨((t + 1) % ((ns.map V.int).length : Nat)).toNat, ?_, by omega⟩
    rw [List.length_map] at h1 ⊢
    omega
  refine ⟨_, rfl, _, rfl, a, .ref c, rfl, DGet.k (k := Sum.inr "cells") ha1, c, _, rfl, .inl (SqL.of hc1), _, _, rfl, rfl, N0, ?_⟩
  dsimp only
  rw [ej]
  have at1 : atI (ns.map V.int) (j : Int) = some (.int ns[j]) := atI_nat (by rw [List.getElem?_map, List.getElem?_eq_getElem hj]; rfl)
  refine ⟨_, rfl, a, .ref c, rfl, DGet.k (k := Sum.inr "cells") ha1, _, rfl, c, _, _, _, rfl, rfl, SqL.of hc1, at1, ?_⟩
  generalize ns[j] = cell
  refine ⟨_, rfl, 10, 18, rfl, rfl, ⟨by decide, by decide, by decide⟩, _, _, rfl, rfl, _, rfl, ite2 (fun g => ?_) (fun g => ?_)⟩
  · refine ⟨_, rfl, _, rfl, cell, m, rfl, ⟨m0, by omega⟩, fun p np => ?_⟩
    have e1 := same_upd (o := .tup [.int (cell / m), .int (cell % m)]) np
    refine ⟨p, _, rfl, .inl (.inl upd_same), rfl, _, _, rfl, _, rfl, a, .ref c, rfl, DGet.k (k := Sum.inr "cells") (e1 _ _ ha1), _, rfl, c, _, _, j, rfl, rfl, e1 _ _ hc1, ixN_is (by rw [List.length_map]; exact hj), _, _, rfl, rfl, _, rfl, ?_⟩
    refine q _ _ (Int.emod_nonneg _ (by omega)) (Int.emod_lt_of_pos _ m0) (fun b o nb h => ?_) ⟨t + 1, ns.set j (cell / m), ?_, ?_, ?_, ?_, by omega, by omega⟩
    · rw [upd_ne (fun z => nb (by rw [z]; exact List.mem_cons_of_mem _ (List.mem_singleton.mpr rfl)))]
      exact e1 _ _ (b1 _ _ nb h)
    · rw [upd_ne ca.symm]
      exact e1 _ _ ha1
    · rw [upd_same, List.map_set]
    · intro z
      have := congrArg List.length z
      rw [List.length_set, List.length_nil] at this
      omega
    · rw [List.length_set]; exact n63
  · refine ⟨_, rfl, cell, 2147483629, rfl, rfl, (show (0 : Int) < 2147483629 by decide), _, rfl, cell, 2147483629, rfl, rfl, wide_div (b := 31) (by decide) (by decide) (by decide) (by decide), _, 40009, rfl, rfl, (show (0 : Int) < 40009 by decide), _, 977, rfl, rfl, .inr ⟨by decide, by decide⟩, _, _, rfl, rfl, ?_⟩
    dsimp only
    generalize cell % 2147483629 + cell / 2147483629 % 40009 * 977 = x1
    refine ⟨_, rfl, _, rfl, _, rfl, t + 1, t + 1, rfl, rfl, .inl ⟨by omega, by omega⟩, _, 6007, rfl, rfl, .inr ⟨by decide, by decide⟩, _, _, rfl, rfl, _, 29, rfl, rfl, _, 48271, rfl, rfl, .inr ⟨by decide, by decide⟩, _, 2147483647, rfl, rfl, (show (0 : Int) < 2147483647 by decide), ?_⟩
    dsimp only
    generalize h2 : (x1 + (t + 1) * (t + 1) * 6007 + 29) * 48271 % 2147483647 = x2
    have p0 : 0 ≤ x2 := by rw [← h2]; exact Int.emod_nonneg _ (by decide)
    have p1 : x2 < 2147483647 := by rw [← h2]; exact Int.emod_lt_of_pos _ (by decide)
    refine ⟨_, rfl, _, rfl, x2, x2, rfl, rfl, .inl ⟨by omega, by omega⟩, _, 2147483579, rfl, rfl, (show (0 : Int) < 2147483579 by decide), ?_⟩
    dsimp only
    generalize x2 * x2 % 2147483579 = x3
    refine ⟨_, rfl, _, rfl, t + 1, 103049, rfl, rfl, .inr ⟨by decide, by decide⟩, _, _, rfl, rfl, _, 69621, rfl, rfl, .inr ⟨by decide, by decide⟩, _, 2147483629, rfl, rfl, (show (0 : Int) < 2147483629 by decide), _, 64, rfl, rfl, wide_div (b := 7) (by decide) (by decide) (by decide) (by decide), _, rfl, _, m, rfl, rfl, m0, ?_⟩
    exact q _ _ (Int.emod_nonneg _ (by omega)) (Int.emod_lt_of_pos _ m0) b1 ⟨t + 1, ns, ha1, hc1, n0, n63, by omega, by omega⟩
end
end Fd

set_option Elab.async false
set_option linter.all false
set_option maxRecDepth 100000
set_option maxHeartbeats 2000000
namespace Fd
open PySem PySem.Spec PyProof.Rows L2 RZ
theorem seqT {K : PySem.W.Frag} {H H' : Hp} {a : Addr} {xs : List V} (e : Same H H') (h : SqT K H a xs) : SqT K H' a xs := by
  rcases h with (h | ⟨o, h⟩) | h
  · exact .inl (.inl (e _ _ h))
  · exact .inl (.inr ⟨o, e _ _ h⟩)
  · exact .inr h
mutual
theorem dp_same {K : PySem.W.Frag} {H H' : Hp} (s : Same H H') : ∀ (d : PyData) (v : V), Dp K H v d → Dp K H' v d
  | .none, _, h => by cases h; exact .non
  | .bool b, _, h => by cases h; exact .bl b
  | .int i, _, h => by cases h; exact .int i
  | .str x, _, h => by cases h; exact .str x
  | .list ds, _, h => by cases h with | lst q r => exact .lst (s.seq q) (dpAll_same s ds _ r)
  | .tuple ds, _, h => by cases h with | tup q r => exact .tup (seqT s q) (dpAll_same s ds _ r)
  | .dict _, _, h => by cases h
theorem dpAll_same {K : PySem.W.Frag} {H H' : Hp} (s : Same H H') : ∀ (ds : List PyData) (vs : List V), DpAll K H vs ds → DpAll K H' vs ds
  | [], _, h => by cases h; exact .nil
  | d :: ds, _, h => by cases h with | cons q r => exact .cons (dp_same s d _ q) (dpAll_same s ds _ r)
end
theorem dpAll_len {K : PySem.W.Frag} {H : Hp} : ∀ {ds : List PyData} {vs : List V}, DpAll K H vs ds → vs.length = ds.length
  | [], _, h => by cases h; rfl
  | d :: ds, _, h => by cases h with | cons q r => rw [List.length_cons, List.length_cons, dpAll_len r]
theorem dpAll_at {K : PySem.W.Frag} {H : Hp} : ∀ {ds : List PyData} {vs : List V} {i : Nat} {v : V}, DpAll K H vs ds → vs[i]? = some v → ∃ d, ds[i]? = some d ∧ Dp K H v d
  | [], _, i, v, h, e => by cases h; simp at e
  | d :: ds, _, 0, v, h, e => by cases h with | cons q r => cases (Option.some.inj e); exact ⟨d, rfl, q⟩
  | d :: ds, _, i + 1, v, h, e => by cases h with | cons q r => exact dpAll_at (i := i) r e
/-- data without dicts, less than n deep, lists of at most 1000 -/
def OkD : Nat → PyData → Prop
  | 0, _ => False
  | _ + 1, .none => True
  | _ + 1, .bool _ => True
  | _ + 1, .int _ => True
  | _ + 1, .str _ => True
  | n + 1, .list ds => ds.length ≤ 1000 ∧ ∀ d ∈ ds, OkD n d
  | n + 1, .tuple ds => ds.length ≤ 1000 ∧ ∀ d ∈ ds, OkD n d
  | _ + 1, .dict _ => False
theorem qd {Q : VK} {H : Hp} {x : V} (h : Q (.bl true) H) : Q (.bl (decide (x = x))) H := by
  rw [decide_eq_true rfl]
  exact h
theorem all_rep : ∀ n : Nat, (List.replicate n true).all id = true
  | 0 => rfl
  | n + 1 => by rw [List.replicate_succ, List.all_cons, all_rep n]; rfl
theorem ty_lst {K : PySem.W.Frag} {H : Hp} {a : Addr} {xs : List V} (h : SqL K H a xs) : TyX K H (.ref a) (.type "list") := by
  rcases h with (h | ⟨o, h⟩) | ⟨o, _, _, h, c, _⟩
  · exact .base (.lst h)
  · exact .base (.frz h)
  · exact .kList h c
theorem ty_tup {K : PySem.W.Frag} {H : Hp} {a : Addr} {xs : List V} (h : SqT K H a xs) : TyX K H (.ref a) (.type "tuple") := by
  rcases h with (h | ⟨o, h⟩) | ⟨o, _, _, h, c, _⟩
  · exact .base (.tup h)
  · exact .fTuple h
  · exact .kTuple h c
theorem kitLT {K : PySem.W.Frag} {t : String} {b1 b2 : Bool} (h1 : kitB t "list" = some b1) (h2 : kitB t "tuple" = some b2) : PySem.W.kitAny K (.type t) [.type "list", .type "tuple"] = some (b1 || b2) := by
  cases b1 with
  | true => exact kitAny_cons (kit_ty h1) (fun z => nomatch z) (fun _ => rfl)
  | false =>
    refine kitAny_cons (kit_ty h1) (fun _ => ?_) (fun z => nomatch z)
    cases b2 with
    | true => exact kitAny_cons (kit_ty h2) (fun z => nomatch z) (fun _ => rfl)
    | false => exact kitAny_cons (kit_ty h2) (fun _ => rfl) (fun z => nomatch z)
theorem walk_zipT {K : PySem.W.Frag} {a b : Addr} {xs ys : List V} {n : Nat} (hn : n = min xs.length ys.length) : Walk (ItzT K a b) n (fun H => SqT K H a xs ∧ SqT K H b ys) (YPair (fun i => xs[i]?) (fun i => ys[i]?)) := by
  subst hn
  refine ⟨fun i _ hi q => ⟨xs, ys, xs[i]'(by omega), ys[i]'(by omega), q.1, q.2, List.getElem?_eq_getElem _, List.getElem?_eq_getElem _⟩, fun _ q => ⟨xs, ys, q.1, q.2, by omega⟩, fun i H v H' _ q y => ?_⟩
  obtain ⟨T, x, z, g1, g2, g3, g4, g5⟩ := y
  exact ⟨T, x, z, g1, g2, g3, g4 xs q.1, g5 ys q.2⟩
def IsNm (z : Str) : Prop := 1 ≤ z.cps.size ∧ z.cps.size ≤ 8 ∧ ∀ c ∈ z.cps.toList, 97 ≤ c ∧ c ≤ 122
theorem ifT {c : Prop} [Decidable c] {A B : Prop} (hc : c) (h : A) : if decide c = true then A else B := by
  rw [if_pos (decide_eq_true hc)]
  exact h
theorem ifF {c : Prop} [Decidable c] {A B : Prop} (hc : ¬ c) (h : B) : if decide c = true then A else B := by
  rw [decide_eq_false hc, if_neg Bool.false_ne_true]
  exact h
theorem iteB {b : Bool} {A B : Prop} (h : b = true) (a : A) : if b = true then A else B := by subst h; exact iteT a
theorem iteBF {b : Bool} {A B : Prop} (h : b = false) (a : B) : if b = true then A else B := by subst h; exact iteF a
theorem neS {a b : Str} (h : a ≠ b) : ¬ (V.str a = V.str b) := fun z => h (V.str.inj z)
def inB (i : Int) : Bool := decide (-1000000 ≤ i) && decide (i ≤ 1000000)
inductive BOp where
  | plus | minus | by_ | over | rest
def BOp.word : BOp → Str
  | .plus => "plus" | .minus => "minus" | .by_ => "by" | .over => "over" | .rest => "rest"
inductive Lk where
  | num (i : Int) | name (x : Str) | many (x : Str) | item (x : Str) (a : Lk) | spot (k : Nat) | bin (o : BOp) (a b : Lk)
def Lk.deep : Lk → Nat
  | .item _ a => a.deep + 1
  | .bin _ a b => max a.deep b.deep + 1
  | _ => 1
def spotWords : List Str := ["x", "y", "way", "number"]
inductive Ts where
  | like (a b : Lk) | less (a b : Lk) | not_ (t : Ts) | both (t u : Ts) | any_ (t u : Ts) | meets (x : Str)
def Ts.deep : Ts → Nat
  | .like a b => max a.deep b.deep + 1
  | .less a b => max a.deep b.deep + 1
  | .not_ t => t.deep + 1
  | .both t u => max t.deep u.deep + 1
  | .any_ t u => max t.deep u.deep + 1
  | .meets _ => 1
theorem FnG.mono {P : Program} {w : World} {K : PySem.W.Frag} {mg : Str → Option Value} {base : Heap} {CX : CXT} {j k : Nat} {x : Str} {ps : List Str} {sp : Sp} (G : FnG P w K mg base CX j x ps sp) (h : j ≤ k) : FnG P w K mg base CX k x ps sp := by
  obtain ⟨f, fd, F, r⟩ := G
  exact ⟨f, fd, F.mono h, r⟩
end Fd

set_option Elab.async false
set_option linter.all false
set_option maxRecDepth 100000
set_option maxHeartbeats 2000000
namespace Fd
open PySem PySem.Spec PyProof.Rows L2
/-! ### the kinds of plain data -/
def tyN : PyData → String
  | .none => "NoneType" | .bool _ => "bool" | .int _ => "int" | .str _ => "str" | .list _ => "list" | .tuple _ => "tuple" | .dict _ => "dict"
theorem ty_of {K : PySem.W.Frag} {H : Hp} {v : V} {d : PyData} (h : Dp K H v d) : TyX K H v (.type (tyN d)) := by
  cases h with
  | non => exact .base .non
  | bl b => exact .base (.bl b)
  | int i => exact .base (.int i)
  | str x => exact .base (.str x)
  | lst h _ => exact ty_lst h
  | tup h _ => exact ty_tup h
def isI : PyData → Bool | .int _ => true | .bool _ => true | _ => false
def isB : PyData → Bool | .bool _ => true | _ => false
def isS : PyData → Bool | .str _ => true | _ => false
def isT : PyData → Bool | .tuple _ => true | _ => false
def isNum : PyData → Bool | .int _ => true | _ => false
theorem kI : ∀ d, kitB (tyN d) "int" = some (isI d)
  | .none => (by decide +kernel : kitB "NoneType" "int" = some false) | .bool _ => (by decide +kernel : kitB "bool" "int" = some true) | .int _ => (by decide +kernel : kitB "int" "int" = some true) | .str _ => (by decide +kernel : kitB "str" "int" = some false)
  | .list _ => (by decide +kernel : kitB "list" "int" = some false) | .tuple _ => (by decide +kernel : kitB "tuple" "int" = some false) | .dict _ => (by decide +kernel : kitB "dict" "int" = some false)
theorem kB : ∀ d, kitB (tyN d) "bool" = some (isB d)
  | .none => (by decide +kernel : kitB "NoneType" "bool" = some false) | .bool _ => (by decide +kernel : kitB "bool" "bool" = some true) | .int _ => (by decide +kernel : kitB "int" "bool" = some false) | .str _ => (by decide +kernel : kitB "str" "bool" = some false)
  | .list _ => (by decide +kernel : kitB "list" "bool" = some false) | .tuple _ => (by decide +kernel : kitB "tuple" "bool" = some false) | .dict _ => (by decide +kernel : kitB "dict" "bool" = some false)
theorem kS : ∀ d, kitB (tyN d) "str" = some (isS d)
  | .none => (by decide +kernel : kitB "NoneType" "str" = some false) | .bool _ => (by decide +kernel : kitB "bool" "str" = some false) | .int _ => (by decide +kernel : kitB "int" "str" = some false) | .str _ => (by decide +kernel : kitB "str" "str" = some true)
  | .list _ => (by decide +kernel : kitB "list" "str" = some false) | .tuple _ => (by decide +kernel : kitB "tuple" "str" = some false) | .dict _ => (by decide +kernel : kitB "dict" "str" = some false)
theorem kT : ∀ d, kitB (tyN d) "tuple" = some (isT d)
  | .none => (by decide +kernel : kitB "NoneType" "tuple" = some false) | .bool _ => (by decide +kernel : kitB "bool" "tuple" = some false) | .int _ => (by decide +kernel : kitB "int" "tuple" = some false) | .str _ => (by decide +kernel : kitB "str" "tuple" = some false)
  | .list _ => (by decide +kernel : kitB "list" "tuple" = some false) | .tuple _ => (by decide +kernel : kitB "tuple" "tuple" = some true) | .dict _ => (by decide +kernel : kitB "dict" "tuple" = some false)
theorem isi_of {K : PySem.W.Frag} {H : Hp} {v : V} {d : PyData} {c : String} {b : Bool} {Q : VK} (h : Dp K H v d) (e : kitB (tyN d) c = some b) (q : Q (.bl b) H) : rIsi K [v, .ty c] H Q :=
  ⟨_, _, _, _, b, rfl, .ty _, ty_of h, kit_ty e, q⟩
/-- a list of truths built piece by piece -/
theorem all_map {α : Type} (xs : List α) (f : α → Bool) : (xs.map f).all id = xs.all f := by
  induction xs with
  | nil => rfl
  | cons x r ih => rw [List.map_cons, List.all_cons, List.all_cons, ih]; rfl
def isVal : PyData → Bool | .int i => inB i | _ => false
/-- a name of the document: one to eight letters a to z -/
def azB (c : Nat) : Bool := decide (97 ≤ c) && decide (c ≤ 122)
theorem le_lo (c : Nat) : (!decide ((⟨#[c]⟩ : Str).cps.toList < (Str.ofString "a").cps.toList)) = decide (97 ≤ c) := by
  rw [show (Str.ofString "a").cps.toList = [97] by decide +kernel]
  simp [List.cons_lt_cons_iff]
  by_cases h : c < 97
  · rw [decide_eq_true h, decide_eq_false (by omega)]; rfl
  · rw [decide_eq_false h, decide_eq_true (by omega)]; rfl
theorem le_hi (c : Nat) : (!decide ((Str.ofString "z").cps.toList < (⟨#[c]⟩ : Str).cps.toList)) = decide (c ≤ 122) := by
  rw [show (Str.ofString "z").cps.toList = [122] by decide +kernel]
  simp [List.cons_lt_cons_iff]
  by_cases h : 122 < c
  · rw [decide_eq_true h, decide_eq_false (by omega)]; rfl
  · rw [decide_eq_false h, decide_eq_true (by omega)]; rfl
def nmB (z : Str) : Bool := decide (1 ≤ z.cps.size) && decide (z.cps.size ≤ 8) && z.cps.toList.all azB
def isNm : PyData → Bool | .str z => nmB z | _ => false
section
variable {P : Program} {w : World} {K : PySem.W.Frag} {mg : Str → Option Value} {base : Heap} {f : Addr} {fd : FuncData}
/-- a def of one thing that answers by what the thing is -/
def spB (K : PySem.W.Frag) (ok : PyData → Prop) (g : PyData → Bool) : Sp := fun vs H Q _ => ∃ (x : V) (d : PyData), vs = [x] ∧ Dp K H x d ∧ ok d ∧ ∀ H', Same H H' → Q (.bl (g d)) H'
abbrev sIsNumB : Stmt := top 7
theorem scIsNumB : FnScope ["thing"] ["thing"] (defScope sIsNumB) := ⟨rfl, rfl, rfl, by decide +kernel, rfl, by decide +kernel, by decide +kernel⟩
theorem ok_isNumB {k : Nat} (F : Fun K "is_number" "is_number" sIsNumB f fd) (m_isinstance : mg "isinstance" = none) (m_int : mg "int" = none) (m_bool : mg "bool" = none) :
    FnOk P w K mg base CX0 (k + 1) f fd ["thing"] (spB K (fun _ => True) isNum) := by
  have sc := scIsNumB
  refine F.ok sc (fun vs H Q E h => ?_) (fun cdv A outer s H vs Q E hr h => ?_)
  · obtain ⟨x, d, rfl, _⟩ := h
    rfl
  obtain ⟨x, d, rfl, hd, _, q⟩ := h
  replace q := q H (Same.refl _)
  refine ⟨_, (pss_one (ps_ret (pe_and (pe_callB call_isi (by rfl) m_isinstance (by decide +kernel) (pa_cons (pv 0) (pa_cons (pe_bltn (v := .ty "int") (by rfl) m_int (by decide +kernel) rfl) pa_nil))) (pe_one (pe_not (pe_callB call_isi (by rfl) m_isinstance (by decide +kernel) (pa_cons (pv 0) (pa_cons (pe_bltn (v := .ty "bool") (by rfl) m_bool (by decide +kernel) rfl) pa_nil)))))))), ?_⟩
  refine ⟨_, rfl, _, _, _, _, _, rfl, .ty _, ty_of hd, kit_ty (kI d), _, rfl, ?_⟩
  cases d with
  | int i => exact iteT ⟨_, rfl, _, _, _, _, _, rfl, .ty _, ty_of hd, kit_ty (kB _), _, rfl, q⟩
  | bool i => exact iteT ⟨_, rfl, _, _, _, _, _, rfl, .ty _, ty_of hd, kit_ty (kB _), _, rfl, q⟩
  | none => exact iteF q
  | str _ => exact iteF q
  | list _ => exact iteF q
  | tuple _ => exact iteF q
  | dict _ => exact iteF q
abbrev sIsValB : Stmt := top 8
theorem scIsValB : FnScope ["thing"] ["thing"] (defScope sIsValB) := ⟨rfl, rfl, rfl, by decide +kernel, rfl, by decide +kernel, by decide +kernel⟩
theorem ok_isValB {k : Nat} {t t' : Tok} (F : Fun K "is_value" "is_value" sIsValB f fd) (G : FnG P w K mg base CX0 k "is_number" ["thing"] (spB K (fun _ => True) isNum)) (m_LEAST : mg "LEAST_VALUE" = some (.int (-1000000) t)) (m_MOST : mg "MOST_VALUE" = some (.int 1000000 t')) :
    FnOk P w K mg base CX0 (k + 1) f fd ["thing"] (spB K (fun _ => True) isVal) := by
  obtain ⟨_, _, G_is_number, m_is_number, k_is_number, b_is_number⟩ := G
  have sc := scIsValB
  refine F.ok sc (fun vs H Q E h => ?_) (fun cdv A outer s H vs Q E hr h => ?_)
  · obtain ⟨x, d, rfl, _⟩ := h
    rfl
  obtain ⟨x, d, rfl, hd, _, q⟩ := h
  refine ⟨_, (pss_one (ps_ret (pe_and (pe_call G_is_number (hr.mono (by omega)) (by rfl) m_is_number k_is_number b_is_number .nil pass0 (pa_cons (pv 0) pa_nil)) (pe_one (pe_chain op_le op_le (pe_glob (v := .int (-1000000)) (by rfl) m_LEAST ⟨_, rfl⟩) (pv 0) (pe_glob (v := .int 1000000) (by rfl) m_MOST ⟨_, rfl⟩)))))), ?_⟩
  refine ⟨_, rfl, x, d, rfl, hd, trivial, fun H' s' => ⟨_, rfl, ?_⟩⟩
  replace q := q H' s'
  cases d with
  | int i =>
    cases hd
    refine iteT ⟨_, rfl, _, _, rfl, rfl, _, rfl, ite2 (fun c => ?_) (fun c => ?_)⟩
    · refine ⟨_, _, rfl, rfl, ?_⟩
      replace q : Q (.bl (decide (-1000000 ≤ i) && decide (i ≤ 1000000))) H' := q
      rw [c] at q
      exact q
    · replace q : Q (.bl (decide (-1000000 ≤ i) && decide (i ≤ 1000000))) H' := q
      rw [eq_false_of_ne_true c] at q
      exact q
  | bool i => exact iteF q
  | none => exact iteF q
  | str _ => exact iteF q
  | list _ => exact iteF q
  | tuple _ => exact iteF q
  | dict _ => exact iteF q
abbrev sIsName : Stmt := top 9
theorem scIsName : FnScope ["thing", "letter"] ["thing"] (defScope sIsName) := ⟨rfl, rfl, rfl, by decide +kernel, rfl, by decide +kernel, by decide +kernel⟩
def TxOk : PyData → Prop | .str z => z.length ≤ sizeLine | _ => True
theorem ok_isName {k : Nat} {t : Tok} (F : Fun K "is_name" "is_name" sIsName f fd) (m_isinstance : mg "isinstance" = none) (m_str : mg "str" = none) (m_len : mg "len" = none) (m_all : mg "all" = none) (m_LONGEST : mg "LONGEST_NAME" = some (.int 8 t)) :
    FnOk P w K mg base CX0 (k + 1) f fd ["thing"] (spB K TxOk isNm) := by
  have sc := scIsName
  refine F.ok sc (fun vs H Q E h => ?_) (fun cdv A outer s H vs Q E hr h => ?_)
  · obtain ⟨x, d, rfl, _⟩ := h
    rfl
  obtain ⟨x, d, rfl, hd, ok, q⟩ := h
  refine ⟨_, (pss_cons (ps_if (PW.pt (pw_or (pt_not (pt_val (pe_callB call_isi (by rfl) m_isinstance (by decide +kernel) (pa_cons (pv 0) (pa_cons (pe_bltn (v := .ty "str") (by rfl) m_str (by decide +kernel) rfl) pa_nil))))) (pw_or1 (pt_not (pt_chain op_le op_le pe_int (pe_callB call_len_str (by rfl) m_len (by decide +kernel) (pa_cons (pv 0) pa_nil)) (pe_glob (v := .int 8) (by rfl) m_LONGEST ⟨_, rfl⟩)))))) (pss_one (ps_ret pe_bl)) pss_nil)
      (pss_one (ps_ret (pe_callB (cr_all rfl) (by rfl) m_all (by decide +kernel) (pa_cons (pe_lc (own := [("letter", 1)]) (by rfl) sc.nd  (pi_str (pv 0)) (blkOk_by (own := [("letter", 1)]) (N := ["thing", "letter"]) (sc := defScope sIsName) (by decide +kernel)) (fun _ _ _ _ _ => (pg_name (i := 1) sc.nd rfl (.inl rfl))) (fun _ _ _ _ _ => pts_nil) (fun _ _ _ _ _ => (pe_chain op_le_str op_le_str pe_str (pv 1) pe_str))) pa_nil))))), ?_⟩
  refine ⟨_, rfl, _, _, _, _, _, rfl, .ty _, ty_of hd, kit_ty (kS d), _, rfl, ?_⟩
  have qH := q H (Same.refl _)
  cases d with
  | str z =>
    cases hd
    refine iteF ?_
    refine ⟨_, rfl, z, rfl, ok, 1, _, rfl, rfl, _, rfl, ite2 (fun c1 => ?_) (fun c1 => ?_)⟩
    · refine ⟨_, _, rfl, rfl, _, rfl, ?_⟩
      by_cases c2 : z.cps.size ≤ 8
      · have e2 : decide ((z.length : Int) ≤ 8) = true := decide_eq_true (by show (z.cps.size : Int) ≤ 8; omega)
        have c1' : 1 ≤ z.cps.size := by
          have := of_decide_eq_true c1
          have : (1 : Int) ≤ (z.cps.size : Nat) := this
          omega
        rw [e2]
        refine iteF ?_
        refine ⟨_, rfl, z, rfl, fun D nD => lc_it (walk_str (z := z)) (fun i H' => Same H H' ∧ H' D = some (.lst (((z.cps.toList.take i).map azB).map V.bl))) ⟨same_upd nD, upd_same⟩ (fun i H' _ _ => trivial) ?_ ?_⟩
        · rintro i v H1 H2 hi ⟨sm, hD⟩ ⟨rfl, c, hc, rfl⟩
          refine ⟨rfl, ?_⟩
          unfold tYes
          refine iteT ?_
          have fin : ∀ H1 : Hp, Same H H1 → H1 D = some (.lst (((z.cps.toList.take i).map azB).map V.bl)) → ∃ acc, H1 D = some (.lst acc) ∧ acc.length < sizeLine ∧ (Same H (upd H1 D (.lst (acc ++ [V.bl (azB c)]))) ∧ (upd H1 D (.lst (acc ++ [V.bl (azB c)]))) D = some (.lst (((z.cps.toList.take (i + 1)).map azB).map V.bl))) := fun H1 sm hD => by
            refine ⟨_, hD, ?_, fun b o h => ?_, ?_⟩
            · rw [List.length_map, List.length_map, List.length_take]
              exact Nat.lt_of_le_of_lt (Nat.min_le_left _ _) (Nat.lt_of_lt_of_le (Nat.lt_of_lt_of_le hi c2) (by decide))
            · rw [upd_ne (ne_of_none h nD)]
              exact sm _ _ h
            · rw [upd_same, List.take_succ, show z.cps.toList[i]? = some c by rw [← hc, Array.getElem?_toList], List.map_append, List.map_append]
              rfl
          refine ⟨_, rfl, _, _, rfl, rfl, _, rfl, ite2 (fun c3 => ?_) (fun c3 => ?_)⟩
          · refine ⟨_, _, rfl, rfl, ?_⟩
            have e : (!decide ((Str.ofString "z").cps.toList < (⟨#[c]⟩ : Str).cps.toList)) = azB c := by
              rw [le_lo] at c3
              rw [le_hi]
              unfold azB
              rw [c3]
              rfl
            show ∃ acc, _ ∧ _ ∧ _
            rw [e]
            exact fin _ sm hD
          · have e : false = azB c := by
              rw [le_lo] at c3
              unfold azB
              rw [eq_false_of_ne_true c3]
              rfl
            show ∃ acc, _ ∧ _ ∧ _
            rw [e]
            exact fin _ sm hD
        · rintro H1 ⟨sm, hD⟩
          refine ⟨D, z.cps.toList.map azB, rfl, SqL.of (by rw [hD, List.take_of_length_le (by rw [Array.length_toList]; exact Nat.le_refl _)]), ?_⟩
          rw [all_map]
          have := q _ sm
          rw [show isNm (.str z) = z.cps.toList.all azB by show nmB z = _; unfold nmB; rw [decide_eq_true c1', decide_eq_true c2]; rfl] at this
          exact this
      · have e2 : decide ((z.length : Int) ≤ 8) = false := decide_eq_false (by show ¬ (z.cps.size : Int) ≤ 8; omega)
        rw [e2]
        refine iteT ?_
        rw [show isNm (.str z) = false by show nmB z = _; unfold nmB; rw [decide_eq_false c2, Bool.and_false, Bool.false_and]] at qH
        exact qH
    · have c1' : ¬ 1 ≤ z.cps.size := fun h => c1 (decide_eq_true (by show (1 : Int) ≤ (z.cps.size : Nat); omega))
      refine ⟨_, rfl, iteT ?_⟩
      rw [show isNm (.str z) = false by show nmB z = _; unfold nmB; rw [decide_eq_false c1', Bool.false_and, Bool.false_and]] at qH
      exact qH
  | int i => exact iteT (iteT qH)
  | bool i => exact iteT (iteT qH)
  | none => exact iteT (iteT qH)
  | list _ => exact iteT (iteT qH)
  | tuple _ => exact iteT (iteT qH)
  | dict _ => exact iteT (iteT qH)
end
end Fd

set_option Elab.async false
set_option linter.all false
set_option maxRecDepth 100000
set_option maxHeartbeats 2000000
namespace Fd
open PySem PySem.Spec PyProof.Rows L2 RZ
/-! ### plain things: no dicts, small -/
def OkT (e : Nat) : Nat → PyData → Prop
  | 0, _ => False
  | _ + 1, .none => True
  | _ + 1, .bool _ => True
  | _ + 1, .int i => -(1000001 + 1000000 * (e : Int)) ≤ i ∧ i ≤ 1000001 + 1000000 * (e : Int)
  | _ + 1, .str z => z.cps.size ≤ 8 + e ∧ ∀ c ∈ z.cps.toList, c < 128
  | n + 1, .list ds => ds.length ≤ 8 + e ∧ ∀ d ∈ ds, OkT e n d
  | n + 1, .tuple ds => ds.length ≤ 8 + e ∧ ∀ d ∈ ds, OkT e n d
  | _ + 1, .dict _ => False
theorem OkT.mono {e e' : Nat} (he : e ≤ e') : ∀ {n m : Nat} {d : PyData}, OkT e n d → n ≤ m → OkT e' m d
  | 0, _, _, h, _ => h.elim
  | _ + 1, 0, _, _, h => absurd h (by omega)
  | _ + 1, _ + 1, .none, _, _ => trivial
  | _ + 1, _ + 1, .bool _, _, _ => trivial
  | _ + 1, _ + 1, .int i, h, _ => by
    obtain ⟨h1, h2⟩ := h
    exact ⟨by omega, by omega⟩
  | _ + 1, _ + 1, .str z, h, _ => ⟨Nat.le_trans h.1 (by omega), h.2⟩
  | n + 1, m + 1, .list ds, h, g => ⟨Nat.le_trans h.1 (by omega), fun d hd => OkT.mono he (h.2 d hd) (by omega)⟩
  | n + 1, m + 1, .tuple ds, h, g => ⟨Nat.le_trans h.1 (by omega), fun d hd => OkT.mono he (h.2 d hd) (by omega)⟩
  | _ + 1, _ + 1, .dict _, h, _ => h.elim
def OkA (d : PyData) : Prop := ∃ n, n ≤ 60 ∧ OkT 3 n d
theorem OkA.tx {d : PyData} (h : OkA d) : TxOk d := by
  obtain ⟨n, _, h⟩ := h
  cases d with
  | str z =>
    cases n with
    | zero => exact h.elim
    | succ n => exact Nat.le_trans h.1 (by decide)
  | _ => trivial
theorem OkA.kid {ds : List PyData} {d : PyData} (h : OkA (.tuple ds)) (hd : d ∈ ds) : OkA d := by
  obtain ⟨n, hn, h⟩ := h
  cases n with
  | zero => exact h.elim
  | succ n => exact ⟨n, by omega, h.2 d hd⟩
theorem OkA.len {ds : List PyData} (h : OkA (.tuple ds)) : ds.length ≤ 11 := by
  obtain ⟨n, _, h⟩ := h
  cases n with
  | zero => exact h.elim
  | succ n => exact h.1
theorem OkA.str {z : Str} (h : OkA (.str z)) : z.length ≤ sizeLine := OkA.tx h
theorem strOk_of {z : Str} (h : ∀ c ∈ z.cps.toList, c < 128) : PyData.strOk z = true := by
  unfold PyData.strOk
  rw [← Array.all_toList]
  refine List.all_eq_true.mpr fun c hc => ?_
  have := h c hc
  exact decide_eq_true (by omega)
theorem lay_all : ∀ {ds : List PyData}, (∀ d ∈ ds, d.canLay0 = true) → PyData.canLayAll0 ds = true
  | [], _ => rfl
  | d :: ds, h => by
    show (d.canLay0 && PyData.canLayAll0 ds) = true
    rw [h d (List.mem_cons_self ..), lay_all fun x hx => h x (List.mem_cons_of_mem _ hx)]
    rfl
theorem dep_all {n : Nat} : ∀ {ds : List PyData}, (∀ d ∈ ds, d.depth ≤ n) → PyData.depthAll ds ≤ n
  | [], _ => Nat.zero_le _
  | d :: ds, h => Nat.max_le.mpr ⟨h d (List.mem_cons_self ..), dep_all fun x hx => h x (List.mem_cons_of_mem _ hx)⟩
theorem OkT.lay {e : Nat} : ∀ {n : Nat} {d : PyData}, OkT e n d → d.canLay0 = true ∧ d.depth ≤ n
  | 0, _, h => h.elim
  | _ + 1, .none, _ => ⟨rfl, Nat.zero_le _⟩
  | _ + 1, .bool _, _ => ⟨rfl, Nat.zero_le _⟩
  | _ + 1, .int _, _ => ⟨rfl, Nat.zero_le _⟩
  | _ + 1, .str z, h => ⟨strOk_of h.2, Nat.zero_le _⟩
  | n + 1, .list ds, h => ⟨lay_all fun d hd => (h.2 d hd).lay.1, Nat.succ_le_succ (dep_all fun d hd => (h.2 d hd).lay.2)⟩
  | n + 1, .tuple ds, h => ⟨lay_all fun d hd => (h.2 d hd).lay.1, Nat.succ_le_succ (dep_all fun d hd => (h.2 d hd).lay.2)⟩
  | _ + 1, .dict _, h => h.elim
theorem OkA.shaped {d : PyData} (h : OkA d) : SeqAt.shaped d = true := by
  obtain ⟨n, hn, h⟩ := h
  obtain ⟨h1, h2⟩ := h.lay
  unfold SeqAt.shaped
  rw [h1, decide_eq_true (by omega)]
  rfl
/-! ### what a part is -/
def pkL : List Fw.PK := [("look", "name", ["name"]), ("look", "plus", ["look", "look"]), ("look", "minus", ["look", "look"]), ("look", "by", ["look", "look"]), ("look", "over", ["look", "look"]), ("look", "rest", ["look", "look"]),
  ("look", "item", ["list", "look"]), ("look", "many", ["list"]), ("look", "x", []), ("look", "y", []), ("look", "way", []), ("look", "number", []), ("test", "like", ["look", "look"]), ("test", "below", ["look", "look"]),
  ("test", "not", ["test"]), ("test", "both", ["test", "test"]), ("test", "any", ["test", "test"]), ("test", "meets", ["figure"])]
theorem cut_tail (x : V) (xs : List V) : cutV (x :: xs) (some 1) none = xs := by
  unfold cutV
  rw [show HT.sIx (x :: xs).length 0 (some 1) = min 1 (x :: xs).length from HT.sIx_nat .., HT.sIx_none, List.length_cons, Nat.min_eq_left (by omega)]
  exact List.take_of_length_le (Nat.le_refl _)
def gP (k : List Str) : Option (List Str) := (pkL.find? fun p => decide (Fw.key p = k)).map (·.2.2)
abbrev kindsV : List V := [.str "name", .str "list", .str "figure"]
def isKd (k : Str) : Bool := inV (.str k) kindsV
def isWd : PyData → Bool | .tuple (.str _ :: _) => true | _ => false
def hasP (f : Str → PyData → Bool) (kind : Str) : PyData → Bool
  | .tuple (.str w :: r) => match gP [kind, w] with
    | none => false
    | some ks => decide (r.length = ks.length) && (r.zip ks).all fun p => f p.2 p.1
  | _ => false
def isPart : Nat → Str → PyData → Bool
  | 0, k, d => if isKd k then isNm d else false
  | n + 1, k, d => if isKd k then isNm d else (decide (k = "look") && isVal d) || hasP (isPart n) k d
section
variable {P : Program} {w : World} {K : PySem.W.Frag} {mg : Str → Option Value} {base : Heap} {f : Addr} {fd : FuncData}
abbrev sIsWd : Stmt := top 13
theorem scIsWd : FnScope ["thing"] ["thing"] (defScope sIsWd) := ⟨rfl, rfl, rfl, by decide +kernel, rfl, by decide +kernel, by decide +kernel⟩
theorem ok_isWd {k : Nat} (F : Fun K "is_worded" "is_worded" sIsWd f fd) (m_isinstance : mg "isinstance" = none) (m_tuple : mg "tuple" = none) (m_str : mg "str" = none) (m_len : mg "len" = none) :
    FnOk P w K mg base CX0 (k + 1) f fd ["thing"] (spB K (fun _ => True) isWd) := by
  have sc := scIsWd
  refine F.ok sc (fun vs H Q E h => ?_) (fun cdv A outer s H vs Q E hr h => ?_)
  · obtain ⟨x, d, rfl, _⟩ := h
    rfl
  obtain ⟨x, d, rfl, hd, ok, q⟩ := h
  refine ⟨_, (pss_one (ps_ret (pe_and (pe_callB call_isi (by rfl) m_isinstance (by decide +kernel) (pa_cons (pv 0) (pa_cons (pe_bltn (v := .ty "tuple") (by rfl) m_tuple (by decide +kernel) rfl) pa_nil))) (pe_and (pe_cmpR op_gt (pe_callB call_len_seq (by rfl) m_len (by decide +kernel) (pa_cons (pv 0) pa_nil)) pe_int (nomark _)) (pe_one (pe_callB call_isi (by rfl) m_isinstance (by decide +kernel) (pa_cons (pe_ix ix_tup (pv 0) pe_int (fun _ _ => rfl)) (pa_cons (pe_bltn (v := .ty "str") (by rfl) m_str (by decide +kernel) rfl) pa_nil)))))))), ?_⟩
  have qH := q H (Same.refl _)
  refine ⟨_, rfl, _, _, _, _, _, rfl, .ty _, ty_of hd, kit_ty (kT d), _, rfl, ?_⟩
  cases d with
  | tuple ds =>
    cases hd with | @tup a xs _ ha ax =>
    refine iteT ⟨_, rfl, a, xs, rfl, .inr ha, _, _, rfl, rfl, _, rfl, ?_⟩
    cases ax with
    | nil => exact iteF qH
    | @cons v vs d ds hv hvs =>
      refine ite2 (fun c => ?_) (fun c => absurd (decide_eq_true (by show (0 : Int) < ((vs.length + 1 : Nat) : Int); omega)) c)
      refine ⟨_, rfl, a, _, 0, v, rfl, rfl, ha, atI_nat (j := 0) rfl, _, _, _, _, _, rfl, .ty _, ty_of hv, kit_ty (kS d), ?_⟩
      cases d <;> exact qH
  | int i => exact iteF qH
  | bool i => exact iteF qH
  | none => exact iteF qH
  | list _ => exact iteF qH
  | str _ => exact iteF qH
  | dict _ => exact iteF qH
abbrev sHas : Stmt := top 14
theorem scHas : FnScope ["thing", "kind", "deep", "kinds", "part", "wanted"] ["thing", "kind", "deep"] (defScope sHas) := ⟨rfl, rfl, rfl, by decide +kernel, rfl, by decide +kernel, by decide +kernel⟩
def spPart (K : PySem.W.Frag) (n : Nat) : Sp := fun vs H Q _ => ∃ (x : V) (k : Str) (d : PyData), vs = [x, .str k, .int n] ∧ Dp K H x d ∧ OkA d ∧ ∀ H', Same H H' → Q (.bl (isPart n k d)) H'
def spHas (K : PySem.W.Frag) (n : Nat) : Sp := fun vs H Q _ => ∃ (x : V) (k : Str) (d : PyData), vs = [x, .str k, .int (n + 1 : Nat)] ∧ Dp K H x d ∧ OkA d ∧ ∀ H', Same H H' → Q (.bl (hasP (isPart n) k d)) H'
theorem ok_has {k n : Nat} {dP : Addr} (F : Fun K "has_parts" "has_parts" sHas f fd) (GW : FnG P w K mg base CX0 k "is_worded" ["thing"] (spB K (fun _ => True) isWd)) (GP : FnG P w K mg base CX0 k "is_part" ["thing", "kind", "deep"] (spPart K n))
    (m_len : mg "len" = none) (m_all : mg "all" = none) (m_zip : mg "zip" = none) (m_PARTS : mg "PARTS" = some (.ref dP)) (hP : Fw.Parts P w K dP gP) :
    FnOk P w K mg base CX0 (k + 1) f fd ["thing", "kind", "deep"] (spHas K n) := by
  obtain ⟨_, _, G_is_worded, m_is_worded, k_is_worded, b_is_worded⟩ := GW
  obtain ⟨_, _, G_is_part, m_is_part, k_is_part, b_is_part⟩ := GP
  have sc := scHas
  refine F.ok sc (fun vs H Q E h => ?_) (fun cdv A outer s H vs Q E hr h => ?_)
  · obtain ⟨x, kd, d, rfl, _⟩ := h
    rfl
  obtain ⟨x, kd, d, rfl, hd, ok, q⟩ := h
  refine ⟨_, (pss_cons (ps_if (pt_not (pt_val (pe_call G_is_worded (hr.mono (by omega)) (by rfl) m_is_worded k_is_worded b_is_worded .nil pass0 (pa_cons (pv 0) pa_nil)))) (pss_one (ps_ret pe_bl)) pss_nil)
      (pss_cons (ps_set (i := 3) sc.nd rfl (.inl rfl) (Fw.pe_pget hP (hu_of hr) (pe_glob (v := .ref dP) (by rfl) m_PARTS rfl) (pa_cons (pe_tup (pa_cons (pv 1) (pa_cons (pe_ix ix_tup (pv 0) pe_int (fun _ _ => rfl)) pa_nil))) pa_nil)))
      (pss_cons (ps_if (PW.pt (pw_or (pt_cmpR op_isN (pv 3) pe_non (nomark _)) (pw_or1 (pt_cmpR op_ne (pe_callB call_len_seq (by rfl) m_len (by decide +kernel) (pa_cons (pv 0) pa_nil)) (pe_op op_add (pe_callB call_len_seq (by rfl) m_len (by decide +kernel) (pa_cons (pv 3) pa_nil)) pe_int) (nomark _))))) (pss_one (ps_ret pe_bl)) pss_nil)
      (pss_one (ps_ret (pe_callB (cr_all rfl) (by rfl) m_all (by decide +kernel) (pa_cons (pe_lc (own := [("part", 4), ("wanted", 5)]) (g := gTup K 2 (gCons (gName 4) (gCons (gName 5) gNil))) (by rfl) sc.nd  (pi_zipA (by rfl) m_zip (pa_cons (pe_slice sl_tup (pv 0) (po_some pe_int) po_none) (pa_cons (pv 3) pa_nil))) (blkOk_by (own := [("part", 4), ("wanted", 5)]) (N := ["thing", "kind", "deep", "kinds", "part", "wanted"]) (sc := defScope sHas) (by decide +kernel)) (fun _ _ _ _ _ => (pg_tup (by rfl) (pgs_cons (pg_name (i := 4) sc.nd rfl (.inl rfl)) (pgs_cons (pg_name (i := 5) sc.nd rfl (.inl rfl)) pgs_nil)))) (fun _ _ _ _ _ => pts_nil) (fun _ _ _ _ _ => (pe_call G_is_part (hr.mono (by omega)) (by rfl) m_is_part k_is_part b_is_part .nil pass0 (pa_cons (pv 4) (pa_cons (pv 5) (pa_cons (pe_op op_sub (pv 2) pe_int) pa_nil)))))) pa_nil))))))), ?_⟩
  refine ⟨_, rfl, x, d, rfl, hd, trivial, fun H1 s1 => ⟨_, rfl, ?_⟩⟩
  replace hd := dp_same s1 _ _ hd
  have q1 := q H1 s1
  by_cases hw : isWd d = true
  · rw [hw]
    refine iteF ?_
    obtain ⟨z, ds, rfl⟩ : ∃ z ds, d = .tuple (.str z :: ds) := by
      unfold isWd at hw
      split at hw
      · exact ⟨_, _, rfl⟩
      · cases hw
    have okl := ok.len
    rw [List.length_cons] at okl
    cases hd with | @tup a xs _ ha ax =>
    cases ax with | @cons v vs _ _ hv hvs =>
    cases hv
    have le := dpAll_len hvs
    refine ⟨rfl, _, rfl, _, rfl, a, _, 0, _, rfl, rfl, ha, atI_nat (j := 0) rfl, by show 2 ≤ sizeLine; decide, fun p np => ⟨p, kd, z, rfl, upd_same, fun gn => ?_, fun b zs gs hb => ?_⟩⟩
    · refine ⟨_, rfl, rfl, _, rfl, iteT (iteT ?_)⟩
      have := q _ (s1.trans (same_upd (o := .tup [.str kd, .str z]) np))
      rw [show hasP (isPart n) kd (.tuple (.str z :: ds)) = false by unfold hasP; dsimp only; rw [gn]] at this
      exact this
    · have sp := same_upd (o := .tup [.str kd, .str z]) np
      have ha2 := seqT sp ha
      refine ⟨_, rfl, rfl, _, rfl, iteF ?_⟩
      have hq : ∀ H', Same (upd H1 p (.tup [.str kd, .str z])) H' → Q (.bl (decide (ds.length = zs.length) && (ds.zip zs).all fun p => isPart n p.2 p.1)) H' := fun H' s' => by
        have := q H' (s1.trans (sp.trans s'))
        rw [show hasP (isPart n) kd (.tuple (.str z :: ds)) = (decide (ds.length = zs.length) && (ds.zip zs).all fun p => isPart n p.2 p.1) by unfold hasP; dsimp only; rw [gs]] at this
        exact this
      refine ⟨_, rfl, a, _, rfl, .inr ha2, _, rfl, b, _, rfl, .inr hb, _, 1, rfl, rfl, rfl, _, rfl, ite2 (fun c => ?_) (fun c => ?_)⟩
      · have h := hq _ (Same.refl _)
        rw [decide_eq_false (fun e : ds.length = zs.length => by
          rw [decide_eq_true (by rw [List.length_cons, List.length_map, le, e]; rfl)] at c
          cases c), Bool.false_and] at h
        exact h
      · have le2 : ds.length = zs.length := Decidable.byContradiction fun e => c (by
          rw [decide_eq_false (fun z => e (by
            have z : ((vs.length + 1 : Nat) : Int) = ((zs.map V.str).length : Nat) + 1 := V.int.inj z
            rw [List.length_map] at z
            omega))]
          rfl)
        refine ⟨_, rfl, 1, rfl, a, _, rfl, ha2, fun z => ?_, fun e ne => ?_⟩
        · have := z.1
          rw [show HT.sIx (V.str _ :: vs).length 0 (some 1) = min 1 (V.str _ :: vs).length from HT.sIx_nat .., List.length_cons] at this
          omega
        rw [cut_tail]
        have se := same_upd (o := .tup vs) ne
        have lz : (zs.map V.str).length = zs.length := List.length_map ..
        refine ⟨_, rfl, e, b, vs, zs.map V.str, rfl, .inr ⟨SqT.of upd_same, seqT se hb, fun D nD => lc_it (walk_zipT (xs := vs) (ys := zs.map V.str) rfl) (fun i H' => Same (upd (upd H1 p (.tup [.str kd, .str z])) e (.tup vs)) H' ∧ H' D = some (.lst ((((ds.zip zs).take i).map fun p => isPart n p.2 p.1).map V.bl))) ⟨same_upd nD, upd_same⟩
          (fun i H' _ h => ⟨seqT h.1 (SqT.of upd_same), seqT (se.trans h.1) hb⟩) ?_ ?_⟩⟩
        · rintro i v H3 H4 hi ⟨sm, hD⟩ ⟨T, x, y, rfl, nT, rfl, ex, ey⟩
          obtain ⟨d, ed, dx⟩ := dpAll_at (dpAll_same ((sp.trans se).trans sm) ds vs hvs) ex
          obtain ⟨y', ez, rfl⟩ : ∃ y', zs[i]? = some y' ∧ y = .str y' := by
            replace ey : (zs.map V.str)[i]? = some y := ey
            rw [List.getElem?_map] at ey
            cases h : zs[i]? with
            | none => rw [h] at ey; cases ey
            | some u => rw [h] at ey; exact ⟨u, rfl, (Option.some.inj ey).symm⟩
          have sT := same_upd (o := .tup [x, .str y']) nT
          refine ⟨T, _, rfl, .inl (.inl upd_same), rfl, _, _, rfl, _, _, rfl, rfl, rfl, ?_⟩
          unfold tYes
          refine iteT ?_
          refine ⟨_, rfl, _, rfl, _, rfl, _, _, rfl, rfl, x, y', d, congrArg (fun i => [x, V.str y', V.int i]) (by show ((n + 1 : Nat) : Int) - 1 = n; omega), dp_same sT _ _ dx, ok.kid (List.mem_cons_of_mem _ (List.mem_of_getElem? ed)), fun H5 s5 => ⟨_, s5 _ _ (sT _ _ hD), ?_, ?_, ?_⟩⟩
          · rw [List.length_map, List.length_map, List.length_take]
            exact small1000 (by omega)
          · intro b' o' h'
            rw [upd_ne (ne_of_none h' nD)]
            exact s5 _ _ (sT _ _ (sm _ _ h'))
          · rw [upd_same, List.take_succ, show (ds.zip zs)[i]? = some (d, y') by rw [List.getElem?_zip_eq_some]; exact ⟨ed, ez⟩, List.map_append, List.map_append]
            rfl
        · rintro H3 ⟨sm, hD⟩
          refine ⟨D, (ds.zip zs).map fun p => isPart n p.2 p.1, rfl, SqL.of (by rw [hD, List.take_of_length_le (by rw [List.length_zip, lz, le]; exact Nat.le_refl _)]), ?_⟩
          rw [all_map]
          have h := hq _ (se.trans sm)
          rw [decide_eq_true le2, Bool.true_and] at h
          exact h
  · have e : hasP (isPart n) kd d = false := by
      unfold hasP
      split
      · exact absurd rfl hw
      · rfl
    rw [e] at q1
    rw [eq_false_of_ne_true hw]
    exact iteT q1
abbrev sPart : Stmt := top 12
theorem scPart : FnScope ["thing", "kind", "deep"] ["thing", "kind", "deep"] (defScope sPart) := ⟨rfl, rfl, rfl, by decide +kernel, rfl, by decide +kernel, by decide +kernel⟩
theorem eq_str {x y : Str} : decide (V.str x = V.str y) = decide (x = y) := by
  by_cases h : x = y
  · rw [h, decide_eq_true rfl, decide_eq_true rfl]
  · rw [decide_eq_false h, decide_eq_false fun z => h (V.str.inj z)]
theorem ok_part {k n : Nat} {nK : Addr} (F : Fun K "is_part" "is_part" sPart f fd) (GN : FnG P w K mg base CX0 k "is_name" ["thing"] (spB K TxOk isNm)) (GV : FnG P w K mg base CX0 k "is_value" ["thing"] (spB K (fun _ => True) isVal))
    (GH : ∀ m, n = m + 1 → FnG P w K mg base CX0 k "has_parts" ["thing", "kind", "deep"] (spHas K m)) (GH' : ∃ f fd, FnOk P w K mg base CX0 k f fd ["thing", "kind", "deep"] (fun _ _ _ _ => False) ∧ mg "has_parts" = some (.ref f) ∧ PySem.W.keepIn K (.ref f) = true ∧ Binds K fd ["thing", "kind", "deep"] [])
    (m_NAME_KINDS : mg "NAME_KINDS" = some (.ref nK)) (hK : ∀ H, SqT K H nK kindsV) : FnOk P w K mg base CX0 (k + 1) f fd ["thing", "kind", "deep"] (spPart K n) := by
  obtain ⟨_, _, G_is_name, m_is_name, k_is_name, b_is_name⟩ := GN
  obtain ⟨_, _, G_is_value, m_is_value, k_is_value, b_is_value⟩ := GV
  obtain ⟨sp, ⟨_, _, G_has_parts, m_has_parts, k_has_parts, b_has_parts⟩, hsp⟩ : ∃ sp, FnG P w K mg base CX0 k "has_parts" ["thing", "kind", "deep"] sp ∧ ∀ m, n = m + 1 → sp = spHas K m := by
    cases n with
    | zero => exact ⟨_, GH', fun m e => nomatch e⟩
    | succ m => exact ⟨_, GH m rfl, fun m' e => by cases e; rfl⟩
  have sc := scPart
  refine F.ok sc (fun vs H Q E h => ?_) (fun cdv A outer s H vs Q E hr h => ?_)
  · obtain ⟨x, kd, d, rfl, _⟩ := h
    rfl
  obtain ⟨x, kd, d, rfl, hd, ok, q⟩ := h
  refine ⟨_, (pss_cons (ps_if (pt_cmpR op_in_seq (pv 1) (pe_glob (v := .ref nK) (by rfl) m_NAME_KINDS rfl) (by rfl)) (pss_one (ps_ret (pe_call G_is_name (hr.mono (by omega)) (by rfl) m_is_name k_is_name b_is_name .nil pass0 (pa_cons (pv 0) pa_nil)))) pss_nil)
      (pss_cons (ps_if (pt_cmpR op_lt (pv 2) pe_int (nomark _)) (pss_one (ps_ret pe_bl)) pss_nil)
      (pss_cons (ps_if (PW.pt (pw_and (pt_cmpR op_eq (pv 1) pe_str (nomark _)) (pw_and1 (pt_val (pe_call G_is_value (hr.mono (by omega)) (by rfl) m_is_value k_is_value b_is_value .nil pass0 (pa_cons (pv 0) pa_nil)))))) (pss_one (ps_ret pe_bl)) pss_nil)
      (pss_one (ps_ret (pe_call G_has_parts (hr.mono (by omega)) (by rfl) m_has_parts k_has_parts b_has_parts .nil pass0 (pa_cons (pv 0) (pa_cons (pv 1) (pa_cons (pv 2) pa_nil))))))))), ?_⟩
  refine ⟨_, rfl, nK, kindsV, rfl, .inr (hK H), rfl, by decide, _, rfl, ite2 (fun c => ?_) (fun c => ?_)⟩
  · have c : isKd kd = true := c
    refine ⟨_, rfl, x, d, rfl, hd, ok.tx, fun H' s' => ?_⟩
    have h := q H' s'
    rw [show isPart n kd d = isNm d by cases n <;> (unfold isPart; rw [c]; rfl)] at h
    exact h
  have c : isKd kd = false := eq_false_of_ne_true c
  refine ⟨_, rfl, _, _, rfl, rfl, _, rfl, ite2 (fun c2 => ?_) (fun c2 => ?_)⟩
  · have : n = 0 := by
      have := of_decide_eq_true c2
      omega
    subst this
    have h := q H (Same.refl _)
    rw [show isPart 0 kd d = false by unfold isPart; rw [c]; rfl] at h
    exact h
  obtain ⟨m, rfl⟩ : ∃ m, n = m + 1 := by
    cases n with
    | zero => exact absurd (decide_eq_true (by decide)) c2
    | succ m => exact ⟨m, rfl⟩
  have e : isPart (m + 1) kd d = ((decide (kd = "look") && isVal d) || hasP (isPart m) kd d) := by
    show (if isKd kd then isNm d else _) = _
    rw [c]
    rfl
  have last : (decide (kd = "look") && isVal d) = false → ∀ H1, Same H H1 → spHas K m [x, .str kd, .int (m + 1 : Nat)] H1 Q E := fun h0 H1 s1 => ⟨x, kd, d, rfl, dp_same s1 _ _ hd, ok, fun H' s' => by
    have h := q H' (s1.trans s')
    rw [e, h0, Bool.false_or] at h
    exact h⟩
  refine ⟨_, rfl, rfl, _, rfl, ?_⟩
  rw [eq_str]
  refine ite2 (fun c3 => ?_) (fun c3 => iteF ⟨_, rfl, _, rfl, _, rfl, ?_⟩)
  · refine ⟨_, rfl, x, d, rfl, hd, trivial, fun H1 s1 => ⟨_, rfl, ?_⟩⟩
    by_cases c4 : isVal d = true
    · rw [c4]
      refine iteT ?_
      have h := q H1 s1
      rw [e, c3, c4] at h
      exact h
    · rw [eq_false_of_ne_true c4]
      refine iteF ⟨_, rfl, _, rfl, _, rfl, ?_⟩
      rw [hsp m rfl]
      exact last (by rw [eq_false_of_ne_true c4, Bool.and_false]) H1 s1
  · rw [hsp m rfl]
    exact last (by rw [eq_false_of_ne_true c3, Bool.false_and]) H (Same.refl _)
end
end Fd

set_option Elab.async false
set_option linter.all false
set_option maxRecDepth 100000
set_option maxHeartbeats 2000000
namespace Fd
open PySem PySem.Spec PyProof.Rows L2 RZ
section
variable {P : Program} {w : World} {K : PySem.W.Frag} {mg : Str → Option Value} {base : Heap} {f f' : Addr} {fd fd' : FuncData}
theorem ok_parts {dP nK : Addr} (DP : Df K mg "is_part" sPart ["thing", "kind", "deep"] f fd) (DH : Df K mg "has_parts" sHas ["thing", "kind", "deep"] f' fd')
    (GN : FnG P w K mg base CX0 3 "is_name" ["thing"] (spB K TxOk isNm)) (GV : FnG P w K mg base CX0 3 "is_value" ["thing"] (spB K (fun _ => True) isVal)) (GW : FnG P w K mg base CX0 3 "is_worded" ["thing"] (spB K (fun _ => True) isWd))
    (m_len : mg "len" = none) (m_all : mg "all" = none) (m_zip : mg "zip" = none) (m_PARTS : mg "PARTS" = some (.ref dP)) (hP : Fw.Parts P w K dP gP)
    (m_NAME_KINDS : mg "NAME_KINDS" = some (.ref nK)) (hK : ∀ H, SqT K H nK kindsV) : ∀ n, FnG P w K mg base CX0 (2 * n + 4) "is_part" ["thing", "kind", "deep"] (spPart K n)
  | 0 => DP.g (ok_part (k := 3) (n := 0) DP.F GN GV (fun m e => nomatch e) ⟨f', fd', ⟨fun _ _ _ _ h => h.elim, fun _ _ _ _ _ _ _ _ _ _ _ _ _ h => h.elim⟩, DH.m, DH.F.kp, DH.b⟩ m_NAME_KINDS hK)
  | n + 1 => by
    have GH := DH.g (ok_has (k := 2 * n + 4) (n := n) DH.F (GW.mono (by omega)) (ok_parts DP DH GN GV GW m_len m_all m_zip m_PARTS hP m_NAME_KINDS hK n) m_len m_all m_zip m_PARTS hP)
    exact DP.g (ok_part (k := 2 * n + 4 + 1) (n := n + 1) DP.F (GN.mono (by omega)) (GV.mono (by omega)) (fun m e => by cases e; exact GH) ⟨f', fd', ⟨fun _ _ _ _ h => h.elim, fun _ _ _ _ _ _ _ _ _ _ _ _ _ h => h.elim⟩, DH.m, DH.F.kp, DH.b⟩ m_NAME_KINDS hK)
abbrev sIsLk : Stmt := top 10
theorem scIsLk : FnScope ["thing"] ["thing"] (defScope sIsLk) := ⟨rfl, rfl, rfl, by decide +kernel, rfl, by decide +kernel, by decide +kernel⟩
theorem ok_isLk {k : Nat} {t : Tok} (F : Fun K "is_look" "is_look" sIsLk f fd) (G : FnG P w K mg base CX0 k "is_part" ["thing", "kind", "deep"] (spPart K 6)) (m_DEEPEST : mg "DEEPEST" = some (.int 6 t)) :
    FnOk P w K mg base CX0 (k + 1) f fd ["thing"] (spB K OkA (isPart 6 "look")) := by
  obtain ⟨_, _, G_is_part, m_is_part, k_is_part, b_is_part⟩ := G
  have sc := scIsLk
  refine F.ok sc (fun vs H Q E h => ?_) (fun cdv A outer s H vs Q E hr h => ?_)
  · obtain ⟨x, d, rfl, _⟩ := h
    rfl
  obtain ⟨x, d, rfl, hd, ok, q⟩ := h
  refine ⟨_, (pss_one (ps_ret (pe_call G_is_part (hr.mono (by omega)) (by rfl) m_is_part k_is_part b_is_part .nil pass0 (pa_cons (pv 0) (pa_cons pe_str (pa_cons (pe_glob (v := .int 6) (by rfl) m_DEEPEST ⟨_, rfl⟩) pa_nil)))))), ?_⟩
  exact ⟨_, rfl, x, _, d, rfl, hd, ok, q⟩
abbrev sIsTs : Stmt := top 11
theorem scIsTs : FnScope ["thing"] ["thing"] (defScope sIsTs) := ⟨rfl, rfl, rfl, by decide +kernel, rfl, by decide +kernel, by decide +kernel⟩
theorem ok_isTs {k : Nat} {t : Tok} (F : Fun K "is_test" "is_test" sIsTs f fd) (G : FnG P w K mg base CX0 k "is_part" ["thing", "kind", "deep"] (spPart K 6)) (m_DEEPEST : mg "DEEPEST" = some (.int 6 t)) :
    FnOk P w K mg base CX0 (k + 1) f fd ["thing"] (spB K OkA (isPart 6 "test")) := by
  obtain ⟨_, _, G_is_part, m_is_part, k_is_part, b_is_part⟩ := G
  have sc := scIsTs
  refine F.ok sc (fun vs H Q E h => ?_) (fun cdv A outer s H vs Q E hr h => ?_)
  · obtain ⟨x, d, rfl, _⟩ := h
    rfl
  obtain ⟨x, d, rfl, hd, ok, q⟩ := h
  refine ⟨_, (pss_one (ps_ret (pe_call G_is_part (hr.mono (by omega)) (by rfl) m_is_part k_is_part b_is_part .nil pass0 (pa_cons (pv 0) (pa_cons pe_str (pa_cons (pe_glob (v := .int 6) (by rfl) m_DEEPEST ⟨_, rfl⟩) pa_nil)))))), ?_⟩
  exact ⟨_, rfl, x, _, d, rfl, hd, ok, q⟩
end
/-! ### parts of written things -/
theorem kd_look : isKd "look" = false := by decide +kernel
theorem kd_test : isKd "test" = false := by decide +kernel
theorem part_nm {n : Nat} {k : Str} {d : PyData} (h : isKd k = true) : isPart n k d = isNm d := by
  cases n <;> (unfold isPart; rw [h]; rfl)
theorem nm_of {z : Str} (h : IsNm z) : isNm (.str z) = true := by
  show nmB z = true
  unfold nmB
  rw [decide_eq_true h.1, decide_eq_true h.2.1, Bool.true_and]
  exact List.all_eq_true.mpr fun c hc => by
    unfold azB
    rw [decide_eq_true (h.2.2 c hc).1, decide_eq_true (h.2.2 c hc).2]
    rfl
theorem look_num {n : Nat} {i : Int} : isPart (n + 1) "look" (.int i) = inB i := by
  show (if isKd "look" then _ else (decide (("look" : Str) = "look") && inB i) || false) = _
  rw [kd_look, decide_eq_true rfl, Bool.true_and, Bool.or_false]
  rfl
theorem look_tup {n : Nat} {z : Str} {r : List PyData} {ks : List Str} (h : gP ["look", z] = some ks) : isPart (n + 1) "look" (.tuple (.str z :: r)) = (decide (r.length = ks.length) && (r.zip ks).all fun p => isPart n p.2 p.1) := by
  show (if isKd "look" then _ else (decide (("look" : Str) = "look") && false) || hasP (isPart n) "look" (.tuple (.str z :: r))) = _
  rw [kd_look, Bool.and_false, Bool.false_or]
  show hasP (isPart n) "look" (.tuple (.str z :: r)) = _
  unfold hasP
  dsimp only
  rw [h]
theorem test_tup {n : Nat} {z : Str} {r : List PyData} {ks : List Str} (h : gP ["test", z] = some ks) : isPart (n + 1) "test" (.tuple (.str z :: r)) = (decide (r.length = ks.length) && (r.zip ks).all fun p => isPart n p.2 p.1) := by
  show (if isKd "test" then _ else (decide (("test" : Str) = "look") && false) || hasP (isPart n) "test" (.tuple (.str z :: r))) = _
  rw [kd_test, Bool.and_false, Bool.false_or]
  show hasP (isPart n) "test" (.tuple (.str z :: r)) = _
  unfold hasP
  dsimp only
  rw [h]
theorem look_0 {d : PyData} : isPart 0 "look" d = false := by unfold isPart; rw [kd_look]; rfl
theorem test_0 {d : PyData} : isPart 0 "test" d = false := by unfold isPart; rw [kd_test]; rfl
/-- two looks under a word -/
theorem look_two {n : Nat} {z : Str} {a b : PyData} (h : gP ["look", z] = some (["look", "look"] : List Str)) : isPart (n + 1) "look" (.tuple [.str z, a, b]) = (isPart n "look" a && isPart n "look" b) := by
  rw [look_tup h]
  show (true && (isPart n "look" a && (isPart n "look" b && true))) = _
  rw [Bool.true_and, Bool.and_true]
end Fd

set_option Elab.async false
set_option linter.all false
set_option maxRecDepth 100000
set_option maxHeartbeats 2000000
namespace Fd
open PySem PySem.Spec PyProof.Rows L2
/-! ### looks and tests written as tuples -/
def lkD : Lk → PyData
  | .num i => .int i
  | .name x => .tuple [.str "name", .str x]
  | .many x => .tuple [.str "many", .str x]
  | .item x a => .tuple [.str "item", .str x, lkD a]
  | .spot k => .tuple [.str (spotWords.getD k "")]
  | .bin o a b => .tuple [.str o.word, lkD a, lkD b]
def tsD : Ts → PyData
  | .like a b => .tuple [.str "like", lkD a, lkD b]
  | .less a b => .tuple [.str "below", lkD a, lkD b]
  | .not_ t => .tuple [.str "not", tsD t]
  | .both t u => .tuple [.str "both", tsD t, tsD u]
  | .any_ t u => .tuple [.str "any", tsD t, tsD u]
  | .meets x => .tuple [.str "meets", .str x]
/-- names are names, values in their bounds -/
def LkF : Lk → Prop
  | .num i => inB i = true
  | .name x => IsNm x
  | .many x => IsNm x
  | .item x a => IsNm x ∧ LkF a
  | .spot k => k < 4
  | .bin _ a b => LkF a ∧ LkF b
def TsF : Ts → Prop
  | .like a b => LkF a ∧ LkF b
  | .less a b => LkF a ∧ LkF b
  | .not_ t => TsF t
  | .both t u => TsF t ∧ TsF u
  | .any_ t u => TsF t ∧ TsF u
  | .meets x => IsNm x
theorem d1 {K : PySem.W.Frag} {H : Hp} {v : V} {d : PyData} (h : Dp K H v (.tuple [d])) : ∃ a x, v = .ref a ∧ SqT K H a [x] ∧ Dp K H x d := by
  cases h with | tup q r => cases r with | cons r1 r => cases r; exact ⟨_, _, rfl, q, r1⟩
theorem d2 {K : PySem.W.Frag} {H : Hp} {v : V} {d d' : PyData} (h : Dp K H v (.tuple [d, d'])) : ∃ a x y, v = .ref a ∧ SqT K H a [x, y] ∧ Dp K H x d ∧ Dp K H y d' := by
  cases h with | tup q r => cases r with | cons r1 r => cases r with | cons r2 r => cases r; exact ⟨_, _, _, rfl, q, r1, r2⟩
theorem d3 {K : PySem.W.Frag} {H : Hp} {v : V} {d d' d'' : PyData} (h : Dp K H v (.tuple [d, d', d''])) : ∃ a x y z, v = .ref a ∧ SqT K H a [x, y, z] ∧ Dp K H x d ∧ Dp K H y d' ∧ Dp K H z d'' := by
  cases h with | tup q r => cases r with | cons r1 r => cases r with | cons r2 r => cases r with | cons r3 r => cases r; exact ⟨_, _, _, _, rfl, q, r1, r2, r3⟩
theorem dpS {K : PySem.W.Frag} {H : Hp} {v : V} {x : Str} (h : Dp K H v (.str x)) : v = .str x := by cases h; rfl
/-! ### what is_look, is_test say of them -/
theorem inB_in {i : Int} (h : inB i = true) : -1000000 ≤ i ∧ i ≤ 1000000 := by
  unfold inB at h
  rw [Bool.and_eq_true] at h
  exact ⟨of_decide_eq_true h.1, of_decide_eq_true h.2⟩
theorem and_le {a b n : Nat} : (decide (a ≤ n) && decide (b ≤ n)) = decide (max a b + 1 ≤ n + 1) := by
  by_cases h1 : a ≤ n <;> by_cases h2 : b ≤ n
  · rw [decide_eq_true h1, decide_eq_true h2, decide_eq_true (by omega)]; rfl
  · rw [decide_eq_true h1, decide_eq_false h2, decide_eq_false (by omega)]; rfl
  · rw [decide_eq_false h1, Bool.false_and, decide_eq_false (show ¬ (max a b + 1 ≤ n + 1) by omega)]
  · rw [decide_eq_false h1, Bool.false_and, decide_eq_false (show ¬ (max a b + 1 ≤ n + 1) by omega)]
theorem le_le {a n : Nat} : decide (a ≤ n) = decide (a + 1 ≤ n + 1) := by
  by_cases h : a ≤ n
  · rw [decide_eq_true h, decide_eq_true (by omega)]
  · rw [decide_eq_false h, decide_eq_false (by omega)]
theorem deep_pos : ∀ L : Lk, 1 ≤ L.deep
  | .num _ => by simp [Lk.deep]
  | .name _ => by simp [Lk.deep]
  | .many _ => by simp [Lk.deep]
  | .item _ _ => by simp [Lk.deep]
  | .spot _ => by simp [Lk.deep]
  | .bin _ _ _ => by simp [Lk.deep]
theorem deepT_pos : ∀ t : Ts, 1 ≤ t.deep := fun t => by cases t <;> simp [Ts.deep]
theorem part_lk : ∀ (n : Nat) (L : Lk), LkF L → isPart n "look" (lkD L) = decide (L.deep ≤ n)
  | 0, L, _ => by rw [look_0, decide_eq_false (by have := deep_pos L; omega)]
  | n + 1, .num i, o => by
    show isPart (n + 1) "look" (.int i) = _
    rw [look_num, show inB i = true from o, decide_eq_true (by show 1 ≤ n + 1; omega)]
  | n + 1, .name x, o => by
    show isPart (n + 1) "look" (.tuple [.str "name", .str x]) = _
    rw [look_tup (ks := ["name"]) (by decide +kernel), decide_eq_true (show (Lk.name x).deep ≤ n + 1 by show 1 ≤ n + 1; omega)]
    show (true && (isPart n "name" (.str x) && true)) = _
    rw [part_nm (by decide +kernel), nm_of o]; rfl
  | n + 1, .many x, o => by
    show isPart (n + 1) "look" (.tuple [.str "many", .str x]) = _
    rw [look_tup (ks := ["list"]) (by decide +kernel), decide_eq_true (show (Lk.many x).deep ≤ n + 1 by show 1 ≤ n + 1; omega)]
    show (true && (isPart n "list" (.str x) && true)) = _
    rw [part_nm (by decide +kernel), nm_of o]; rfl
  | n + 1, .item x L, o => by
    show isPart (n + 1) "look" (.tuple [.str "item", .str x, lkD L]) = _
    rw [look_tup (ks := ["list", "look"]) (by decide +kernel)]
    show (true && (isPart n "list" (.str x) && (isPart n "look" (lkD L) && true))) = _
    rw [part_nm (by decide +kernel), nm_of o.1, part_lk n L o.2, Bool.true_and, Bool.true_and, Bool.and_true]
    exact le_le
  | n + 1, .spot k, o => by
    have o : k < 4 := o
    rw [decide_eq_true (show (Lk.spot k).deep ≤ n + 1 by show 1 ≤ n + 1; omega)]
    have : k = 0 ∨ k = 1 ∨ k = 2 ∨ k = 3 := by omega
    rcases this with rfl | rfl | rfl | rfl
    · show isPart (n + 1) "look" (.tuple [.str "x"]) = _
      rw [look_tup (ks := []) (by decide +kernel)]; rfl
    · show isPart (n + 1) "look" (.tuple [.str "y"]) = _
      rw [look_tup (ks := []) (by decide +kernel)]; rfl
    · show isPart (n + 1) "look" (.tuple [.str "way"]) = _
      rw [look_tup (ks := []) (by decide +kernel)]; rfl
    · show isPart (n + 1) "look" (.tuple [.str "number"]) = _
      rw [look_tup (ks := []) (by decide +kernel)]; rfl
  | n + 1, .bin p L M, o => by
    show isPart (n + 1) "look" (.tuple [.str p.word, lkD L, lkD M]) = _
    rw [look_two (by cases p <;> decide +kernel), part_lk n L o.1, part_lk n M o.2]
    exact and_le
theorem part_ts : ∀ (n : Nat) (t : Ts), TsF t → isPart n "test" (tsD t) = decide (t.deep ≤ n)
  | 0, t, _ => by rw [test_0, decide_eq_false (by have := deepT_pos t; omega)]
  | n + 1, .like L M, o => by
    show isPart (n + 1) "test" (.tuple [.str "like", lkD L, lkD M]) = _
    rw [test_tup (ks := ["look", "look"]) (by decide +kernel)]
    show (true && (isPart n "look" (lkD L) && (isPart n "look" (lkD M) && true))) = _
    rw [part_lk n L o.1, part_lk n M o.2, Bool.true_and, Bool.and_true]
    exact and_le
  | n + 1, .less L M, o => by
    show isPart (n + 1) "test" (.tuple [.str "below", lkD L, lkD M]) = _
    rw [test_tup (ks := ["look", "look"]) (by decide +kernel)]
    show (true && (isPart n "look" (lkD L) && (isPart n "look" (lkD M) && true))) = _
    rw [part_lk n L o.1, part_lk n M o.2, Bool.true_and, Bool.and_true]
    exact and_le
  | n + 1, .not_ t, o => by
    show isPart (n + 1) "test" (.tuple [.str "not", tsD t]) = _
    rw [test_tup (ks := ["test"]) (by decide +kernel)]
    show (true && (isPart n "test" (tsD t) && true)) = _
    rw [part_ts n t o, Bool.true_and, Bool.and_true]
    exact le_le
  | n + 1, .both t u, o => by
    show isPart (n + 1) "test" (.tuple [.str "both", tsD t, tsD u]) = _
    rw [test_tup (ks := ["test", "test"]) (by decide +kernel)]
    show (true && (isPart n "test" (tsD t) && (isPart n "test" (tsD u) && true))) = _
    rw [part_ts n t o.1, part_ts n u o.2, Bool.true_and, Bool.and_true]
    exact and_le
  | n + 1, .any_ t u, o => by
    show isPart (n + 1) "test" (.tuple [.str "any", tsD t, tsD u]) = _
    rw [test_tup (ks := ["test", "test"]) (by decide +kernel)]
    show (true && (isPart n "test" (tsD t) && (isPart n "test" (tsD u) && true))) = _
    rw [part_ts n t o.1, part_ts n u o.2, Bool.true_and, Bool.and_true]
    exact and_le
  | n + 1, .meets x, o => by
    show isPart (n + 1) "test" (.tuple [.str "meets", .str x]) = _
    rw [test_tup (ks := ["figure"]) (by decide +kernel), decide_eq_true (show (Ts.meets x).deep ≤ n + 1 by show 1 ≤ n + 1; omega)]
    show (true && (isPart n "figure" (.str x) && true)) = _
    rw [part_nm (by decide +kernel), nm_of o]; rfl
theorem okt_str {n : Nat} {x : Str} (h : IsNm x) : OkT 3 (n + 1) (.str x) := ⟨Nat.le_trans h.2.1 (by decide), fun c hc => by have := (h.2.2 c hc).2; omega⟩
theorem okt_w {n : Nat} {x : Str} (h1 : x.cps.size ≤ 8) (h2 : x.cps.all (· < 128) = true) : OkT 3 (n + 1) (.str x) :=
  ⟨Nat.le_trans h1 (by decide), fun c hc => by
    rw [Array.all_eq_true'] at h2
    exact of_decide_eq_true (h2 c (Array.mem_toList_iff.mp hc))⟩
theorem okt_1 {n : Nat} {a : PyData} (h : OkT 3 n a) : OkT 3 (n + 1) (.tuple [a]) := ⟨by show 1 ≤ 11; decide, fun d hd => by rw [List.mem_singleton.mp hd]; exact h⟩
theorem okt_2 {n : Nat} {a b : PyData} (h : OkT 3 n a) (h' : OkT 3 n b) : OkT 3 (n + 1) (.tuple [a, b]) := ⟨by show 2 ≤ 11; decide, fun d hd => by
  simp only [List.mem_cons, List.not_mem_nil, or_false] at hd
  rcases hd with rfl | rfl
  · exact h
  · exact h'⟩
theorem okt_3 {n : Nat} {a b c : PyData} (h : OkT 3 n a) (h' : OkT 3 n b) (h'' : OkT 3 n c) : OkT 3 (n + 1) (.tuple [a, b, c]) := ⟨by show 3 ≤ 11; decide, fun d hd => by
  simp only [List.mem_cons, List.not_mem_nil, or_false] at hd
  rcases hd with rfl | rfl | rfl
  · exact h
  · exact h'
  · exact h''⟩
theorem okt_lk : ∀ L : Lk, LkF L → OkT 3 (L.deep + 1) (lkD L)
  | .num i, o => by
    have := inB_in o
    show OkT 3 2 (.int i)
    exact ⟨by omega, by omega⟩
  | .name x, o => okt_2 (n := 1) (okt_w (by decide +kernel) (by decide +kernel)) (okt_str o)
  | .many x, o => okt_2 (n := 1) (okt_w (by decide +kernel) (by decide +kernel)) (okt_str o)
  | .item x L, o => okt_3 (n := L.deep + 1) (okt_w (by decide +kernel) (by decide +kernel)) (okt_str o.1) (okt_lk L o.2)
  | .spot k, o => by
    have o : k < 4 := o
    have : k = 0 ∨ k = 1 ∨ k = 2 ∨ k = 3 := by omega
    rcases this with rfl | rfl | rfl | rfl <;> exact okt_1 (n := 1) (okt_w (by decide +kernel) (by decide +kernel))
  | .bin p L M, o => okt_3 (n := max L.deep M.deep + 1) (okt_w (by cases p <;> decide +kernel) (by cases p <;> decide +kernel)) ((okt_lk L o.1).mono (Nat.le_refl _) (by omega)) ((okt_lk M o.2).mono (Nat.le_refl _) (by omega))
theorem okt_ts : ∀ t : Ts, TsF t → OkT 3 (t.deep + 1) (tsD t)
  | .like L M, o => okt_3 (n := max L.deep M.deep + 1) (okt_w (by decide +kernel) (by decide +kernel)) ((okt_lk L o.1).mono (Nat.le_refl _) (by omega)) ((okt_lk M o.2).mono (Nat.le_refl _) (by omega))
  | .less L M, o => okt_3 (n := max L.deep M.deep + 1) (okt_w (by decide +kernel) (by decide +kernel)) ((okt_lk L o.1).mono (Nat.le_refl _) (by omega)) ((okt_lk M o.2).mono (Nat.le_refl _) (by omega))
  | .not_ t, o => okt_2 (n := t.deep + 1) (okt_w (by decide +kernel) (by decide +kernel)) (okt_ts t o)
  | .both t u, o => okt_3 (n := max t.deep u.deep + 1) (okt_w (by decide +kernel) (by decide +kernel)) ((okt_ts t o.1).mono (Nat.le_refl _) (by omega)) ((okt_ts u o.2).mono (Nat.le_refl _) (by omega))
  | .any_ t u, o => okt_3 (n := max t.deep u.deep + 1) (okt_w (by decide +kernel) (by decide +kernel)) ((okt_ts t o.1).mono (Nat.le_refl _) (by omega)) ((okt_ts u o.2).mono (Nat.le_refl _) (by omega))
  | .meets x, o => okt_2 (n := 1) (okt_w (by decide +kernel) (by decide +kernel)) (okt_str o)
end Fd

set_option Elab.async false
set_option linter.all false
set_option maxRecDepth 100000
set_option maxHeartbeats 2000000
namespace Fd
open PySem PySem.Spec PyProof.Rows L2 RZ
/-! ### x in t, of any data, t a tuple -/
def rInDT (K : PySem.W.Frag) : R2 := fun x y H Q => ∃ d ds, Dp K H x d ∧ Dp K H y (.tuple ds) ∧ SeqAt.shaped d = true ∧ PyData.canLayAll0 ds = true ∧ PyData.depthAll ds ≤ 60 ∧ Q (.bl (ds.any fun z => PyData.eqv z d)) H
theorem op_inDT {X : Cx} (hu : X.A.units + 64 < cLine) : OpR X (compareOp .In) (rInDT X.K) := by
  intro pins s σ H x y v u Q I rx ry h
  obtain ⟨d, ds, hd, he, sd, se, sf, q⟩ := h
  obtain ⟨as, r1⟩ := Dp.reads I d x v hd rx
  obtain ⟨bs, r2⟩ := Dp.reads I (.tuple ds) y u he ry
  refine SeqAt.in_tuple_reads r2 r1 se (SeqAt.canLay_of_shaped sd) (Nat.lt_of_le_of_lt ?_ hu) ⟨.bl _, H, I, rfl, q⟩
  have : min (PyData.depthAll ds) d.depth ≤ 60 := Nat.le_trans (Nat.min_le_left _ _) sf
  omega
/-! ### what a block is -/
def dLst : List Fw.SP := [("move", ["look"]), ("turn", ["look"]), ("place", ["look", "look"]), ("show", []), ("hide", []), ("say", ["look"]), ("set", ["own", "look"]), ("add", ["own", "look"]), ("put", ["list", "look"]), ("drop", ["list", "look"]), ("write", ["list", "look", "look"]), ("wait", ["look"]),
  ("until", ["test"]), ("if", ["test", "block", "block"]), ("times", ["look", "block"]), ("while", ["test", "block"]), ("ever", ["block"]), ("do", ["piece", "looks"]), ("tell", ["news"]), ("await", ["news"]), ("copy", ["figure"]), ("end", []), ("stop", ["word"])]
def gD (k : Str) : Option (List Str) := (dLst.find? fun q => decide (q.1 = k)).map (·.2)
def rowB (a b : Nat) : PyData → Bool
  | .tuple ds => decide (a ≤ ds.length) && decide (ds.length ≤ b)
  | _ => false
def looksB : PyData → Bool
  | .tuple ds => decide (ds.length ≤ 2) && ds.all (isPart 6 "look")
  | _ => false
abbrev stopW : List Str := ["run", "others", "all"]
def wordB (d : PyData) : Bool := (stopW.map PyData.str).any fun z => PyData.eqv z d
def isNn : PyData → Bool | .none => true | _ => false
def dpB (f : PyData → Bool) (k : Str) (d : PyData) : Bool :=
  if decide (k = "look") = true then isPart 6 "look" d else if decide (k = "test") = true then isPart 6 "test" d else if decide (k = "block") = true then f d else if decide (k = "looks") = true then looksB d else if decide (k = "word") = true then wordB d else (decide (k = "figure") && isNn d) || isNm d
def deedB (f : PyData → Bool) : PyData → Bool
  | .tuple (.str w :: r) => match gD w with
    | none => false
    | some ks => decide (r.length = ks.length) && (r.zip ks).all fun p => dpB f p.2 p.1
  | _ => false
def innerB : Nat → PyData → Bool
  | 0, _ => false
  | n + 1, .tuple ds => decide (ds.length ≤ 8) && ds.all (deedB (innerB n))
  | _ + 1, _ => false
section
variable {P : Program} {w : World} {K : PySem.W.Frag} {mg : Str → Option Value} {base : Heap} {f : Addr} {fd : FuncData}
abbrev sRow : Stmt := top 33
theorem scRow : FnScope ["thing", "least", "most"] ["thing", "least", "most"] (defScope sRow) := ⟨rfl, rfl, rfl, by decide +kernel, rfl, by decide +kernel, by decide +kernel⟩
def spRow (K : PySem.W.Frag) : Sp := fun vs H Q _ => ∃ (x : V) (d : PyData) (a b : Nat), vs = [x, .int a, .int b] ∧ Dp K H x d ∧ Q (.bl (rowB a b d)) H
theorem ok_row {k : Nat} (F : Fun K "is_row" "is_row" sRow f fd) (m_isinstance : mg "isinstance" = none) (m_tuple : mg "tuple" = none) (m_len : mg "len" = none) : FnOk P w K mg base CX0 (k + 1) f fd ["thing", "least", "most"] (spRow K) := by
  have sc := scRow
  refine F.ok sc (fun vs H Q E h => ?_) (fun cdv A outer s H vs Q E hr h => ?_)
  · obtain ⟨x, d, a, b, rfl, _⟩ := h
    rfl
  obtain ⟨x, d, a, b, rfl, hd, q⟩ := h
  refine ⟨_, (pss_one (ps_ret (pe_and (pe_callB call_isi (by rfl) m_isinstance (by decide +kernel) (pa_cons (pv 0) (pa_cons (pe_bltn (v := .ty "tuple") (by rfl) m_tuple (by decide +kernel) rfl) pa_nil))) (pe_one (pe_chain op_le op_le (pv 1) (pe_callB call_len_seq (by rfl) m_len (by decide +kernel) (pa_cons (pv 0) pa_nil)) (pv 2)))))), ?_⟩
  refine ⟨_, rfl, _, _, _, _, _, rfl, .ty _, ty_of hd, kit_ty (kT d), _, rfl, ?_⟩
  cases d with
  | tuple ds =>
    cases hd with | @tup p xs _ ha ax =>
    have le := dpAll_len ax
    replace q : Q (.bl (decide (a ≤ ds.length) && decide (ds.length ≤ b))) H := q
    refine iteT ⟨_, rfl, _, rfl, p, xs, rfl, .inr ha, _, _, rfl, rfl, _, rfl, ite2 (fun c => ?_) (fun c => ?_)⟩
    · have c' : (a : Int) ≤ (xs.length : Nat) := of_decide_eq_true c
      refine ⟨_, rfl, _, _, rfl, rfl, ?_⟩
      rw [decide_eq_true (show a ≤ ds.length by omega), Bool.true_and] at q
      show Q (.bl (decide (((xs.length : Nat) : Int) ≤ (b : Int)))) H
      rw [show decide (((xs.length : Nat) : Int) ≤ (b : Int)) = decide (ds.length ≤ b) from by
        by_cases h : ds.length ≤ b
        · rw [decide_eq_true h, decide_eq_true (by omega)]
        · rw [decide_eq_false h, decide_eq_false (by omega)]]
      exact q
    · have c' : ¬ a ≤ ds.length := fun h => c (decide_eq_true (by omega))
      rw [decide_eq_false c', Bool.false_and] at q
      exact q
  | int i => exact iteF q
  | bool i => exact iteF q
  | none => exact iteF q
  | list _ => exact iteF q
  | str _ => exact iteF q
  | dict _ => exact iteF q
def spDP (K : PySem.W.Frag) (n : Nat) : Sp := fun vs H Q _ => ∃ (x : V) (k : Str) (d : PyData), vs = [x, .str k, .int (n + 1 : Nat)] ∧ Dp K H x d ∧ OkA d ∧ ∀ H', Same H H' → Q (.bl (dpB (innerB n) k d)) H'
def spDeed (K : PySem.W.Frag) (n : Nat) : Sp := fun vs H Q _ => ∃ (x : V) (d : PyData), vs = [x, .int (n + 1 : Nat)] ∧ Dp K H x d ∧ OkA d ∧ ∀ H', Same H H' → Q (.bl (deedB (innerB n) d)) H'
def spInner (K : PySem.W.Frag) (n : Nat) : Sp := fun vs H Q _ => ∃ (x : V) (d : PyData), vs = [x, .int (n : Nat)] ∧ Dp K H x d ∧ OkA d ∧ ∀ H', Same H H' → Q (.bl (innerB n d)) H'
abbrev sDP : Stmt := top 39
theorem scDP : FnScope ["part", "kind", "deep", "look"] ["part", "kind", "deep"] (defScope sDP) := ⟨rfl, rfl, rfl, by decide +kernel, rfl, by decide +kernel, by decide +kernel⟩
/-- all of a tuple's things asked one by one -/
theorem ok_dp {k n : Nat} {sW : Addr} {t : Tok} (F : Fun K "is_deed_part" "is_deed_part" sDP f fd) (GN : FnG P w K mg base CX0 k "is_name" ["thing"] (spB K TxOk isNm)) (GL : FnG P w K mg base CX0 k "is_look" ["thing"] (spB K OkA (isPart 6 "look"))) (GT : FnG P w K mg base CX0 k "is_test" ["thing"] (spB K OkA (isPart 6 "test")))
    (GR : FnG P w K mg base CX0 k "is_row" ["thing", "least", "most"] (spRow K)) (GI : FnG P w K mg base CX0 k "is_inner_block" ["thing", "deep"] (spInner K n)) (m_all : mg "all" = none) (m_MOST_PARAMS : mg "MOST_PARAMS" = some (.int 2 t)) (m_STOP_WORDS : mg "STOP_WORDS" = some (.ref sW)) (hW : ∀ H, SqT K H sW (stopW.map V.str)) :
    FnOk P w K mg base CX0 (k + 1) f fd ["part", "kind", "deep"] (spDP K n) := by
  obtain ⟨_, _, G_is_name, m_is_name, k_is_name, b_is_name⟩ := GN
  obtain ⟨_, _, G_is_look, m_is_look, k_is_look, b_is_look⟩ := GL
  obtain ⟨_, _, G_is_test, m_is_test, k_is_test, b_is_test⟩ := GT
  obtain ⟨_, _, G_is_row, m_is_row, k_is_row, b_is_row⟩ := GR
  obtain ⟨_, _, G_is_inner_block, m_is_inner_block, k_is_inner_block, b_is_inner_block⟩ := GI
  have sc := scDP
  refine F.ok sc (fun vs H Q E h => ?_) (fun cdv A outer s H vs Q E hr h => ?_)
  · obtain ⟨x, k, d, rfl, _⟩ := h
    rfl
  obtain ⟨x, kd, d, rfl, hd, ok, q⟩ := h
  refine ⟨_, (pss_cons (ps_if (pt_cmpR op_eq (pv 1) pe_str (nomark _)) (pss_one (ps_ret (pe_call G_is_look (hr.mono (by omega)) (by rfl) m_is_look k_is_look b_is_look .nil pass0 (pa_cons (pv 0) pa_nil)))) pss_nil)
      (pss_cons (ps_if (pt_cmpR op_eq (pv 1) pe_str (nomark _)) (pss_one (ps_ret (pe_call G_is_test (hr.mono (by omega)) (by rfl) m_is_test k_is_test b_is_test .nil pass0 (pa_cons (pv 0) pa_nil)))) pss_nil)
      (pss_cons (ps_if (pt_cmpR op_eq (pv 1) pe_str (nomark _)) (pss_one (ps_ret (pe_call G_is_inner_block (hr.mono (by omega)) (by rfl) m_is_inner_block k_is_inner_block b_is_inner_block .nil pass0 (pa_cons (pv 0) (pa_cons (pe_op op_sub (pv 2) pe_int) pa_nil))))) pss_nil)
      (pss_cons (ps_if (pt_cmpR op_eq (pv 1) pe_str (nomark _)) (pss_one (ps_ret (pe_and (pe_call G_is_row (hr.mono (by omega)) (by rfl) m_is_row k_is_row b_is_row .nil pass0 (pa_cons (pv 0) (pa_cons pe_int (pa_cons (pe_glob (v := .int 2) (by rfl) m_MOST_PARAMS ⟨_, rfl⟩) pa_nil)))) (pe_one (pe_callB (cr_all rfl) (by rfl) m_all (by decide +kernel) (pa_cons (pe_lc (own := [("look", 3)]) (by rfl) sc.nd  (pi_tup (pv 0)) (blkOk_by (own := [("look", 3)]) (N := ["part", "kind", "deep", "look"]) (sc := defScope sDP) (by decide +kernel)) (fun _ _ _ _ _ => (pg_name (i := 3) sc.nd rfl (.inl rfl))) (fun _ _ _ _ _ => pts_nil) (fun _ _ _ _ _ => (pe_call G_is_look (hr.mono (by omega)) (by rfl) m_is_look k_is_look b_is_look .nil pass0 (pa_cons (pv 3) pa_nil)))) pa_nil)))))) pss_nil)
      (pss_cons (ps_if (pt_cmpR op_eq (pv 1) pe_str (nomark _)) (pss_one (ps_ret (pe_cmpR (op_inDT hr.units) (pv 0) (pe_glob (v := .ref sW) (by rfl) m_STOP_WORDS rfl) (by rfl)))) pss_nil)
      (pss_cons (ps_if (PW.pt (pw_and (pt_cmpR op_eq (pv 1) pe_str (nomark _)) (pw_and1 (pt_cmpR op_isN (pv 0) pe_non (nomark _))))) (pss_one (ps_ret pe_bl)) pss_nil)
      (pss_one (ps_ret (pe_call G_is_name (hr.mono (by omega)) (by rfl) m_is_name k_is_name b_is_name .nil pass0 (pa_cons (pv 0) pa_nil)))))))))), ?_⟩
  unfold dpB at q
  refine ⟨_, rfl, rfl, _, rfl, ?_⟩
  rw [eq_str]
  refine ite2 (fun c => ⟨_, rfl, x, d, rfl, hd, ok, fun H' s' => ?_⟩) (fun c => ?_)
  · have h := q H' s'
    rw [if_pos c] at h
    exact h
  refine ⟨_, rfl, rfl, _, rfl, ?_⟩
  rw [eq_str]
  refine ite2 (fun c2 => ⟨_, rfl, x, d, rfl, hd, ok, fun H' s' => ?_⟩) (fun c2 => ?_)
  · have h := q H' s'
    rw [if_neg c, if_pos c2] at h
    exact h
  refine ⟨_, rfl, rfl, _, rfl, ?_⟩
  rw [eq_str]
  refine ite2 (fun c3 => ⟨_, rfl, _, rfl, _, _, rfl, rfl, x, d, congrArg (fun i => [x, V.int i]) (by show ((n + 1 : Nat) : Int) - 1 = n; omega), hd, ok, fun H' s' => ?_⟩) (fun c3 => ?_)
  · have h := q H' s'
    rw [if_neg c, if_neg c2, if_pos c3] at h
    exact h
  refine ⟨_, rfl, rfl, _, rfl, ?_⟩
  rw [eq_str]
  refine ite2 (fun c4 => ⟨_, rfl, x, d, 0, 2, rfl, hd, _, rfl, ?_⟩) (fun c4 => ?_)
  · replace q : ∀ H', Same H H' → Q (.bl (looksB d)) H' := fun H' s' => by
      have h := q H' s'
      rw [if_neg c, if_neg c2, if_neg c3, if_pos c4] at h
      exact h
    cases d with
    | tuple ds =>
      cases hd with | @tup p xs _ ha ax =>
      have le := dpAll_len ax
      show if (decide (0 ≤ ds.length) && decide (ds.length ≤ 2)) = true then _ else _
      rw [decide_eq_true (Nat.zero_le ds.length), Bool.true_and]
      replace q : ∀ H', Same H H' → Q (.bl (decide (ds.length ≤ 2) && ds.all (isPart 6 "look"))) H' := q
      refine ite2 (fun c5 => ?_) (fun c5 => ?_)
      · have okl := ok.len
        refine ⟨_, rfl, p, rfl, ⟨_, ha⟩, fun D nD => lc_it (walk_tup (xs := xs)) (fun i H' => Same H H' ∧ H' D = some (.lst (((ds.take i).map (isPart 6 "look")).map V.bl))) ⟨same_upd nD, upd_same⟩ (fun i H' _ h => seqT h.1 ha) ?_ ?_⟩
        · rintro i v H1 _ hi ⟨sm, hD⟩ ⟨rfl, ex⟩
          obtain ⟨d, ed, dx⟩ := dpAll_at (dpAll_same sm ds xs ax) ex
          refine ⟨rfl, ?_⟩
          unfold tYes
          refine iteT ⟨_, rfl, v, d, rfl, dx, ok.kid (List.mem_of_getElem? ed), fun H5 s5 => ⟨_, s5 _ _ hD, ?_, ?_, ?_⟩⟩
          · rw [List.length_map, List.length_map, List.length_take]
            exact small1000 (by omega)
          · intro b' o' h'
            rw [upd_ne (ne_of_none h' nD)]
            exact s5 _ _ (sm _ _ h')
          · rw [upd_same, List.take_succ, ed, List.map_append, List.map_append]
            rfl
        · rintro H3 ⟨sm, hD⟩
          refine ⟨D, ds.map (isPart 6 "look"), rfl, SqL.of (by rw [hD, List.take_of_length_le (by rw [le]; exact Nat.le_refl _)]), ?_⟩
          rw [all_map]
          have h := q _ sm
          rw [c5, Bool.true_and] at h
          exact h
      · have h := q H (Same.refl _)
        rw [eq_false_of_ne_true c5, Bool.false_and] at h
        exact h
    | int i => exact iteF (q H (Same.refl _))
    | bool i => exact iteF (q H (Same.refl _))
    | none => exact iteF (q H (Same.refl _))
    | list _ => exact iteF (q H (Same.refl _))
    | str _ => exact iteF (q H (Same.refl _))
    | dict _ => exact iteF (q H (Same.refl _))
  refine ⟨_, rfl, rfl, _, rfl, ?_⟩
  rw [eq_str]
  refine ite2 (fun c5 => ⟨_, rfl, d, stopW.map PyData.str, hd, .tup (hW H) (.cons (.str _) (.cons (.str _) (.cons (.str _) .nil))), ok.shaped, by decide +kernel, by decide +kernel, ?_⟩) (fun c5 => ?_)
  · have h := q H (Same.refl _)
    rw [if_neg c, if_neg c2, if_neg c3, if_neg c4, if_pos c5] at h
    exact h
  replace q : ∀ H', Same H H' → Q (.bl ((decide (kd = "figure") && isNn d) || isNm d)) H' := fun H' s' => by
    have h := q H' s'
    rw [if_neg c, if_neg c2, if_neg c3, if_neg c4, if_neg c5] at h
    exact h
  refine ⟨_, rfl, rfl, _, rfl, ?_⟩
  rw [eq_str]
  have last : (decide (kd = "figure") && isNn d) = false → spB K TxOk isNm [x] H Q E0 := fun h0 => ⟨x, d, rfl, hd, ok.tx, fun H' s' => by
    have h := q H' s'
    rw [h0, Bool.false_or] at h
    exact h⟩
  refine ite2 (fun c6 => ?_) (fun c6 => iteF ⟨_, rfl, last (by rw [eq_false_of_ne_true c6, Bool.false_and])⟩)
  refine ⟨_, rfl, rfl, _, rfl, ?_⟩
  cases d with
  | none =>
    cases hd
    refine iteT ?_
    have h := q H (Same.refl _)
    rw [c6] at h
    exact h
  | tuple ds => cases hd; exact iteF ⟨_, rfl, last (by rw [Bool.and_eq_false_iff]; exact .inr rfl)⟩
  | int i => cases hd; exact iteF ⟨_, rfl, last (by rw [Bool.and_eq_false_iff]; exact .inr rfl)⟩
  | bool i => cases hd; exact iteF ⟨_, rfl, last (by rw [Bool.and_eq_false_iff]; exact .inr rfl)⟩
  | list _ => cases hd; exact iteF ⟨_, rfl, last (by rw [Bool.and_eq_false_iff]; exact .inr rfl)⟩
  | str _ => cases hd; exact iteF ⟨_, rfl, last (by rw [Bool.and_eq_false_iff]; exact .inr rfl)⟩
  | dict _ => cases hd
end
end Fd

set_option Elab.async false
set_option linter.all false
set_option maxRecDepth 100000
set_option maxHeartbeats 2000000
namespace Fd
open PySem PySem.Spec PyProof.Rows L2 RZ
section
variable {P : Program} {w : World} {K : PySem.W.Frag} {mg : Str → Option Value} {base : Heap} {f : Addr} {fd : FuncData}
abbrev sDeed : Stmt := top 38
theorem scDeed : FnScope ["thing", "deep", "kinds", "part", "kind"] ["thing", "deep"] (defScope sDeed) := ⟨rfl, rfl, rfl, by decide +kernel, rfl, by decide +kernel, by decide +kernel⟩
theorem ok_deed {k n : Nat} {dD : Addr} (F : Fun K "is_deed" "is_deed" sDeed f fd) (GW : FnG P w K mg base CX0 k "is_worded" ["thing"] (spB K (fun _ => True) isWd)) (GP : FnG P w K mg base CX0 k "is_deed_part" ["part", "kind", "deep"] (spDP K n))
    (m_len : mg "len" = none) (m_all : mg "all" = none) (m_zip : mg "zip" = none) (m_DEEDS : mg "DEEDS" = some (.ref dD)) (hD : Fw.Deeds P w K dD gD) :
    FnOk P w K mg base CX0 (k + 1) f fd ["thing", "deep"] (spDeed K n) := by
  obtain ⟨_, _, G_is_worded, m_is_worded, k_is_worded, b_is_worded⟩ := GW
  obtain ⟨_, _, G_is_deed_part, m_is_deed_part, k_is_deed_part, b_is_deed_part⟩ := GP
  have sc := scDeed
  refine F.ok sc (fun vs H Q E h => ?_) (fun cdv A outer s H vs Q E hr h => ?_)
  · obtain ⟨x, d, rfl, _⟩ := h
    rfl
  obtain ⟨x, d, rfl, hd, ok, q⟩ := h
  refine ⟨_, (pss_cons (ps_if (pt_not (pt_val (pe_call G_is_worded (hr.mono (by omega)) (by rfl) m_is_worded k_is_worded b_is_worded .nil pass0 (pa_cons (pv 0) pa_nil)))) (pss_one (ps_ret pe_bl)) pss_nil)
      (pss_cons (ps_set (i := 2) sc.nd rfl (.inl rfl) (Fw.pe_dgetT hD (pe_glob (v := .ref dD) (by rfl) m_DEEDS rfl) (pa_cons (pe_ix ix_tup (pv 0) pe_int (fun _ _ => rfl)) pa_nil)))
      (pss_cons (ps_if (PW.pt (pw_or (pt_cmpR op_isN (pv 2) pe_non (nomark _)) (pw_or1 (pt_cmpR op_ne (pe_callB call_len_seq (by rfl) m_len (by decide +kernel) (pa_cons (pv 0) pa_nil)) (pe_op op_add (pe_callB call_len_seq (by rfl) m_len (by decide +kernel) (pa_cons (pv 2) pa_nil)) pe_int) (nomark _))))) (pss_one (ps_ret pe_bl)) pss_nil)
      (pss_one (ps_ret (pe_callB (cr_all rfl) (by rfl) m_all (by decide +kernel) (pa_cons (pe_lc (own := [("part", 3), ("kind", 4)]) (g := gTup K 2 (gCons (gName 3) (gCons (gName 4) gNil))) (by rfl) sc.nd  (pi_zipA (by rfl) m_zip (pa_cons (pe_slice sl_tup (pv 0) (po_some pe_int) po_none) (pa_cons (pv 2) pa_nil))) (blkOk_by (own := [("part", 3), ("kind", 4)]) (N := ["thing", "deep", "kinds", "part", "kind"]) (sc := defScope sDeed) (by decide +kernel)) (fun _ _ _ _ _ => (pg_tup (by rfl) (pgs_cons (pg_name (i := 3) sc.nd rfl (.inl rfl)) (pgs_cons (pg_name (i := 4) sc.nd rfl (.inl rfl)) pgs_nil)))) (fun _ _ _ _ _ => pts_nil) (fun _ _ _ _ _ => (pe_call G_is_deed_part (hr.mono (by omega)) (by rfl) m_is_deed_part k_is_deed_part b_is_deed_part .nil pass0 (pa_cons (pv 3) (pa_cons (pv 4) (pa_cons (pv 1) pa_nil)))))) pa_nil))))))), ?_⟩
  refine ⟨_, rfl, x, d, rfl, hd, trivial, fun H1 s1 => ⟨_, rfl, ?_⟩⟩
  replace hd := dp_same s1 _ _ hd
  have q1 := q H1 s1
  by_cases hw : isWd d = true
  · rw [hw]
    refine iteF ?_
    obtain ⟨z, ds, rfl⟩ : ∃ z ds, d = .tuple (.str z :: ds) := by
      unfold isWd at hw
      split at hw
      · exact ⟨_, _, rfl⟩
      · cases hw
    have okl := ok.len
    rw [List.length_cons] at okl
    cases hd with | @tup a xs _ ha ax =>
    cases ax with | @cons v vs _ _ hv hvs =>
    cases hv
    have le := dpAll_len hvs
    refine ⟨rfl, _, rfl, a, _, 0, _, rfl, rfl, ha, atI_nat (j := 0) rfl, z, rfl, fun gn => ?_, fun b zs gs hb => ?_⟩
    · refine ⟨_, rfl, rfl, _, rfl, iteT (iteT ?_)⟩
      rw [show deedB (innerB n) (.tuple (.str z :: ds)) = false by unfold deedB; dsimp only; rw [gn]] at q1
      exact q1
    · refine ⟨_, rfl, rfl, _, rfl, iteF ?_⟩
      have hq : ∀ H', Same H1 H' → Q (.bl (decide (ds.length = zs.length) && (ds.zip zs).all fun p => dpB (innerB n) p.2 p.1)) H' := fun H' s' => by
        have := q H' (s1.trans s')
        rw [show deedB (innerB n) (.tuple (.str z :: ds)) = (decide (ds.length = zs.length) && (ds.zip zs).all fun p => dpB (innerB n) p.2 p.1) by unfold deedB; dsimp only; rw [gs]] at this
        exact this
      refine ⟨_, rfl, a, _, rfl, .inr ha, _, rfl, b, _, rfl, .inr hb, _, 1, rfl, rfl, rfl, _, rfl, ite2 (fun c => ?_) (fun c => ?_)⟩
      · have h := hq _ (Same.refl _)
        rw [decide_eq_false (fun e : ds.length = zs.length => by
          rw [decide_eq_true (by rw [List.length_cons, List.length_map, le, e]; rfl)] at c
          cases c), Bool.false_and] at h
        exact h
      · have le2 : ds.length = zs.length := Decidable.byContradiction fun e => c (by
          rw [decide_eq_false (fun z => e (by
            have z : ((vs.length + 1 : Nat) : Int) = ((zs.map V.str).length : Nat) + 1 := V.int.inj z
            rw [List.length_map] at z
            omega))]
          rfl)
        refine ⟨_, rfl, 1, rfl, a, _, rfl, ha, fun z => ?_, fun e ne => ?_⟩
        · have := z.1
          rw [show HT.sIx (V.str _ :: vs).length 0 (some 1) = min 1 (V.str _ :: vs).length from HT.sIx_nat .., List.length_cons] at this
          omega
        rw [cut_tail]
        have se := same_upd (o := .tup vs) ne
        have lz : (zs.map V.str).length = zs.length := List.length_map ..
        refine ⟨_, rfl, e, b, vs, zs.map V.str, rfl, .inr ⟨SqT.of upd_same, seqT se hb, fun D nD => lc_it (walk_zipT (xs := vs) (ys := zs.map V.str) rfl) (fun i H' => Same (upd H1 e (.tup vs)) H' ∧ H' D = some (.lst ((((ds.zip zs).take i).map fun p => dpB (innerB n) p.2 p.1).map V.bl))) ⟨same_upd nD, upd_same⟩
          (fun i H' _ h => ⟨seqT h.1 (SqT.of upd_same), seqT (se.trans h.1) hb⟩) ?_ ?_⟩⟩
        · rintro i v H3 H4 hi ⟨sm, hD⟩ ⟨T, x, y, rfl, nT, rfl, ex, ey⟩
          obtain ⟨d, ed, dx⟩ := dpAll_at (dpAll_same (se.trans sm) ds vs hvs) ex
          obtain ⟨y', ez, rfl⟩ : ∃ y', zs[i]? = some y' ∧ y = .str y' := by
            replace ey : (zs.map V.str)[i]? = some y := ey
            rw [List.getElem?_map] at ey
            cases h : zs[i]? with
            | none => rw [h] at ey; cases ey
            | some u => rw [h] at ey; exact ⟨u, rfl, (Option.some.inj ey).symm⟩
          have sT := same_upd (o := .tup [x, .str y']) nT
          refine ⟨T, _, rfl, .inl (.inl upd_same), rfl, _, _, rfl, _, _, rfl, rfl, rfl, ?_⟩
          unfold tYes
          refine iteT ?_
          refine ⟨_, rfl, _, rfl, _, rfl, x, y', d, rfl, dp_same sT _ _ dx, ok.kid (List.mem_cons_of_mem _ (List.mem_of_getElem? ed)), fun H5 s5 => ⟨_, s5 _ _ (sT _ _ hD), ?_, ?_, ?_⟩⟩
          · rw [List.length_map, List.length_map, List.length_take]
            exact small1000 (by omega)
          · intro b' o' h'
            rw [upd_ne (ne_of_none h' nD)]
            exact s5 _ _ (sT _ _ (sm _ _ h'))
          · rw [upd_same, List.take_succ, show (ds.zip zs)[i]? = some (d, y') by rw [List.getElem?_zip_eq_some]; exact ⟨ed, ez⟩, List.map_append, List.map_append]
            rfl
        · rintro H3 ⟨sm, hD⟩
          refine ⟨D, (ds.zip zs).map fun p => dpB (innerB n) p.2 p.1, rfl, SqL.of (by rw [hD, List.take_of_length_le (by rw [List.length_zip, lz, le]; exact Nat.le_refl _)]), ?_⟩
          rw [all_map]
          have h := hq _ (se.trans sm)
          rw [decide_eq_true le2, Bool.true_and] at h
          exact h
  · have e : deedB (innerB n) d = false := by
      unfold deedB
      split
      · exact absurd rfl hw
      · rfl
    rw [e] at q1
    rw [eq_false_of_ne_true hw]
    exact iteT q1
abbrev sInner : Stmt := top 37
theorem scInner : FnScope ["thing", "deep", "deed"] ["thing", "deep"] (defScope sInner) := ⟨rfl, rfl, rfl, by decide +kernel, rfl, by decide +kernel, by decide +kernel⟩
theorem ok_inner {k n : Nat} {t : Tok} (F : Fun K "is_inner_block" "is_inner_block" sInner f fd) (GR : FnG P w K mg base CX0 k "is_row" ["thing", "least", "most"] (spRow K))
    (GD : ∀ m, n = m + 1 → FnG P w K mg base CX0 k "is_deed" ["thing", "deep"] (spDeed K m)) (GD' : ∃ f fd, FnOk P w K mg base CX0 k f fd ["thing", "deep"] (fun _ _ _ _ => False) ∧ mg "is_deed" = some (.ref f) ∧ PySem.W.keepIn K (.ref f) = true ∧ Binds K fd ["thing", "deep"] [])
    (m_all : mg "all" = none) (m_MOST_DEEDS : mg "MOST_DEEDS" = some (.int 8 t)) : FnOk P w K mg base CX0 (k + 1) f fd ["thing", "deep"] (spInner K n) := by
  obtain ⟨_, _, G_is_row, m_is_row, k_is_row, b_is_row⟩ := GR
  obtain ⟨sp, ⟨_, _, G_is_deed, m_is_deed, k_is_deed, b_is_deed⟩, hsp⟩ : ∃ sp, FnG P w K mg base CX0 k "is_deed" ["thing", "deep"] sp ∧ ∀ m, n = m + 1 → sp = spDeed K m := by
    cases n with
    | zero => exact ⟨_, GD', fun m e => nomatch e⟩
    | succ m => exact ⟨_, GD m rfl, fun m' e => by cases e; rfl⟩
  have sc := scInner
  refine F.ok sc (fun vs H Q E h => ?_) (fun cdv A outer s H vs Q E hr h => ?_)
  · obtain ⟨x, d, rfl, _⟩ := h
    rfl
  obtain ⟨x, d, rfl, hd, ok, q⟩ := h
  refine ⟨_, (pss_cons (ps_if (PW.pt (pw_or (pt_cmpR op_lt (pv 1) pe_int (nomark _)) (pw_or1 (pt_not (pt_val (pe_call G_is_row (hr.mono (by omega)) (by rfl) m_is_row k_is_row b_is_row .nil pass0 (pa_cons (pv 0) (pa_cons pe_int (pa_cons (pe_glob (v := .int 8) (by rfl) m_MOST_DEEDS ⟨_, rfl⟩) pa_nil))))))))) (pss_one (ps_ret pe_bl)) pss_nil)
      (pss_one (ps_ret (pe_callB (cr_all rfl) (by rfl) m_all (by decide +kernel) (pa_cons (pe_lc (own := [("deed", 2)]) (by rfl) sc.nd  (pi_tup (pv 0)) (blkOk_by (own := [("deed", 2)]) (N := ["thing", "deep", "deed"]) (sc := defScope sInner) (by decide +kernel)) (fun _ _ _ _ _ => (pg_name (i := 2) sc.nd rfl (.inl rfl))) (fun _ _ _ _ _ => pts_nil) (fun _ _ _ _ _ => (pe_call G_is_deed (hr.mono (by omega)) (by rfl) m_is_deed k_is_deed b_is_deed .nil pass0 (pa_cons (pv 2) (pa_cons (pv 1) pa_nil))))) pa_nil))))), ?_⟩
  have qH := q H (Same.refl _)
  refine ⟨_, rfl, _, _, rfl, rfl, _, rfl, ite2 (fun c => ?_) (fun c => ?_)⟩
  · have : n = 0 := by
      have := of_decide_eq_true c
      omega
    subst this
    exact iteT qH
  obtain ⟨m, rfl⟩ : ∃ m, n = m + 1 := by
    cases n with
    | zero => exact absurd (decide_eq_true (by decide)) c
    | succ m => exact ⟨m, rfl⟩
  rw [hsp m rfl] at *
  refine ⟨_, rfl, x, d, 0, 8, rfl, hd, _, rfl, ?_⟩
  cases d with
  | tuple ds =>
    cases hd with | @tup p xs _ ha ax =>
    have le := dpAll_len ax
    replace q : ∀ H', Same H H' → Q (.bl (decide (ds.length ≤ 8) && ds.all (deedB (innerB m)))) H' := q
    by_cases c5 : ds.length ≤ 8
    · rw [show rowB 0 8 (.tuple ds) = true by show (decide (0 ≤ ds.length) && decide (ds.length ≤ 8)) = true; rw [decide_eq_true (Nat.zero_le _), decide_eq_true c5]; rfl]
      refine iteF ?_
      refine ⟨_, rfl, p, rfl, ⟨_, ha⟩, fun D nD => lc_it (walk_tup (xs := xs)) (fun i H' => Same H H' ∧ H' D = some (.lst (((ds.take i).map (deedB (innerB m))).map V.bl))) ⟨same_upd nD, upd_same⟩ (fun i H' _ h => seqT h.1 ha) ?_ ?_⟩
      · rintro i v H1 _ hi ⟨sm, hD⟩ ⟨rfl, ex⟩
        obtain ⟨d, ed, dx⟩ := dpAll_at (dpAll_same sm ds xs ax) ex
        refine ⟨rfl, ?_⟩
        unfold tYes
        refine iteT ⟨_, rfl, _, rfl, v, d, rfl, dx, ok.kid (List.mem_of_getElem? ed), fun H5 s5 => ⟨_, s5 _ _ hD, ?_, ?_, ?_⟩⟩
        · rw [List.length_map, List.length_map, List.length_take]
          exact small1000 (by omega)
        · intro b' o' h'
          rw [upd_ne (ne_of_none h' nD)]
          exact s5 _ _ (sm _ _ h')
        · rw [upd_same, List.take_succ, ed, List.map_append, List.map_append]
          rfl
      · rintro H3 ⟨sm, hD⟩
        refine ⟨D, ds.map (deedB (innerB m)), rfl, SqL.of (by rw [hD, List.take_of_length_le (by rw [le]; exact Nat.le_refl _)]), ?_⟩
        rw [all_map]
        have h := q _ sm
        rw [decide_eq_true c5, Bool.true_and] at h
        exact h
    · rw [show rowB 0 8 (.tuple ds) = false by show (decide (0 ≤ ds.length) && decide (ds.length ≤ 8)) = false; rw [decide_eq_false c5, Bool.and_false]]
      refine iteT ?_
      have h := q H (Same.refl _)
      rw [decide_eq_false c5, Bool.false_and] at h
      exact h
  | int i => exact iteT qH
  | bool i => exact iteT qH
  | none => exact iteT qH
  | list _ => exact iteT qH
  | str _ => exact iteT qH
  | dict _ => exact iteT qH
abbrev sBlock : Stmt := top 36
theorem scBlock : FnScope ["thing"] ["thing"] (defScope sBlock) := ⟨rfl, rfl, rfl, by decide +kernel, rfl, by decide +kernel, by decide +kernel⟩
theorem ok_block {k : Nat} {t : Tok} (F : Fun K "is_block" "is_block" sBlock f fd) (G : FnG P w K mg base CX0 k "is_inner_block" ["thing", "deep"] (spInner K 4)) (m_DEEPEST_BLOCK : mg "DEEPEST_BLOCK" = some (.int 4 t)) :
    FnOk P w K mg base CX0 (k + 1) f fd ["thing"] (spB K OkA (innerB 4)) := by
  obtain ⟨_, _, G_is_inner_block, m_is_inner_block, k_is_inner_block, b_is_inner_block⟩ := G
  have sc := scBlock
  refine F.ok sc (fun vs H Q E h => ?_) (fun cdv A outer s H vs Q E hr h => ?_)
  · obtain ⟨x, d, rfl, _⟩ := h
    rfl
  obtain ⟨x, d, rfl, hd, ok, q⟩ := h
  refine ⟨_, (pss_one (ps_ret (pe_call G_is_inner_block (hr.mono (by omega)) (by rfl) m_is_inner_block k_is_inner_block b_is_inner_block .nil pass0 (pa_cons (pv 0) (pa_cons (pe_glob (v := .int 4) (by rfl) m_DEEPEST_BLOCK ⟨_, rfl⟩) pa_nil))))), ?_⟩
  exact ⟨_, rfl, x, d, rfl, hd, ok, q⟩
/-- the defs of plays.py that blocks are asked by -/
structure Blk (P : Program) (w : World) (K : PySem.W.Frag) (mg : Str → Option Value) (base : Heap) (fI fD fP dD sW : Addr) (dI dE dP : FuncData) : Prop where
  GN : FnG P w K mg base CX0 19 "is_name" ["thing"] (spB K TxOk isNm)
  GL : FnG P w K mg base CX0 19 "is_look" ["thing"] (spB K OkA (isPart 6 "look"))
  GT : FnG P w K mg base CX0 19 "is_test" ["thing"] (spB K OkA (isPart 6 "test"))
  GW : FnG P w K mg base CX0 19 "is_worded" ["thing"] (spB K (fun _ => True) isWd)
  GR : FnG P w K mg base CX0 19 "is_row" ["thing", "least", "most"] (spRow K)
  DI : Df K mg "is_inner_block" sInner ["thing", "deep"] fI dI
  DD : Df K mg "is_deed" sDeed ["thing", "deep"] fD dE
  DP : Df K mg "is_deed_part" sDP ["part", "kind", "deep"] fP dP
  ml : mg "len" = none
  ma : mg "all" = none
  mz : mg "zip" = none
  mD : ∃ t, mg "MOST_DEEDS" = some (.int 8 t)
  mP : ∃ t, mg "MOST_PARAMS" = some (.int 2 t)
  mS : mg "STOP_WORDS" = some (.ref sW)
  hW : ∀ H, SqT K H sW (stopW.map V.str)
  mE : mg "DEEDS" = some (.ref dD)
  hD : Fw.Deeds P w K dD gD
theorem ok_inners {fI fD fP dD sW : Addr} {dI dE dP : FuncData} (B : Blk P w K mg base fI fD fP dD sW dI dE dP) : ∀ n, FnG P w K mg base CX0 (3 * n + 20) "is_inner_block" ["thing", "deep"] (spInner K n)
  | 0 => by
    obtain ⟨t, ht⟩ := B.mD
    exact B.DI.g (ok_inner (k := 19) (n := 0) B.DI.F B.GR (fun m e => nomatch e) ⟨fD, dE, ⟨fun _ _ _ _ h => h.elim, fun _ _ _ _ _ _ _ _ _ _ _ _ _ h => h.elim⟩, B.DD.m, B.DD.F.kp, B.DD.b⟩ B.ma ht)
  | n + 1 => by
    obtain ⟨t, ht⟩ := B.mD
    obtain ⟨t', ht'⟩ := B.mP
    have GP := B.DP.g (ok_dp (k := 3 * n + 20) (n := n) B.DP.F (B.GN.mono (by omega)) (B.GL.mono (by omega)) (B.GT.mono (by omega)) (B.GR.mono (by omega)) (ok_inners B n) B.ma ht' B.mS B.hW)
    have GD := B.DD.g (ok_deed (k := 3 * n + 21) (n := n) B.DD.F (B.GW.mono (by omega)) GP B.ml B.ma B.mz B.mE B.hD)
    exact B.DI.g (ok_inner (k := 3 * n + 22) (n := n + 1) B.DI.F (B.GR.mono (by omega)) (fun m e => by cases e; exact GD) ⟨fD, dE, ⟨fun _ _ _ _ h => h.elim, fun _ _ _ _ _ _ _ _ _ _ _ _ _ h => h.elim⟩, B.DD.m, B.DD.F.kp, B.DD.b⟩ B.ma ht)
end
end Fd

set_option Elab.async false
set_option linter.all false
set_option maxRecDepth 100000
set_option maxHeartbeats 4000000
namespace Fd
open PySem PySem.Spec PyProof.Rows L2 RZ
theorem pi_or {X : Cx} {tg it : Expr} {w w' : TI} (h : PI X tg it w) (h' : PI X tg it w') : PI X tg it (fun σ H R => w σ H R ∨ w' σ H R) := ⟨fun pins s σ H R I q => q.elim (h.run pins s σ H R I) (h'.run pins s σ H R I)⟩
theorem dpAll_app {K : PySem.W.Frag} {H : Hp} : ∀ {ds es : List PyData} {xs ys : List V}, DpAll K H xs ds → DpAll K H ys es → DpAll K H (xs ++ ys) (ds ++ es)
  | [], _, _, _, h, g => by cases h; exact g
  | _ :: _, _, _, _, h, g => by cases h with | cons q r => exact .cons q (dpAll_app r g)
/-! ### what is asked of a play's parts -/
def ftB (a b : Int) : PyData → Bool
  | .int i => decide (a ≤ i) && decide (i ≤ b)
  | _ => false
def items : PyData → List PyData
  | .tuple ds => ds
  | _ => []
def rowAll (a b : Nat) (f : PyData → Bool) (d : PyData) : Bool := rowB a b d && (items d).all f
def hdD : PyData → PyData
  | .tuple (x :: _) => x
  | _ => .none
def sndD : PyData → PyData
  | .tuple [_, y] => y
  | _ => .none
def strD : PyData → Str
  | .str z => z
  | _ => Str.empty
def nodupB (ds : List PyData) : Bool := decide (ds.map strD).Nodup
def unlNm (ds : List PyData) : Bool := ds.all isNm && nodupB ds
def sizeB : PyData → Bool := rowAll 2 2 (ftB 1 20)
def valsB : PyData → Bool := rowAll 0 8 isVal
def pairsB (m : Nat) (d : PyData) : Bool := rowAll 0 m (rowB 2 2) d && unlNm ((items d).map hdD)
def namesB (d : PyData) : Bool := pairsB 4 d && (items d).all fun p => isVal (sndD p)
def listsB (d : PyData) : Bool := pairsB 2 d && (items d).all fun p => valsB (sndD p)
/-! ### lists of truths, piece by piece -/
def AccB (D : Addr) (H : Hp) (g : PyData → Bool) (ds : List PyData) (i : Nat) (H' : Hp) : Prop := Same H H' ∧ H' D = some (.lst (((ds.take i).map g).map V.bl))
theorem AccB.zero {D : Addr} {H : Hp} {g : PyData → Bool} {ds : List PyData} (n : H D = none) : AccB D H g ds 0 (upd H D (.lst [])) := ⟨same_upd n, upd_same⟩
theorem AccB.step {D : Addr} {H H1 H5 : Hp} {g : PyData → Bool} {ds : List PyData} {i : Nat} {d : PyData} (h : AccB D H g ds i H1) (nD : H D = none) (s5 : Same H1 H5) (ed : ds[i]? = some d) (hl : ds.length ≤ 1000) :
    ∃ acc, H5 D = some (.lst acc) ∧ acc.length < sizeLine ∧ AccB D H g ds (i + 1) (upd H5 D (.lst (acc ++ [.bl (g d)]))) := by
  refine ⟨_, s5 _ _ h.2, ?_, fun b o hb => ?_, ?_⟩
  · rw [List.length_map, List.length_map, List.length_take]
    exact small1000 (by omega)
  · rw [upd_ne (ne_of_none hb nD)]
    exact s5 _ _ (h.1 _ _ hb)
  · rw [upd_same, List.take_succ, ed, List.map_append, List.map_append]
    rfl
theorem AccB.fin {D : Addr} {H H' : Hp} {g : PyData → Bool} {ds : List PyData} {n : Nat} (h : AccB D H g ds n H') (hn : ds.length ≤ n) : H' D = some (.lst ((ds.map g).map V.bl)) := by rw [h.2, List.take_of_length_le hn]
theorem row_at {a b : Nat} {d : PyData} (h : rowB a b d = true) : ∃ ds, d = .tuple ds ∧ a ≤ ds.length ∧ ds.length ≤ b := by
  cases d with
  | tuple ds =>
    have h : (decide (a ≤ ds.length) && decide (ds.length ≤ b)) = true := h
    rw [Bool.and_eq_true] at h
    exact ⟨ds, rfl, of_decide_eq_true h.1, of_decide_eq_true h.2⟩
  | _ => cases h
theorem two_at {d : PyData} (h : rowB 2 2 d = true) : ∃ x y, d = .tuple [x, y] := by
  obtain ⟨ds, rfl, h1, h2⟩ := row_at h
  match ds, h1, h2 with
  | [x, y], _, _ => exact ⟨x, y, rfl⟩
theorem dp_items {K : PySem.W.Frag} {H : Hp} {v : V} {ds : List PyData} (h : Dp K H v (.tuple ds)) : ∃ a xs, v = .ref a ∧ SqT K H a xs ∧ DpAll K H xs ds := by
  cases h with | tup q r => exact ⟨_, _, rfl, q, r⟩
/-- unlike texts -/
theorem strs_of {K : PySem.W.Frag} {H : Hp} : ∀ {ds : List PyData} {xs : List V}, DpAll K H xs ds → ds.all isNm = true → xs = (ds.map strD).map V.str
  | [], _, h, _ => by cases h; rfl
  | d :: ds, _, h, g => by
    cases h with | cons q r =>
    rw [List.all_cons, Bool.and_eq_true] at g
    cases d with
    | str z => cases q; rw [strs_of r g.2]; rfl
    | _ => exact absurd g.1 (by simp [isNm])
section
variable {P : Program} {w : World} {K : PySem.W.Frag} {mg : Str → Option Value} {base : Heap} {f : Addr} {fd : FuncData}
abbrev sFT : Stmt := top 34
theorem scFT : FnScope ["thing", "least", "most"] ["thing", "least", "most"] (defScope sFT) := ⟨rfl, rfl, rfl, by decide +kernel, rfl, by decide +kernel, by decide +kernel⟩
def spFT (K : PySem.W.Frag) : Sp := fun vs H Q _ => ∃ (x : V) (d : PyData) (a b : Int), vs = [x, .int a, .int b] ∧ Dp K H x d ∧ ∀ H', Same H H' → Q (.bl (ftB a b d)) H'
theorem ok_ft {k : Nat} (F : Fun K "is_from_to" "is_from_to" sFT f fd) (G : FnG P w K mg base CX0 k "is_number" ["thing"] (spB K (fun _ => True) isNum)) : FnOk P w K mg base CX0 (k + 1) f fd ["thing", "least", "most"] (spFT K) := by
  obtain ⟨_, _, G_is_number, m_is_number, k_is_number, b_is_number⟩ := G
  have sc := scFT
  refine F.ok sc (fun vs H Q E h => ?_) (fun cdv A outer s H vs Q E hr h => ?_)
  · obtain ⟨x, d, a, b, rfl, _⟩ := h
    rfl
  obtain ⟨x, d, a, b, rfl, hd, q⟩ := h
  refine ⟨_, (pss_one (ps_ret (pe_and (pe_call G_is_number (hr.mono (by omega)) (by rfl) m_is_number k_is_number b_is_number .nil pass0 (pa_cons (pv 0) pa_nil)) (pe_one (pe_chain op_le op_le (pv 1) (pv 0) (pv 2)))))), ?_⟩
  refine ⟨_, rfl, x, d, rfl, hd, trivial, fun H' s' => ⟨_, rfl, ?_⟩⟩
  replace q := q H' s'
  cases d with
  | int i =>
    cases hd
    refine iteT ⟨_, rfl, _, rfl, _, _, rfl, rfl, _, rfl, ite2 (fun c => ?_) (fun c => ?_)⟩
    · refine ⟨_, rfl, _, _, rfl, rfl, ?_⟩
      replace q : Q (.bl (decide (a ≤ i) && decide (i ≤ b))) H' := q
      rw [c] at q
      exact q
    · replace q : Q (.bl (decide (a ≤ i) && decide (i ≤ b))) H' := q
      rw [eq_false_of_ne_true c] at q
      exact q
  | bool i => exact iteF q
  | none => exact iteF q
  | str _ => exact iteF q
  | list _ => exact iteF q
  | tuple _ => exact iteF q
  | dict _ => exact iteF q
abbrev sUn : Stmt := top 35
theorem scUn : FnScope ["names"] ["names"] (defScope sUn) := ⟨rfl, rfl, rfl, by decide +kernel, rfl, by decide +kernel, by decide +kernel⟩
def spUn (K : PySem.W.Frag) : Sp := fun vs H Q _ => ∃ (l : Addr) (zs : List Str), vs = [.ref l] ∧ (SqL K H l (zs.map V.str) ∨ SqT K H l (zs.map V.str)) ∧ zs.length ≤ 1000 ∧ Q (.bl (decide zs.Nodup)) H
theorem ok_un {k : Nat} (F : Fun K "are_unlike" "are_unlike" sUn f fd) (m_len : mg "len" = none) (m_set : mg "set" = none) : FnOk P w K mg base CX0 (k + 1) f fd ["names"] (spUn K) := by
  have sc := scUn
  refine F.ok sc (fun vs H Q E h => ?_) (fun cdv A outer s H vs Q E hr h => ?_)
  · obtain ⟨l, zs, rfl, _⟩ := h
    rfl
  obtain ⟨l, zs, rfl, hs, hl, q⟩ := h
  refine ⟨_, (pss_one (ps_ret (pe_cmpR op_eq (Fw.pe_lenU (by rfl) (by rfl) m_len (by rfl) m_set (pv 0)) (pe_callB call_len_seq (by rfl) m_len (by decide +kernel) (pa_cons (pv 0) pa_nil)) (nomark _)))), ?_⟩
  refine ⟨_, rfl, l, zs, rfl, hs, hl, _, rfl, l, _, rfl, hs, rfl, ?_⟩
  have e : decide (V.int (Fw.unl zs zs.length) = V.int ((zs.map V.str).length : Nat)) = decide zs.Nodup := by
    have u := Fw.unl_full zs zs.length (Nat.le_refl _)
    rw [List.take_of_length_le (Nat.le_refl _)] at u
    by_cases c : zs.Nodup
    · rw [decide_eq_true c, decide_eq_true (by rw [List.length_map, u.mpr c])]
    · rw [decide_eq_false c, decide_eq_false (fun z => c (u.mp (by
        have z := V.int.inj z
        rw [List.length_map] at z
        omega)))]
  show Q (.bl (decide (V.int (Fw.unl zs zs.length) = V.int ((zs.map V.str).length : Nat)))) H
  rw [e]
  exact q
abbrev sFi : Stmt := top 48
theorem scFi : FnScope ["rows", "row"] ["rows"] (defScope sFi) := ⟨rfl, rfl, rfl, by decide +kernel, rfl, by decide +kernel, by decide +kernel⟩
def isRw : PyData → Bool | .tuple (_ :: _) => true | _ => false
def spFi (K : PySem.W.Frag) : Sp := fun vs H Q _ => ∃ (v : V) (ds : List PyData), vs = [v] ∧ Dp K H v (.tuple ds) ∧ ds.length ≤ 100 ∧ (∀ d ∈ ds, isRw d = true) ∧ ∀ p ys H', Same H H' → H p = none → H' p = some (.lst ys) → DpAll K H ys (ds.map hdD) → Q (.ref p) H'
theorem ok_fi {k : Nat} (F : Fun K "firsts" "firsts" sFi f fd) : FnOk P w K mg base CX0 (k + 1) f fd ["rows"] (spFi K) := by
  have sc := scFi
  refine F.ok sc (fun vs H Q E h => ?_) (fun cdv A outer s H vs Q E hr h => ?_)
  · obtain ⟨v, ds, rfl, _⟩ := h
    rfl
  obtain ⟨v, ds, rfl, hd, hl, hr', q⟩ := h
  refine ⟨_, (pss_one (ps_ret (pe_lc (own := [("row", 1)]) (by rfl) sc.nd  (pi_tup (pv 0)) (blkOk_by (own := [("row", 1)]) (N := ["rows", "row"]) (sc := defScope sFi) (by decide +kernel)) (fun _ _ _ _ _ => (pg_name (i := 1) sc.nd rfl (.inl rfl))) (fun _ _ _ _ _ => pts_nil) (fun _ _ _ _ _ => (pe_ix (show IxR _ (rIxT K) from ix_tup) (pv 1) pe_int (fun _ _ => rfl)))))), ?_⟩
  obtain ⟨a, xs, rfl, ha, ax⟩ := dp_items hd
  have le := dpAll_len ax
  refine ⟨_, rfl, a, rfl, ⟨_, ha⟩, fun D nD => lc_it (walk_tup (xs := xs)) (fun i H' => Same H H' ∧ ∃ ys, H' D = some (.lst ys) ∧ DpAll K H ys ((ds.take i).map hdD)) ⟨same_upd nD, [], upd_same, .nil⟩ (fun i H' _ h => seqT h.1 ha) ?_ ?_⟩
  · rintro i v _ H1 hi ⟨sm, ys, hD, dy⟩ ⟨rfl, ex⟩
    obtain ⟨d, ed, dx⟩ := dpAll_at ax ex
    obtain ⟨x0, r, rfl⟩ : ∃ x r, d = .tuple (x :: r) := by
      have := hr' d (List.mem_of_getElem? ed)
      unfold isRw at this
      split at this
      · exact ⟨_, _, rfl⟩
      · cases this
    obtain ⟨b, zs, rfl, hb, bz⟩ := dp_items dx
    cases bz with | @cons z zs _ _ hz hzs =>
    refine ⟨rfl, ?_⟩
    unfold tYes
    have yl := dpAll_len dy
    rw [List.length_map, List.length_take] at yl
    refine iteT ⟨_, rfl, b, _, 0, z, rfl, rfl, seqT sm hb, atI_nat (j := 0) rfl, _, hD, small1000 (by omega), fun c o hc => ?_, ys ++ [z], upd_same, ?_⟩
    · rw [upd_ne (ne_of_none hc nD)]
      exact sm _ _ hc
    · rw [List.take_succ, ed, List.map_append]
      exact dpAll_app dy (.cons hz .nil)
  · rintro H1 ⟨sm, ys, hD, dy⟩
    exact q D ys H1 sm nD hD (by rw [List.take_of_length_le (by rw [le]; exact Nat.le_refl _)] at dy; exact dy)
abbrev sUN : Stmt := top 47
theorem scUN : FnScope ["names", "name"] ["names"] (defScope sUN) := ⟨rfl, rfl, rfl, by decide +kernel, rfl, by decide +kernel, by decide +kernel⟩
def spUN (K : PySem.W.Frag) : Sp := fun vs H Q _ => ∃ (l : Addr) (xs : List V) (ds : List PyData), vs = [.ref l] ∧ (SqT K H l xs ∨ SqL K H l xs) ∧ DpAll K H xs ds ∧ ds.length ≤ 100 ∧ (∀ d ∈ ds, TxOk d) ∧ ∀ H', Same H H' → Q (.bl (unlNm ds)) H'
theorem ok_unn {k : Nat} (F : Fun K "are_unlike_names" "are_unlike_names" sUN f fd) (GN : FnG P w K mg base CX0 k "is_name" ["thing"] (spB K TxOk isNm)) (GU : FnG P w K mg base CX0 k "are_unlike" ["names"] (spUn K)) (m_all : mg "all" = none) :
    FnOk P w K mg base CX0 (k + 1) f fd ["names"] (spUN K) := by
  obtain ⟨_, _, G_is_name, m_is_name, k_is_name, b_is_name⟩ := GN
  obtain ⟨_, _, G_are_unlike, m_are_unlike, k_are_unlike, b_are_unlike⟩ := GU
  have sc := scUN
  refine F.ok sc (fun vs H Q E h => ?_) (fun cdv A outer s H vs Q E hr h => ?_)
  · obtain ⟨l, xs, ds, rfl, _⟩ := h
    rfl
  obtain ⟨l, xs, ds, rfl, hs, dx, hl, tx, q⟩ := h
  refine ⟨_, (pss_one (ps_ret (pe_and (pe_callB (cr_all rfl) (by rfl) m_all (by decide +kernel) (pa_cons (pe_lc (own := [("name", 1)]) (by rfl) sc.nd  (pi_or (pi_tup (pv 0)) (pi_list (pv 0))) (blkOk_by (own := [("name", 1)]) (N := ["names", "name"]) (sc := defScope sUN) (by decide +kernel)) (fun _ _ _ _ _ => (pg_name (i := 1) sc.nd rfl (.inl rfl))) (fun _ _ _ _ _ => pts_nil) (fun _ _ _ _ _ => (pe_call G_is_name (hr.mono (by omega)) (by rfl) m_is_name k_is_name b_is_name .nil pass0 (pa_cons (pv 1) pa_nil)))) pa_nil)) (pe_one (pe_call G_are_unlike (hr.mono (by omega)) (by rfl) m_are_unlike k_are_unlike b_are_unlike .nil pass0 (pa_cons (pv 0) pa_nil)))))), ?_⟩
  have le := dpAll_len dx
  rcases hs with hs | hs
  · refine .inl ⟨_, rfl, l, rfl, ⟨_, hs⟩, fun D nD => lc_it (walk_tup (xs := xs)) (fun i H' => AccB D H isNm ds i H') (AccB.zero nD) (fun i H' _ h => seqT h.1 hs) ?_ ?_⟩
    · rintro i v _ H1 hi ac ⟨rfl, ex⟩
      obtain ⟨d, ed, dv⟩ := dpAll_at (dpAll_same ac.1 _ _ dx) ex
      refine ⟨rfl, ?_⟩
      unfold tYes
      exact iteT ⟨_, rfl, v, d, rfl, dv, tx d (List.mem_of_getElem? ed), fun H5 s5 => ac.step nD s5 ed (by omega)⟩
    · rintro H1 ac
      refine ⟨D, ds.map isNm, rfl, SqL.of (ac.fin (by omega)), _, rfl, ?_⟩
      rw [all_map]
      have h := q H1 ac.1
      unfold unlNm at h
      refine ite2 (fun c => ?_) (fun c => ?_)
      · have hs1 := seqT ac.1 hs
        rw [strs_of dx c] at hs1
        refine ⟨_, rfl, l, ds.map strD, rfl, .inr hs1, by rw [List.length_map]; omega, ?_⟩
        rw [c] at h
        exact h
      · rw [eq_false_of_ne_true c] at h
        exact h
  · refine .inr ⟨_, rfl, l, rfl, ⟨_, hs⟩, fun D nD => lc_it (walk_list (xs := xs)) (fun i H' => AccB D H isNm ds i H') (AccB.zero nD) (fun i H' _ h => h.1.seq hs) ?_ ?_⟩
    · rintro i v _ H1 hi ac ⟨rfl, ex⟩
      obtain ⟨d, ed, dv⟩ := dpAll_at (dpAll_same ac.1 _ _ dx) ex
      refine ⟨rfl, ?_⟩
      unfold tYes
      exact iteT ⟨_, rfl, v, d, rfl, dv, tx d (List.mem_of_getElem? ed), fun H5 s5 => ac.step nD s5 ed (by omega)⟩
    · rintro H1 ac
      refine ⟨D, ds.map isNm, rfl, SqL.of (ac.fin (by omega)), _, rfl, ?_⟩
      rw [all_map]
      have h := q H1 ac.1
      unfold unlNm at h
      refine ite2 (fun c => ?_) (fun c => ?_)
      · have hs1 := ac.1.seq hs
        rw [strs_of dx c] at hs1
        refine ⟨_, rfl, l, ds.map strD, rfl, .inl hs1, by rw [List.length_map]; omega, ?_⟩
        rw [c] at h
        exact h
      · rw [eq_false_of_ne_true c] at h
        exact h
end
end Fd

set_option Elab.async false
set_option linter.all false
set_option maxRecDepth 100000
set_option maxHeartbeats 4000000
namespace Fd
open PySem PySem.Spec PyProof.Rows L2 RZ
theorem OkA.all {ds : List PyData} (h : OkA (.tuple ds)) : ∀ d ∈ ds, OkA d := fun d hd => h.kid hd
theorem iteBF' {b : Bool} {A B : Prop} (h : ¬ b = true) (a : B) : if b = true then A else B := by rw [if_neg h]; exact a
section
variable {P : Program} {w : World} {K : PySem.W.Frag} {mg : Str → Option Value} {base : Heap} {f : Addr} {fd : FuncData}
abbrev sVs : Stmt := top 45
theorem scVs : FnScope ["thing", "value"] ["thing"] (defScope sVs) := ⟨rfl, rfl, rfl, by decide +kernel, rfl, by decide +kernel, by decide +kernel⟩
theorem ok_vs {k : Nat} (F : Fun K "are_values" "are_values" sVs f fd) (G_is_row : FnG P w K mg base CX0 k "is_row" ["thing", "least", "most"] (spRow K)) (G_is_value : FnG P w K mg base CX0 k "is_value" ["thing"] (spB K (fun _ => True) isVal)) {t : Tok} (m_all : mg "all" = none) (m_MOST_VALUES : mg "MOST_VALUES" = some (.int 8 t)) : FnOk P w K mg base CX0 (k + 1) f fd ["thing"] (spB K OkA valsB) := by
  obtain ⟨_, _, G_is_row, m_is_row, k_is_row, b_is_row⟩ := G_is_row
  obtain ⟨_, _, G_is_value, m_is_value, k_is_value, b_is_value⟩ := G_is_value
  have sc := scVs
  refine F.ok sc (fun vs H Q E h => ?_) (fun cdv A outer s H vs Q E hr h => ?_)
  · obtain ⟨x, d, rfl, _⟩ := h
    rfl
  obtain ⟨x, d, rfl, hd, ok, q⟩ := h
  refine ⟨_, (pss_one (ps_ret (pe_and (pe_call G_is_row (hr.mono (by omega)) (by rfl) m_is_row k_is_row b_is_row .nil pass0 (pa_cons (pv 0) (pa_cons pe_int (pa_cons (pe_glob (v := .int 8) (by rfl) m_MOST_VALUES ⟨_, rfl⟩) pa_nil)))) (pe_one (pe_callB (cr_all rfl) (by rfl) m_all (by decide +kernel) (pa_cons (pe_lc (own := [("value", 1)]) (by rfl) sc.nd  (pi_tup (pv 0)) (blkOk_by (own := [("value", 1)]) (N := ["thing", "value"]) (sc := defScope sVs) (by decide +kernel)) (fun _ _ _ _ _ => (pg_name (i := 1) sc.nd rfl (.inl rfl))) (fun _ _ _ _ _ => pts_nil) (fun _ _ _ _ _ => (pe_call G_is_value (hr.mono (by omega)) (by rfl) m_is_value k_is_value b_is_value .nil pass0 (pa_cons (pv 1) pa_nil)))) pa_nil)))))), ?_⟩
  refine ⟨_, rfl, x, d, 0, 8, rfl, hd, _, rfl, ?_⟩
  replace q : ∀ H', Same H H' → Q (.bl (rowB 0 8 d && (items d).all (isVal))) H' := q
  by_cases c : rowB 0 8 d = true
  · obtain ⟨ds, rfl, l1, l2⟩ := row_at c
    obtain ⟨a, xs, rfl, ha, ax⟩ := dp_items hd
    have le := dpAll_len ax
    rw [c]
    refine iteT ?_
    refine ⟨_, rfl, a, rfl, ⟨_, ha⟩, fun D nD => lc_it (walk_tup (xs := xs)) (fun i H' => AccB D H (isVal) ds i H') (AccB.zero nD) (fun i H' _ h => seqT h.1 ha) ?_ ?_⟩
    · rintro i v _ HA hi ac ⟨rfl, ex⟩
      obtain ⟨d, ed, dv⟩ := dpAll_at (dpAll_same ac.1 _ _ ax) ex
      have md := List.mem_of_getElem? ed
      refine ⟨rfl, ?_⟩
      unfold tYes
      exact iteT ⟨_, rfl, v, d, rfl, dv, trivial, fun H5 s5 => ac.step nD s5 ed (by omega)⟩
    · rintro HB ac
      refine ⟨D, ds.map (isVal), rfl, SqL.of (ac.fin (by omega)), ?_⟩
      rw [all_map]
      have h := q _ ac.1
      rw [c, Bool.true_and] at h
      exact h
  · have h := q H (Same.refl _)
    rw [eq_false_of_ne_true c, Bool.false_and] at h
    rw [eq_false_of_ne_true c]
    exact iteF h
abbrev sSz : Stmt := top 42
theorem scSz : FnScope ["thing", "many"] ["thing"] (defScope sSz) := ⟨rfl, rfl, rfl, by decide +kernel, rfl, by decide +kernel, by decide +kernel⟩
theorem ok_sz {k : Nat} (F : Fun K "is_size" "is_size" sSz f fd) (G_is_row : FnG P w K mg base CX0 k "is_row" ["thing", "least", "most"] (spRow K)) (G_is_from_to : FnG P w K mg base CX0 k "is_from_to" ["thing", "least", "most"] (spFT K)) {t : Tok} (m_all : mg "all" = none) (m_WIDEST : mg "WIDEST" = some (.int 20 t)) : FnOk P w K mg base CX0 (k + 1) f fd ["thing"] (spB K OkA sizeB) := by
  obtain ⟨_, _, G_is_row, m_is_row, k_is_row, b_is_row⟩ := G_is_row
  obtain ⟨_, _, G_is_from_to, m_is_from_to, k_is_from_to, b_is_from_to⟩ := G_is_from_to
  have sc := scSz
  refine F.ok sc (fun vs H Q E h => ?_) (fun cdv A outer s H vs Q E hr h => ?_)
  · obtain ⟨x, d, rfl, _⟩ := h
    rfl
  obtain ⟨x, d, rfl, hd, ok, q⟩ := h
  refine ⟨_, (pss_one (ps_ret (pe_and (pe_call G_is_row (hr.mono (by omega)) (by rfl) m_is_row k_is_row b_is_row .nil pass0 (pa_cons (pv 0) (pa_cons pe_int (pa_cons pe_int pa_nil)))) (pe_one (pe_callB (cr_all rfl) (by rfl) m_all (by decide +kernel) (pa_cons (pe_lc (own := [("many", 1)]) (by rfl) sc.nd  (pi_tup (pv 0)) (blkOk_by (own := [("many", 1)]) (N := ["thing", "many"]) (sc := defScope sSz) (by decide +kernel)) (fun _ _ _ _ _ => (pg_name (i := 1) sc.nd rfl (.inl rfl))) (fun _ _ _ _ _ => pts_nil) (fun _ _ _ _ _ => (pe_call G_is_from_to (hr.mono (by omega)) (by rfl) m_is_from_to k_is_from_to b_is_from_to .nil pass0 (pa_cons (pv 1) (pa_cons pe_int (pa_cons (pe_glob (v := .int 20) (by rfl) m_WIDEST ⟨_, rfl⟩) pa_nil)))))) pa_nil)))))), ?_⟩
  refine ⟨_, rfl, x, d, 2, 2, rfl, hd, _, rfl, ?_⟩
  replace q : ∀ H', Same H H' → Q (.bl (rowB 2 2 d && (items d).all (ftB 1 20))) H' := q
  by_cases c : rowB 2 2 d = true
  · obtain ⟨ds, rfl, l1, l2⟩ := row_at c
    obtain ⟨a, xs, rfl, ha, ax⟩ := dp_items hd
    have le := dpAll_len ax
    rw [c]
    refine iteT ?_
    refine ⟨_, rfl, a, rfl, ⟨_, ha⟩, fun D nD => lc_it (walk_tup (xs := xs)) (fun i H' => AccB D H (ftB 1 20) ds i H') (AccB.zero nD) (fun i H' _ h => seqT h.1 ha) ?_ ?_⟩
    · rintro i v _ HA hi ac ⟨rfl, ex⟩
      obtain ⟨d, ed, dv⟩ := dpAll_at (dpAll_same ac.1 _ _ ax) ex
      have md := List.mem_of_getElem? ed
      refine ⟨rfl, ?_⟩
      unfold tYes
      exact iteT ⟨_, rfl, v, d, 1, 20, rfl, dv, fun H5 s5 => ac.step nD s5 ed (by omega)⟩
    · rintro HB ac
      refine ⟨D, ds.map (ftB 1 20), rfl, SqL.of (ac.fin (by omega)), ?_⟩
      rw [all_map]
      have h := q _ ac.1
      rw [c, Bool.true_and] at h
      exact h
  · have h := q H (Same.refl _)
    rw [eq_false_of_ne_true c, Bool.false_and] at h
    rw [eq_false_of_ne_true c]
    exact iteF h
def spPr (K : PySem.W.Frag) : Sp := fun vs H Q _ => ∃ (x : V) (d : PyData) (m : Nat), vs = [x, .int m] ∧ m ≤ 8 ∧ Dp K H x d ∧ OkA d ∧ ∀ H', Same H H' → Q (.bl (pairsB m d)) H'
abbrev sPr : Stmt := top 46
theorem scPr : FnScope ["thing", "most", "pair"] ["thing", "most"] (defScope sPr) := ⟨rfl, rfl, rfl, by decide +kernel, rfl, by decide +kernel, by decide +kernel⟩
theorem ok_pr {k : Nat} (F : Fun K "are_pairs" "are_pairs" sPr f fd) (G_is_row : FnG P w K mg base CX0 k "is_row" ["thing", "least", "most"] (spRow K)) (G_firsts : FnG P w K mg base CX0 k "firsts" ["rows"] (spFi K)) (G_are_unlike_names : FnG P w K mg base CX0 k "are_unlike_names" ["names"] (spUN K)) (m_all : mg "all" = none) : FnOk P w K mg base CX0 (k + 1) f fd ["thing", "most"] (spPr K) := by
  obtain ⟨_, _, G_is_row, m_is_row, k_is_row, b_is_row⟩ := G_is_row
  obtain ⟨_, _, G_firsts, m_firsts, k_firsts, b_firsts⟩ := G_firsts
  obtain ⟨_, _, G_are_unlike_names, m_are_unlike_names, k_are_unlike_names, b_are_unlike_names⟩ := G_are_unlike_names
  have sc := scPr
  refine F.ok sc (fun vs H Q E h => ?_) (fun cdv A outer s H vs Q E hr h => ?_)
  · obtain ⟨x, d, m, rfl, _⟩ := h
    rfl
  obtain ⟨x, d, m, rfl, hm, hd, ok, q⟩ := h
  refine ⟨_, (pss_cons (ps_if (PW.pt (pw_or (pt_not (pt_val (pe_call G_is_row (hr.mono (by omega)) (by rfl) m_is_row k_is_row b_is_row .nil pass0 (pa_cons (pv 0) (pa_cons pe_int (pa_cons (pv 1) pa_nil)))))) (pw_or1 (pt_not (pt_val (pe_callB (cr_all rfl) (by rfl) m_all (by decide +kernel) (pa_cons (pe_lc (own := [("pair", 2)]) (by rfl) sc.nd  (pi_tup (pv 0)) (blkOk_by (own := [("pair", 2)]) (N := ["thing", "most", "pair"]) (sc := defScope sPr) (by decide +kernel)) (fun _ _ _ _ _ => (pg_name (i := 2) sc.nd rfl (.inl rfl))) (fun _ _ _ _ _ => pts_nil) (fun _ _ _ _ _ => (pe_call G_is_row (hr.mono (by omega)) (by rfl) m_is_row k_is_row b_is_row .nil pass0 (pa_cons (pv 2) (pa_cons pe_int (pa_cons pe_int pa_nil)))))) pa_nil))))))) (pss_one (ps_ret pe_bl)) pss_nil)
      (pss_one (ps_ret (pe_call G_are_unlike_names (hr.mono (by omega)) (by rfl) m_are_unlike_names k_are_unlike_names b_are_unlike_names .nil pass0 (pa_cons (pe_call G_firsts (hr.mono (by omega)) (by rfl) m_firsts k_firsts b_firsts .nil pass0 (pa_cons (pv 0) pa_nil)) pa_nil))))), ?_⟩
  refine ⟨_, rfl, _, rfl, x, d, 0, m, rfl, hd, _, rfl, ?_⟩
  replace q : ∀ H', Same H H' → Q (.bl ((rowB 0 m d && (items d).all (rowB 2 2)) && unlNm ((items d).map hdD))) H' := q
  by_cases c : rowB 0 m d = true
  · obtain ⟨ds, rfl, l1, l2⟩ := row_at c
    obtain ⟨a, xs, rfl, ha, ax⟩ := dp_items hd
    have le := dpAll_len ax
    rw [c]
    refine iteF ?_
    refine ⟨_, rfl, a, rfl, ⟨_, ha⟩, fun D nD => lc_it (walk_tup (xs := xs)) (fun i H' => AccB D H (rowB 2 2) ds i H') (AccB.zero nD) (fun i H' _ h => seqT h.1 ha) ?_ ?_⟩
    · rintro i v _ HA hi ac ⟨rfl, ex⟩
      obtain ⟨d, ed, dv⟩ := dpAll_at (dpAll_same ac.1 _ _ ax) ex
      have md := List.mem_of_getElem? ed
      refine ⟨rfl, ?_⟩
      unfold tYes
      exact iteT ⟨_, rfl, v, d, 2, 2, rfl, dv, ac.step nD (Same.refl _) ed (by omega)⟩
    · rintro HB ac
      refine ⟨D, ds.map (rowB 2 2), rfl, SqL.of (ac.fin (by omega)), _, rfl, ?_⟩
      rw [all_map]
      by_cases c2 : ds.all (rowB 2 2) = true
      · rw [c2]
        refine iteF ?_
        have r2 : ∀ d ∈ ds, ∃ x y, d = .tuple [x, y] := fun d hd => two_at (List.all_eq_true.mp c2 d hd)
        refine ⟨_, rfl, .ref a, ds, rfl, .tup (seqT ac.1 ha) (dpAll_same ac.1 _ _ ax), by omega, fun d hd => ?_, fun p ys HC sC np hp dy => ?_⟩
        · obtain ⟨x, y, rfl⟩ := r2 d hd
          rfl
        refine ⟨p, ys, ds.map hdD, rfl, .inr (SqL.of hp), dpAll_same sC _ _ dy, by rw [List.length_map]; omega, fun d hd => ?_, fun HD sD => ?_⟩
        · obtain ⟨e, he, rfl⟩ := List.mem_map.mp hd
          obtain ⟨x, y, rfl⟩ := r2 e he
          exact ((ok.kid he).kid (List.mem_cons_self ..)).tx
        · have h := q _ (ac.1.trans (sC.trans sD))
          rw [c, show (items (.tuple ds)).all (rowB 2 2) = true from c2] at h
          exact h
      · rw [eq_false_of_ne_true c2]
        refine iteT ?_
        have h := q _ ac.1
        rw [c, show (items (.tuple ds)).all (rowB 2 2) = false from eq_false_of_ne_true c2] at h
        exact h
  · have h := q H (Same.refl _)
    rw [eq_false_of_ne_true c, Bool.false_and, Bool.false_and] at h
    rw [eq_false_of_ne_true c]
    exact iteT (iteT h)
theorem pairs_at {m : Nat} {d : PyData} (h : pairsB m d = true) : ∃ ds, d = .tuple ds ∧ ds.length ≤ m ∧ (∀ p ∈ ds, ∃ x y, p = .tuple [x, y]) ∧ unlNm (ds.map hdD) = true := by
  unfold pairsB rowAll at h
  rw [Bool.and_eq_true, Bool.and_eq_true] at h
  obtain ⟨⟨h1, h2⟩, h3⟩ := h
  obtain ⟨ds, rfl, _, l2⟩ := row_at h1
  exact ⟨ds, rfl, l2, fun p hp => two_at (List.all_eq_true.mp h2 p hp), h3⟩
abbrev sNs : Stmt := top 43
theorem scNs : FnScope ["thing", "name", "value"] ["thing"] (defScope sNs) := ⟨rfl, rfl, rfl, by decide +kernel, rfl, by decide +kernel, by decide +kernel⟩
theorem ok_ns {k : Nat} (F : Fun K "are_names" "are_names" sNs f fd) (G_are_pairs : FnG P w K mg base CX0 k "are_pairs" ["thing", "most"] (spPr K)) (G_is_value : FnG P w K mg base CX0 k "is_value" ["thing"] (spB K (fun _ => True) isVal)) {t : Tok} (m_all : mg "all" = none) (m_MOST_NAMES : mg "MOST_NAMES" = some (.int 4 t)) : FnOk P w K mg base CX0 (k + 1) f fd ["thing"] (spB K OkA namesB) := by
  obtain ⟨_, _, G_are_pairs, m_are_pairs, k_are_pairs, b_are_pairs⟩ := G_are_pairs
  obtain ⟨_, _, G_is_value, m_is_value, k_is_value, b_is_value⟩ := G_is_value
  have sc := scNs
  refine F.ok sc (fun vs H Q E h => ?_) (fun cdv A outer s H vs Q E hr h => ?_)
  · obtain ⟨x, d, rfl, _⟩ := h
    rfl
  obtain ⟨x, d, rfl, hd, ok, q⟩ := h
  refine ⟨_, (pss_one (ps_ret (pe_and (pe_call G_are_pairs (hr.mono (by omega)) (by rfl) m_are_pairs k_are_pairs b_are_pairs .nil pass0 (pa_cons (pv 0) (pa_cons (pe_glob (v := .int 4) (by rfl) m_MOST_NAMES ⟨_, rfl⟩) pa_nil))) (pe_one (pe_callB (cr_all rfl) (by rfl) m_all (by decide +kernel) (pa_cons (pe_lc (own := [("name", 1), ("value", 2)]) (g := gTup K 2 (gCons (gName 1) (gCons (gName 2) gNil))) (by rfl) sc.nd  (pi_tup (pv 0)) (blkOk_by (own := [("name", 1), ("value", 2)]) (N := ["thing", "name", "value"]) (sc := defScope sNs) (by decide +kernel)) (fun _ _ _ _ _ => (pg_tup (by rfl) (pgs_cons (pg_name (i := 1) sc.nd rfl (.inl rfl)) (pgs_cons (pg_name (i := 2) sc.nd rfl (.inl rfl)) pgs_nil)))) (fun _ _ _ _ _ => pts_nil) (fun _ _ _ _ _ => (pe_call G_is_value (hr.mono (by omega)) (by rfl) m_is_value k_is_value b_is_value .nil pass0 (pa_cons (pv 2) pa_nil)))) pa_nil)))))), ?_⟩
  refine ⟨_, rfl, x, d, 4, rfl, by decide, hd, ok, fun H1 s1 => ⟨_, rfl, ?_⟩⟩
  replace q : ∀ H', Same H H' → Q (.bl (pairsB 4 d && (items d).all (fun p => isVal (sndD p)))) H' := q
  by_cases c : pairsB 4 d = true
  · obtain ⟨ds, rfl, l2, r2, _⟩ := pairs_at c
    obtain ⟨a, xs, rfl, ha, ax⟩ := dp_items (dp_same s1 _ _ hd)
    have le := dpAll_len ax
    rw [c]
    refine iteT ?_
    refine ⟨_, rfl, a, rfl, ⟨_, ha⟩, fun D nD => lc_it (walk_tup (xs := xs)) (fun i H' => AccB D H1 (fun p => isVal (sndD p)) ds i H') (AccB.zero nD) (fun i H' _ h => seqT h.1 ha) ?_ ?_⟩
    · rintro i v _ HA hi ac ⟨rfl, ex⟩
      obtain ⟨d, ed, dv⟩ := dpAll_at (dpAll_same ac.1 _ _ ax) ex
      have md := List.mem_of_getElem? ed
      obtain ⟨x1, x2, rfl⟩ := r2 d md
      obtain ⟨b, y1, y, rfl, hb, _, dy⟩ := d2 dv
      refine ⟨b, _, rfl, hb, rfl, _, _, rfl, _, _, rfl, rfl, rfl, ?_⟩
      unfold tYes
      exact iteT ⟨_, rfl, y, _, rfl, dy, trivial, fun H5 s5 => ac.step nD s5 ed (by omega)⟩
    · rintro HB ac
      refine ⟨D, ds.map (fun p => isVal (sndD p)), rfl, SqL.of (ac.fin (by omega)), ?_⟩
      rw [all_map]
      have h := q _ (s1.trans ac.1)
      rw [c, Bool.true_and] at h
      exact h
  · have h := q H1 s1
    rw [eq_false_of_ne_true c, Bool.false_and] at h
    rw [eq_false_of_ne_true c]
    exact iteF h
abbrev sLs : Stmt := top 44
theorem scLs : FnScope ["thing", "name", "row"] ["thing"] (defScope sLs) := ⟨rfl, rfl, rfl, by decide +kernel, rfl, by decide +kernel, by decide +kernel⟩
theorem ok_ls {k : Nat} (F : Fun K "are_lists" "are_lists" sLs f fd) (G_are_pairs : FnG P w K mg base CX0 k "are_pairs" ["thing", "most"] (spPr K)) (G_are_values : FnG P w K mg base CX0 k "are_values" ["thing"] (spB K OkA valsB)) {t : Tok} (m_all : mg "all" = none) (m_MOST_LISTS : mg "MOST_LISTS" = some (.int 2 t)) : FnOk P w K mg base CX0 (k + 1) f fd ["thing"] (spB K OkA listsB) := by
  obtain ⟨_, _, G_are_pairs, m_are_pairs, k_are_pairs, b_are_pairs⟩ := G_are_pairs
  obtain ⟨_, _, G_are_values, m_are_values, k_are_values, b_are_values⟩ := G_are_values
  have sc := scLs
  refine F.ok sc (fun vs H Q E h => ?_) (fun cdv A outer s H vs Q E hr h => ?_)
  · obtain ⟨x, d, rfl, _⟩ := h
    rfl
  obtain ⟨x, d, rfl, hd, ok, q⟩ := h
  refine ⟨_, (pss_one (ps_ret (pe_and (pe_call G_are_pairs (hr.mono (by omega)) (by rfl) m_are_pairs k_are_pairs b_are_pairs .nil pass0 (pa_cons (pv 0) (pa_cons (pe_glob (v := .int 2) (by rfl) m_MOST_LISTS ⟨_, rfl⟩) pa_nil))) (pe_one (pe_callB (cr_all rfl) (by rfl) m_all (by decide +kernel) (pa_cons (pe_lc (own := [("name", 1), ("row", 2)]) (g := gTup K 2 (gCons (gName 1) (gCons (gName 2) gNil))) (by rfl) sc.nd  (pi_tup (pv 0)) (blkOk_by (own := [("name", 1), ("row", 2)]) (N := ["thing", "name", "row"]) (sc := defScope sLs) (by decide +kernel)) (fun _ _ _ _ _ => (pg_tup (by rfl) (pgs_cons (pg_name (i := 1) sc.nd rfl (.inl rfl)) (pgs_cons (pg_name (i := 2) sc.nd rfl (.inl rfl)) pgs_nil)))) (fun _ _ _ _ _ => pts_nil) (fun _ _ _ _ _ => (pe_call G_are_values (hr.mono (by omega)) (by rfl) m_are_values k_are_values b_are_values .nil pass0 (pa_cons (pv 2) pa_nil)))) pa_nil)))))), ?_⟩
  refine ⟨_, rfl, x, d, 2, rfl, by decide, hd, ok, fun H1 s1 => ⟨_, rfl, ?_⟩⟩
  replace q : ∀ H', Same H H' → Q (.bl (pairsB 2 d && (items d).all (fun p => valsB (sndD p)))) H' := q
  by_cases c : pairsB 2 d = true
  · obtain ⟨ds, rfl, l2, r2, _⟩ := pairs_at c
    obtain ⟨a, xs, rfl, ha, ax⟩ := dp_items (dp_same s1 _ _ hd)
    have le := dpAll_len ax
    rw [c]
    refine iteT ?_
    refine ⟨_, rfl, a, rfl, ⟨_, ha⟩, fun D nD => lc_it (walk_tup (xs := xs)) (fun i H' => AccB D H1 (fun p => valsB (sndD p)) ds i H') (AccB.zero nD) (fun i H' _ h => seqT h.1 ha) ?_ ?_⟩
    · rintro i v _ HA hi ac ⟨rfl, ex⟩
      obtain ⟨d, ed, dv⟩ := dpAll_at (dpAll_same ac.1 _ _ ax) ex
      have md := List.mem_of_getElem? ed
      obtain ⟨x1, x2, rfl⟩ := r2 d md
      obtain ⟨b, y1, y, rfl, hb, _, dy⟩ := d2 dv
      refine ⟨b, _, rfl, hb, rfl, _, _, rfl, _, _, rfl, rfl, rfl, ?_⟩
      unfold tYes
      exact iteT ⟨_, rfl, y, _, rfl, dy, (ok.kid md).kid (List.mem_cons_of_mem _ (List.mem_singleton.mpr rfl)), fun H5 s5 => ac.step nD s5 ed (by omega)⟩
    · rintro HB ac
      refine ⟨D, ds.map (fun p => valsB (sndD p)), rfl, SqL.of (ac.fin (by omega)), ?_⟩
      rw [all_map]
      have h := q _ (s1.trans ac.1)
      rw [c, Bool.true_and] at h
      exact h
  · have h := q H1 s1
    rw [eq_false_of_ne_true c, Bool.false_and] at h
    rw [eq_false_of_ne_true c]
    exact iteF h
end
end Fd

set_option Elab.async false
set_option linter.all false
set_option maxRecDepth 100000
set_option maxHeartbeats 4000000
namespace Fd
open PySem PySem.Spec PyProof.Rows L2 RZ
open StX (pa_star)
def rNotInDT (K : PySem.W.Frag) : R2 := fun x y H Q => ∃ d ds, Dp K H x d ∧ Dp K H y (.tuple ds) ∧ SeqAt.shaped d = true ∧ PyData.canLayAll0 ds = true ∧ PyData.depthAll ds ≤ 60 ∧ Q (.bl (!ds.any fun z => PyData.eqv z d)) H
theorem op_notInDT {X : Cx} (hu : X.A.units + 64 < cLine) : OpR X (compareOp .NotIn) (rNotInDT X.K) := by
  intro pins s σ H x y v u Q I rx ry h
  obtain ⟨d, ds, hd, he, sd, se, sf, q⟩ := h
  obtain ⟨as, r1⟩ := Dp.reads I d x v hd rx
  obtain ⟨bs, r2⟩ := Dp.reads I (.tuple ds) y u he ry
  refine SeqAt.notIn_tuple_reads r2 r1 se (SeqAt.canLay_of_shaped sd) (Nat.lt_of_le_of_lt ?_ hu) ⟨.bl _, H, I, rfl, q⟩
  have : min (PyData.depthAll ds) d.depth ≤ 60 := Nat.le_trans (Nat.min_le_left _ _) sf
  omega
/-! ### hats, scripts, pieces, spots, figures -/
abbrev namedH : List V := [.str "key", .str "news"]
abbrev plainH : List V := [.str "flag", .str "touch", .str "born"]
abbrev kindsP : List Str := ["open", "closed"]
def hatB : PyData → Bool
  | .tuple (.str w :: r) => if inV (.str w) namedH = true then decide (r.length = 1) && r.all isNm else inV (.str w) plainH && decide (r.length = 0)
  | _ => false
def scriptB : PyData → Bool
  | .tuple [h, b] => hatB h && innerB 4 b
  | _ => false
def kindB (d : PyData) : Bool := (kindsP.map PyData.str).any fun z => PyData.eqv z d
def pieceB : PyData → Bool
  | .tuple [n, k, p, b] => isNm n && (kindB k && (innerB 4 b && (rowB 0 2 p && unlNm (items p))))
  | _ => false
def spotB (a b : Int) (d : PyData) : Bool := rowB 3 3 d && ((items d).zip [a, b, 4]).all fun p => ftB 0 (p.2 - 1) p.1
def figB (a b : Int) : PyData → Bool
  | .tuple [n, sp, ns, ls, ps, ss] => isNm n && (spotB a b sp && (namesB ns && (listsB ls && (rowAll 0 3 pieceB ps && (rowAll 0 6 scriptB ss && nodupB ((items ps).map hdD))))))
  | _ => false
def figOf : PyData → PyData → Bool
  | .tuple [.int a, .int b], d => figB a b d
  | _, _ => false
def shapedB : PyData → Bool
  | .tuple [s, n, l, fs] => sizeB s && (rowB 1 4 fs && (namesB n && (listsB l && ((items fs).all (figOf s) && nodupB ((items fs).map hdD)))))
  | _ => false
theorem len_n {a : Nat} {d : PyData} (h : rowB a a d = true) : ∃ ds, d = .tuple ds ∧ ds.length = a := by
  obtain ⟨ds, rfl, h1, h2⟩ := row_at h
  exact ⟨ds, rfl, by omega⟩
theorem size_at {d : PyData} (h : sizeB d = true) : ∃ a b, d = .tuple [.int a, .int b] ∧ 1 ≤ a ∧ a ≤ 20 ∧ 1 ≤ b ∧ b ≤ 20 := by
  unfold sizeB rowAll at h
  rw [Bool.and_eq_true] at h
  obtain ⟨x, y, rfl⟩ := two_at h.1
  have h2 : (ftB 1 20 x && (ftB 1 20 y && true)) = true := h.2
  rw [Bool.and_eq_true, Bool.and_true] at h2
  have go : ∀ d : PyData, ftB 1 20 d = true → ∃ i, d = .int i ∧ 1 ≤ i ∧ i ≤ 20 := fun d hd => by
    cases d with
    | int i =>
      have hd : (decide ((1 : Int) ≤ i) && decide (i ≤ 20)) = true := hd
      rw [Bool.and_eq_true] at hd
      exact ⟨i, rfl, of_decide_eq_true hd.1, of_decide_eq_true hd.2⟩
    | _ => cases hd
  obtain ⟨a, rfl, a1, a2⟩ := go x h2.1
  obtain ⟨b, rfl, b1, b2⟩ := go y h2.2
  exact ⟨a, b, rfl, a1, a2, b1, b2⟩
section
variable {P : Program} {w : World} {K : PySem.W.Frag} {mg : Str → Option Value} {base : Heap} {f : Addr} {fd : FuncData}
def spSp (K : PySem.W.Frag) : Sp := fun vs H Q _ => ∃ (x z : V) (d : PyData) (a b : Int), vs = [x, z] ∧ Dp K H x d ∧ Dp K H z (.tuple [.int a, .int b]) ∧ OkA d ∧ ∀ H', Same H H' → Q (.bl (spotB a b d)) H'
def spFg (K : PySem.W.Frag) : Sp := fun vs H Q _ => ∃ (x z : V) (d : PyData) (a b : Int), vs = [x, z] ∧ Dp K H x d ∧ Dp K H z (.tuple [.int a, .int b]) ∧ OkA d ∧ ∀ H', Same H H' → Q (.bl (figB a b d)) H'
abbrev sSp : Stmt := top 50
theorem scSp : FnScope ["thing", "size", "bounds", "place", "many"] ["thing", "size"] (defScope sSp) := ⟨rfl, rfl, rfl, by decide +kernel, rfl, by decide +kernel, by decide +kernel⟩
theorem ok_sp {k : Nat} (F : Fun K "is_spot" "is_spot" sSp f fd) (G_is_row : FnG P w K mg base CX0 k "is_row" ["thing", "least", "most"] (spRow K)) (G_is_from_to : FnG P w K mg base CX0 k "is_from_to" ["thing", "least", "most"] (spFT K)) {t : Tok} (m_len : mg "len" = none) (m_all : mg "all" = none) (m_zip : mg "zip" = none) (m_WAYS : mg "WAYS" = some (.int 4 t)) : FnOk P w K mg base CX0 (k + 1) f fd ["thing", "size"] (spSp K) := by
  obtain ⟨_, _, G_is_row, m_is_row, k_is_row, b_is_row⟩ := G_is_row
  obtain ⟨_, _, G_is_from_to, m_is_from_to, k_is_from_to, b_is_from_to⟩ := G_is_from_to
  have sc := scSp
  refine F.ok sc (fun vs H Q E h => ?_) (fun cdv A outer s H vs Q E hr h => ?_)
  · obtain ⟨x, z, d, a, b, rfl, _⟩ := h
    rfl
  obtain ⟨x, z, d, a, b, rfl, hd, hz, ok, q⟩ := h
  refine ⟨_, (pss_cons (ps_set (i := 2) sc.nd rfl (.inl rfl) (pe_tup (pa_star (pv 1) (pa_cons (pe_glob (v := .int 4) (by rfl) m_WAYS ⟨_, rfl⟩) pa_nil))))
      (pss_cons (ps_if (pt_not (pt_val (pe_call G_is_row (hr.mono (by omega)) (by rfl) m_is_row k_is_row b_is_row .nil pass0 (pa_cons (pv 0) (pa_cons (pe_callB call_len_seq (by rfl) m_len (by decide +kernel) (pa_cons (pv 2) pa_nil)) (pa_cons (pe_callB call_len_seq (by rfl) m_len (by decide +kernel) (pa_cons (pv 2) pa_nil)) pa_nil)))))) (pss_one (ps_ret pe_bl)) pss_nil)
      (pss_one (ps_ret (pe_callB (cr_all rfl) (by rfl) m_all (by decide +kernel) (pa_cons (pe_lc (own := [("place", 3), ("many", 4)]) (g := gTup K 2 (gCons (gName 3) (gCons (gName 4) gNil))) (by rfl) sc.nd  (pi_zipA (by rfl) m_zip (pa_cons (pv 0) (pa_cons (pv 2) pa_nil))) (blkOk_by (own := [("place", 3), ("many", 4)]) (N := ["thing", "size", "bounds", "place", "many"]) (sc := defScope sSp) (by decide +kernel)) (fun _ _ _ _ _ => (pg_tup (by rfl) (pgs_cons (pg_name (i := 3) sc.nd rfl (.inl rfl)) (pgs_cons (pg_name (i := 4) sc.nd rfl (.inl rfl)) pgs_nil)))) (fun _ _ _ _ _ => pts_nil) (fun _ _ _ _ _ => (pe_call G_is_from_to (hr.mono (by omega)) (by rfl) m_is_from_to k_is_from_to b_is_from_to .nil pass0 (pa_cons (pv 3) (pa_cons pe_int (pa_cons (pe_op op_sub (pv 4) pe_int) pa_nil)))))) pa_nil)))))), ?_⟩
  obtain ⟨az, y1, y2, rfl, hz2, e1, e2⟩ := d2 hz
  cases e1
  cases e2
  refine ⟨_, rfl, az, _, rfl, .inl hz2, by show 3 ≤ sizeLine; decide, fun t nt => ?_⟩
  rw [show ([V.int a, V.int b] : List V) ++ [.int 4] = [.int a, .int b, .int 4] from rfl]
  have s1 := same_upd (o := .tup [.int a, .int b, .int 4]) nt
  have et : (upd H t (.tup [.int a, .int b, .int 4])) t = some (.tup [.int a, .int b, .int 4]) := upd_same
  generalize upd H t (.tup [.int a, .int b, .int 4]) = H1 at *
  refine ⟨_, rfl, _, rfl, t, _, rfl, .inr (SqT.of et), _, rfl, t, _, rfl, .inr (SqT.of et), x, d, 3, 3, rfl, dp_same s1 _ _ hd, _, rfl, ?_⟩
  by_cases c : rowB 3 3 d = true
  · obtain ⟨ds, rfl, l3⟩ := len_n c
    obtain ⟨p, xs, rfl, ha, ax⟩ := dp_items (dp_same s1 _ _ hd)
    have le := dpAll_len ax
    rw [c]
    refine iteF ?_
    refine ⟨_, rfl, _, rfl, p, t, xs, _, rfl, .inr ⟨ha, SqT.of et, fun D nD => lc_it (walk_zipT (xs := xs) (ys := [.int a, .int b, .int 4]) rfl) (fun i H' => Same H1 H' ∧ H' D = some (.lst ((((ds.zip [a, b, 4]).take i).map fun p => ftB 0 (p.2 - 1) p.1).map V.bl))) ⟨same_upd nD, upd_same⟩
      (fun i H' _ h => ⟨seqT h.1 ha, seqT h.1 (SqT.of et)⟩) ?_ ?_⟩⟩
    · rintro i v _ H4 hi ⟨sm, hD⟩ ⟨T, x, y, rfl, nT, rfl, ex, ey⟩
      obtain ⟨d, ed, dx⟩ := dpAll_at (dpAll_same sm ds xs ax) ex
      obtain ⟨m, ez, rfl⟩ : ∃ m : Int, ([a, b, 4] : List Int)[i]? = some m ∧ y = .int m := by
        replace ey : ([a, b, 4].map V.int)[i]? = some y := ey
        rw [List.getElem?_map] at ey
        cases h : ([a, b, 4] : List Int)[i]? with
        | none => rw [h] at ey; cases ey
        | some u => rw [h] at ey; exact ⟨u, rfl, (Option.some.inj ey).symm⟩
      have sT := same_upd (o := .tup [x, .int m]) nT
      refine ⟨T, _, rfl, .inl (.inl upd_same), rfl, _, _, rfl, _, _, rfl, rfl, rfl, ?_⟩
      unfold tYes
      refine iteT ⟨_, rfl, _, rfl, _, 1, rfl, rfl, x, d, 0, m - 1, rfl, dp_same sT _ _ dx, fun H5 s5 => ⟨_, s5 _ _ (sT _ _ hD), ?_, ?_, ?_⟩⟩
      · rw [List.length_map, List.length_map, List.length_take]
        have : min i (ds.zip [a, b, 4]).length ≤ 3 := by rw [List.length_zip]; show min i (min ds.length 3) ≤ 3; omega
        exact small1000 (by omega)
      · intro b' o' h'
        rw [upd_ne (ne_of_none h' nD)]
        exact s5 _ _ (sT _ _ (sm _ _ h'))
      · rw [upd_same, List.take_succ, show (ds.zip [a, b, 4])[i]? = some (d, m) by rw [List.getElem?_zip_eq_some]; exact ⟨ed, ez⟩, List.map_append, List.map_append]
        rfl
    · rintro H3 ⟨sm, hD⟩
      refine ⟨D, (ds.zip [a, b, 4]).map fun p => ftB 0 (p.2 - 1) p.1, rfl, SqL.of (by rw [hD, List.take_of_length_le (by rw [List.length_zip, le]; exact Nat.le_refl _)]), ?_⟩
      rw [List.all_map]
      have h := q _ (s1.trans sm)
      unfold spotB at h
      rw [c, Bool.true_and] at h
      exact h
  · have h := q _ s1
    unfold spotB at h
    rw [eq_false_of_ne_true c, Bool.false_and] at h
    rw [eq_false_of_ne_true c]
    exact iteT h
abbrev sHat : Stmt := top 53
theorem scHat : FnScope ["thing"] ["thing"] (defScope sHat) := ⟨rfl, rfl, rfl, by decide +kernel, rfl, by decide +kernel, by decide +kernel⟩
theorem ok_hat {k : Nat} (F : Fun K "is_hat" "is_hat" sHat f fd) (G_is_worded : FnG P w K mg base CX0 k "is_worded" ["thing"] (spB K (fun _ => True) isWd)) (G_is_name : FnG P w K mg base CX0 k "is_name" ["thing"] (spB K TxOk isNm)) {aN aP : Addr} (m_len : mg "len" = none) (m_NAMED_HATS : mg "NAMED_HATS" = some (.ref aN)) (m_PLAIN_HATS : mg "PLAIN_HATS" = some (.ref aP)) (hN : ∀ H, SqT K H aN namedH) (hPl : ∀ H, SqT K H aP plainH) : FnOk P w K mg base CX0 (k + 1) f fd ["thing"] (spB K OkA hatB) := by
  obtain ⟨_, _, G_is_worded, m_is_worded, k_is_worded, b_is_worded⟩ := G_is_worded
  obtain ⟨_, _, G_is_name, m_is_name, k_is_name, b_is_name⟩ := G_is_name
  have sc := scHat
  refine F.ok sc (fun vs H Q E h => ?_) (fun cdv A outer s H vs Q E hr h => ?_)
  · obtain ⟨x, d, rfl, _⟩ := h
    rfl
  obtain ⟨x, d, rfl, hd, ok, q⟩ := h
  refine ⟨_, (pss_cons (ps_if (pt_not (pt_val (pe_call G_is_worded (hr.mono (by omega)) (by rfl) m_is_worded k_is_worded b_is_worded .nil pass0 (pa_cons (pv 0) pa_nil)))) (pss_one (ps_ret pe_bl)) pss_nil)
      (pss_cons (ps_if (pt_cmpR op_in_seq (pe_ix ix_tup (pv 0) pe_int (fun _ _ => rfl)) (pe_glob (v := .ref aN) (by rfl) m_NAMED_HATS rfl) (by rfl)) (pss_one (ps_ret (pe_and (pe_cmpR op_eq (pe_callB call_len_seq (by rfl) m_len (by decide +kernel) (pa_cons (pv 0) pa_nil)) pe_int (nomark _)) (pe_one (pe_call G_is_name (hr.mono (by omega)) (by rfl) m_is_name k_is_name b_is_name .nil pass0 (pa_cons (pe_ix ix_tup (pv 0) pe_int (fun _ _ => rfl)) pa_nil)))))) pss_nil)
      (pss_one (ps_ret (pe_and (pe_cmpR op_in_seq (pe_ix ix_tup (pv 0) pe_int (fun _ _ => rfl)) (pe_glob (v := .ref aP) (by rfl) m_PLAIN_HATS rfl) (by rfl)) (pe_one (pe_cmpR op_eq (pe_callB call_len_seq (by rfl) m_len (by decide +kernel) (pa_cons (pv 0) pa_nil)) pe_int (nomark _)))))))), ?_⟩
  refine ⟨_, rfl, x, d, rfl, hd, trivial, fun H1 s1 => ⟨_, rfl, ?_⟩⟩
  replace hd := dp_same s1 _ _ hd
  have q1 := q H1 s1
  by_cases hw : isWd d = true
  · rw [hw]
    refine iteF ?_
    obtain ⟨z, ds, rfl⟩ : ∃ z ds, d = .tuple (.str z :: ds) := by
      unfold isWd at hw
      split at hw
      · exact ⟨_, _, rfl⟩
      · cases hw
    cases hd with | @tup a xs _ ha ax =>
    cases ax with | @cons v vs _ _ hv hvs =>
    cases hv
    have le := dpAll_len hvs
    replace q : ∀ H', Same H H' → Q (.bl (if inV (.str z) namedH = true then decide (ds.length = 1) && ds.all isNm else inV (.str z) plainH && decide (ds.length = 0))) H' := q
    refine ⟨_, rfl, a, _, 0, _, rfl, rfl, ha, atI_nat (j := 0) rfl, aN, namedH, rfl, .inr (hN H1), rfl, by decide, _, rfl, ite2 (fun c => ?_) (fun c => ?_)⟩
    · replace c : inV (.str z) namedH = true := c
      rw [c] at q
      refine ⟨_, rfl, a, _, rfl, .inr ha, rfl, _, rfl, ?_⟩
      by_cases l1 : ds.length = 1
      · rw [decide_eq_true (show V.int (((V.str z :: vs).length : Nat) : Int) = V.int 2 by rw [List.length_cons, le, l1]; rfl)]
        refine iteT ?_
        obtain ⟨e, rfl⟩ : ∃ e, ds = [e] := by
          match ds, l1 with
          | [e], _ => exact ⟨e, rfl⟩
        cases hvs with | @cons u us _ _ hu hus =>
        cases hus
        refine ⟨_, rfl, a, _, 1, u, rfl, rfl, ha, rfl, u, e, rfl, hu, (ok.kid (List.mem_cons_of_mem _ (List.mem_singleton.mpr rfl))).tx, fun H2 s2 => ?_⟩
        have h := q _ (s1.trans s2)
        rw [if_pos rfl] at h
        replace h : Q (.bl (true && (isNm e && true))) H2 := h
        rw [Bool.true_and, Bool.and_true] at h
        exact h
      · rw [decide_eq_false (fun y => l1 (by
          have y : (((vs.length + 1 : Nat)) : Int) = 2 := V.int.inj y
          omega))]
        have h := q _ s1
        rw [if_pos rfl, decide_eq_false l1, Bool.false_and] at h
        exact iteF h
    · replace c : inV (.str z) namedH = false := eq_false_of_ne_true c
      rw [c] at q
      have h := q _ s1
      rw [if_neg Bool.false_ne_true] at h
      refine ⟨_, rfl, a, _, 0, _, rfl, rfl, ha, atI_nat (j := 0) rfl, aP, plainH, rfl, .inr (hPl H1), rfl, by decide, _, rfl, ite2 (fun c2 => ?_) (fun c2 => ?_)⟩
      · replace c2 : inV (.str z) plainH = true := c2
        rw [c2, Bool.true_and] at h
        refine ⟨_, rfl, a, _, rfl, .inr ha, rfl, ?_⟩
        show Q (.bl (decide (V.int (((V.str z :: vs).length : Nat) : Int) = V.int 1))) H1
        rw [show decide (V.int (((V.str z :: vs).length : Nat) : Int) = V.int 1) = decide (ds.length = 0) by
          by_cases l0 : ds.length = 0
          · rw [decide_eq_true l0, decide_eq_true (by rw [List.length_cons, le, l0]; rfl)]
          · rw [decide_eq_false l0, decide_eq_false (fun y => l0 (by
              have y : (((vs.length + 1 : Nat)) : Int) = 1 := V.int.inj y
              omega))]]
        exact h
      · replace c2 : inV (.str z) plainH = false := eq_false_of_ne_true c2
        rw [c2, Bool.false_and] at h
        exact h
  · rw [show hatB d = false by
      unfold hatB
      split
      · exact absurd rfl hw
      · rfl] at q1
    rw [eq_false_of_ne_true hw]
    exact iteT q1
abbrev sScr : Stmt := top 52
theorem scScr : FnScope ["thing"] ["thing"] (defScope sScr) := ⟨rfl, rfl, rfl, by decide +kernel, rfl, by decide +kernel, by decide +kernel⟩
theorem ok_scr {k : Nat} (F : Fun K "is_script" "is_script" sScr f fd) (G_is_row : FnG P w K mg base CX0 k "is_row" ["thing", "least", "most"] (spRow K)) (G_is_hat : FnG P w K mg base CX0 k "is_hat" ["thing"] (spB K OkA hatB)) (G_is_block : FnG P w K mg base CX0 k "is_block" ["thing"] (spB K OkA (innerB 4)))  : FnOk P w K mg base CX0 (k + 1) f fd ["thing"] (spB K OkA scriptB) := by
  obtain ⟨_, _, G_is_row, m_is_row, k_is_row, b_is_row⟩ := G_is_row
  obtain ⟨_, _, G_is_hat, m_is_hat, k_is_hat, b_is_hat⟩ := G_is_hat
  obtain ⟨_, _, G_is_block, m_is_block, k_is_block, b_is_block⟩ := G_is_block
  have sc := scScr
  refine F.ok sc (fun vs H Q E h => ?_) (fun cdv A outer s H vs Q E hr h => ?_)
  · obtain ⟨x, d, rfl, _⟩ := h
    rfl
  obtain ⟨x, d, rfl, hd, ok, q⟩ := h
  refine ⟨_, (pss_one (ps_ret (pe_and (pe_call G_is_row (hr.mono (by omega)) (by rfl) m_is_row k_is_row b_is_row .nil pass0 (pa_cons (pv 0) (pa_cons pe_int (pa_cons pe_int pa_nil)))) (pe_and (pe_call G_is_hat (hr.mono (by omega)) (by rfl) m_is_hat k_is_hat b_is_hat .nil pass0 (pa_cons (pe_ix ix_tup (pv 0) pe_int (fun _ _ => rfl)) pa_nil)) (pe_one (pe_call G_is_block (hr.mono (by omega)) (by rfl) m_is_block k_is_block b_is_block .nil pass0 (pa_cons (pe_ix ix_tup (pv 0) pe_int (fun _ _ => rfl)) pa_nil))))))), ?_⟩
  refine ⟨_, rfl, x, d, 2, 2, rfl, hd, _, rfl, ?_⟩
  by_cases c : rowB 2 2 d = true
  · obtain ⟨h1, h2, rfl⟩ := two_at c
    obtain ⟨a, y1, y2, rfl, ha, e1, e2⟩ := d2 hd
    rw [c]
    replace q : ∀ H', Same H H' → Q (.bl (hatB h1 && innerB 4 h2)) H' := q
    refine iteT ⟨_, rfl, a, _, 0, _, rfl, rfl, ha, rfl, y1, h1, rfl, e1, ok.kid (List.mem_cons_self ..), fun H1 s1 => ⟨_, rfl, ite2 (fun c2 => ?_) (fun c2 => ?_)⟩⟩
    · refine ⟨_, rfl, a, _, 1, _, rfl, rfl, seqT s1 ha, rfl, y2, h2, rfl, dp_same s1 _ _ e2, ok.kid (List.mem_cons_of_mem _ (List.mem_singleton.mpr rfl)), fun H2 s2 => ?_⟩
      have h := q _ (s1.trans s2)
      rw [c2, Bool.true_and] at h
      exact h
    · have h := q _ s1
      rw [eq_false_of_ne_true c2, Bool.false_and] at h
      exact h
  · rw [eq_false_of_ne_true c]
    have h := q H (Same.refl _)
    rw [show scriptB d = false by
      unfold scriptB
      split
      · exact absurd (show rowB 2 2 (.tuple [_, _]) = true from rfl) c
      · rfl] at h
    exact iteF h
abbrev sPie : Stmt := top 51
theorem scPie : FnScope ["thing", "name", "kind", "params", "block"] ["thing"] (defScope sPie) := ⟨rfl, rfl, rfl, by decide +kernel, rfl, by decide +kernel, by decide +kernel⟩
theorem ok_pie {k : Nat} (F : Fun K "is_piece" "is_piece" sPie f fd) (G_is_row : FnG P w K mg base CX0 k "is_row" ["thing", "least", "most"] (spRow K)) (G_is_name : FnG P w K mg base CX0 k "is_name" ["thing"] (spB K TxOk isNm)) (G_is_block : FnG P w K mg base CX0 k "is_block" ["thing"] (spB K OkA (innerB 4))) (G_are_unlike_names : FnG P w K mg base CX0 k "are_unlike_names" ["names"] (spUN K)) {aK : Addr} {t : Tok} (m_PIECE_KINDS : mg "PIECE_KINDS" = some (.ref aK)) (m_MOST_PARAMS : mg "MOST_PARAMS" = some (.int 2 t)) (hKp : ∀ H, SqT K H aK (kindsP.map V.str)) : FnOk P w K mg base CX0 (k + 1) f fd ["thing"] (spB K OkA pieceB) := by
  obtain ⟨_, _, G_is_row, m_is_row, k_is_row, b_is_row⟩ := G_is_row
  obtain ⟨_, _, G_is_name, m_is_name, k_is_name, b_is_name⟩ := G_is_name
  obtain ⟨_, _, G_is_block, m_is_block, k_is_block, b_is_block⟩ := G_is_block
  obtain ⟨_, _, G_are_unlike_names, m_are_unlike_names, k_are_unlike_names, b_are_unlike_names⟩ := G_are_unlike_names
  have sc := scPie
  refine F.ok sc (fun vs H Q E h => ?_) (fun cdv A outer s H vs Q E hr h => ?_)
  · obtain ⟨x, d, rfl, _⟩ := h
    rfl
  obtain ⟨x, d, rfl, hd, ok, q⟩ := h
  refine ⟨_, (pss_cons (ps_if (pt_not (pt_val (pe_call G_is_row (hr.mono (by omega)) (by rfl) m_is_row k_is_row b_is_row .nil pass0 (pa_cons (pv 0) (pa_cons pe_int (pa_cons pe_int pa_nil)))))) (pss_one (ps_ret pe_bl)) pss_nil)
      (pss_cons (ps_asg (pv 0) (pg_tup (by rfl) (pgs_cons (pg_name (i := 1) sc.nd rfl (.inl rfl)) (pgs_cons (pg_name (i := 2) sc.nd rfl (.inl rfl)) (pgs_cons (pg_name (i := 3) sc.nd rfl (.inl rfl)) (pgs_cons (pg_name (i := 4) sc.nd rfl (.inl rfl)) pgs_nil))))))
      (pss_cons (ps_if (PW.pt (pw_or (pt_not (pt_val (pe_call G_is_name (hr.mono (by omega)) (by rfl) m_is_name k_is_name b_is_name .nil pass0 (pa_cons (pv 1) pa_nil)))) (pw_or (pt_cmpR (op_notInDT hr.units) (pv 2) (pe_glob (v := .ref aK) (by rfl) m_PIECE_KINDS rfl) (by rfl)) (pw_or1 (pt_not (pt_val (pe_call G_is_block (hr.mono (by omega)) (by rfl) m_is_block k_is_block b_is_block .nil pass0 (pa_cons (pv 4) pa_nil)))))))) (pss_one (ps_ret pe_bl)) pss_nil)
      (pss_one (ps_ret (pe_and (pe_call G_is_row (hr.mono (by omega)) (by rfl) m_is_row k_is_row b_is_row .nil pass0 (pa_cons (pv 3) (pa_cons pe_int (pa_cons (pe_glob (v := .int 2) (by rfl) m_MOST_PARAMS ⟨_, rfl⟩) pa_nil)))) (pe_one (pe_call G_are_unlike_names (hr.mono (by omega)) (by rfl) m_are_unlike_names k_are_unlike_names b_are_unlike_names .nil pass0 (pa_cons (pv 3) pa_nil))))))))), ?_⟩
  refine ⟨_, rfl, x, d, 4, 4, rfl, hd, _, rfl, ?_⟩
  by_cases c : rowB 4 4 d = true
  · obtain ⟨ds, rfl, l4⟩ := len_n c
    obtain ⟨n1, n2, n3, n4, rfl⟩ : ∃ n1 n2 n3 n4, ds = [n1, n2, n3, n4] := by
      match ds, l4 with
      | [a, b, c, d], _ => exact ⟨a, b, c, d, rfl⟩
    obtain ⟨a, xs, rfl, ha, ax⟩ := dp_items hd
    cases ax with | @cons y1 _ _ _ e1 ax =>
    cases ax with | @cons y2 _ _ _ e2 ax =>
    cases ax with | @cons y3 _ _ _ e3 ax =>
    cases ax with | @cons y4 _ _ _ e4 ax =>
    cases ax
    have o1 : OkA n1 := ok.kid (by simp)
    have o2 : OkA n2 := ok.kid (by simp)
    have o3 : OkA n3 := ok.kid (by simp)
    have o4 : OkA n4 := ok.kid (by simp)
    replace q : ∀ H', Same H H' → Q (.bl (isNm n1 && (kindB n2 && (innerB 4 n4 && (rowB 0 2 n3 && unlNm (items n3)))))) H' := q
    rw [c]
    refine iteF ⟨_, rfl, a, _, rfl, ha, rfl, _, _, rfl, _, _, rfl, _, _, rfl, _, _, rfl, rfl, ?_⟩
    refine ⟨_, rfl, y1, n1, rfl, e1, o1.tx, fun H1 s1 => ⟨_, rfl, ?_⟩⟩
    by_cases c1 : isNm n1 = true
    · rw [c1] at q ⊢
      refine iteF ⟨_, rfl, n2, kindsP.map PyData.str, dp_same s1 _ _ e2, .tup (hKp H1) (.cons (.str _) (.cons (.str _) .nil)), o2.shaped, by decide +kernel, by decide +kernel, _, rfl, ?_⟩
      show if (!kindB n2) = true then _ else _
      by_cases c2 : kindB n2 = true
      · rw [c2] at q ⊢
        refine iteF ⟨_, rfl, y4, n4, rfl, dp_same s1 _ _ e4, o4, fun H2 s2 => ⟨_, rfl, ?_⟩⟩
        by_cases c3 : innerB 4 n4 = true
        · rw [c3] at q ⊢
          refine iteF ?_
          have e3' := dp_same (s1.trans s2) _ _ e3
          refine ⟨_, rfl, y3, n3, 0, 2, rfl, e3', _, rfl, ite2 (fun c4 => ?_) (fun c4 => ?_)⟩
          · obtain ⟨ps, rfl, _, l2⟩ := row_at c4
            obtain ⟨b, zs, rfl, hb, bz⟩ := dp_items e3'
            refine ⟨_, rfl, b, zs, ps, rfl, .inl hb, bz, by omega, fun d hd => (o3.kid hd).tx, fun H3 s3 => ?_⟩
            have h := q _ ((s1.trans s2).trans s3)
            rw [c4] at h
            exact h
          · have h := q _ (s1.trans s2)
            rw [eq_false_of_ne_true c4] at h
            exact h
        · have h := q _ (s1.trans s2)
          rw [eq_false_of_ne_true c3] at h ⊢
          exact iteT h
      · have h := q _ s1
        rw [eq_false_of_ne_true c2] at h ⊢
        exact iteT (iteT h)
    · have h := q _ s1
      rw [eq_false_of_ne_true c1] at h ⊢
      exact iteT (iteT h)
  · rw [eq_false_of_ne_true c]
    have h := q H (Same.refl _)
    rw [show pieceB d = false by
      unfold pieceB
      split
      · exact absurd (show rowB 4 4 (.tuple [_, _, _, _]) = true from rfl) c
      · rfl] at h
    exact iteT h
end
end Fd

set_option Elab.async false
set_option linter.all false
set_option maxRecDepth 100000
set_option maxHeartbeats 4000000
namespace Fd
open PySem PySem.Spec PyProof.Rows L2 RZ
theorem piece_nm {d : PyData} (h : pieceB d = true) : ∃ n k p b, d = .tuple [n, k, p, b] ∧ isNm n = true := by
  unfold pieceB at h
  split at h
  · rw [Bool.and_eq_true] at h
    exact ⟨_, _, _, _, rfl, h.1⟩
  · cases h
theorem fig_nm {a b : Int} {d : PyData} (h : figB a b d = true) : ∃ n sp ns ls ps ss, d = .tuple [n, sp, ns, ls, ps, ss] ∧ isNm n = true := by
  unfold figB at h
  split at h
  · rw [Bool.and_eq_true] at h
    exact ⟨_, _, _, _, _, _, rfl, h.1⟩
  · cases h
theorem hd_nm {ds : List PyData} (h : ∀ d ∈ ds, ∃ x r, d = .tuple (x :: r) ∧ isNm x = true) : (ds.map hdD).all isNm = true := List.all_eq_true.mpr fun e he => by
  obtain ⟨d, hd, rfl⟩ := List.mem_map.mp he
  obtain ⟨x, r, rfl, hx⟩ := h d hd
  exact hx
section
variable {P : Program} {w : World} {K : PySem.W.Frag} {mg : Str → Option Value} {base : Heap} {f : Addr} {fd : FuncData}
abbrev sFig : Stmt := top 49
theorem scFig : FnScope ["thing", "size", "name", "spot", "names", "lists", "pieces", "scripts", "piece", "script"] ["thing", "size"] (defScope sFig) := ⟨rfl, rfl, rfl, by decide +kernel, rfl, by decide +kernel, by decide +kernel⟩
theorem ok_fig {k : Nat} (F : Fun K "is_figure" "is_figure" sFig f fd) (G_is_row : FnG P w K mg base CX0 k "is_row" ["thing", "least", "most"] (spRow K)) (G_is_name : FnG P w K mg base CX0 k "is_name" ["thing"] (spB K TxOk isNm)) (G_is_spot : FnG P w K mg base CX0 k "is_spot" ["thing", "size"] (spSp K)) (G_are_names : FnG P w K mg base CX0 k "are_names" ["thing"] (spB K OkA namesB)) (G_are_lists : FnG P w K mg base CX0 k "are_lists" ["thing"] (spB K OkA listsB)) (G_is_piece : FnG P w K mg base CX0 k "is_piece" ["thing"] (spB K OkA pieceB)) (G_is_script : FnG P w K mg base CX0 k "is_script" ["thing"] (spB K OkA scriptB)) (G_firsts : FnG P w K mg base CX0 k "firsts" ["rows"] (spFi K)) (G_are_unlike : FnG P w K mg base CX0 k "are_unlike" ["names"] (spUn K)) {t t' : Tok} (m_all : mg "all" = none) (m_MOST_PIECES : mg "MOST_PIECES" = some (.int 3 t)) (m_MOST_SCRIPTS : mg "MOST_SCRIPTS" = some (.int 6 t')) : FnOk P w K mg base CX0 (k + 1) f fd ["thing", "size"] (spFg K) := by
  obtain ⟨_, _, G_is_row, m_is_row, k_is_row, b_is_row⟩ := G_is_row
  obtain ⟨_, _, G_is_name, m_is_name, k_is_name, b_is_name⟩ := G_is_name
  obtain ⟨_, _, G_is_spot, m_is_spot, k_is_spot, b_is_spot⟩ := G_is_spot
  obtain ⟨_, _, G_are_names, m_are_names, k_are_names, b_are_names⟩ := G_are_names
  obtain ⟨_, _, G_are_lists, m_are_lists, k_are_lists, b_are_lists⟩ := G_are_lists
  obtain ⟨_, _, G_is_piece, m_is_piece, k_is_piece, b_is_piece⟩ := G_is_piece
  obtain ⟨_, _, G_is_script, m_is_script, k_is_script, b_is_script⟩ := G_is_script
  obtain ⟨_, _, G_firsts, m_firsts, k_firsts, b_firsts⟩ := G_firsts
  obtain ⟨_, _, G_are_unlike, m_are_unlike, k_are_unlike, b_are_unlike⟩ := G_are_unlike
  have sc := scFig
  refine F.ok sc (fun vs H Q E h => ?_) (fun cdv A outer s H vs Q E hr h => ?_)
  · obtain ⟨x, z, d, a, b, rfl, _⟩ := h
    rfl
  obtain ⟨x, z, d, a, b, rfl, hd, hz, ok, q⟩ := h
  refine ⟨_, (pss_cons (ps_if (pt_not (pt_val (pe_call G_is_row (hr.mono (by omega)) (by rfl) m_is_row k_is_row b_is_row .nil pass0 (pa_cons (pv 0) (pa_cons pe_int (pa_cons pe_int pa_nil)))))) (pss_one (ps_ret pe_bl)) pss_nil)
      (pss_cons (ps_asg (pv 0) (pg_tup (by rfl) (pgs_cons (pg_name (i := 2) sc.nd rfl (.inl rfl)) (pgs_cons (pg_name (i := 3) sc.nd rfl (.inl rfl)) (pgs_cons (pg_name (i := 4) sc.nd rfl (.inl rfl)) (pgs_cons (pg_name (i := 5) sc.nd rfl (.inl rfl)) (pgs_cons (pg_name (i := 6) sc.nd rfl (.inl rfl)) (pgs_cons (pg_name (i := 7) sc.nd rfl (.inl rfl)) pgs_nil))))))))
      (pss_cons (ps_if (PW.pt (pw_or (pt_not (pt_val (pe_call G_is_name (hr.mono (by omega)) (by rfl) m_is_name k_is_name b_is_name .nil pass0 (pa_cons (pv 2) pa_nil)))) (pw_or (pt_not (pt_val (pe_call G_is_spot (hr.mono (by omega)) (by rfl) m_is_spot k_is_spot b_is_spot .nil pass0 (pa_cons (pv 3) (pa_cons (pv 1) pa_nil))))) (pw_or (pt_not (pt_val (pe_call G_are_names (hr.mono (by omega)) (by rfl) m_are_names k_are_names b_are_names .nil pass0 (pa_cons (pv 4) pa_nil)))) (pw_or1 (pt_not (pt_val (pe_call G_are_lists (hr.mono (by omega)) (by rfl) m_are_lists k_are_lists b_are_lists .nil pass0 (pa_cons (pv 5) pa_nil))))))))) (pss_one (ps_ret pe_bl)) pss_nil)
      (pss_cons (ps_if (PW.pt (pw_or (pt_not (pt_val (pe_call G_is_row (hr.mono (by omega)) (by rfl) m_is_row k_is_row b_is_row .nil pass0 (pa_cons (pv 6) (pa_cons pe_int (pa_cons (pe_glob (v := .int 3) (by rfl) m_MOST_PIECES ⟨_, rfl⟩) pa_nil)))))) (pw_or1 (pt_not (pt_val (pe_callB (cr_all rfl) (by rfl) m_all (by decide +kernel) (pa_cons (pe_lc (own := [("piece", 8)]) (by rfl) sc.nd  (pi_tup (pv 6)) (blkOk_by (own := [("piece", 8)]) (N := ["thing", "size", "name", "spot", "names", "lists", "pieces", "scripts", "piece", "script"]) (sc := defScope sFig) (by decide +kernel)) (fun _ _ _ _ _ => (pg_name (i := 8) sc.nd rfl (.inl rfl))) (fun _ _ _ _ _ => pts_nil) (fun _ _ _ _ _ => (pe_call G_is_piece (hr.mono (by omega)) (by rfl) m_is_piece k_is_piece b_is_piece .nil pass0 (pa_cons (pv 8) pa_nil)))) pa_nil))))))) (pss_one (ps_ret pe_bl)) pss_nil)
      (pss_cons (ps_if (PW.pt (pw_or (pt_not (pt_val (pe_call G_is_row (hr.mono (by omega)) (by rfl) m_is_row k_is_row b_is_row .nil pass0 (pa_cons (pv 7) (pa_cons pe_int (pa_cons (pe_glob (v := .int 6) (by rfl) m_MOST_SCRIPTS ⟨_, rfl⟩) pa_nil)))))) (pw_or1 (pt_not (pt_val (pe_callB (cr_all rfl) (by rfl) m_all (by decide +kernel) (pa_cons (pe_lc (own := [("script", 9)]) (by rfl) sc.nd  (pi_tup (pv 7)) (blkOk_by (own := [("script", 9)]) (N := ["thing", "size", "name", "spot", "names", "lists", "pieces", "scripts", "piece", "script"]) (sc := defScope sFig) (by decide +kernel)) (fun _ _ _ _ _ => (pg_name (i := 9) sc.nd rfl (.inl rfl))) (fun _ _ _ _ _ => pts_nil) (fun _ _ _ _ _ => (pe_call G_is_script (hr.mono (by omega)) (by rfl) m_is_script k_is_script b_is_script .nil pass0 (pa_cons (pv 9) pa_nil)))) pa_nil))))))) (pss_one (ps_ret pe_bl)) pss_nil)
      (pss_one (ps_ret (pe_call G_are_unlike (hr.mono (by omega)) (by rfl) m_are_unlike k_are_unlike b_are_unlike .nil pass0 (pa_cons (pe_call G_firsts (hr.mono (by omega)) (by rfl) m_firsts k_firsts b_firsts .nil pass0 (pa_cons (pv 6) pa_nil)) pa_nil))))))))), ?_⟩
  refine ⟨_, rfl, x, d, 6, 6, rfl, hd, _, rfl, ?_⟩
  by_cases c : rowB 6 6 d = true
  · obtain ⟨ds, rfl, l6⟩ := len_n c
    obtain ⟨n1, n2, n3, n4, n5, n6, rfl⟩ : ∃ n1 n2 n3 n4 n5 n6, ds = [n1, n2, n3, n4, n5, n6] := by
      match ds, l6 with
      | [a, b, c, d, e, f], _ => exact ⟨a, b, c, d, e, f, rfl⟩
    obtain ⟨p, xs, rfl, ha, ax⟩ := dp_items hd
    cases ax with | @cons y1 _ _ _ e1 ax =>
    cases ax with | @cons y2 _ _ _ e2 ax =>
    cases ax with | @cons y3 _ _ _ e3 ax =>
    cases ax with | @cons y4 _ _ _ e4 ax =>
    cases ax with | @cons y5 _ _ _ e5 ax =>
    cases ax with | @cons y6 _ _ _ e6 ax =>
    cases ax
    have o1 : OkA n1 := ok.kid (by simp)
    have o2 : OkA n2 := ok.kid (by simp)
    have o3 : OkA n3 := ok.kid (by simp)
    have o4 : OkA n4 := ok.kid (by simp)
    have o5 : OkA n5 := ok.kid (by simp)
    have o6 : OkA n6 := ok.kid (by simp)
    replace q : ∀ H', Same H H' → Q (.bl (isNm n1 && (spotB a b n2 && (namesB n3 && (listsB n4 && ((rowB 0 3 n5 && (items n5).all pieceB) && ((rowB 0 6 n6 && (items n6).all scriptB) && nodupB ((items n5).map hdD)))))))) H' := q
    rw [c]
    refine iteF ⟨_, rfl, p, _, rfl, ha, rfl, _, _, rfl, _, _, rfl, _, _, rfl, _, _, rfl, _, _, rfl, _, _, rfl, rfl, ?_⟩
    clear hd ha
    refine ⟨_, rfl, y1, n1, rfl, e1, o1.tx, fun H1 s1 => ⟨_, rfl, ?_⟩⟩
    by_cases c1 : isNm n1 = true
    case neg =>
      have h := q _ s1
      rw [eq_false_of_ne_true c1] at h ⊢
      exact iteT (iteT h)
    rw [c1] at q ⊢
    refine iteF ⟨_, rfl, _, rfl, y2, z, n2, a, b, rfl, dp_same s1 _ _ e2, dp_same s1 _ _ hz, o2, fun H2 s2 => ⟨_, rfl, ?_⟩⟩
    replace s2 := s1.trans s2
    clear s1
    by_cases c2 : spotB a b n2 = true
    case neg =>
      have h := q _ s2
      rw [eq_false_of_ne_true c2] at h ⊢
      exact iteT (iteT h)
    rw [c2] at q ⊢
    refine iteF ⟨_, rfl, y3, n3, rfl, dp_same s2 _ _ e3, o3, fun H3 s3 => ⟨_, rfl, ?_⟩⟩
    replace s3 := s2.trans s3
    clear s2
    by_cases c3 : namesB n3 = true
    case neg =>
      have h := q _ s3
      rw [eq_false_of_ne_true c3] at h ⊢
      exact iteT (iteT h)
    rw [c3] at q ⊢
    refine iteF ⟨_, rfl, y4, n4, rfl, dp_same s3 _ _ e4, o4, fun H4 s4 => ⟨_, rfl, ?_⟩⟩
    replace s4 := s3.trans s4
    clear s3
    by_cases c4 : listsB n4 = true
    case neg =>
      have h := q _ s4
      rw [eq_false_of_ne_true c4] at h ⊢
      exact iteT h
    rw [c4] at q ⊢
    refine iteF ⟨_, rfl, y5, n5, 0, 3, rfl, dp_same s4 _ _ e5, _, rfl, ?_⟩
    by_cases c5 : rowB 0 3 n5 = true
    case neg =>
      have h := q _ s4
      rw [eq_false_of_ne_true c5] at h ⊢
      exact iteT (iteT h)
    obtain ⟨ps, rfl, _, l5⟩ := row_at c5
    rw [c5] at q ⊢
    refine iteF ?_
    obtain ⟨a5, xs, rfl, h5, ax5⟩ := dp_items (dp_same s4 _ _ e5)
    have le := dpAll_len ax5
    refine ⟨_, rfl, a5, rfl, ⟨_, h5⟩, fun D nD => lc_it (walk_tup (xs := xs)) (fun i H' => AccB D H4 pieceB ps i H') (AccB.zero nD) (fun i H' _ h => seqT h.1 h5) ?_ ?_⟩
    · rintro i v _ HA hi ac ⟨rfl, ex⟩
      obtain ⟨d, ed, dv⟩ := dpAll_at (dpAll_same ac.1 _ _ ax5) ex
      refine ⟨rfl, ?_⟩
      unfold tYes
      exact iteT ⟨_, rfl, v, d, rfl, dv, o5.kid (List.mem_of_getElem? ed), fun H5 s5 => ac.step nD s5 ed (by omega)⟩
    rintro HB ac
    have s5 := s4.trans ac.1
    refine ⟨D, ps.map pieceB, rfl, SqL.of (ac.fin (by omega)), _, rfl, ?_⟩
    rw [all_map]
    by_cases c6 : ps.all pieceB = true
    case neg =>
      have h := q _ s5
      rw [show (items (.tuple ps)).all pieceB = false from eq_false_of_ne_true c6] at h
      rw [eq_false_of_ne_true c6]
      exact iteT h
    rw [show (items (.tuple ps)).all pieceB = true from c6] at q
    rw [c6]
    have np : ∀ d ∈ ps, ∃ x r, d = .tuple (x :: r) ∧ isNm x = true := fun d hd => by
      obtain ⟨n, k, p, b, rfl, hn⟩ := piece_nm (List.all_eq_true.mp c6 d hd)
      exact ⟨_, _, rfl, hn⟩
    refine iteF ⟨_, rfl, y6, n6, 0, 6, rfl, dp_same s5 _ _ e6, _, rfl, ?_⟩
    by_cases c7 : rowB 0 6 n6 = true
    case neg =>
      have h := q _ s5
      rw [eq_false_of_ne_true c7] at h ⊢
      exact iteT (iteT h)
    obtain ⟨ss, rfl, _, l6⟩ := row_at c7
    rw [c7] at q ⊢
    refine iteF ?_
    obtain ⟨a6, xs6, rfl, h6, ax6⟩ := dp_items (dp_same s5 _ _ e6)
    have le6 := dpAll_len ax6
    refine ⟨_, rfl, a6, rfl, ⟨_, h6⟩, fun D' nD' => lc_it (walk_tup (xs := xs6)) (fun i H' => AccB D' HB scriptB ss i H') (AccB.zero nD') (fun i H' _ h => seqT h.1 h6) ?_ ?_⟩
    · rintro i v _ HA hi ac ⟨rfl, ex⟩
      obtain ⟨d, ed, dv⟩ := dpAll_at (dpAll_same ac.1 _ _ ax6) ex
      refine ⟨rfl, ?_⟩
      unfold tYes
      exact iteT ⟨_, rfl, v, d, rfl, dv, o6.kid (List.mem_of_getElem? ed), fun H5 s5 => ac.step nD' s5 ed (by omega)⟩
    rintro HC ac'
    have s6 := s5.trans ac'.1
    refine ⟨D', ss.map scriptB, rfl, SqL.of (ac'.fin (by omega)), _, rfl, ?_⟩
    rw [all_map]
    by_cases c8 : ss.all scriptB = true
    case neg =>
      have h := q _ s6
      rw [show (items (.tuple ss)).all scriptB = false from eq_false_of_ne_true c8] at h
      rw [eq_false_of_ne_true c8]
      exact iteT h
    rw [show (items (.tuple ss)).all scriptB = true from c8] at q
    rw [c8]
    refine iteF ⟨_, rfl, .ref a5, ps, rfl, dp_same s6 _ _ e5, by omega, fun d hd => ?_, fun l ys HD sD np' hl dy => ?_⟩
    · obtain ⟨x, r, rfl, _⟩ := np d hd
      rfl
    have dy' := dpAll_same sD _ _ dy
    have hs := strs_of dy (hd_nm np)
    subst hs
    refine ⟨l, (ps.map hdD).map strD, rfl, .inl (SqL.of hl), by rw [List.length_map, List.length_map]; omega, ?_⟩
    exact q _ (s6.trans sD)
  · rw [eq_false_of_ne_true c]
    have h := q H (Same.refl _)
    rw [show figB a b d = false by
      unfold figB
      split
      · exact absurd (show rowB 6 6 (.tuple [_, _, _, _, _, _]) = true from rfl) c
      · rfl] at h
    exact iteT h
abbrev sShp : Stmt := top 41
theorem scShp : FnScope ["thing", "size", "names", "lists", "figures", "figure"] ["thing"] (defScope sShp) := ⟨rfl, rfl, rfl, by decide +kernel, rfl, by decide +kernel, by decide +kernel⟩
theorem ok_shp {k : Nat} (F : Fun K "is_shaped" "is_shaped" sShp f fd) (G_is_row : FnG P w K mg base CX0 k "is_row" ["thing", "least", "most"] (spRow K)) (G_is_size : FnG P w K mg base CX0 k "is_size" ["thing"] (spB K OkA sizeB)) (G_are_names : FnG P w K mg base CX0 k "are_names" ["thing"] (spB K OkA namesB)) (G_are_lists : FnG P w K mg base CX0 k "are_lists" ["thing"] (spB K OkA listsB)) (G_is_figure : FnG P w K mg base CX0 k "is_figure" ["thing", "size"] (spFg K)) (G_firsts : FnG P w K mg base CX0 k "firsts" ["rows"] (spFi K)) (G_are_unlike : FnG P w K mg base CX0 k "are_unlike" ["names"] (spUn K)) {t : Tok} (m_all : mg "all" = none) (m_MOST_FIGURES : mg "MOST_FIGURES" = some (.int 4 t)) : FnOk P w K mg base CX0 (k + 1) f fd ["thing"] (spB K OkA shapedB) := by
  obtain ⟨_, _, G_is_row, m_is_row, k_is_row, b_is_row⟩ := G_is_row
  obtain ⟨_, _, G_is_size, m_is_size, k_is_size, b_is_size⟩ := G_is_size
  obtain ⟨_, _, G_are_names, m_are_names, k_are_names, b_are_names⟩ := G_are_names
  obtain ⟨_, _, G_are_lists, m_are_lists, k_are_lists, b_are_lists⟩ := G_are_lists
  obtain ⟨_, _, G_is_figure, m_is_figure, k_is_figure, b_is_figure⟩ := G_is_figure
  obtain ⟨_, _, G_firsts, m_firsts, k_firsts, b_firsts⟩ := G_firsts
  obtain ⟨_, _, G_are_unlike, m_are_unlike, k_are_unlike, b_are_unlike⟩ := G_are_unlike
  have sc := scShp
  refine F.ok sc (fun vs H Q E h => ?_) (fun cdv A outer s H vs Q E hr h => ?_)
  · obtain ⟨x, d, rfl, _⟩ := h
    rfl
  obtain ⟨x, d, rfl, hd, ok, q⟩ := h
  refine ⟨_, (pss_cons (ps_if (pt_not (pt_val (pe_call G_is_row (hr.mono (by omega)) (by rfl) m_is_row k_is_row b_is_row .nil pass0 (pa_cons (pv 0) (pa_cons pe_int (pa_cons pe_int pa_nil)))))) (pss_one (ps_ret pe_bl)) pss_nil)
      (pss_cons (ps_asg (pv 0) (pg_tup (by rfl) (pgs_cons (pg_name (i := 1) sc.nd rfl (.inr rfl)) (pgs_cons (pg_name (i := 2) sc.nd rfl (.inl rfl)) (pgs_cons (pg_name (i := 3) sc.nd rfl (.inl rfl)) (pgs_cons (pg_name (i := 4) sc.nd rfl (.inl rfl)) pgs_nil))))))
      (pss_cons (ps_if (PW.pt (pw_or (pt_not (pt_val (pe_call G_is_size (hr.mono (by omega)) (by rfl) m_is_size k_is_size b_is_size .nil pass0 (pa_cons (pv 1) pa_nil)))) (pw_or1 (pt_not (pt_val (pe_call G_is_row (hr.mono (by omega)) (by rfl) m_is_row k_is_row b_is_row .nil pass0 (pa_cons (pv 4) (pa_cons pe_int (pa_cons (pe_glob (v := .int 4) (by rfl) m_MOST_FIGURES ⟨_, rfl⟩) pa_nil))))))))) (pss_one (ps_ret pe_bl)) pss_nil)
      (pss_cons (ps_if (PW.pt (pw_or (pt_not (pt_val (pe_call G_are_names (hr.mono (by omega)) (by rfl) m_are_names k_are_names b_are_names .nil pass0 (pa_cons (pv 2) pa_nil)))) (pw_or1 (pt_not (pt_val (pe_call G_are_lists (hr.mono (by omega)) (by rfl) m_are_lists k_are_lists b_are_lists .nil pass0 (pa_cons (pv 3) pa_nil))))))) (pss_one (ps_ret pe_bl)) pss_nil)
      (pss_one (ps_ret (pe_and (pe_callB (cr_all rfl) (by rfl) m_all (by decide +kernel) (pa_cons (pe_lc (own := [("figure", 5)]) (by rfl) sc.nd  (pi_tup (pv 4)) (blkOk_by (own := [("figure", 5)]) (N := ["thing", "size", "names", "lists", "figures", "figure"]) (sc := defScope sShp) (by decide +kernel)) (fun _ _ _ _ _ => (pg_name (i := 5) sc.nd rfl (.inl rfl))) (fun _ _ _ _ _ => pts_nil) (fun _ _ _ _ _ => (pe_call G_is_figure (hr.mono (by omega)) (by rfl) m_is_figure k_is_figure b_is_figure .nil pass0 (pa_cons (pv 5) (pa_cons (pv 1) pa_nil))))) pa_nil)) (pe_one (pe_call G_are_unlike (hr.mono (by omega)) (by rfl) m_are_unlike k_are_unlike b_are_unlike .nil pass0 (pa_cons (pe_call G_firsts (hr.mono (by omega)) (by rfl) m_firsts k_firsts b_firsts .nil pass0 (pa_cons (pv 4) pa_nil)) pa_nil)))))))))), ?_⟩
  refine ⟨_, rfl, x, d, 4, 4, rfl, hd, _, rfl, ?_⟩
  by_cases c : rowB 4 4 d = true
  case neg =>
    rw [eq_false_of_ne_true c]
    have h := q H (Same.refl _)
    rw [show shapedB d = false by
      unfold shapedB
      split
      · exact absurd (show rowB 4 4 (.tuple [_, _, _, _]) = true from rfl) c
      · rfl] at h
    exact iteT h
  obtain ⟨ds, rfl, l4⟩ := len_n c
  obtain ⟨n1, n2, n3, n4, rfl⟩ : ∃ n1 n2 n3 n4, ds = [n1, n2, n3, n4] := by
    match ds, l4 with
    | [a, b, c, d], _ => exact ⟨a, b, c, d, rfl⟩
  obtain ⟨p, xs, rfl, ha, ax⟩ := dp_items hd
  cases ax with | @cons y1 _ _ _ e1 ax =>
  cases ax with | @cons y2 _ _ _ e2 ax =>
  cases ax with | @cons y3 _ _ _ e3 ax =>
  cases ax with | @cons y4 _ _ _ e4 ax =>
  cases ax
  have o1 : OkA n1 := ok.kid (by simp)
  have o2 : OkA n2 := ok.kid (by simp)
  have o3 : OkA n3 := ok.kid (by simp)
  have o4 : OkA n4 := ok.kid (by simp)
  replace q : ∀ H', Same H H' → Q (.bl (sizeB n1 && (rowB 1 4 n4 && (namesB n2 && (listsB n3 && ((items n4).all (figOf n1) && nodupB ((items n4).map hdD))))))) H' := q
  rw [c]
  refine iteF ⟨_, rfl, p, _, rfl, ha, rfl, _, _, rfl, _, _, rfl, _, _, rfl, _, _, rfl, rfl, ?_⟩
  clear hd ha
  refine ⟨_, rfl, y1, n1, rfl, e1, o1, fun H1 s1 => ⟨_, rfl, ?_⟩⟩
  by_cases c1 : sizeB n1 = true
  case neg =>
    have h := q _ s1
    rw [eq_false_of_ne_true c1] at h ⊢
    exact iteT (iteT h)
  obtain ⟨a, b, rfl, a1, a2, b1, b2⟩ := size_at c1
  rw [c1] at q ⊢
  refine iteF ⟨_, rfl, y4, n4, 1, 4, rfl, dp_same s1 _ _ e4, _, rfl, ?_⟩
  by_cases c2 : rowB 1 4 n4 = true
  case neg =>
    have h := q _ s1
    rw [eq_false_of_ne_true c2] at h ⊢
    exact iteT h
  obtain ⟨fs, rfl, _, l5⟩ := row_at c2
  rw [c2] at q ⊢
  refine iteF ⟨_, rfl, y2, n2, rfl, dp_same s1 _ _ e2, o2, fun H2 s2 => ⟨_, rfl, ?_⟩⟩
  replace s2 := s1.trans s2
  clear s1
  by_cases c3 : namesB n2 = true
  case neg =>
    have h := q _ s2
    rw [eq_false_of_ne_true c3] at h ⊢
    exact iteT (iteT h)
  rw [c3] at q ⊢
  refine iteF ⟨_, rfl, y3, n3, rfl, dp_same s2 _ _ e3, o3, fun H3 s3 => ⟨_, rfl, ?_⟩⟩
  replace s3 := s2.trans s3
  clear s2
  by_cases c4 : listsB n3 = true
  case neg =>
    have h := q _ s3
    rw [eq_false_of_ne_true c4] at h ⊢
    exact iteT h
  rw [c4] at q ⊢
  refine iteF ?_
  obtain ⟨a5, xs, rfl, h5, ax5⟩ := dp_items (dp_same s3 _ _ e4)
  have le := dpAll_len ax5
  have e1' := dp_same s3 _ _ e1
  refine ⟨_, rfl, a5, rfl, ⟨_, h5⟩, fun D nD => lc_it (walk_tup (xs := xs)) (fun i H' => AccB D H3 (figB a b) fs i H') (AccB.zero nD) (fun i H' _ h => seqT h.1 h5) ?_ ?_⟩
  · rintro i v _ HA hi ac ⟨rfl, ex⟩
    obtain ⟨d, ed, dv⟩ := dpAll_at (dpAll_same ac.1 _ _ ax5) ex
    refine ⟨rfl, ?_⟩
    unfold tYes
    exact iteT ⟨_, rfl, _, rfl, v, y1, d, a, b, rfl, dv, dp_same ac.1 _ _ e1', o4.kid (List.mem_of_getElem? ed), fun H5 s5 => ac.step nD s5 ed (by omega)⟩
  rintro HB ac
  have s5 := s3.trans ac.1
  refine ⟨D, fs.map (figB a b), rfl, SqL.of (ac.fin (by omega)), _, rfl, ?_⟩
  rw [all_map]
  by_cases c6 : fs.all (figB a b) = true
  case neg =>
    have h := q _ s5
    rw [show (items (.tuple fs)).all (figOf (.tuple [.int a, .int b])) = false from eq_false_of_ne_true c6] at h
    rw [eq_false_of_ne_true c6]
    exact iteF h
  rw [show (items (.tuple fs)).all (figOf (.tuple [.int a, .int b])) = true from c6] at q
  rw [c6]
  have np : ∀ d ∈ fs, ∃ x r, d = .tuple (x :: r) ∧ isNm x = true := fun d hd => by
    obtain ⟨n, sp, ns, ls, ps, ss, rfl, hn⟩ := fig_nm (List.all_eq_true.mp c6 d hd)
    exact ⟨_, _, rfl, hn⟩
  refine iteT ⟨_, rfl, .ref a5, fs, rfl, dp_same s5 _ _ e4, by omega, fun d hd => ?_, fun l ys HD sD np' hl dy => ?_⟩
  · obtain ⟨x, r, rfl, _⟩ := np d hd
    rfl
  have hs := strs_of dy (hd_nm np)
  subst hs
  refine ⟨l, (fs.map hdD).map strD, rfl, .inl (SqL.of hl), by rw [List.length_map, List.length_map]; omega, ?_⟩
  exact q _ (s5.trans sD)
end
end Fd

set_option Elab.async false
set_option linter.all false
set_option maxRecDepth 100000
set_option maxHeartbeats 4000000
namespace Fd
open PySem PySem.Spec PyProof.Rows L2 RZ
theorem rmL_sub {as : List Addr} {H : Hp} : Same (rmL as H) H := fun b o h => by
  by_cases e : b ∈ as
  · rw [rmL_in e] at h; cases h
  · rw [rmL_at e] at h; exact h
theorem rmL_same {as : List Addr} {H H' : Hp} (s : Same H H') : Same (rmL as H) (rmL as H') := rmL_but (ButL.same s)
/-! ### data of tuples alone -/
mutual
def tOn : PyData → Bool
  | .tuple ds => tOns ds
  | .list _ => false
  | .dict _ => false
  | _ => true
def tOns : List PyData → Bool
  | [] => true
  | d :: r => tOn d && tOns r
end
mutual
theorem dp_noL {K : PySem.W.Frag} {H : Hp} {N : Addr} {ys : List V} (hN : H N = some (.lst ys)) : ∀ (d : PyData) (v : V), tOn d = true → Dp K H v d → Dp K (rmL [N] H) v d
  | .none, _, _, h => by cases h; exact .non
  | .bool b, _, _, h => by cases h; exact .bl b
  | .int i, _, _, h => by cases h; exact .int i
  | .str x, _, _, h => by cases h; exact .str x
  | .list ds, _, g, h => by cases g
  | .dict _, _, g, h => by cases g
  | .tuple ds, _, g, h => by
    cases h with
    | tup q r =>
      refine .tup ?_ (dpAll_noL hN ds _ g r)
      rcases q with (q | ⟨o, q⟩) | q
      · exact .inl (.inl (by rw [rmL_at (fun z => ne_of q hN (fun z => nomatch z) (List.mem_singleton.mp z))]; exact q))
      · exact .inl (.inr ⟨o, by rw [rmL_at (fun z => ne_of q hN (fun z => nomatch z) (List.mem_singleton.mp z))]; exact q⟩)
      · exact .inr q
theorem dpAll_noL {K : PySem.W.Frag} {H : Hp} {N : Addr} {ys : List V} (hN : H N = some (.lst ys)) : ∀ (ds : List PyData) (vs : List V), tOns ds = true → DpAll K H vs ds → DpAll K (rmL [N] H) vs ds
  | [], _, _, h => by cases h; exact .nil
  | d :: ds, _, g, h => by
    cases h with
    | cons q r =>
      have g : (tOn d && tOns ds) = true := g
      rw [Bool.and_eq_true] at g
      exact .cons (dp_noL hN d _ g.1 q) (dpAll_noL hN ds _ g.2 r)
end
theorem tOns_app : ∀ {a b : List PyData}, tOns a = true → tOns b = true → tOns (a ++ b) = true
  | [], _, _, g => g
  | d :: a, b, h, g => by
    have h : (tOn d && tOns a) = true := h
    rw [Bool.and_eq_true] at h
    show (tOn d && tOns (a ++ b)) = true
    rw [h.1, tOns_app h.2 g]
    rfl
theorem tOns_flat {α : Type} {f : α → List PyData} : ∀ {l : List α}, (∀ x ∈ l, tOns (f x) = true) → tOns (l.flatMap f) = true
  | [], _ => rfl
  | x :: l, h => by
    rw [List.flatMap_cons]
    exact tOns_app (h x (List.mem_cons_self ..)) (tOns_flat fun y hy => h y (List.mem_cons_of_mem _ hy))
theorem nm_tOn {d : PyData} (h : isNm d = true) : tOn d = true := by
  cases d with
  | str z => rfl
  | _ => exact absurd h (by simp [isNm])
/-! ### what a look names -/
def nmsIn : Nat → Str → PyData → List PyData
  | 0, k, d => if isKd k then [.tuple [.str k, d]] else []
  | n + 1, k, d => if isKd k then [.tuple [.str k, d]] else match d with
    | .tuple (.str w :: r) => match gP [k, w] with
      | some ks => (r.zip ks).flatMap fun p => nmsIn n p.2 p.1
      | none => []
    | _ => []
theorem part_in {n : Nat} {k : Str} {d : PyData} (hk : isKd k = false) (h : isPart n k d = true) : ∃ m, n = m + 1 ∧ ((∃ i, d = .int i ∧ k = "look" ∧ inB i = true) ∨ ∃ w r ks, d = .tuple (.str w :: r) ∧ gP [k, w] = some ks ∧ r.length = ks.length ∧ ∀ p ∈ r.zip ks, isPart m p.2 p.1 = true) := by
  cases n with
  | zero => unfold isPart at h; rw [hk] at h; cases h
  | succ m =>
    refine ⟨m, rfl, ?_⟩
    have h : (if isKd k then isNm d else (decide (k = "look") && isVal d) || hasP (isPart m) k d) = true := h
    rw [hk] at h
    have h : ((decide (k = "look") && isVal d) || hasP (isPart m) k d) = true := h
    rw [Bool.or_eq_true, Bool.and_eq_true] at h
    rcases h with ⟨h1, h2⟩ | h
    · cases d with
      | int i => exact .inl ⟨i, rfl, of_decide_eq_true h1, h2⟩
      | _ => cases h2
    · cases d with
      | tuple ds => cases ds with
        | nil => cases h
        | cons x r => cases x with
          | str wd =>
            have h : (match gP [k, wd] with
              | none => false
              | some ks => decide (r.length = ks.length) && (r.zip ks).all fun p => isPart m p.2 p.1) = true := h
            cases hg : gP [k, wd] with
            | none => rw [hg] at h; cases h
            | some ks =>
              rw [hg] at h
              have h : (decide (r.length = ks.length) && (r.zip ks).all fun p => isPart m p.2 p.1) = true := h
              rw [Bool.and_eq_true] at h
              exact .inr ⟨wd, r, ks, rfl, hg, of_decide_eq_true h.1, fun p hp => List.all_eq_true.mp h.2 p hp⟩
          | _ => cases h
      | _ => cases h
theorem nms_tup {m : Nat} {k w : Str} {r : List PyData} {ks : List Str} (c : isKd k = false) (hg : gP [k, w] = some ks) : nmsIn (m + 1) k (.tuple (.str w :: r)) = (r.zip ks).flatMap fun p => nmsIn m p.2 p.1 := by
  show (if isKd k = true then _ else match gP [k, w] with
    | some ks => (r.zip ks).flatMap fun (p : PyData × Str) => nmsIn m p.2 p.1
    | none => []) = _
  rw [c, hg]
  rfl
theorem sqT_but {K : PySem.W.Frag} {H H' : Hp} {a b : Addr} {ys xs : List V} (hb : H b = some (.lst ys)) (s : But b H H') (h : SqT K H a xs) : SqT K H' a xs := by
  rcases h with (h | ⟨o, h⟩) | h
  · exact .inl (.inl (s _ _ (ne_of h hb (fun z => nomatch z)) h))
  · exact .inl (.inr ⟨o, s _ _ (ne_of h hb (fun z => nomatch z)) h⟩)
  · exact .inr h
theorem nms_tOn : ∀ (n : Nat) (k : Str) (d : PyData), isPart n k d = true → tOns (nmsIn n k d) = true := by
  intro n
  induction n with
  | zero =>
    intro k d h
    unfold nmsIn
    by_cases hk : isKd k = true
    · rw [if_pos hk]
      have hn : isNm d = true := by rw [part_nm hk] at h; exact h
      show ((tOn (.str k) && (tOn d && true)) && true) = true
      rw [nm_tOn hn]
      rfl
    · rw [if_neg hk]; rfl
  | succ n ih =>
    intro k d h
    unfold nmsIn
    by_cases hk : isKd k = true
    · rw [if_pos hk]
      have hn : isNm d = true := by rw [part_nm hk] at h; exact h
      show ((tOn (.str k) && (tOn d && true)) && true) = true
      rw [nm_tOn hn]
      rfl
    · rw [if_neg hk]
      obtain ⟨m, e, ⟨i, rfl, _⟩ | ⟨w, r, ks, rfl, hg, hl, ha⟩⟩ := part_in (eq_false_of_ne_true hk) h
      · rfl
      · cases e
        dsimp only
        rw [hg]
        exact tOns_flat fun p hp => ih p.2 p.1 (ha p hp)
/-- a list of named ones, built up -/
structure Nmd (K : PySem.W.Frag) (H : Hp) (N : Addr) (es : List PyData) (H' : Hp) : Prop where
  same : Same H H'
  at_ : ∃ ys, H' N = some (.lst ys) ∧ DpAll K (rmL [N] H') ys es ∧ ys.length ≤ es.length
  on : tOns es = true
theorem Nmd.more {K : PySem.W.Frag} {H H1 : Hp} {N : Addr} {es : List PyData} (h : Nmd K H N es H1) {H2 : Hp} (s : Same H1 H2) : Nmd K H N es H2 := by
  obtain ⟨s0, ⟨ys, h1, h2, h3⟩, on⟩ := h
  exact ⟨s0.trans s, ⟨ys, s _ _ h1, dpAll_same (rmL_same s) _ _ h2, h3⟩, on⟩
/-- more of them behind -/
theorem Nmd.put {K : PySem.W.Frag} {H H1 : Hp} {N : Addr} {es fs : List PyData} {zs : List V} (h : Nmd K H N es H1) (nN : H N = none) (dz : DpAll K H1 zs fs) (on : tOns fs = true) :
    ∃ ys, H1 N = some (.lst ys) ∧ ys.length = es.length ∧ Nmd K H N (es ++ fs) (upd H1 N (.lst (ys ++ zs))) := by
  obtain ⟨s0, ⟨ys, h1, h2, h3⟩, on0⟩ := h
  have ly := dpAll_len h2
  have lz := dpAll_len dz
  refine ⟨ys, h1, ly, ⟨fun b o hb => ?_, ⟨ys ++ zs, upd_same, ?_, by rw [List.length_append, List.length_append]; omega⟩, tOns_app on0 on⟩⟩
  · rw [upd_ne (ne_of_none hb nN)]
    exact s0 _ _ hb
  · rw [rmL_upd (List.mem_singleton.mpr rfl)]
    exact dpAll_app h2 (dpAll_noL h1 _ _ on dz)
section
variable {P : Program} {w : World} {K : PySem.W.Frag} {mg : Str → Option Value} {base : Heap} {f : Addr} {fd : FuncData}
def spNI (K : PySem.W.Frag) (n : Nat) : Sp := fun vs H Q _ => ∃ (x : V) (k : Str) (d : PyData), vs = [x, .str k] ∧ Dp K H x d ∧ OkA d ∧ isPart n k d = true ∧ (nmsIn n k d).length ≤ 1000 ∧ ∀ p ys H', Same H H' → H p = none → H' p = some (.lst ys) → DpAll K H' ys (nmsIn n k d) → Q (.ref p) H'
abbrev sNI : Stmt := top 15
theorem scNI : FnScope ["part", "kind", "named", "inner", "wanted"] ["part", "kind"] (defScope sNI) := ⟨rfl, rfl, rfl, by decide +kernel, rfl, by decide +kernel, by decide +kernel⟩
theorem ok_ni {k n : Nat} {nK dP : Addr} (F : Fun K "names_in" "names_in" sNI f fd) (GN : FnG P w K mg base CX0 k "is_number" ["thing"] (spB K (fun _ => True) isNum))
    (GI : ∀ m, n = m + 1 → FnG P w K mg base CX0 k "names_in" ["part", "kind"] (spNI K m)) (GI' : ∃ f fd, FnOk P w K mg base CX0 k f fd ["part", "kind"] (fun _ _ _ _ => False) ∧ mg "names_in" = some (.ref f) ∧ PySem.W.keepIn K (.ref f) = true ∧ Binds K fd ["part", "kind"] [])
    (m_zip : mg "zip" = none) (m_NAME_KINDS : mg "NAME_KINDS" = some (.ref nK)) (hK : ∀ H, SqT K H nK kindsV) (m_PARTS : mg "PARTS" = some (.ref dP)) (hP : Fw.Parts P w K dP gP) : FnOk P w K mg base CX0 (k + 1) f fd ["part", "kind"] (spNI K n) := by
  obtain ⟨_, _, G_is_number, m_is_number, k_is_number, b_is_number⟩ := GN
  obtain ⟨sp, ⟨_, _, G_names_in, m_names_in, k_names_in, b_names_in⟩, hsp⟩ : ∃ sp, FnG P w K mg base CX0 k "names_in" ["part", "kind"] sp ∧ ∀ m, n = m + 1 → sp = spNI K m := by
    cases n with
    | zero => exact ⟨_, GI', fun m e => nomatch e⟩
    | succ m => exact ⟨_, GI m rfl, fun m' e => by cases e; rfl⟩
  have sc := scNI
  refine F.ok sc (fun vs H Q E h => ?_) (fun cdv A outer s H vs Q E hr h => ?_)
  · obtain ⟨x, k, d, rfl, _⟩ := h
    rfl
  obtain ⟨x, kd, d, rfl, hd, ok, hp, len, q⟩ := h
  refine ⟨_, (pss_cons (ps_if (pt_cmpR op_in_seq (pv 1) (pe_glob (v := .ref nK) (by rfl) m_NAME_KINDS rfl) (by rfl)) (pss_one (ps_ret (pe_lst (pa_cons (pe_tup (pa_cons (pv 1) (pa_cons (pv 0) pa_nil))) pa_nil)))) pss_nil)
      (pss_cons (ps_if (pt_val (pe_call G_is_number (hr.mono (by omega)) (by rfl) m_is_number k_is_number b_is_number .nil pass0 (pa_cons (pv 0) pa_nil))) (pss_one (ps_ret (pe_lst pa_nil))) pss_nil)
      (pss_cons (ps_set (i := 2) sc.nd rfl (.inl rfl) (pe_lst pa_nil))
      (pss_cons (ps_for PassesOwn.never rfl (pi_zipA (by rfl) m_zip (pa_cons (pe_slice sl_tup (pv 0) (po_some pe_int) po_none) (pa_cons (pe_ix (Fw.ix_parts hP (hu_of hr)) (pe_glob (v := .ref dP) (by rfl) m_PARTS rfl) (pe_tup (pa_cons (pv 1) (pa_cons (pe_ix ix_tup (pv 0) pe_int (fun _ _ => rfl)) pa_nil))) (fun _ _ => rfl)) pa_nil))) (pg_tup (by rfl) (pgs_cons (pg_name (i := 3) sc.nd rfl (.inl rfl)) (pgs_cons (pg_name (i := 4) sc.nd rfl (.inl rfl)) pgs_nil))) (pss_one (ps_expr (pe_bm PySem.F.plainAttrs_list PySem.F.slot_list_extend PySem.F.type_list_extend mt_extend (pv 2) (pa_cons (pe_call G_names_in (hr.mono (by omega)) (by rfl) m_names_in k_names_in b_names_in .nil pass0 (pa_cons (pv 3) (pa_cons (pv 4) pa_nil))) pa_nil)))))
      (pss_one (ps_ret (pv 2))))))), ?_⟩
  have z2 : 2 ≤ sizeLine := by decide
  have z1 : 1 ≤ sizeLine := by decide
  have z0 : 0 ≤ sizeLine := by decide
  refine ⟨_, rfl, nK, kindsV, rfl, .inr (hK H), rfl, by decide, _, rfl, ite2 (fun c => ?_) (fun c => ?_)⟩
  · have c : isKd kd = true := c
    have e : nmsIn n kd d = [.tuple [.str kd, d]] := by cases n <;> (unfold nmsIn; rw [if_pos c])
    rw [e] at q
    refine ⟨_, rfl, _, rfl, z2, fun t nt => ⟨z1, fun l nl => ?_⟩⟩
    have s1 := same_upd (o := .tup [.str kd, x]) nt
    have s2 := same_upd (o := .lst [.ref t]) nl
    exact q l _ _ (s1.trans s2) (s1.free nl) upd_same (.cons (.tup (SqT.of (s2 _ _ upd_same)) (.cons (.str _) (.cons (dp_same (s1.trans s2) _ _ hd) .nil))) .nil)
  have c : isKd kd = false := eq_false_of_ne_true c
  refine ⟨_, rfl, x, d, rfl, hd, trivial, fun H1 s1 => ⟨_, rfl, ?_⟩⟩
  obtain ⟨m, rfl, ⟨i, rfl, _⟩ | ⟨wd, r, ks, rfl, hg, hl, ha⟩⟩ := part_in c hp
  · refine iteT ⟨z0, fun l nl => ?_⟩
    exact q l [] _ (s1.trans (same_upd nl)) (s1.free nl) upd_same (by
      rw [show nmsIn (m + 1) kd (.int i) = [] by unfold nmsIn; rw [c]; rfl]
      exact .nil)
  refine iteF ⟨z0, fun N nN => ?_⟩
  rw [hsp m rfl] at *
  have e : nmsIn (m + 1) kd (.tuple (.str wd :: r)) = _ := nms_tup c hg
  rw [e] at q len
  have sN := same_upd (o := .lst []) nN
  have nN0 : H N = none := s1.free nN
  have nm0 : Nmd K H N [] (upd H1 N (.lst [])) := ⟨s1.trans sN, ⟨[], upd_same, .nil, Nat.le_refl _⟩, rfl⟩
  generalize upd H1 N (.lst []) = H2 at *
  obtain ⟨a, xs, rfl, hxs, ax⟩ := dp_items hd
  cases ax with | @cons v vs _ _ hv hvs =>
  cases hv
  replace hxs := seqT nm0.same hxs
  have le := dpAll_len hvs
  have okl := ok.len
  rw [List.length_cons] at okl
  refine ⟨_, rfl, 1, rfl, a, _, rfl, hxs, fun z => ?_, fun t nt => ?_⟩
  · have := z.1
    rw [show HT.sIx (V.str _ :: vs).length 0 (some 1) = min 1 (V.str _ :: vs).length from HT.sIx_nat .., List.length_cons] at this
    omega
  rw [cut_tail]
  have st := same_upd (o := .tup vs) nt
  have et : (upd H2 t (.tup vs)) t = some (.tup vs) := upd_same
  replace nm0 := nm0.more st
  replace hxs := seqT st hxs
  generalize upd H2 t (.tup vs) = H3 at *
  refine ⟨_, rfl, _, rfl, a, _, 0, _, rfl, rfl, hxs, atI_nat (j := 0) rfl, z2, fun u nu => ?_⟩
  have su := same_upd (o := .tup [.str kd, .str wd]) nu
  have eu : (upd H3 u (.tup [.str kd, .str wd])) u = some (.tup [.str kd, .str wd]) := upd_same
  replace nm0 := nm0.more su
  replace et := su _ _ et
  generalize upd H3 u (.tup [.str kd, .str wd]) = H4 at *
  refine ⟨u, kd, wd, ks, rfl, rfl, eu, hg, fun b hb => ?_⟩
  have lz : (ks.map V.str).length = ks.length := List.length_map ..
  obtain ⟨ysN, hN4, _⟩ := nm0.at_
  refine ⟨t, b, vs, ks.map V.str, rfl, .inr ⟨SqT.of et, hb, for_it (walk_zipT (xs := vs) (ys := ks.map V.str) rfl) (fun i σ H' => But N H4 H' ∧ Nmd K H N (((r.zip ks).take i).flatMap fun p => nmsIn m p.2 p.1) H' ∧ ∃ o3 o4, σ = [some (.ref a), some (.str kd), some (.ref N), o3, o4]) ⟨But.refl _ _, nm0, none, none, rfl⟩
    (fun i σ H' _ h => ⟨sqT_but hN4 h.1 (SqT.of et), sqT_but hN4 h.1 hb⟩) ?_ ?_⟩⟩
  · rintro i v σ _ H5 hi ⟨sm, nm, o3, o4, rfl⟩ ⟨T, x, y, rfl, nT, rfl, ex, ey⟩
    obtain ⟨d, ed, dx⟩ := dpAll_at (dpAll_same nm.same r vs hvs) ex
    obtain ⟨y', ez, rfl⟩ : ∃ y', ks[i]? = some y' ∧ y = .str y' := by
      replace ey : (ks.map V.str)[i]? = some y := ey
      rw [List.getElem?_map] at ey
      cases h : ks[i]? with
      | none => rw [h] at ey; cases ey
      | some u => rw [h] at ey; exact ⟨u, rfl, (Option.some.inj ey).symm⟩
    have ep : (r.zip ks)[i]? = some (d, y') := by rw [List.getElem?_zip_eq_some]; exact ⟨ed, ez⟩
    have pp := ha _ (List.mem_of_getElem? ep)
    have sT := same_upd (o := .tup [x, .str y']) nT
    have e1 : ((r.zip ks).take (i + 1)).flatMap (fun p => nmsIn m p.2 p.1) = ((r.zip ks).take i).flatMap (fun p => nmsIn m p.2 p.1) ++ nmsIn m y' d := by
      rw [List.take_succ, ep, List.flatMap_append]
      simp
    have l1 : (((r.zip ks).take i).flatMap fun p => nmsIn m p.2 p.1).length + (nmsIn m y' d).length ≤ 1000 := by
      rw [← List.length_append, ← e1]
      have : (r.zip ks) = (r.zip ks).take (i + 1) ++ (r.zip ks).drop (i + 1) := (List.take_append_drop _ _).symm
      rw [this, List.flatMap_append, List.length_append] at len
      omega
    refine ⟨T, _, rfl, .inl (.inl upd_same), rfl, _, _, rfl, _, _, rfl, rfl, ?_⟩
    obtain ⟨ys0, hy0, _⟩ := (nm.more sT).at_
    refine ⟨_, rfl, .inl ⟨rfl, _, SqL.of hy0⟩, _, rfl, _, rfl, x, y', d, rfl, dp_same sT _ _ dx, ok.kid (List.mem_cons_of_mem _ (List.mem_of_getElem? ed)), pp, by omega, fun p ys H6 s6 np hp' dy => ?_⟩
    have ly := dpAll_len dy
    obtain ⟨ys', h1, l2, nm'⟩ := ((nm.more sT).more s6).put nN0 dy (nms_tOn _ _ _ pp)
    refine ⟨N, p, ys', ys, rfl, rfl, h1, hp', Nat.le_of_lt (small1000 (by omega)), ?_⟩
    refine ⟨fun b o z hb => ?_, by rw [e1]; exact nm', _, _, rfl⟩
    rw [upd_ne z]
    exact s6 _ _ (sT _ _ (sm _ _ z hb))
  · rintro σ H5 ⟨sm, nm, o3, o4, rfl⟩
    obtain ⟨s0, ⟨ys, h1, h2, _⟩, on⟩ := nm
    refine ⟨_, rfl, q N ys H5 s0 nN0 h1 (dpAll_same (rmL_sub (as := [N])) _ _ ?_)⟩
    rw [List.take_of_length_le (by rw [List.length_zip, lz]; omega)] at h2
    exact h2
end
end Fd

set_option Elab.async false
set_option linter.all false
set_option maxRecDepth 100000
set_option maxHeartbeats 4000000
namespace Fd
open PySem PySem.Spec PyProof.Rows L2 RZ
/-- a walk, whatever is done at each thing -/
theorem lp_it {J : It} {n : Nat} {G : Hp → Prop} {Y : Nat → Hp → V → Hp → Prop} (w : Walk J n G Y) {B : V → Hp → (Hp → Prop) → Prop} {H0 : Hp} {Qd : Hp → Prop} (Pv : Nat → Hp → Prop) (h0 : Pv 0 H0) (hG : ∀ i H, i ≤ n → Pv i H → G H)
    (hs : ∀ i x H H', i < n → Pv i H → Y i H x H' → B x H' (Pv (i + 1))) (hd : ∀ H, Pv n H → Qd H) :
    ∃ W : Nat → Nat → Hp → Prop, (∃ m, W 0 m H0) ∧ ∀ i m H, W i m H → (J.stop i H ∧ Qd H) ∨ (J.go i H ∧ ∃ Nx : Hp → Prop, (∀ H', Nx H' → ∃ m', m' < m ∧ W (i + 1) m' H') ∧ ∀ x H', J.yld i H x H' → B x H' Nx) :=
  ⟨fun i m H => m = n - i ∧ i ≤ n ∧ Pv i H, ⟨n, by omega, Nat.zero_le _, h0⟩, fun i m H ⟨e, hi, p⟩ => by
    have g := hG i H hi p
    by_cases lt : i < n
    · exact .inr ⟨w.goes i H lt g, Pv (i + 1), fun H' p' => ⟨n - (i + 1), by omega, rfl, lt, p'⟩, fun x H' y => hs i x H H' lt p (w.yields i H x H' lt g y)⟩
    · obtain rfl : i = n := by omega
      exact .inl ⟨w.stops H g, hd H p⟩⟩
abbrev ltV : List V := [.str "look", .str "test"]
abbrev olfV : List V := [.str "own", .str "list", .str "figure"]
def nby (f : PyData → List PyData) (k : Str) (d : PyData) : List PyData :=
  if decide (k = "block") = true then f d else if decide (k = "looks") = true then (items d).flatMap (nmsIn 6 "look") else if inV (.str k) ltV = true then nmsIn 6 k d else if inV (.str k) olfV = true then [.tuple [.str k, d]] else []
def doPair : List PyData → PyData
  | [n, l] => .tuple [.str "piece", .tuple [n, .int (items l).length]]
  | _ => .none
def ndeed (f : PyData → List PyData) : PyData → List PyData
  | .tuple (.str w :: r) => (if decide (w = "do") = true then [doPair r] else []) ++ match gD w with
    | some ks => (r.zip ks).flatMap fun p => nby f p.2 p.1
    | none => []
  | _ => []
def nin : Nat → PyData → List PyData
  | 0, _ => []
  | n + 1, d => (items d).flatMap (ndeed (nin n))
theorem in_lt {k : Str} (h : inV (.str k) ltV = true) : k = "look" ∨ k = "test" := by
  have h : (((Str.ofString "look") == k) || (((Str.ofString "test") == k) || false)) = true := h
  rw [Bool.or_false, Bool.or_eq_true, beq_iff_eq, beq_iff_eq] at h
  exact h.imp (·.symm) (·.symm)
theorem in_olf {k : Str} (h : inV (.str k) olfV = true) : k = "own" ∨ k = "list" ∨ k = "figure" := by
  have h : (((Str.ofString "own") == k) || (((Str.ofString "list") == k) || (((Str.ofString "figure") == k) || false))) = true := h
  rw [Bool.or_false, Bool.or_eq_true, Bool.or_eq_true, beq_iff_eq, beq_iff_eq, beq_iff_eq] at h
  exact h.imp (·.symm) (·.imp (·.symm) (·.symm))
/-- what stands by itself is a name, or none -/
theorem olf_tOn {f : PyData → Bool} {k : Str} {d : PyData} (hk : k = "own" ∨ k = "list" ∨ k = "figure") (h : dpB f k d = true) : tOn d = true := by
  have e : dpB f k d = ((decide (k = "figure") && isNn d) || isNm d) := by
    unfold dpB
    rcases hk with rfl | rfl | rfl <;> rw [if_neg (by decide +kernel), if_neg (by decide +kernel), if_neg (by decide +kernel), if_neg (by decide +kernel), if_neg (by decide +kernel)]
  rw [e, Bool.or_eq_true, Bool.and_eq_true] at h
  rcases h with ⟨_, h⟩ | h
  · cases d with
    | none => rfl
    | _ => cases h
  · exact nm_tOn h
theorem looks_at {d : PyData} (h : looksB d = true) : ∃ ds, d = .tuple ds ∧ ds.length ≤ 2 ∧ ∀ x ∈ ds, isPart 6 "look" x = true := by
  cases d with
  | tuple ds =>
    have h : (decide (ds.length ≤ 2) && ds.all (isPart 6 "look")) = true := h
    rw [Bool.and_eq_true] at h
    exact ⟨ds, rfl, of_decide_eq_true h.1, fun x hx => List.all_eq_true.mp h.2 x hx⟩
  | _ => cases h
section
variable {P : Program} {w : World} {K : PySem.W.Frag} {mg : Str → Option Value} {base : Heap} {f : Addr} {fd : FuncData}
/-- the list of what is named, new -/
def NewL (K : PySem.W.Frag) (H : Hp) (es : List PyData) (Q : VK) : Prop := ∀ p ys H', Same H H' → H p = none → H' p = some (.lst ys) → DpAll K H' ys es → Q (.ref p) H'
def spNB (K : PySem.W.Frag) (n : Nat) : Sp := fun vs H Q _ => ∃ (x : V) (k : Str) (d : PyData), vs = [x, .str k] ∧ Dp K H x d ∧ OkA d ∧ dpB (innerB n) k d = true ∧ (nby (nin n) k d).length ≤ 1000 ∧ NewL K H (nby (nin n) k d) Q
def spNin (K : PySem.W.Frag) (n : Nat) : Sp := fun vs H Q _ => ∃ (x : V) (d : PyData), vs = [x] ∧ Dp K H x d ∧ OkA d ∧ innerB n d = true ∧ (nin n d).length ≤ 1000 ∧ NewL K H (nin n d) Q
abbrev sNB : Stmt := top 58
theorem scNB : FnScope ["part", "kind", "look", "pair"] ["part", "kind"] (defScope sNB) := ⟨rfl, rfl, rfl, by decide +kernel, rfl, by decide +kernel, by decide +kernel⟩
theorem ok_nby {k n : Nat} (F : Fun K "named_by" "named_by" sNB f fd) (GI : FnG P w K mg base CX0 k "names_in" ["part", "kind"] (spNI K 6)) (GN : FnG P w K mg base CX0 k "named_in" ["block"] (spNin K n)) : FnOk P w K mg base CX0 (k + 1) f fd ["part", "kind"] (spNB K n) := by
  obtain ⟨_, _, G_names_in, m_names_in, k_names_in, b_names_in⟩ := GI
  obtain ⟨_, _, G_named_in, m_named_in, k_named_in, b_named_in⟩ := GN
  have sc := scNB
  refine F.ok sc (fun vs H Q E h => ?_) (fun cdv A outer s H vs Q E hr h => ?_)
  · obtain ⟨x, k, d, rfl, _⟩ := h
    rfl
  obtain ⟨x, kd, d, rfl, hd, ok, hv, len, q⟩ := h
  refine ⟨_, (pss_cons (ps_if (pt_cmpR op_eq (pv 1) pe_str (nomark _)) (pss_one (ps_ret (pe_call G_named_in (hr.mono (by omega)) (by rfl) m_named_in k_named_in b_named_in .nil pass0 (pa_cons (pv 0) pa_nil)))) pss_nil)
      (pss_cons (ps_if (pt_cmpR op_eq (pv 1) pe_str (nomark _)) (pss_one (ps_ret (pe_lc2 (own := [("look", 2), ("pair", 3)]) (vs1 := [3]) (by rfl) sc.nd (pi_tup (pv 0)) (blkOk_by (own := [("look", 2), ("pair", 3)]) (N := ["part", "kind", "look", "pair"]) (sc := defScope sNB) (by decide +kernel)) (by decide) (fun _ _ _ _ _ => pg_name (i := 2) sc.nd rfl (.inl rfl)) (fun _ _ _ _ _ => pts_nil) (fun _ _ _ _ _ => show PI _ _ _ (iList K _) from pi_list (pe_call G_names_in (hr.mono (by omega)) (by rfl) m_names_in k_names_in b_names_in .nil pass0 (pa_cons (pv 2) (pa_cons pe_str pa_nil)))) (fun _ _ _ _ _ => pg_name (i := 3) sc.nd rfl (.inl rfl)) (fun _ _ _ _ _ => pts_nil) (fun _ _ _ _ _ => pv 3)))) pss_nil)
      (pss_cons (ps_if (pt_cmpR op_in_seq (pv 1) (pe_tup (pa_cons pe_str (pa_cons pe_str pa_nil))) (by rfl)) (pss_one (ps_ret (pe_call G_names_in (hr.mono (by omega)) (by rfl) m_names_in k_names_in b_names_in .nil pass0 (pa_cons (pv 0) (pa_cons (pv 1) pa_nil))))) pss_nil)
      (pss_one (ps_ret (pe_ifExp (pt_cmpR op_in_seq (pv 1) (pe_tup (pa_cons pe_str (pa_cons pe_str (pa_cons pe_str pa_nil)))) (by rfl)) (pe_lst (pa_cons (pe_tup (pa_cons (pv 1) (pa_cons (pv 0) pa_nil))) pa_nil)) (pe_lst pa_nil))))))), ?_⟩
  have z0 : 0 ≤ sizeLine := by decide
  have z1 : 1 ≤ sizeLine := by decide
  have z2 : 2 ≤ sizeLine := by decide
  have z3 : 3 ≤ sizeLine := by decide
  unfold nby at q len
  refine ⟨_, rfl, rfl, _, rfl, ?_⟩
  rw [eq_str]
  refine ite2 (fun c => ?_) (fun c => ?_)
  · rw [if_pos c] at q len
    obtain rfl : kd = "block" := of_decide_eq_true c
    unfold dpB at hv
    rw [if_neg (by decide +kernel), if_neg (by decide +kernel), if_pos c] at hv
    exact ⟨_, rfl, x, d, rfl, hd, ok, hv, len, q⟩
  rw [if_neg c] at q len
  refine ⟨_, rfl, rfl, _, rfl, ?_⟩
  rw [eq_str]
  refine ite2 (fun c2 => ?_) (fun c2 => ?_)
  · rw [if_pos c2] at q len
    obtain rfl : kd = "looks" := of_decide_eq_true c2
    unfold dpB at hv
    rw [if_neg (by decide +kernel), if_neg (by decide +kernel), if_neg (by decide +kernel), if_pos c2] at hv
    obtain ⟨ds, rfl, l2, hp⟩ := looks_at hv
    obtain ⟨a, xs, rfl, ha, ax⟩ := dp_items hd
    have le := dpAll_len ax
    replace len : (ds.flatMap (nmsIn 6 "look")).length ≤ 1000 := len
    replace q : NewL K H (ds.flatMap (nmsIn 6 "look")) Q := q
    refine ⟨_, rfl, a, rfl, ⟨_, ha⟩, fun N nN => lp_it (walk_tup (xs := xs)) (fun i H' => Nmd K H N ((ds.take i).flatMap (nmsIn 6 "look")) H') ⟨same_upd nN, ⟨[], upd_same, .nil, Nat.le_refl _⟩, rfl⟩ (fun i H' _ h => seqT h.same ha) ?_ ?_⟩
    · rintro i v _ H1 hi nm ⟨rfl, ex⟩
      obtain ⟨d, ed, dv⟩ := dpAll_at (dpAll_same nm.same _ _ ax) ex
      have md := List.mem_of_getElem? ed
      have e1 : (ds.take (i + 1)).flatMap (nmsIn 6 "look") = (ds.take i).flatMap (nmsIn 6 "look") ++ nmsIn 6 "look" d := by
        rw [List.take_succ, ed, List.flatMap_append]
        simp
      have l1 : ((ds.take i).flatMap (nmsIn 6 "look")).length + (nmsIn 6 "look" d).length ≤ 1000 := by
        rw [← List.length_append, ← e1]
        have : ds = ds.take (i + 1) ++ ds.drop (i + 1) := (List.take_append_drop _ _).symm
        rw [this, List.flatMap_append, List.length_append] at len
        omega
      refine ⟨rfl, ?_⟩
      unfold tYes
      refine iteT ⟨_, rfl, v, "look", d, rfl, dv, ok.kid md, hp d md, by omega, fun p ys H2 s2 np hp2 dy => ?_⟩
      have ly := dpAll_len dy
      have on := nms_tOn 6 "look" d (hp d md)
      refine ⟨p, rfl, ⟨_, SqL.of hp2⟩, lp_it (walk_list (xs := ys)) (fun j H' => But N H2 H' ∧ Nmd K H N ((ds.take i).flatMap (nmsIn 6 "look") ++ (nmsIn 6 "look" d).take j) H') ⟨But.refl _ _, by rw [List.take_zero, List.append_nil]; exact nm.more s2⟩ (fun j H' _ h => SqL.of (h.1 _ _ (fun z => by
        obtain ⟨y0, hy0, _⟩ := nm.at_
        rw [z, hy0] at np
        cases np) hp2)) ?_ ?_⟩
      · rintro j u _ H3 hj ⟨bt, nm3⟩ ⟨rfl, ey⟩
        obtain ⟨e, ee, _⟩ := dpAll_at dy ey
        have dyN : DpAll K (rmL [N] H2) ys (nmsIn 6 "look" d) := by
          obtain ⟨y0, hy0, _⟩ := (nm.more s2).at_
          exact dpAll_noL hy0 _ _ on dy
        have dyM : DpAll K H3 ys (nmsIn 6 "look" d) := dpAll_same (rmL_sub (as := [N])) _ _ (dpAll_same (rmL_but (fun b o nb hb => bt b o (fun z => nb (List.mem_singleton.mpr z)) hb)) _ _ dyN)
        obtain ⟨e', ee', du⟩ := dpAll_at dyM ey
        obtain rfl : e = e' := Option.some.inj (ee.symm.trans ee')
        have one : tOns [e] = true := by
          have : ∀ {l : List PyData} {j : Nat} {e : PyData}, tOns l = true → l[j]? = some e → tOn e = true := fun {l} => by
            induction l with
            | nil => intro j e _ h; simp at h
            | cons x r ih =>
              intro j e h g
              have h : (tOn x && tOns r) = true := h
              rw [Bool.and_eq_true] at h
              cases j with
              | zero => cases (Option.some.inj g); exact h.1
              | succ j => exact ih h.2 g
          show (tOn e && true) = true
          rw [this on ee]
          rfl
        obtain ⟨ys', h1, l3, nm4⟩ := nm3.put nN (.cons du .nil) one
        refine ⟨rfl, iteT ⟨_, rfl, ys', h1, small1000 (by rw [l3, List.length_append, List.length_take]; omega), fun b o nb hb => ?_, ?_⟩⟩
        · rw [upd_ne nb]
          exact bt _ _ nb hb
        · rw [List.take_succ, ee, ← List.append_assoc]
          exact nm4
      · rintro H3 ⟨bt, nm3⟩
        rw [List.take_of_length_le (l := nmsIn 6 "look" d) (by omega)] at nm3
        rw [e1]
        exact nm3
    · rintro H1 nm
      obtain ⟨s0, ⟨ys, h1, h2, _⟩, on⟩ := nm
      rw [List.take_of_length_le (by rw [le]; exact Nat.le_refl _)] at h2
      exact q N ys H1 s0 nN h1 (dpAll_same (rmL_sub (as := [N])) _ _ h2)
  rw [if_neg c2] at q len
  refine ⟨_, rfl, z2, fun t nt => ?_⟩
  have st := same_upd (o := .tup ltV) nt
  refine ⟨t, ltV, rfl, .inr (SqT.of upd_same), rfl, by decide, _, rfl, ite2 (fun c3 => ?_) (fun c3 => ?_)⟩
  · replace c3 : inV (.str kd) ltV = true := c3
    rw [if_pos c3] at q len
    refine ⟨_, rfl, _, rfl, x, kd, d, rfl, dp_same st _ _ hd, ok, ?_, len, fun p ys H' s' np hp dy => q p ys H' (st.trans s') (st.free np) hp dy⟩
    rcases in_lt c3 with rfl | rfl
    · unfold dpB at hv; rw [if_pos (by decide +kernel)] at hv; exact hv
    · unfold dpB at hv; rw [if_neg (by decide +kernel), if_pos (by decide +kernel)] at hv; exact hv
  replace c3 : ¬ inV (.str kd) ltV = true := c3
  rw [if_neg c3] at q len
  have et : (upd H t (.tup ltV)) t = some (.tup ltV) := upd_same
  replace hd := dp_same st _ _ hd
  generalize upd H t (.tup ltV) = H1 at *
  refine ⟨_, rfl, z3, fun u nu => ?_⟩
  have su := same_upd (o := .tup olfV) nu
  refine ⟨u, olfV, rfl, .inr (SqT.of upd_same), rfl, by decide, _, rfl, ite2 (fun c4 => ?_) (fun c4 => ?_)⟩
  · replace c4 : inV (.str kd) olfV = true := c4
    rw [if_pos c4] at q
    refine ⟨_, rfl, _, rfl, z2, fun v nv => ⟨z1, fun l nl => ?_⟩⟩
    have s1 := same_upd (o := .tup [.str kd, x]) nv
    have s2 := same_upd (o := .lst [.ref v]) nl
    exact q l _ _ (st.trans (su.trans (s1.trans s2))) ((st.trans (su.trans s1)).free nl) upd_same (.cons (.tup (SqT.of (s2 _ _ upd_same)) (.cons (.str _) (.cons (dp_same (su.trans (s1.trans s2)) _ _ hd) .nil))) .nil)
  · replace c4 : ¬ inV (.str kd) olfV = true := c4
    rw [if_neg c4] at q
    refine ⟨z0, fun l nl => ?_⟩
    exact q l [] _ (st.trans (su.trans (same_upd nl))) ((st.trans su).free nl) upd_same .nil
end
end Fd

set_option Elab.async false
set_option linter.all false
set_option maxRecDepth 100000
set_option maxHeartbeats 4000000
namespace Fd
open PySem PySem.Spec PyProof.Rows L2 RZ
theorem late {R G : Prop} (g : R → G) (h : R) : G := g h
theorem deed_at {f : PyData → Bool} {d : PyData} (h : deedB f d = true) : ∃ w r ks, d = .tuple (.str w :: r) ∧ gD w = some ks ∧ r.length = ks.length ∧ ∀ p ∈ r.zip ks, dpB f p.2 p.1 = true := by
  cases d with
  | tuple ds => cases ds with
    | nil => cases h
    | cons x r => cases x with
      | str wd =>
        have h : (match gD wd with
          | none => false
          | some ks => decide (r.length = ks.length) && (r.zip ks).all fun (p : PyData × Str) => dpB f p.2 p.1) = true := h
        cases hg : gD wd with
        | none => rw [hg] at h; cases h
        | some ks =>
          rw [hg] at h
          have h : (decide (r.length = ks.length) && (r.zip ks).all fun (p : PyData × Str) => dpB f p.2 p.1) = true := h
          rw [Bool.and_eq_true] at h
          exact ⟨wd, r, ks, rfl, hg, of_decide_eq_true h.1, fun p hp => List.all_eq_true.mp h.2 p hp⟩
      | _ => cases h
  | _ => cases h
theorem inner_to {n : Nat} {d : PyData} (h : innerB n d = true) : ∃ m ds, n = m + 1 ∧ d = .tuple ds ∧ ds.length ≤ 8 ∧ ∀ x ∈ ds, deedB (innerB m) x = true := by
  cases n with
  | zero => cases h
  | succ m => cases d with
    | tuple ds =>
      have h : (decide (ds.length ≤ 8) && ds.all (deedB (innerB m))) = true := h
      rw [Bool.and_eq_true] at h
      exact ⟨m, ds, rfl, rfl, of_decide_eq_true h.1, fun x hx => List.all_eq_true.mp h.2 x hx⟩
    | _ => cases h
theorem nby_tOn {f : PyData → List PyData} {g : PyData → Bool} (hf : ∀ d, g d = true → tOns (f d) = true) {k : Str} {d : PyData} (h : dpB g k d = true) : tOns (nby f k d) = true := by
  unfold nby
  by_cases c1 : decide (k = "block") = true
  · rw [if_pos c1]
    obtain rfl : k = "block" := of_decide_eq_true c1
    unfold dpB at h
    rw [if_neg (by decide +kernel), if_neg (by decide +kernel), if_pos c1] at h
    exact hf d h
  rw [if_neg c1]
  by_cases c2 : decide (k = "looks") = true
  · rw [if_pos c2]
    obtain rfl : k = "looks" := of_decide_eq_true c2
    unfold dpB at h
    rw [if_neg (by decide +kernel), if_neg (by decide +kernel), if_neg (by decide +kernel), if_pos c2] at h
    obtain ⟨ds, rfl, _, hp⟩ := looks_at h
    exact tOns_flat fun x hx => nms_tOn 6 "look" x (hp x hx)
  rw [if_neg c2]
  by_cases c3 : inV (.str k) ltV = true
  · rw [if_pos c3]
    rcases in_lt c3 with rfl | rfl
    · unfold dpB at h; rw [if_pos (by decide +kernel)] at h; exact nms_tOn 6 _ d h
    · unfold dpB at h; rw [if_neg (by decide +kernel), if_pos (by decide +kernel)] at h; exact nms_tOn 6 _ d h
  rw [if_neg c3]
  by_cases c4 : inV (.str k) olfV = true
  · rw [if_pos c4]
    show ((tOn (.str k) && (tOn d && true)) && true) = true
    rw [olf_tOn (in_olf c4) h]
    rfl
  · rw [if_neg c4]
    rfl
/-- a do has a name and looks -/
theorem do_at {f : PyData → Bool} {r : List PyData} {ks : List Str} (hg : gD "do" = some ks) (hl : r.length = ks.length) (ha : ∀ p ∈ r.zip ks, dpB f p.2 p.1 = true) : ∃ nm ds, r = [nm, .tuple ds] ∧ isNm nm = true ∧ ds.length ≤ 2 := by
  have e : ks = (["piece", "looks"] : List Str) := by
    have : gD "do" = some (["piece", "looks"] : List Str) := by decide +kernel
    rw [this] at hg
    exact (Option.some.inj hg).symm
  subst e
  match r, hl with
  | [x, y], _ =>
    have h1 := ha (x, "piece") (by simp)
    have h2 := ha (y, "looks") (by simp)
    dsimp only at h1 h2
    unfold dpB at h1 h2
    rw [if_neg (by decide +kernel), if_neg (by decide +kernel), if_neg (by decide +kernel), if_neg (by decide +kernel), if_neg (by decide +kernel)] at h1
    rw [if_neg (by decide +kernel), if_neg (by decide +kernel), if_neg (by decide +kernel), if_pos (by decide +kernel)] at h2
    rw [show decide (("piece" : Str) = "figure") = false by decide +kernel, Bool.false_and, Bool.false_or] at h1
    obtain ⟨ds, rfl, l2, _⟩ := looks_at h2
    exact ⟨x, ds, rfl, h1, l2⟩
theorem ndeed_tup {f : PyData → List PyData} {w : Str} {r : List PyData} {ks : List Str} (hg : gD w = some ks) : ndeed f (.tuple (.str w :: r)) = (if decide (w = "do") = true then [doPair r] else []) ++ (r.zip ks).flatMap fun p => nby f p.2 p.1 := by
  show (if decide (w = "do") = true then [doPair r] else []) ++ (match gD w with
    | some ks => (r.zip ks).flatMap fun (p : PyData × Str) => nby f p.2 p.1
    | none => []) = _
  rw [hg]
theorem do_tOn {f : PyData → Bool} {w : Str} {r : List PyData} {ks : List Str} (hg : gD w = some ks) (hl : r.length = ks.length) (ha : ∀ p ∈ r.zip ks, dpB f p.2 p.1 = true) : tOns (if decide (w = "do") = true then [doPair r] else []) = true := by
  by_cases c : decide (w = "do") = true
  · rw [if_pos c]
    obtain rfl : w = "do" := of_decide_eq_true c
    obtain ⟨nm, ds, rfl, hn, _⟩ := do_at hg hl ha
    show ((tOn (.str "piece") && ((tOn nm && (tOn (.int _) && true)) && true)) && true) = true
    rw [nm_tOn hn]
    rfl
  · rw [if_neg c]; rfl
theorem nin_tOn : ∀ (n : Nat) (d : PyData), innerB n d = true → tOns (nin n d) = true
  | 0, _, h => by cases h
  | n + 1, d, h => by
    obtain ⟨m, ds, e, rfl, _, ha⟩ := inner_to h
    cases e
    refine tOns_flat fun x hx => ?_
    obtain ⟨w, r, ks, rfl, hg, hl, hp⟩ := deed_at (ha x hx)
    rw [ndeed_tup hg]
    exact tOns_app (do_tOn hg hl hp) (tOns_flat fun p hp' => nby_tOn (nin_tOn n) (hp p hp'))
theorem flat_le {α : Type} {f : α → List PyData} {l : List α} {i : Nat} {x : α} (h : l[i]? = some x) : ((l.take i).flatMap f).length + (f x).length ≤ (l.flatMap f).length ∧ (l.take (i + 1)).flatMap f = (l.take i).flatMap f ++ f x := by
  have e1 : (l.take (i + 1)).flatMap f = (l.take i).flatMap f ++ f x := by
    rw [List.take_succ, h, List.flatMap_append]
    simp
  refine ⟨?_, e1⟩
  rw [← List.length_append, ← e1]
  have : l = l.take (i + 1) ++ l.drop (i + 1) := (List.take_append_drop _ _).symm
  conv => rhs; rw [this, List.flatMap_append, List.length_append]
  omega
section
variable {P : Program} {w : World} {K : PySem.W.Frag} {mg : Str → Option Value} {base : Heap} {f : Addr} {fd : FuncData}
abbrev sNin : Stmt := top 57
theorem scNin : FnScope ["block", "named", "deed", "part", "kind"] ["block"] (defScope sNin) := ⟨rfl, rfl, rfl, by decide +kernel, rfl, by decide +kernel, by decide +kernel⟩
theorem ok_nin {k n : Nat} {dD : Addr} (F : Fun K "named_in" "named_in" sNin f fd) (GB : FnG P w K mg base CX0 k "named_by" ["part", "kind"] (spNB K n)) (m_len : mg "len" = none) (m_zip : mg "zip" = none) (m_DEEDS : mg "DEEDS" = some (.ref dD)) (hD : Fw.Deeds P w K dD gD) :
    FnOk P w K mg base CX0 (k + 1) f fd ["block"] (spNin K (n + 1)) := by
  obtain ⟨_, _, G_named_by, m_named_by, k_named_by, b_named_by⟩ := GB
  have sc := scNin
  refine F.ok sc (fun vs H Q E h => ?_) (fun cdv A outer s H vs Q E hr h => ?_)
  · obtain ⟨x, d, rfl, _⟩ := h
    rfl
  obtain ⟨x, d, rfl, hd, ok, hv, len, q⟩ := h
  refine ⟨_, (pss_cons (ps_set (i := 1) sc.nd rfl (.inl rfl) (pe_lst pa_nil))
      (pss_cons (ps_for PassesOwn.never rfl (pi_tup (pv 0)) (pg_name (i := 2) sc.nd rfl (.inl rfl)) (pss_cons (ps_if (pt_cmpR op_eq (pe_ix ix_tup (pv 2) pe_int (fun _ _ => rfl)) pe_str (nomark _)) (pss_one (ps_expr (pe_bm PySem.F.plainAttrs_list PySem.F.slot_list_append PySem.F.type_list_append mt_append (pv 1) (pa_cons (pe_tup (pa_cons pe_str (pa_cons (pe_tup (pa_cons (pe_ix ix_tup (pv 2) pe_int (fun _ _ => rfl)) (pa_cons (pe_callB call_len_seq (by rfl) m_len (by decide +kernel) (pa_cons (pe_ix ix_tup (pv 2) pe_int (fun _ _ => rfl)) pa_nil)) pa_nil))) pa_nil))) pa_nil)))) pss_nil)
      (pss_one (ps_for PassesOwn.never rfl (pi_zipA (by rfl) m_zip (pa_cons (pe_slice sl_tup (pv 2) (po_some pe_int) po_none) (pa_cons (pe_ix (Fw.ix_deeds hD) (pe_glob (v := .ref dD) (by rfl) m_DEEDS rfl) (pe_ix ix_tup (pv 2) pe_int (fun _ _ => rfl)) (fun _ _ => rfl)) pa_nil))) (pg_tup (by rfl) (pgs_cons (pg_name (i := 3) sc.nd rfl (.inl rfl)) (pgs_cons (pg_name (i := 4) sc.nd rfl (.inl rfl)) pgs_nil))) (pss_one (ps_expr (pe_bm PySem.F.plainAttrs_list PySem.F.slot_list_extend PySem.F.type_list_extend mt_extend (pv 1) (pa_cons (pe_call G_named_by (hr.mono (by omega)) (by rfl) m_named_by k_named_by b_named_by .nil pass0 (pa_cons (pv 3) (pa_cons (pv 4) pa_nil))) pa_nil))))))))
      (pss_one (ps_ret (pv 1))))), ?_⟩
  have z0 : 0 ≤ sizeLine := by decide
  have z2 : 2 ≤ sizeLine := by decide
  obtain ⟨m, ds, e, rfl, l8, ha⟩ := inner_to hv
  cases e
  replace len : (ds.flatMap (ndeed (nin n))).length ≤ 1000 := len
  replace q : NewL K H (ds.flatMap (ndeed (nin n))) Q := q
  obtain ⟨a, xs, rfl, hxs, ax⟩ := dp_items hd
  have le := dpAll_len ax
  refine ⟨z0, fun N nN => ?_⟩
  refine ⟨_, rfl, a, rfl, ⟨_, seqT (same_upd nN) hxs⟩, for_it (walk_tup (xs := xs)) (fun i σ H' => Nmd K H N ((ds.take i).flatMap (ndeed (nin n))) H' ∧ ∃ o2 o3 o4, σ = [some (.ref a), some (.ref N), o2, o3, o4]) ⟨⟨same_upd nN, ⟨[], upd_same, .nil, Nat.le_refl _⟩, rfl⟩, none, none, none, rfl⟩ (fun i σ H' _ h => seqT h.1.same hxs) ?_ ?_⟩
  · rintro i v σ _ H1 hi ⟨nm, o2, o3, o4, rfl⟩ ⟨rfl, ex⟩
    obtain ⟨d, ed, dv⟩ := dpAll_at ax ex
    have md := List.mem_of_getElem? ed
    obtain ⟨wd, r, ks, rfl, hg, hl, hp⟩ := deed_at (ha d md)
    obtain ⟨fl1, fl2⟩ := flat_le (f := ndeed (nin n)) ed
    rw [fl2]
    rw [ndeed_tup hg, List.length_append] at fl1
    rw [ndeed_tup hg, ← List.append_assoc]
    have okd := ok.kid md
    have okl := okd.len
    rw [List.length_cons] at okl
    obtain ⟨b, ys, rfl, hb, bz⟩ := dp_items dv
    cases bz with | @cons y0 vs _ _ hy hvs =>
    cases hy
    have lv := dpAll_len hvs
    refine ⟨_, rfl, b, _, 0, _, rfl, rfl, seqT nm.same hb, atI_nat (j := 0) rfl, rfl, _, rfl, ?_⟩
    rw [eq_str]
    generalize hE : (ds.take i).flatMap (ndeed (nin n)) = E0 at *
    refine ite2 (fun c => ?_) (fun c => ?_)
    · rw [if_pos c] at fl1 ⊢
      obtain rfl : wd = "do" := of_decide_eq_true c
      obtain ⟨nx, dl, rfl, hn, l2⟩ := do_at hg hl hp
      cases hvs with | @cons v1 _ _ _ e1 hv2 =>
      cases hv2 with | @cons v2 _ _ _ e2 hv3 =>
      cases hv3
      obtain ⟨b2, zs, rfl, hz, bz⟩ := dp_items e2
      have lz2 := dpAll_len bz
      obtain ⟨y1, hy1, _⟩ := nm.at_
      refine ⟨_, rfl, .inl ⟨rfl, _, SqL.of hy1⟩, _, rfl, b, _, 1, _, rfl, rfl, seqT nm.same hb, rfl, _, rfl, b, _, 2, _, rfl, rfl, seqT nm.same hb, rfl, b2, zs, rfl, .inr (seqT nm.same hz), z2, fun t1 n1 => ⟨z2, fun t2 n2 => ?_⟩⟩
      have s1 := same_upd (o := .tup [v1, .int zs.length]) n1
      have s2 := same_upd (o := .tup [.str "piece", .ref t1]) n2
      have nmA := (nm.more s1).more s2
      have dd : Dp K (upd (upd H1 t1 (.tup [v1, .int zs.length])) t2 (.tup [.str "piece", .ref t1])) (.ref t2) (doPair [nx, .tuple dl]) := by
        show Dp K _ _ (.tuple [.str "piece", .tuple [nx, .int ((dl.length : Nat) : Int)]])
        rw [← lz2]
        exact .tup (SqT.of upd_same) (.cons (.str _) (.cons (.tup (SqT.of (s2 _ _ upd_same)) (.cons (dp_same (nm.same.trans (s1.trans s2)) _ _ e1) (.cons (.int _) .nil))) .nil))
      have onD : tOns [doPair [nx, .tuple dl]] = true := do_tOn (w := "do") hg hl hp
      obtain ⟨ys', h1, l3, nm2⟩ := nmA.put nN (.cons dd .nil) onD
      generalize upd (upd H1 t1 (.tup [v1, .int zs.length])) t2 (.tup [.str "piece", .ref t1]) = H1' at *
      refine ⟨N, ys', .ref t2, rfl, rfl, h1, small1000 (by rw [l3]; omega), ?_⟩
      generalize upd H1' N (.lst (ys' ++ [.ref t2])) = H2 at *
      have lE : E0.length + ([doPair [nx, .tuple dl]].length + ((([nx, .tuple dl] : List PyData).zip ks).flatMap fun p => nby (nin n) p.2 p.1).length) ≤ (ds.flatMap (ndeed (nin n))).length := fl1
      rw [← Nat.add_assoc, ← List.length_append] at lE
      generalize E0 ++ [doPair [nx, .tuple dl]] = E2 at *
      have hvs : DpAll K H [v1, .ref b2] [nx, .tuple dl] := .cons e1 (.cons e2 .nil)
      generalize hr2 : ([nx, .tuple dl] : List PyData) = r at *
      generalize hv2 : ([v1, .ref b2] : List V) = vs at *
      refine ⟨_, rfl, 1, rfl, b, _, rfl, seqT nm2.same hb, fun z => ?_, fun t nt => ?_⟩
      · have := z.1
        rw [show HT.sIx (V.str _ :: vs).length 0 (some 1) = min 1 (V.str _ :: vs).length from HT.sIx_nat .., List.length_cons] at this
        omega
      rw [cut_tail]
      have st := same_upd (o := .tup vs) nt
      have et : (upd H2 t (.tup vs)) t = some (.tup vs) := upd_same
      replace nm2 := nm2.more st
      generalize upd H2 t (.tup vs) = H3 at *
      refine ⟨_, rfl, b, _, 0, _, rfl, rfl, seqT nm2.same hb, atI_nat (j := 0) rfl, "do", ks, rfl, rfl, hg, fun bk hbk => ?_⟩
      have lz : (ks.map V.str).length = ks.length := List.length_map ..
      obtain ⟨ysN, hN3, _⟩ := nm2.at_
      refine ⟨t, bk, vs, ks.map V.str, rfl, .inr ⟨SqT.of et, hbk, for_it (walk_zipT (xs := vs) (ys := ks.map V.str) rfl) (fun i' σ H' => But N H3 H' ∧ Nmd K H N (E2 ++ ((r.zip ks).take i').flatMap fun p => nby (nin n) p.2 p.1) H' ∧ ∃ o3 o4, σ = [some (.ref a), some (.ref N), some (.ref b), o3, o4]) ⟨But.refl _ _, by rw [List.take_zero, List.flatMap_nil, List.append_nil]; exact nm2, _, _, rfl⟩
        (fun i σ H' _ h => ⟨sqT_but hN3 h.1 (SqT.of et), sqT_but hN3 h.1 hbk⟩) ?_ ?_⟩⟩
      · rintro i' v σ _ H5 hi' ⟨sm, nm3, o3, o4, rfl⟩ ⟨T, x, y, rfl, nT, rfl, ex', ey⟩
        obtain ⟨d, ed', dx⟩ := dpAll_at (dpAll_same nm3.same r vs hvs) ex'
        obtain ⟨y', ez, rfl⟩ : ∃ y', ks[i']? = some y' ∧ y = .str y' := by
          replace ey : (ks.map V.str)[i']? = some y := ey
          rw [List.getElem?_map] at ey
          cases h : ks[i']? with
          | none => rw [h] at ey; cases ey
          | some u => rw [h] at ey; exact ⟨u, rfl, (Option.some.inj ey).symm⟩
        have ep : (r.zip ks)[i']? = some (d, y') := by rw [List.getElem?_zip_eq_some]; exact ⟨ed', ez⟩
        have pp := hp _ (List.mem_of_getElem? ep)
        have sT := same_upd (o := .tup [x, .str y']) nT
        obtain ⟨g1, g2⟩ := flat_le (f := fun (p : PyData × Str) => nby (nin n) p.2 p.1) ep
        dsimp only at g1 g2
        refine ⟨T, _, rfl, .inl (.inl upd_same), rfl, _, _, rfl, _, _, rfl, rfl, ?_⟩
        obtain ⟨ys0, hy0, _⟩ := (nm3.more sT).at_
        refine ⟨_, rfl, .inl ⟨rfl, _, SqL.of hy0⟩, _, rfl, _, rfl, x, y', d, rfl, dp_same sT _ _ dx, okd.kid (List.mem_cons_of_mem _ (List.mem_of_getElem? ed')), pp, by omega, fun p ys H6 s6 np hp' dy => ?_⟩
        have ly := dpAll_len dy
        obtain ⟨ys', h1, l2, nm'⟩ := ((nm3.more sT).more s6).put nN dy (nby_tOn (nin_tOn n) pp)
        rw [List.length_append] at l2
        refine ⟨N, p, ys', ys, rfl, rfl, h1, hp', Nat.le_of_lt (small1000 (by omega)), ?_⟩
        refine ⟨fun b o z hb => ?_, by rw [g2, ← List.append_assoc]; exact nm', _, _, rfl⟩
        rw [upd_ne z]
        exact s6 _ _ (sT _ _ (sm _ _ z hb))
      · rintro σ H5 ⟨sm, nm3, o3, o4, rfl⟩
        rw [List.take_of_length_le (by rw [List.length_zip, lz]; omega)] at nm3
        exact ⟨nm3, _, _, _, rfl⟩
    · rw [if_neg c] at fl1 ⊢
      rw [List.append_nil]
      have nm2 := nm
      have lE : E0.length + ((r.zip ks).flatMap fun p => nby (nin n) p.2 p.1).length ≤ (ds.flatMap (ndeed (nin n))).length := by
        rw [List.length_nil, Nat.zero_add] at fl1
        exact fl1
      generalize E0 = E2 at *
      refine ⟨_, rfl, 1, rfl, b, _, rfl, seqT nm2.same hb, fun z => ?_, fun t nt => ?_⟩
      · have := z.1
        rw [show HT.sIx (V.str _ :: vs).length 0 (some 1) = min 1 (V.str _ :: vs).length from HT.sIx_nat .., List.length_cons] at this
        omega
      rw [cut_tail]
      have st := same_upd (o := .tup vs) nt
      have et : (upd H1 t (.tup vs)) t = some (.tup vs) := upd_same
      replace nm2 := nm2.more st
      generalize upd H1 t (.tup vs) = H3 at *
      refine ⟨_, rfl, b, _, 0, _, rfl, rfl, seqT nm2.same hb, atI_nat (j := 0) rfl, wd, ks, rfl, rfl, hg, fun bk hbk => ?_⟩
      have lz : (ks.map V.str).length = ks.length := List.length_map ..
      obtain ⟨ysN, hN3, _⟩ := nm2.at_
      refine ⟨t, bk, vs, ks.map V.str, rfl, .inr ⟨SqT.of et, hbk, for_it (walk_zipT (xs := vs) (ys := ks.map V.str) rfl) (fun i' σ H' => But N H3 H' ∧ Nmd K H N (E2 ++ ((r.zip ks).take i').flatMap fun p => nby (nin n) p.2 p.1) H' ∧ ∃ o3 o4, σ = [some (.ref a), some (.ref N), some (.ref b), o3, o4]) ⟨But.refl _ _, by rw [List.take_zero, List.flatMap_nil, List.append_nil]; exact nm2, _, _, rfl⟩
        (fun i σ H' _ h => ⟨sqT_but hN3 h.1 (SqT.of et), sqT_but hN3 h.1 hbk⟩) ?_ ?_⟩⟩
      · rintro i' v σ _ H5 hi' ⟨sm, nm3, o3, o4, rfl⟩ ⟨T, x, y, rfl, nT, rfl, ex', ey⟩
        obtain ⟨d, ed', dx⟩ := dpAll_at (dpAll_same nm3.same r vs hvs) ex'
        obtain ⟨y', ez, rfl⟩ : ∃ y', ks[i']? = some y' ∧ y = .str y' := by
          replace ey : (ks.map V.str)[i']? = some y := ey
          rw [List.getElem?_map] at ey
          cases h : ks[i']? with
          | none => rw [h] at ey; cases ey
          | some u => rw [h] at ey; exact ⟨u, rfl, (Option.some.inj ey).symm⟩
        have ep : (r.zip ks)[i']? = some (d, y') := by rw [List.getElem?_zip_eq_some]; exact ⟨ed', ez⟩
        have pp := hp _ (List.mem_of_getElem? ep)
        have sT := same_upd (o := .tup [x, .str y']) nT
        obtain ⟨g1, g2⟩ := flat_le (f := fun (p : PyData × Str) => nby (nin n) p.2 p.1) ep
        dsimp only at g1 g2
        refine ⟨T, _, rfl, .inl (.inl upd_same), rfl, _, _, rfl, _, _, rfl, rfl, ?_⟩
        obtain ⟨ys0, hy0, _⟩ := (nm3.more sT).at_
        refine ⟨_, rfl, .inl ⟨rfl, _, SqL.of hy0⟩, _, rfl, _, rfl, x, y', d, rfl, dp_same sT _ _ dx, okd.kid (List.mem_cons_of_mem _ (List.mem_of_getElem? ed')), pp, by omega, fun p ys H6 s6 np hp' dy => ?_⟩
        have ly := dpAll_len dy
        obtain ⟨ys', h1, l2, nm'⟩ := ((nm3.more sT).more s6).put nN dy (nby_tOn (nin_tOn n) pp)
        rw [List.length_append] at l2
        refine ⟨N, p, ys', ys, rfl, rfl, h1, hp', Nat.le_of_lt (small1000 (by omega)), ?_⟩
        refine ⟨fun b o z hb => ?_, by rw [g2, ← List.append_assoc]; exact nm', _, _, rfl⟩
        rw [upd_ne z]
        exact s6 _ _ (sT _ _ (sm _ _ z hb))
      · rintro σ H5 ⟨sm, nm3, o3, o4, rfl⟩
        rw [List.take_of_length_le (by rw [List.length_zip, lz]; omega)] at nm3
        exact ⟨nm3, _, _, _, rfl⟩
  · rintro σ H1 ⟨nm, o2, o3, o4, rfl⟩
    obtain ⟨s0, ⟨ys, h1, h2, _⟩, on⟩ := nm
    rw [List.take_of_length_le (by rw [le]; exact Nat.le_refl _)] at h2
    exact ⟨_, rfl, q N ys H1 s0 nN h1 (dpAll_same (rmL_sub (as := [N])) _ _ h2)⟩
end
end Fd

set_option Elab.async false
set_option linter.all false
set_option maxRecDepth 100000
set_option maxHeartbeats 4000000
namespace Fd
open PySem PySem.Spec PyProof.Rows L2 RZ
open StX (pa_star)
theorem hu65 {k : Nat} {A : Around} (r : Room k A) : A.units + 65 < cLine := by have := r.un; omega
/-! ### what is named, one by one -/
def kd5 (k : Str) : Prop := k = "name" ∨ k = "own" ∨ k = "list" ∨ k = "piece" ∨ k = "figure"
def EltOk (e : PyData) : Prop := ∃ k d, e = .tuple [.str k, d] ∧ kd5 k ∧ OkA d
theorem okt_nm {n : Nat} {d : PyData} (h : isNm d = true) : OkT 3 (n + 1) d := by
  cases d with
  | str z =>
    have h : nmB z = true := h
    unfold nmB at h
    rw [Bool.and_eq_true, Bool.and_eq_true] at h
    refine ⟨Nat.le_trans (of_decide_eq_true h.1.2) (by decide), fun c hc => ?_⟩
    have := List.all_eq_true.mp h.2 c hc
    unfold azB at this
    rw [Bool.and_eq_true] at this
    have := of_decide_eq_true this.2
    omega
  | _ => exact absurd h (by simp [isNm])
theorem kd_of {k : Str} (h : isKd k = true) : kd5 k := by
  have h : (((Str.ofString "name") == k) || (((Str.ofString "list") == k) || (((Str.ofString "figure") == k) || false))) = true := h
  rw [Bool.or_false, Bool.or_eq_true, Bool.or_eq_true, beq_iff_eq, beq_iff_eq, beq_iff_eq] at h
  rcases h with h | h | h
  · exact .inl h.symm
  · exact .inr (.inr (.inl h.symm))
  · exact .inr (.inr (.inr (.inr h.symm)))
theorem nms_elt : ∀ (n : Nat) (k : Str) (d : PyData), OkA d → isPart n k d = true → ∀ e ∈ nmsIn n k d, EltOk e := by
  intro n
  induction n with
  | zero =>
    intro k d ok h e he
    unfold nmsIn at he
    by_cases hk : isKd k = true
    · rw [if_pos hk] at he
      exact ⟨k, d, List.mem_singleton.mp he, kd_of hk, ok⟩
    · rw [if_neg hk] at he
      cases he
  | succ n ih =>
    intro k d ok h e he
    by_cases hk : isKd k = true
    · unfold nmsIn at he
      rw [if_pos hk] at he
      exact ⟨k, d, List.mem_singleton.mp he, kd_of hk, ok⟩
    · obtain ⟨m, e', ⟨i, rfl, _⟩ | ⟨w, r, ks, rfl, hg, hl, ha⟩⟩ := part_in (eq_false_of_ne_true hk) h
      · unfold nmsIn at he
        rw [if_neg hk] at he
        cases he
      · cases e'
        rw [nms_tup (eq_false_of_ne_true hk) hg] at he
        obtain ⟨p, hp, he⟩ := List.mem_flatMap.mp he
        exact ih p.2 p.1 (ok.kid (List.mem_cons_of_mem _ (List.of_mem_zip (show (p.1, p.2) ∈ r.zip ks from hp)).1)) (ha p hp) e he
theorem nby_elt {f : PyData → List PyData} {g : PyData → Bool} (hf : ∀ d, OkA d → g d = true → ∀ e ∈ f d, EltOk e) {k : Str} {d : PyData} (ok : OkA d) (h : dpB g k d = true) : ∀ e ∈ nby f k d, EltOk e := by
  intro e he
  unfold nby at he
  by_cases c1 : decide (k = "block") = true
  · rw [if_pos c1] at he
    obtain rfl : k = "block" := of_decide_eq_true c1
    unfold dpB at h
    rw [if_neg (by decide +kernel), if_neg (by decide +kernel), if_pos c1] at h
    exact hf d ok h e he
  rw [if_neg c1] at he
  by_cases c2 : decide (k = "looks") = true
  · rw [if_pos c2] at he
    obtain rfl : k = "looks" := of_decide_eq_true c2
    unfold dpB at h
    rw [if_neg (by decide +kernel), if_neg (by decide +kernel), if_neg (by decide +kernel), if_pos c2] at h
    obtain ⟨ds, rfl, _, hp⟩ := looks_at h
    obtain ⟨x, hx, he⟩ := List.mem_flatMap.mp he
    exact nms_elt 6 "look" x (ok.kid hx) (hp x hx) e he
  rw [if_neg c2] at he
  by_cases c3 : inV (.str k) ltV = true
  · rw [if_pos c3] at he
    rcases in_lt c3 with rfl | rfl
    · unfold dpB at h; rw [if_pos (by decide +kernel)] at h; exact nms_elt 6 _ d ok h e he
    · unfold dpB at h; rw [if_neg (by decide +kernel), if_pos (by decide +kernel)] at h; exact nms_elt 6 _ d ok h e he
  rw [if_neg c3] at he
  by_cases c4 : inV (.str k) olfV = true
  · rw [if_pos c4] at he
    refine ⟨k, d, List.mem_singleton.mp he, ?_, ok⟩
    rcases in_olf c4 with z | z | z
    · exact .inr (.inl z)
    · exact .inr (.inr (.inl z))
    · exact .inr (.inr (.inr (.inr z)))
  · rw [if_neg c4] at he
    cases he
theorem nin_elt : ∀ (n : Nat) (d : PyData), OkA d → innerB n d = true → ∀ e ∈ nin n d, EltOk e
  | 0, _, _, h => by cases h
  | n + 1, d, ok, h => by
    intro e he
    obtain ⟨m, ds, e', rfl, _, ha⟩ := inner_to h
    cases e'
    obtain ⟨x, hx, he⟩ := List.mem_flatMap.mp (show e ∈ ds.flatMap (ndeed (nin n)) from he)
    obtain ⟨w, r, ks, rfl, hg, hl, hp⟩ := deed_at (ha x hx)
    have okx := ok.kid hx
    rw [ndeed_tup hg] at he
    rcases List.mem_append.mp he with he1 | he
    · by_cases c : decide (w = "do") = true
      · rw [if_pos c] at he1
        obtain rfl : w = "do" := of_decide_eq_true c
        obtain ⟨nm, dl, rfl, hn, l2⟩ := do_at hg hl hp
        refine ⟨"piece", .tuple [nm, .int dl.length], List.mem_singleton.mp he1, .inr (.inr (.inr (.inl rfl))), 2, by decide, okt_2 (okt_nm hn) ⟨by omega, by omega⟩⟩
      · rw [if_neg c] at he1
        cases he1
    · obtain ⟨p, hp', he⟩ := List.mem_flatMap.mp he
      exact nby_elt (nin_elt n) (okx.kid (List.mem_cons_of_mem _ (List.of_mem_zip (show (p.1, p.2) ∈ r.zip ks from hp')).1)) (hp p hp') e he
/-! ### scopes -/
structure Scd where
  nm : List PyData
  own : List PyData
  ls : List PyData
  pc : List PyData
  fg : List PyData
def Scd.at (s : Scd) (k : Str) : List PyData := if k = "name" then s.nm else if k = "own" then s.own else if k = "list" then s.ls else if k = "piece" then s.pc else s.fg
def thereE (s : Scd) : PyData → Bool
  | .tuple [.str k, d] => (s.at k).any fun z => PyData.eqv z d
  | _ => false
def LsOk (K : PySem.W.Frag) (H : Hp) (l : Addr) (ds : List PyData) : Prop := (∃ ys, H l = some (.lst ys) ∧ DpAll K H ys ds) ∧ ds.length ≤ 11 ∧ (∀ d ∈ ds, OkT 3 3 d) ∧ tOns ds = true
def ScAt (K : PySem.W.Frag) (H : Hp) (a : Addr) (s : Scd) : Prop := ∃ l1 l2 l3 l4 l5, H a = some (.dK [(Sum.inr "name", .ref l1), (Sum.inr "own", .ref l2), (Sum.inr "list", .ref l3), (Sum.inr "piece", .ref l4), (Sum.inr "figure", .ref l5)]) ∧ LsOk K H l1 s.nm ∧ LsOk K H l2 s.own ∧ LsOk K H l3 s.ls ∧ LsOk K H l4 s.pc ∧ LsOk K H l5 s.fg
theorem LsOk.same {K : PySem.W.Frag} {H H' : Hp} {l : Addr} {ds : List PyData} (h : LsOk K H l ds) (s : Same H H') : LsOk K H' l ds := by
  obtain ⟨⟨ys, h1, h2⟩, h3⟩ := h
  exact ⟨⟨ys, s _ _ h1, dpAll_same s _ _ h2⟩, h3⟩
theorem ScAt.same {K : PySem.W.Frag} {H H' : Hp} {a : Addr} {c : Scd} (h : ScAt K H a c) (s : Same H H') : ScAt K H' a c := by
  obtain ⟨l1, l2, l3, l4, l5, h0, h1, h2, h3, h4, h5⟩ := h
  exact ⟨l1, l2, l3, l4, l5, s _ _ h0, h1.same s, h2.same s, h3.same s, h4.same s, h5.same s⟩
theorem ScAt.get {K : PySem.W.Frag} {H : Hp} {a : Addr} {c : Scd} (h : ScAt K H a c) {k : Str} (hk : kd5 k) : ∃ l, DGet H a (.str k) (some (.ref l)) ∧ LsOk K H l (c.at k) := by
  obtain ⟨l1, l2, l3, l4, l5, h0, h1, h2, h3, h4, h5⟩ := h
  rcases hk with rfl | rfl | rfl | rfl | rfl
  · exact ⟨l1, DGet.k (k := Sum.inr "name") h0, h1⟩
  · exact ⟨l2, DGet.k (k := Sum.inr "own") h0, h2⟩
  · exact ⟨l3, DGet.k (k := Sum.inr "list") h0, h3⟩
  · exact ⟨l4, DGet.k (k := Sum.inr "piece") h0, h4⟩
  · exact ⟨l5, DGet.k (k := Sum.inr "figure") h0, h5⟩
section
variable {P : Program} {w : World} {K : PySem.W.Frag} {mg : Str → Option Value} {base : Heap} {f : Addr} {fd : FuncData}
def spAT (K : PySem.W.Frag) : Sp := fun vs H Q _ => ∃ (x : V) (d : PyData) (a : Addr) (c : Scd), vs = [x, .ref a] ∧ Dp K H x d ∧ OkA d ∧ innerB 4 d = true ∧ (nin 4 d).length ≤ 1000 ∧ ScAt K H a c ∧ ∀ H', Same H H' → Q (.bl ((nin 4 d).all (thereE c))) H'
abbrev sAT : Stmt := top 56
theorem scAT : FnScope ["block", "scope", "kind", "what"] ["block", "scope"] (defScope sAT) := ⟨rfl, rfl, rfl, by decide +kernel, rfl, by decide +kernel, by decide +kernel⟩
theorem ok_at {k : Nat} (F : Fun K "all_there" "all_there" sAT f fd) (GN : FnG P w K mg base CX0 k "named_in" ["block"] (spNin K 4)) (m_all : mg "all" = none) : FnOk P w K mg base CX0 (k + 1) f fd ["block", "scope"] (spAT K) := by
  obtain ⟨_, _, G_named_in, m_named_in, k_named_in, b_named_in⟩ := GN
  have sc := scAT
  refine F.ok sc (fun vs H Q E h => ?_) (fun cdv A outer s H vs Q E hr h => ?_)
  · obtain ⟨x, d, a, c, rfl, _⟩ := h
    rfl
  obtain ⟨x, d, a, c, rfl, hd, ok, hv, len, hs, q⟩ := h
  refine ⟨_, (pss_one (ps_ret (pe_callB (cr_all rfl) (by rfl) m_all (by decide +kernel) (pa_cons (pe_lc (own := [("kind", 2), ("what", 3)]) (g := gTup K 2 (gCons (gName 2) (gCons (gName 3) gNil))) (by rfl) sc.nd  (pi_list (pe_call G_named_in (hr.mono (by omega)) (by rfl) m_named_in k_named_in b_named_in .nil pass0 (pa_cons (pv 0) pa_nil))) (blkOk_by (own := [("kind", 2), ("what", 3)]) (N := ["block", "scope", "kind", "what"]) (sc := defScope sAT) (by decide +kernel)) (fun _ _ _ _ _ => (pg_tup (by rfl) (pgs_cons (pg_name (i := 2) sc.nd rfl (.inl rfl)) (pgs_cons (pg_name (i := 3) sc.nd rfl (.inl rfl)) pgs_nil)))) (fun _ _ _ _ _ => pts_nil) (fun _ _ _ _ _ => (pe_cmpR (show OpR _ _ (rInD K) from op_inD (hu65 hr)) (pv 3) (pe_dget (hu_of hr) (pv 1) (pv 2) (fun _ _ => rfl)) (by rfl)))) pa_nil)))), ?_⟩
  have el := nin_elt 4 d ok hv
  refine ⟨_, rfl, x, d, rfl, hd, ok, hv, len, fun p ys H1 s1 np hp dy => ?_⟩
  have ly := dpAll_len dy
  replace hs := hs.same s1
  refine ⟨p, rfl, ⟨_, SqL.of hp⟩, fun D nD => lc_it (walk_list (xs := ys)) (fun i H' => AccB D H1 (thereE c) (nin 4 d) i H') (AccB.zero nD) (fun i H' _ h => SqL.of (h.1 _ _ hp)) ?_ ?_⟩
  · rintro i v _ HA hi ac ⟨rfl, ex⟩
    obtain ⟨e, ed, dv⟩ := dpAll_at (dpAll_same ac.1 _ _ dy) ex
    obtain ⟨kd, dw, rfl, hk, okw⟩ := el e (List.mem_of_getElem? ed)
    obtain ⟨b, y1, y2, rfl, hb, e1, e2⟩ := d2 dv
    cases e1
    obtain ⟨l, gl, ⟨zs, hl, dz⟩, l11, lok, _⟩ := (hs.same ac.1).get hk
    refine ⟨b, _, rfl, hb, rfl, _, _, rfl, _, _, rfl, rfl, rfl, ?_⟩
    unfold tYes
    refine iteT ⟨_, rfl, _, rfl, _, rfl, a, .ref l, rfl, gl, dw, c.at kd, e2, .lst (SqL.of hl) dz, okw.shaped, OkA.shaped (d := .list (c.at kd)) ⟨4, by decide, l11, lok⟩, ?_⟩
    exact ac.step nD (Same.refl _) ed (by omega)
  · rintro HB ac
    refine ⟨D, (nin 4 d).map (thereE c), rfl, SqL.of (ac.fin (by omega)), ?_⟩
    rw [all_map]
    exact q _ (s1.trans ac.1)
end
end Fd

set_option Elab.async false
set_option linter.all false
set_option maxRecDepth 100000
set_option maxHeartbeats 4000000
namespace Fd
open PySem PySem.Spec PyProof.Rows L2 RZ
open StX (pa_star)
def rLenS (K : PySem.W.Frag) : List V → Hp → VK → Prop := fun xs H Q => ∃ p ys, xs = [.ref p] ∧ (SqL K H p ys ∨ SqT K H p ys) ∧ Q (.int ys.length) H
def nth (d : PyData) (i : Nat) : PyData := (items d).getD i .none
def pcD (p : PyData) : PyData := .tuple [hdD p, .int (items (nth p 2)).length]
def scp (play fig : PyData) (ps : List PyData) : Scd :=
  let own := (items (nth play 1)).map hdD ++ (items (nth fig 2)).map hdD
  ⟨own ++ ps, own, (items (nth play 2)).map hdD ++ (items (nth fig 3)).map hdD, (items (nth fig 4)).map pcD, (items (nth play 3)).map hdD ++ [.none]⟩
def thereB (play fig : PyData) : Bool := ((items (nth fig 4)).all fun p => (nin 4 (nth p 3)).all (thereE (scp play fig (items (nth p 2))))) && ((items (nth fig 5)).all fun s => (nin 4 (nth s 1)).all (thereE (scp play fig [])))
def isPlay (d : PyData) : Bool := shapedB d && (items (nth d 3)).all (thereB d)
/-! ### what is known of a shaped play -/
def Nms (ds : List PyData) : Prop := ∀ p ∈ ds, ∃ x r, p = .tuple (x :: r) ∧ isNm x = true
theorem pairs_nms {m : Nat} {d : PyData} (h : pairsB m d = true) : ∃ ds, d = .tuple ds ∧ ds.length ≤ m ∧ Nms ds := by
  obtain ⟨ds, rfl, l, r2, un⟩ := pairs_at h
  refine ⟨ds, rfl, l, fun p hp => ?_⟩
  obtain ⟨x, y, rfl⟩ := r2 p hp
  unfold unlNm at un
  rw [Bool.and_eq_true] at un
  exact ⟨x, [y], rfl, List.all_eq_true.mp un.1 x (List.mem_map.mpr ⟨_, hp, rfl⟩)⟩
theorem names_nms {d : PyData} (h : namesB d = true) : ∃ ds, d = .tuple ds ∧ ds.length ≤ 4 ∧ Nms ds := by
  unfold namesB at h
  rw [Bool.and_eq_true] at h
  exact pairs_nms h.1
theorem lists_nms {d : PyData} (h : listsB d = true) : ∃ ds, d = .tuple ds ∧ ds.length ≤ 2 ∧ Nms ds := by
  unfold listsB at h
  rw [Bool.and_eq_true] at h
  exact pairs_nms h.1
structure PieOk (p : PyData) (n k : PyData) (ps : List PyData) (b : PyData) : Prop where
  eq : p = .tuple [n, k, .tuple ps, b]
  nm : isNm n = true
  blk : innerB 4 b = true
  len : ps.length ≤ 2
  prm : ∀ x ∈ ps, isNm x = true
theorem piece_at {d : PyData} (h : pieceB d = true) : ∃ n k ps b, PieOk d n k ps b := by
  unfold pieceB at h
  split at h
  · rename_i n k p b
    rw [Bool.and_eq_true, Bool.and_eq_true, Bool.and_eq_true, Bool.and_eq_true] at h
    obtain ⟨h1, _, h3, h4, h5⟩ := h
    obtain ⟨ps, rfl, _, l2⟩ := row_at h4
    unfold unlNm at h5
    rw [Bool.and_eq_true] at h5
    exact ⟨n, k, ps, b, rfl, h1, h3, l2, fun x hx => List.all_eq_true.mp h5.1 x hx⟩
  · cases h
theorem script_at {d : PyData} (h : scriptB d = true) : ∃ t b, d = .tuple [t, b] ∧ innerB 4 b = true := by
  unfold scriptB at h
  split at h
  · rw [Bool.and_eq_true] at h
    exact ⟨_, _, rfl, h.2⟩
  · cases h
structure FigOk (f : PyData) (n sp : PyData) (ns ls ps ss : List PyData) : Prop where
  eq : f = .tuple [n, sp, .tuple ns, .tuple ls, .tuple ps, .tuple ss]
  nm : isNm n = true
  ns4 : ns.length ≤ 4
  nsN : Nms ns
  ls2 : ls.length ≤ 2
  lsN : Nms ls
  ps3 : ps.length ≤ 3
  psP : ∀ p ∈ ps, pieceB p = true
  ss6 : ss.length ≤ 6
  ssS : ∀ s ∈ ss, scriptB s = true
theorem fig_at {a b : Int} {d : PyData} (h : figB a b d = true) : ∃ n sp ns ls ps ss, FigOk d n sp ns ls ps ss := by
  unfold figB at h
  split at h
  · rename_i n sp ns ls ps ss
    simp only [Bool.and_eq_true] at h
    obtain ⟨h1, _, h3, h4, h5, h6, _⟩ := h
    obtain ⟨ns, rfl, l4, n4⟩ := names_nms h3
    obtain ⟨ls, rfl, l2, n2⟩ := lists_nms h4
    unfold rowAll at h5 h6
    rw [Bool.and_eq_true] at h5 h6
    obtain ⟨ps, rfl, _, l3⟩ := row_at h5.1
    obtain ⟨ss, rfl, _, l6⟩ := row_at h6.1
    exact ⟨n, sp, ns, ls, ps, ss, rfl, h1, l4, n4, l2, n2, l3, fun p hp => List.all_eq_true.mp h5.2 p hp, l6, fun s hs => List.all_eq_true.mp h6.2 s hs⟩
  · cases h
structure PlayOk (d : PyData) (s : PyData) (ns ls fs : List PyData) : Prop where
  eq : d = .tuple [s, .tuple ns, .tuple ls, .tuple fs]
  ns4 : ns.length ≤ 4
  nsN : Nms ns
  ls2 : ls.length ≤ 2
  lsN : Nms ls
  fs4 : fs.length ≤ 4
  fsF : ∀ f ∈ fs, ∃ a b, figB a b f = true
theorem play_at {d : PyData} (h : shapedB d = true) : ∃ s ns ls fs, PlayOk d s ns ls fs := by
  unfold shapedB at h
  split at h
  · rename_i s n l f
    simp only [Bool.and_eq_true] at h
    obtain ⟨h1, h2, h3, h4, h5, _⟩ := h
    obtain ⟨a, b, rfl, _⟩ := size_at h1
    obtain ⟨ns, rfl, l4, n4⟩ := names_nms h3
    obtain ⟨ls, rfl, l2, n2⟩ := lists_nms h4
    obtain ⟨fs, rfl, _, lf⟩ := row_at h2
    exact ⟨_, ns, ls, fs, rfl, l4, n4, l2, n2, lf, fun f hf => ⟨a, b, List.all_eq_true.mp h5 f hf⟩⟩
  · cases h
theorem nms_rw {ds : List PyData} (h : Nms ds) : ∀ d ∈ ds, isRw d = true := fun d hd => by
  obtain ⟨x, r, rfl, _⟩ := h d hd
  rfl
theorem nms_ok {ds : List PyData} (h : Nms ds) : ∀ d ∈ ds.map hdD, OkT 3 3 d := fun d hd => by
  obtain ⟨e, he, rfl⟩ := List.mem_map.mp hd
  obtain ⟨x, r, rfl, hx⟩ := h e he
  exact okt_nm hx
theorem nms_on : ∀ {ds : List PyData}, Nms ds → tOns (ds.map hdD) = true
  | [], _ => rfl
  | d :: r, h => by
    obtain ⟨x, q, rfl, hx⟩ := h d (List.mem_cons_self ..)
    show (tOn x && tOns (r.map hdD)) = true
    rw [nm_tOn hx, nms_on fun e he => h e (List.mem_cons_of_mem _ he)]
    rfl
theorem nm_on : ∀ {ds : List PyData}, (∀ x ∈ ds, isNm x = true) → tOns ds = true
  | [], _ => rfl
  | d :: r, h => by
    show (tOn d && tOns r) = true
    rw [nm_tOn (h d (List.mem_cons_self ..)), nm_on fun e he => h e (List.mem_cons_of_mem _ he)]
    rfl
theorem pcs_on : ∀ {ps : List PyData}, (∀ p ∈ ps, pieceB p = true) → tOns (ps.map pcD) = true
  | [], _ => rfl
  | d :: r, h => by
    obtain ⟨n, k, qs, b, F⟩ := piece_at (h d (List.mem_cons_self ..))
    obtain rfl := F.eq
    show ((tOn n && (tOn (.int _) && true)) && tOns (r.map pcD)) = true
    rw [nm_tOn F.nm, pcs_on fun e he => h e (List.mem_cons_of_mem _ he)]
    rfl
mutual
theorem dp_noD {K : PySem.W.Frag} {H : Hp} {N : Addr} {kvs : List (L2.Key × V)} (hN : H N = some (.dK kvs)) : ∀ (d : PyData) (v : V), tOn d = true → Dp K H v d → Dp K (rmL [N] H) v d
  | .none, _, _, h => by cases h; exact .non
  | .bool b, _, _, h => by cases h; exact .bl b
  | .int i, _, _, h => by cases h; exact .int i
  | .str x, _, _, h => by cases h; exact .str x
  | .list ds, _, g, h => by cases g
  | .dict _, _, g, h => by cases g
  | .tuple ds, _, g, h => by
    cases h with
    | tup q r =>
      refine .tup ?_ (dpAll_noD hN ds _ g r)
      rcases q with (q | ⟨o, q⟩) | q
      · exact .inl (.inl (by rw [rmL_at (fun z => ne_of q hN (fun z => nomatch z) (List.mem_singleton.mp z))]; exact q))
      · exact .inl (.inr ⟨o, by rw [rmL_at (fun z => ne_of q hN (fun z => nomatch z) (List.mem_singleton.mp z))]; exact q⟩)
      · exact .inr q
theorem dpAll_noD {K : PySem.W.Frag} {H : Hp} {N : Addr} {kvs : List (L2.Key × V)} (hN : H N = some (.dK kvs)) : ∀ (ds : List PyData) (vs : List V), tOns ds = true → DpAll K H vs ds → DpAll K (rmL [N] H) vs ds
  | [], _, _, h => by cases h; exact .nil
  | d :: ds, _, g, h => by
    cases h with
    | cons q r =>
      have g : (tOn d && tOns ds) = true := g
      rw [Bool.and_eq_true] at g
      exact .cons (dp_noD hN d _ g.1 q) (dpAll_noD hN ds _ g.2 r)
end
theorem LsOk.put {K : PySem.W.Frag} {H : Hp} {l N : Addr} {kvs kvs' : List (L2.Key × V)} {ds : List PyData} (hN : H N = some (.dK kvs)) (h : LsOk K H l ds) : LsOk K (upd H N (.dK kvs')) l ds := by
  obtain ⟨⟨ys, h1, h2⟩, h3, h4, h5⟩ := h
  refine ⟨⟨ys, ?_, ?_⟩, h3, h4, h5⟩
  · rw [upd_ne (ne_of h1 hN (fun z => nomatch z))]
    exact h1
  · have := dpAll_noD hN _ _ h5 h2
    rw [← rmL_upd (o := .dK kvs') (List.mem_singleton.mpr rfl)] at this
    exact dpAll_same (rmL_sub (as := [N])) _ _ this
theorem figs_nms {fs : List PyData} (h : ∀ f ∈ fs, ∃ a b, figB a b f = true) : Nms fs := fun f hf => by
  obtain ⟨a, b, hb⟩ := h f hf
  obtain ⟨n, sp, ns, ls, ps, ss, F⟩ := fig_at hb
  exact ⟨_, _, F.eq, F.nm⟩
theorem pies_nms {ps : List PyData} (h : ∀ f ∈ ps, pieceB f = true) : Nms ps := fun f hf => by
  obtain ⟨n, k, qs, b, F⟩ := piece_at (h f hf)
  exact ⟨_, _, F.eq, F.nm⟩
section
variable {P : Program} {w : World} {K : PySem.W.Frag} {mg : Str → Option Value} {base : Heap} {f : Addr} {fd : FuncData}
def spSc (K : PySem.W.Frag) : Sp := fun vs H Q _ => ∃ (x z : V) (p : Addr) (dp df s n sp : PyData) (ns ls fs fns fls pcs scs ps : List PyData) (xs : List V), vs = [x, z, .ref p] ∧ Dp K H x dp ∧ Dp K H z df ∧ PlayOk dp s ns ls fs ∧ FigOk df n sp fns fls pcs scs ∧ SqT K H p xs ∧ DpAll K H xs ps ∧ ps.length ≤ 2 ∧ (∀ x ∈ ps, isNm x = true) ∧
  ∀ a H', Same H H' → ScAt K H' a (scp dp df ps) → Q (.ref a) H'
abbrev sSc : Stmt := top 55
theorem scSc : FnScope ["play", "figure", "params", "own", "piece"] ["play", "figure", "params"] (defScope sSc) := ⟨rfl, rfl, rfl, by decide +kernel, rfl, by decide +kernel, by decide +kernel⟩
theorem ok_sc {k : Nat} (F : Fun K "scope_of" "scope_of" sSc f fd) (GF : FnG P w K mg base CX0 k "firsts" ["rows"] (spFi K)) (m_len : mg "len" = none) (m_list : mg "list" = none) : FnOk P w K mg base CX0 (k + 1) f fd ["play", "figure", "params"] (spSc K) := by
  obtain ⟨_, _, G_firsts, m_firsts, k_firsts, b_firsts⟩ := GF
  have sc := scSc
  refine F.ok sc (fun vs H Q E h => ?_) (fun cdv A outer s H vs Q E hr h => ?_)
  · obtain ⟨x, z, p, _, _, _, _, _, _, _, _, _, _, _, _, _, _, rfl, _⟩ := h
    rfl
  obtain ⟨x, z, p, dp, df, ds, n, sp, ns, ls, fs, fns, fls, pcs, scs, ps, xs, rfl, hx, hz, PO, FO, hp, dps, lps, nps, q⟩ := h
  refine ⟨_, (pss_cons (ps_set (i := 3) sc.nd rfl (.inl rfl) (pe_op op_cat (pe_call G_firsts (hr.mono (by omega)) (by rfl) m_firsts k_firsts b_firsts .nil pass0 (pa_cons (pe_ix ix_tup (pv 0) pe_int (fun _ _ => rfl)) pa_nil)) (pe_call G_firsts (hr.mono (by omega)) (by rfl) m_firsts k_firsts b_firsts .nil pass0 (pa_cons (pe_ix ix_tup (pv 1) pe_int (fun _ _ => rfl)) pa_nil))))
      (pss_one (ps_ret (pe_disp (pps_cons pe_str (pe_op op_cat (pv 3) (pe_callTy call_list_of (by rfl) m_list (by decide +kernel) (pa_cons (pv 2) pa_nil))) (pps_cons pe_str (pv 3) (pps_cons pe_str (pe_op op_cat (pe_call G_firsts (hr.mono (by omega)) (by rfl) m_firsts k_firsts b_firsts .nil pass0 (pa_cons (pe_ix ix_tup (pv 0) pe_int (fun _ _ => rfl)) pa_nil)) (pe_call G_firsts (hr.mono (by omega)) (by rfl) m_firsts k_firsts b_firsts .nil pass0 (pa_cons (pe_ix ix_tup (pv 1) pe_int (fun _ _ => rfl)) pa_nil))) (pps_cons pe_str (pe_lc (own := [("piece", 4)]) (by rfl) sc.nd  (pi_tup (pe_ix ix_tup (pv 1) pe_int (fun _ _ => rfl))) (blkOk_by (own := [("piece", 4)]) (N := ["play", "figure", "params", "own", "piece"]) (sc := defScope sSc) (by decide +kernel)) (fun _ _ _ _ _ => (pg_name (i := 4) sc.nd rfl (.inl rfl))) (fun _ _ _ _ _ => pts_nil) (fun _ _ _ _ _ => (pe_tup (pa_cons (pe_ix (show IxR _ (rIxT K) from ix_tup) (pv 4) pe_int (fun _ _ => rfl)) (pa_cons (pe_callB (show CallR _ (.builtin "len") (rLenS K) from call_len_seq) (by rfl) m_len (by decide +kernel) (pa_cons (pe_ix (show IxR _ (rIxT K) from ix_tup) (pv 4) pe_int (fun _ _ => rfl)) pa_nil)) pa_nil))))) (pps_cons pe_str (pe_lst (pa_star (pe_call G_firsts (hr.mono (by omega)) (by rfl) m_firsts k_firsts b_firsts .nil pass0 (pa_cons (pe_ix ix_tup (pv 0) pe_int (fun _ _ => rfl)) pa_nil)) (pa_cons pe_non pa_nil))) pps_nil))))) rfl rfl (by decide) (by decide))))), ?_⟩
  obtain rfl := PO.eq
  obtain rfl := FO.eq
  obtain ⟨a, as, rfl, ha, ax⟩ := dp_items hx
  cases ax with | @cons a0 _ _ _ _ ax =>
  cases ax with | @cons a1 _ _ _ p1 ax =>
  cases ax with | @cons a2 _ _ _ p2 ax =>
  cases ax with | @cons a3 _ _ _ p3 ax =>
  cases ax
  obtain ⟨b, bs, rfl, hb, bx⟩ := dp_items hz
  cases bx with | @cons b0 _ _ _ _ bx =>
  cases bx with | @cons b1 _ _ _ _ bx =>
  cases bx with | @cons b2 _ _ _ f2 bx =>
  cases bx with | @cons b3 _ _ _ f3 bx =>
  cases bx with | @cons b4 _ _ _ f4 bx =>
  cases bx with | @cons b5 _ _ _ f5 bx =>
  cases bx
  have z2 : 2 ≤ sizeLine := by decide
  have := PO.ns4
  have := PO.ls2
  have := PO.fs4
  have := FO.ns4
  have := FO.ls2
  have := FO.ps3
  refine ⟨_, rfl, a, _, 1, _, rfl, rfl, ha, rfl, a1, ns, rfl, p1, by omega, nms_rw PO.nsN, fun l1 y1 H1 s1 n1 h1 d1 => ?_⟩
  refine ⟨_, rfl, b, _, 2, _, rfl, rfl, seqT s1 hb, rfl, b2, fns, rfl, dp_same s1 _ _ f2, by omega, nms_rw FO.nsN, fun l2 y2 H2 s2 n2 h2 d2 => ?_⟩
  have k1 := dpAll_len d1
  have k2 := dpAll_len d2
  rw [List.length_map] at k1 k2
  refine ⟨l1, l2, y1, y2, rfl, rfl, s2 _ _ h1, h2, Nat.le_of_lt (small1000 (by omega)), fun l3 n3 => ?_⟩
  have s3 := same_upd (o := .lst (y1 ++ y2)) n3
  have h3 : (upd H2 l3 (.lst (y1 ++ y2))) l3 = some (.lst (y1 ++ y2)) := upd_same
  have t3 := (s1.trans s2).trans s3
  have d3 : DpAll K (upd H2 l3 (.lst (y1 ++ y2))) (y1 ++ y2) (ns.map hdD ++ fns.map hdD) := dpAll_app (dpAll_same t3 _ _ d1) (dpAll_same (s2.trans s3) _ _ d2)
  generalize upd H2 l3 (.lst (y1 ++ y2)) = H3 at *
  clear s1 s2 s3 h1 h2 d1 d2 n1 n2 n3
  intro dd nd
  have nd0 := t3.free nd
  have sd := same_upd (o := .dK []) nd
  have ed : (upd H3 dd (.dK [])) dd = some (.dK []) := upd_same
  replace h3 := sd _ _ h3
  replace d3 := dpAll_same sd _ _ d3
  replace t3 := t3.trans sd
  generalize upd H3 dd (.dK []) = H3' at *
  clear sd nd
  -- name
  refine ⟨_, rfl, _, rfl, p, xs, rfl, .inr (seqT t3 hp), fun l4 n4 => ?_⟩
  have s4 := same_upd (o := .lst xs) n4
  have h4 : (upd H3' l4 (.lst xs)) l4 = some (.lst xs) := upd_same
  replace ed := s4 _ _ ed
  replace h3 := s4 _ _ h3
  replace d3 := dpAll_same s4 _ _ d3
  have t4 := t3.trans s4
  have k3 := dpAll_len dps
  generalize upd H3' l4 (.lst xs) = H4 at *
  refine ⟨l3, l4, _, xs, rfl, rfl, h3, h4, Nat.le_of_lt (small1000 (by rw [List.length_append]; omega)), fun l5 n5 => ?_⟩
  have s5 := same_upd (o := .lst ((y1 ++ y2) ++ xs)) n5
  have N1 : LsOk K (upd H4 l5 (.lst ((y1 ++ y2) ++ xs))) l5 ((ns.map hdD ++ fns.map hdD) ++ ps) := ⟨⟨_, upd_same, dpAll_app (dpAll_same s5 _ _ d3) (dpAll_same (t4.trans s5) _ _ dps)⟩, by
    rw [List.length_append, List.length_append, List.length_map, List.length_map]; omega, fun d hd => by
    rcases List.mem_append.mp hd with y | y
    · rcases List.mem_append.mp y with y | y
      · exact nms_ok PO.nsN d y
      · exact nms_ok FO.nsN d y
    · exact okt_nm (nps d y), tOns_app (tOns_app (nms_on PO.nsN) (nms_on FO.nsN)) (nm_on nps)⟩
  have N2 : LsOk K (upd H4 l5 (.lst ((y1 ++ y2) ++ xs))) l3 (ns.map hdD ++ fns.map hdD) := ⟨⟨_, s5 _ _ h3, dpAll_same s5 _ _ d3⟩, by
    rw [List.length_append, List.length_map, List.length_map]; omega, fun d hd => by
    rcases List.mem_append.mp hd with y | y
    · exact nms_ok PO.nsN d y
    · exact nms_ok FO.nsN d y, tOns_app (nms_on PO.nsN) (nms_on FO.nsN)⟩
  have t5 := t4.trans s5
  replace ed := s5 _ _ ed
  generalize upd H4 l5 (.lst ((y1 ++ y2) ++ xs)) = H5 at *
  clear s4 s5 h3 h4 d3 n4 n5 t3 t4
  -- own, list
  refine ⟨_, rfl, _, rfl, a, _, 2, _, rfl, rfl, seqT t5 ha, rfl, a2, ls, rfl, dp_same t5 _ _ p2, by omega, nms_rw PO.lsN, fun m1 y3 H6 s6 n6 h6 d6 => ?_⟩
  refine ⟨_, rfl, b, _, 3, _, rfl, rfl, seqT (t5.trans s6) hb, rfl, b3, fls, rfl, dp_same (t5.trans s6) _ _ f3, by omega, nms_rw FO.lsN, fun m2 y4 H7 s7 n7 h7 d7 => ?_⟩
  have k4 := dpAll_len d6
  have k5 := dpAll_len d7
  rw [List.length_map] at k4 k5
  refine ⟨m1, m2, y3, y4, rfl, rfl, s7 _ _ h6, h7, Nat.le_of_lt (small1000 (by omega)), fun m3 n8 => ?_⟩
  have s8 := same_upd (o := .lst (y3 ++ y4)) n8
  have u8 := (s6.trans s7).trans s8
  have N3 : LsOk K (upd H7 m3 (.lst (y3 ++ y4))) m3 (ls.map hdD ++ fls.map hdD) := ⟨⟨_, upd_same, dpAll_app (dpAll_same u8 _ _ d6) (dpAll_same (s7.trans s8) _ _ d7)⟩, by
    rw [List.length_append, List.length_map, List.length_map]; omega, fun d hd => by
    rcases List.mem_append.mp hd with y | y
    · exact nms_ok PO.lsN d y
    · exact nms_ok FO.lsN d y, tOns_app (nms_on PO.lsN) (nms_on FO.lsN)⟩
  replace N1 := N1.same u8
  replace N2 := N2.same u8
  have t8 := t5.trans u8
  replace ed := u8 _ _ ed
  generalize upd H7 m3 (.lst (y3 ++ y4)) = H8 at *
  clear s6 s7 s8 u8 h6 h7 d6 d7 n6 n7 n8 t5
  -- piece
  obtain ⟨b4', xs4, rfl, h4, ax4⟩ := dp_items (dp_same t8 _ _ f4)
  have le4 := dpAll_len ax4
  refine ⟨_, rfl, b, _, 4, _, rfl, rfl, seqT t8 hb, rfl, b4', rfl, ⟨_, h4⟩, fun C nC => lc_it (walk_tup (xs := xs4)) (fun i H' => Nmd K H8 C ((pcs.take i).map pcD) H') ⟨same_upd nC, ⟨[], upd_same, .nil, Nat.le_refl _⟩, rfl⟩ (fun i H' _ h => seqT h.same h4) ?_ ?_⟩
  · rintro i v _ HA hi nm ⟨rfl, ex⟩
    obtain ⟨d, ed, dv⟩ := dpAll_at (dpAll_same nm.same _ _ ax4) ex
    obtain ⟨pn, pk, pp, pb, PI⟩ := piece_at (FO.psP d (List.mem_of_getElem? ed))
    obtain rfl := PI.eq
    obtain ⟨q0, qs, rfl, hq, qx⟩ := dp_items dv
    cases qx with | @cons c0 _ _ _ g0 qx =>
    cases qx with | @cons c1 _ _ _ _ qx =>
    cases qx with | @cons c2 _ _ _ g2 qx =>
    cases qx with | @cons c3 _ _ _ _ qx =>
    cases qx
    obtain ⟨r0, rs, rfl, hr0, rx⟩ := dp_items g2
    have lr := dpAll_len rx
    refine ⟨rfl, ?_⟩
    unfold tYes
    refine iteT ⟨_, rfl, q0, _, 0, _, rfl, rfl, hq, rfl, _, rfl, q0, _, 2, _, rfl, rfl, hq, rfl, r0, rs, rfl, .inr hr0, z2, fun t nt => ?_⟩
    have st := same_upd (o := .tup [c0, .int rs.length]) nt
    have dd : Dp K (upd HA t (.tup [c0, .int rs.length])) (.ref t) (pcD (.tuple [pn, pk, .tuple pp, pb])) := by
      show Dp K _ _ (.tuple [pn, .int ((pp.length : Nat) : Int)])
      rw [← lr]
      exact .tup (SqT.of upd_same) (.cons (dp_same st _ _ g0) (.cons (.int _) .nil))
    have one : tOns [pcD (.tuple [pn, pk, .tuple pp, pb])] = true := by
      show ((tOn pn && (tOn (.int _) && true)) && true) = true
      rw [nm_tOn PI.nm]
      rfl
    obtain ⟨ys', q1, q2, q3⟩ := (nm.more st).put nC (.cons dd .nil) one
    refine ⟨ys', q1, small1000 (by rw [q2, List.length_map, List.length_take]; omega), ?_⟩
    rw [List.take_succ, ed, List.map_append]
    exact q3
  rintro H9 nm
  obtain ⟨s9, ⟨y5, h9, d9, _⟩, _⟩ := nm
  rw [List.take_of_length_le (by rw [le4]; exact Nat.le_refl _)] at d9
  have N4 : LsOk K H9 C (pcs.map pcD) := ⟨⟨y5, h9, dpAll_same (rmL_sub (as := [C])) _ _ d9⟩, by rw [List.length_map]; omega, fun d hd => by
    obtain ⟨e, he, rfl⟩ := List.mem_map.mp hd
    obtain ⟨pn, pk, pp, pb, PI⟩ := piece_at (FO.psP e he)
    obtain rfl := PI.eq
    have := PI.len
    exact okt_2 (okt_nm PI.nm) ⟨by show _ ≤ ((pp.length : Nat) : Int); omega, by show ((pp.length : Nat) : Int) ≤ _; omega⟩, pcs_on FO.psP⟩
  replace N1 := N1.same s9
  replace N2 := N2.same s9
  replace N3 := N3.same s9
  have t9 := t8.trans s9
  replace ed := s9 _ _ ed
  clear s9 h9 d9 t8
  -- figure
  refine ⟨_, rfl, a, _, 3, _, rfl, rfl, seqT t9 ha, rfl, a3, fs, rfl, dp_same t9 _ _ p3, by omega, nms_rw (figs_nms PO.fsF), fun g1 y6 HB sB nB hB dB => ?_⟩
  have k6 := dpAll_len dB
  rw [List.length_map] at k6
  refine ⟨g1, y6, rfl, .inr (SqL.of hB), Nat.le_of_lt (small1000 (by rw [List.length_append]; show y6.length + 1 ≤ 1000; omega)), fun g2 nG => ?_⟩
  have sG := same_upd (o := .lst (y6 ++ [.non])) nG
  have N5 : LsOk K (upd HB g2 (.lst (y6 ++ [.non]))) g2 (fs.map hdD ++ [.none]) := ⟨⟨_, upd_same, dpAll_app (dpAll_same (sB.trans sG) _ _ dB) (.cons .non .nil)⟩, by
    rw [List.length_append, List.length_map]; show fs.length + 1 ≤ 11; omega, fun d hd => by
    rcases List.mem_append.mp hd with y | y
    · exact nms_ok (figs_nms PO.fsF) d y
    · rw [List.mem_singleton.mp y]; trivial, tOns_app (nms_on (figs_nms PO.fsF)) rfl⟩
  replace N1 := N1.same (sB.trans sG)
  replace N2 := N2.same (sB.trans sG)
  replace N3 := N3.same (sB.trans sG)
  replace N4 := N4.same (sB.trans sG)
  have tG := t9.trans (sB.trans sG)
  replace ed := (sB.trans sG) _ _ ed
  generalize upd HB g2 (.lst (y6 ++ [.non])) = HG at *
  refine ⟨ed, [(Sum.inr "name", .ref l5), (Sum.inr "own", .ref l3), (Sum.inr "list", .ref m3), (Sum.inr "piece", .ref C), (Sum.inr "figure", .ref g2)], rfl, by show 5 ≤ 15; decide, ?_⟩
  refine q dd _ (fun b o hb => ?_) ⟨l5, l3, m3, C, g2, ?_, N1.put ed, N2.put ed, N3.put ed, N4.put ed, N5.put ed⟩
  · rw [upd_ne (ne_of_none hb nd0)]
    exact tG _ _ hb
  · rw [upd_same]
    rfl
end
end Fd

set_option Elab.async false
set_option linter.all false
set_option maxRecDepth 100000
set_option maxHeartbeats 4000000
namespace Fd
open PySem PySem.Spec PyProof.Rows L2 RZ
/-- not too much is named -/
def Few (f : PyData) : Prop := (∀ p ∈ items (nth f 4), (nin 4 (nth p 3)).length ≤ 1000) ∧ ∀ s ∈ items (nth f 5), (nin 4 (nth s 1)).length ≤ 1000
section
variable {P : Program} {w : World} {K : PySem.W.Frag} {mg : Str → Option Value} {base : Heap} {f : Addr} {fd : FuncData}
def spNT (K : PySem.W.Frag) : Sp := fun vs H Q _ => ∃ (x z : V) (dp df s : PyData) (ns ls fs : List PyData), vs = [x, z] ∧ Dp K H x dp ∧ Dp K H z df ∧ PlayOk dp s ns ls fs ∧ df ∈ fs ∧ OkA df ∧ Few df ∧ ∀ H', Same H H' → Q (.bl (thereB dp df)) H'
abbrev sNT : Stmt := top 54
theorem scNT : FnScope ["play", "figure", "there", "scope", "name", "kind", "params", "block", "hat"] ["play", "figure"] (defScope sNT) := ⟨rfl, rfl, rfl, by decide +kernel, rfl, by decide +kernel, by decide +kernel⟩
theorem ok_nt {k : Nat} (F : Fun K "names_are_there" "names_are_there" sNT f fd) (GA : FnG P w K mg base CX0 k "all_there" ["block", "scope"] (spAT K)) (GS : FnG P w K mg base CX0 k "scope_of" ["play", "figure", "params"] (spSc K)) (m_all : mg "all" = none) :
    FnOk P w K mg base CX0 (k + 1) f fd ["play", "figure"] (spNT K) := by
  obtain ⟨_, _, G_all_there, m_all_there, k_all_there, b_all_there⟩ := GA
  obtain ⟨_, _, G_scope_of, m_scope_of, k_scope_of, b_scope_of⟩ := GS
  have sc := scNT
  refine F.ok sc (fun vs H Q E h => ?_) (fun cdv A outer s H vs Q E hr h => ?_)
  · obtain ⟨x, z, dp, df, _, _, _, _, rfl, _⟩ := h
    rfl
  obtain ⟨x, z, dp, df, ds, ns, ls, fs, rfl, hx, hz, PO, mf, ok, few, q⟩ := h
  refine ⟨_, (pss_cons (ps_setLc (i := 2) (own := [("name", 4), ("kind", 5), ("params", 6), ("block", 7)]) (g := gTup K 4 (gCons (gName 4) (gCons (gName 5) (gCons (gName 6) (gCons (gName 7) gNil))))) (by rfl) sc.nd rfl rfl (sw_true rfl rfl rfl (by decide +kernel)) (pi_tup (pe_ix ix_tup (pv 1) pe_int (fun _ _ => rfl))) (blkOk_by (own := [("name", 4), ("kind", 5), ("params", 6), ("block", 7)]) (N := ["play", "figure", "there", "scope", "name", "kind", "params", "block", "hat"]) (sc := defScope sNT) (by decide +kernel)) (fun _ _ _ _ _ => (pg_tup (by rfl) (pgs_cons (pg_name (i := 4) sc.nd rfl (.inl rfl)) (pgs_cons (pg_name (i := 5) sc.nd rfl (.inl rfl)) (pgs_cons (pg_name (i := 6) sc.nd rfl (.inl rfl)) (pgs_cons (pg_name (i := 7) sc.nd rfl (.inl rfl)) pgs_nil)))))) (fun _ _ _ _ _ => pts_nil) (fun _ _ _ _ _ => (pe_call G_all_there (hr.mono (by omega)) (by rfl) m_all_there k_all_there b_all_there .nil pass0 (pa_cons (pv 7) (pa_cons (pe_call G_scope_of (hr.mono (by omega)) (by rfl) m_scope_of k_scope_of b_scope_of .nil pass0 (pa_cons (pv 0) (pa_cons (pv 1) (pa_cons (pv 6) pa_nil)))) pa_nil)))))
      (pss_cons (ps_set (i := 3) sc.nd rfl (.inr rfl) (pe_call G_scope_of (hr.mono (by omega)) (by rfl) m_scope_of k_scope_of b_scope_of .nil pass0 (pa_cons (pv 0) (pa_cons (pv 1) (pa_cons (pe_tup pa_nil) pa_nil)))))
      (pss_one (ps_ret (pe_and (pe_callB (cr_all rfl) (by rfl) m_all (by decide +kernel) (pa_cons (pv 2) pa_nil)) (pe_one (pe_callB (cr_all rfl) (by rfl) m_all (by decide +kernel) (pa_cons (pe_lc (own := [("hat", 8), ("block", 7)]) (g := gTup K 2 (gCons (gName 8) (gCons (gName 7) gNil))) (by rfl) sc.nd  (pi_tup (pe_ix ix_tup (pv 1) pe_int (fun _ _ => rfl))) (blkOk_by (own := [("hat", 8), ("block", 7)]) (N := ["play", "figure", "there", "scope", "name", "kind", "params", "block", "hat"]) (sc := defScope sNT) (by decide +kernel)) (fun _ _ _ _ _ => (pg_tup (by rfl) (pgs_cons (pg_name (i := 8) sc.nd rfl (.inl rfl)) (pgs_cons (pg_name (i := 7) sc.nd rfl (.inl rfl)) pgs_nil)))) (fun _ _ _ _ _ => pts_nil) (fun _ _ _ _ _ => (pe_call G_all_there (hr.mono (by omega)) (by rfl) m_all_there k_all_there b_all_there .nil pass0 (pa_cons (pv 7) (pa_cons (pv 3) pa_nil))))) pa_nil)))))))), ?_⟩
  obtain ⟨fa, fb, hfb⟩ := PO.fsF df mf
  obtain ⟨n, sp, fns, fls, pcs, scs, FO⟩ := fig_at hfb
  obtain rfl := FO.eq
  obtain ⟨fw1, fw2⟩ := few
  replace fw1 : ∀ p ∈ pcs, (nin 4 (nth p 3)).length ≤ 1000 := fw1
  replace fw2 : ∀ s ∈ scs, (nin 4 (nth s 1)).length ≤ 1000 := fw2
  obtain ⟨b, bs, rfl, hb, bx⟩ := dp_items hz
  cases bx with | @cons b0 _ _ _ _ bx =>
  cases bx with | @cons b1 _ _ _ _ bx =>
  cases bx with | @cons b2 _ _ _ f2 bx =>
  cases bx with | @cons b3 _ _ _ f3 bx =>
  cases bx with | @cons b4 _ _ _ f4 bx =>
  cases bx with | @cons b5 _ _ _ f5 bx =>
  cases bx
  have z0 : 0 ≤ sizeLine := by decide
  have o4 : OkA (.tuple pcs) := ok.kid (by simp)
  have o5 : OkA (.tuple scs) := ok.kid (by simp)
  have := FO.ps3
  have := FO.ss6
  generalize hg : (fun p => (nin 4 (nth p 3)).all (thereE (scp dp (.tuple [n, sp, .tuple fns, .tuple fls, .tuple pcs, .tuple scs]) (items (nth p 2))))) = g
  generalize hg' : (fun s => (nin 4 (nth s 1)).all (thereE (scp dp (.tuple [n, sp, .tuple fns, .tuple fls, .tuple pcs, .tuple scs]) []))) = g'
  have eq : thereB dp (.tuple [n, sp, .tuple fns, .tuple fls, .tuple pcs, .tuple scs]) = (pcs.all g && scs.all g') := by rw [← hg, ← hg']; rfl
  rw [eq] at q
  obtain ⟨a4, xs4, rfl, h4, ax4⟩ := dp_items f4
  have le4 := dpAll_len ax4
  refine ⟨_, rfl, b, _, 4, _, rfl, rfl, hb, rfl, a4, rfl, ⟨_, h4⟩, fun D nD => lc_it (walk_tup (xs := xs4)) (fun i H' => AccB D H g pcs i H') (AccB.zero nD) (fun i H' _ h => seqT h.1 h4) ?_ ?_⟩
  · rintro i v _ HA hi ac ⟨rfl, ex⟩
    obtain ⟨d, ed, dv⟩ := dpAll_at (dpAll_same ac.1 _ _ ax4) ex
    have md := List.mem_of_getElem? ed
    obtain ⟨pn, pk, pp, pb, PI⟩ := piece_at (FO.psP d md)
    obtain rfl := PI.eq
    obtain ⟨q0, qs, rfl, hq, qx⟩ := dp_items dv
    cases qx with | @cons c0 _ _ _ g0 qx =>
    cases qx with | @cons c1 _ _ _ _ qx =>
    cases qx with | @cons c2 _ _ _ g2 qx =>
    cases qx with | @cons c3 _ _ _ g3 qx =>
    cases qx
    obtain ⟨r0, rs, rfl, hr0, rx⟩ := dp_items g2
    refine ⟨q0, _, rfl, hq, rfl, _, _, rfl, _, _, rfl, _, _, rfl, _, _, rfl, rfl, rfl, ?_⟩
    unfold tYes
    refine iteT ⟨_, rfl, _, rfl, _, rfl, _, rfl, x, .ref b, r0, dp, _, ds, n, sp, ns, ls, fs, fns, fls, pcs, scs, pp, rs, rfl, dp_same ac.1 _ _ hx, dp_same ac.1 _ _ hz, PO, FO, hr0, rx, PI.len, PI.prm, fun a' HB sB hsc => ?_⟩
    refine ⟨c3, pb, a', _, rfl, dp_same sB _ _ g3, (o4.kid md).kid (by simp), PI.blk, fw1 _ md, hsc, fun HC sC => ?_⟩
    have st := ac.step nD (sB.trans sC) ed (by omega)
    rw [← hg] at st ⊢
    exact st
  rintro H1 ac
  obtain ⟨a5, xs5, rfl, h5, ax5⟩ := dp_items (dp_same ac.1 _ _ f5)
  have le5 := dpAll_len ax5
  have hD := ac.fin (by omega)
  have s1 := ac.1
  refine ⟨_, rfl, _, rfl, z0, fun t nt => ?_⟩
  have st := same_upd (o := .tup []) nt
  have et : (upd H1 t (.tup [])) t = some (.tup []) := upd_same
  generalize upd H1 t (.tup []) = H2 at *
  have s2 := s1.trans st
  refine ⟨x, .ref b, t, dp, _, ds, n, sp, ns, ls, fs, fns, fls, pcs, scs, [], [], rfl, dp_same s2 _ _ hx, dp_same s2 _ _ hz, PO, FO, SqT.of et, .nil, by decide, (fun x hx => nomatch hx), fun a' H3 s3 hsc => ?_⟩
  have s3' := s2.trans s3
  refine ⟨_, rfl, D, pcs.map g, rfl, SqL.of ((st.trans s3) _ _ hD), _, rfl, ?_⟩
  rw [all_map]
  by_cases c : pcs.all g = true
  · rw [c] at q ⊢
    refine iteT ?_
    have h5' := seqT (st.trans s3) h5
    have ax5' := dpAll_same (st.trans s3) _ _ ax5
    refine ⟨_, rfl, b, _, 5, _, rfl, rfl, seqT s3' hb, rfl, a5, rfl, ⟨_, h5'⟩, fun D' nD' => lc_it (walk_tup (xs := xs5)) (fun i H' => AccB D' H3 g' scs i H') (AccB.zero nD') (fun i H' _ h => seqT h.1 h5') ?_ ?_⟩
    · rintro i v _ HA hi ac' ⟨rfl, ex⟩
      obtain ⟨d, ed, dv⟩ := dpAll_at (dpAll_same ac'.1 _ _ ax5') ex
      have md := List.mem_of_getElem? ed
      obtain ⟨st1, sb, rfl, hsb⟩ := script_at (FO.ssS d md)
      obtain ⟨q0, c0, c1, rfl, hq, g0, g1⟩ := d2 dv
      refine ⟨q0, _, rfl, hq, rfl, _, _, rfl, _, _, rfl, rfl, rfl, ?_⟩
      unfold tYes
      refine iteT ⟨_, rfl, _, rfl, c1, sb, a', _, rfl, g1, (o5.kid md).kid (by simp), hsb, fw2 _ md, hsc.same ac'.1, fun HC sC => ?_⟩
      have st := ac'.step nD' sC ed (by omega)
      rw [← hg'] at st ⊢
      exact st
    · rintro HB ac'
      refine ⟨D', scs.map g', rfl, SqL.of (ac'.fin (by omega)), ?_⟩
      rw [all_map]
      have h := q _ (s3'.trans ac'.1)
      rw [Bool.true_and] at h
      exact h
  · have h := q _ s3'
    rw [eq_false_of_ne_true c] at h ⊢
    exact iteF h
def spPl (K : PySem.W.Frag) : Sp := fun vs H Q _ => ∃ (x : V) (d : PyData), vs = [x] ∧ Dp K H x d ∧ OkA d ∧ (∀ f ∈ items (nth d 3), Few f) ∧ ∀ H', Same H H' → Q (.bl (isPlay d)) H'
abbrev sPl : Stmt := top 40
theorem scPl : FnScope ["thing", "figure"] ["thing"] (defScope sPl) := ⟨rfl, rfl, rfl, by decide +kernel, rfl, by decide +kernel, by decide +kernel⟩
theorem ok_pl {k : Nat} (F : Fun K "is_play" "is_play" sPl f fd) (GS : FnG P w K mg base CX0 k "is_shaped" ["thing"] (spB K OkA shapedB)) (GN : FnG P w K mg base CX0 k "names_are_there" ["play", "figure"] (spNT K)) (m_all : mg "all" = none) :
    FnOk P w K mg base CX0 (k + 1) f fd ["thing"] (spPl K) := by
  obtain ⟨_, _, G_is_shaped, m_is_shaped, k_is_shaped, b_is_shaped⟩ := GS
  obtain ⟨_, _, G_names_are_there, m_names_are_there, k_names_are_there, b_names_are_there⟩ := GN
  have sc := scPl
  refine F.ok sc (fun vs H Q E h => ?_) (fun cdv A outer s H vs Q E hr h => ?_)
  · obtain ⟨x, d, rfl, _⟩ := h
    rfl
  obtain ⟨x, d, rfl, hd, ok, few, q⟩ := h
  refine ⟨_, (pss_one (ps_ret (pe_and (pe_call G_is_shaped (hr.mono (by omega)) (by rfl) m_is_shaped k_is_shaped b_is_shaped .nil pass0 (pa_cons (pv 0) pa_nil)) (pe_one (pe_callB (cr_all rfl) (by rfl) m_all (by decide +kernel) (pa_cons (pe_lc (own := [("figure", 1)]) (by rfl) sc.nd  (pi_tup (pe_ix ix_tup (pv 0) pe_int (fun _ _ => rfl))) (blkOk_by (own := [("figure", 1)]) (N := ["thing", "figure"]) (sc := defScope sPl) (by decide +kernel)) (fun _ _ _ _ _ => (pg_name (i := 1) sc.nd rfl (.inl rfl))) (fun _ _ _ _ _ => pts_nil) (fun _ _ _ _ _ => (pe_call G_names_are_there (hr.mono (by omega)) (by rfl) m_names_are_there k_names_are_there b_names_are_there .nil pass0 (pa_cons (pv 0) (pa_cons (pv 1) pa_nil))))) pa_nil)))))), ?_⟩
  refine ⟨_, rfl, x, d, rfl, hd, ok, fun H1 s1 => ⟨_, rfl, ?_⟩⟩
  by_cases c : shapedB d = true
  · obtain ⟨sz, ns, ls, fs, PO⟩ := play_at c
    obtain rfl := PO.eq
    rw [c]
    replace q : ∀ H', Same H H' → Q (.bl (shapedB (.tuple [sz, .tuple ns, .tuple ls, .tuple fs]) && fs.all (thereB (.tuple [sz, .tuple ns, .tuple ls, .tuple fs])))) H' := q
    replace few : ∀ f ∈ fs, Few f := few
    rw [c] at q
    refine iteT ?_
    have hd1 := dp_same s1 _ _ hd
    obtain ⟨a, as, rfl, ha, ax⟩ := dp_items hd1
    cases ax with | @cons a0 _ _ _ _ ax =>
    cases ax with | @cons a1 _ _ _ p1 ax =>
    cases ax with | @cons a2 _ _ _ p2 ax =>
    cases ax with | @cons a3 _ _ _ p3 ax =>
    cases ax
    have o3 : OkA (.tuple fs) := ok.kid (by simp)
    have := PO.fs4
    obtain ⟨a4, xs4, rfl, h4, ax4⟩ := dp_items p3
    have le4 := dpAll_len ax4
    refine ⟨_, rfl, a, _, 3, _, rfl, rfl, ha, rfl, a4, rfl, ⟨_, h4⟩, fun D nD => lc_it (walk_tup (xs := xs4)) (fun i H' => AccB D H1 (thereB (.tuple [sz, .tuple ns, .tuple ls, .tuple fs])) fs i H') (AccB.zero nD) (fun i H' _ h => seqT h.1 h4) ?_ ?_⟩
    · rintro i v _ HA hi ac ⟨rfl, ex⟩
      obtain ⟨d, ed, dv⟩ := dpAll_at (dpAll_same ac.1 _ _ ax4) ex
      have md := List.mem_of_getElem? ed
      refine ⟨rfl, ?_⟩
      unfold tYes
      exact iteT ⟨_, rfl, _, rfl, .ref a, v, _, d, sz, ns, ls, fs, rfl, dp_same ac.1 _ _ hd1, dv, PO, md, o3.kid md, few d md, fun H5 s5 => ac.step nD s5 ed (by omega)⟩
    · rintro HB ac
      refine ⟨D, fs.map (thereB (.tuple [sz, .tuple ns, .tuple ls, .tuple fs])), rfl, SqL.of (ac.fin (by omega)), ?_⟩
      rw [all_map]
      have h := q _ (s1.trans ac.1)
      rw [Bool.true_and] at h
      exact h
  · have h := q _ s1
    unfold isPlay at h
    rw [eq_false_of_ne_true c, Bool.false_and] at h
    rw [eq_false_of_ne_true c]
    exact iteF h
end
end Fd

set_option Elab.async false
set_option linter.all false
set_option maxRecDepth 100000
set_option maxHeartbeats 4000000
namespace Fd
open PySem PySem.Spec PyProof.Rows L2
section
variable {X : Cx}
/-- text * number -/
theorem op_mul_str : OpR X (binaryOp .Mult) (fun x y H Q => ∃ z n, x = .str z ∧ y = .int n ∧ MulOk z n ∧ Q (.str (Txt.mul z n)) H) := by
  intro pins s σ H x y v u Q I rx ry h
  obtain ⟨z, n, rfl, rfl, hz, q⟩ := h
  obtain ⟨t, rfl⟩ := rx
  obtain ⟨t', rfl⟩ := ry
  exact SB.mul hz fun t' tk => ⟨.str (Txt.mul z n), H, I.tok _, ⟨_, rfl⟩, q⟩
end
/-! ### words -/
/-- one to eight letters a to z -/
abbrev ltrs : Str := Str.ofString "abcdefghijklmnoprstuvwxyz"
theorem ltrs_len : ltrs.cps.toList.length = 25 := by decide +kernel
theorem ltrs_all : ∀ c ∈ ltrs.cps.toList, 97 ≤ c ∧ c ≤ 122 := by decide +kernel
theorem ltrs_nodup : ltrs.cps.toList.Nodup := by decide +kernel
def ltr (i : Nat) : Nat := ltrs.cps.toList.getD i 0
theorem ltr_at {i : Nat} (h : i < 25) : ltrs.cps.toList[i]? = some (ltr i) := by
  have h' : i < ltrs.cps.toList.length := by rw [ltrs_len]; exact h
  unfold ltr
  rw [List.getD_eq_getElem?_getD, List.getElem?_eq_getElem h']
  rfl
theorem ltr_ok {i : Nat} (h : i < 25) : 97 ≤ ltr i ∧ ltr i ≤ 122 := ltrs_all _ (List.mem_of_getElem? (ltr_at h))
theorem ltr_inj {i j : Nat} (hi : i < 25) (hj : j < 25) (e : ltr i = ltr j) : i = j := nd_ix ltrs_nodup (ltr_at hi) (by rw [e]; exact ltr_at hj)
theorem ltr_atI {i : Int} (h0 : 0 ≤ i) (h : i < 25) : atI ltrs.cps.toList i = some (ltr i.toNat) := by
  have e : i = ((i.toNat : Nat) : Int) := by omega
  rw [e]
  exact atI_nat (by rw [Int.toNat_natCast]; exact ltr_at (by omega))
theorem ltrs_fit : ltrs.length ≤ sizeLine := by decide +kernel
theorem nodup_of {α : Type} {f : Nat → α} {m : Nat} (h : ∀ i j, i < j → j < m → f i ≠ f j) : ((List.range m).map f).Nodup := by
  refine List.pairwise_iff_getElem.mpr fun i j hi hj hij => ?_
  rw [List.length_map, List.length_range] at hi hj
  rw [List.getElem_map, List.getElem_map, List.getElem_range, List.getElem_range]
  exact h i j hij hj
/-- the k-th word of one letter told k + 1 times -/
def rep (c : Nat) (k : Nat) : Str := Txt.mul ⟨#[c]⟩ ((k : Int) + 1)
theorem fold_app (c : Nat) : ∀ (n : Nat) (acc : Array Nat), ((List.replicate n (#[c] : Array Nat)).foldl (· ++ ·) acc).toList = acc.toList ++ List.replicate n c
  | 0, acc => by simp
  | n + 1, acc => by
    rw [List.replicate_succ, List.foldl_cons, fold_app c n, Array.toList_append, List.replicate_succ, List.append_assoc]
    rfl
theorem rep_codes (c k : Nat) : (rep c k).cps.toList = List.replicate (k + 1) c := by
  unfold rep Txt.mul
  rw [if_neg (by omega)]
  by_cases h : k = 0
  · subst h
    rfl
  · have e : (((k : Int) + 1 == 1) || ((⟨#[c]⟩ : Str).length == 0)) = false := by
      rw [show ((k : Int) + 1 == 1) = false from beq_eq_false_iff_ne.mpr (by omega)]
      rfl
    rw [e, if_neg Bool.false_ne_true, show ((k : Int) + 1).toNat = k + 1 by omega]
    exact (fold_app c (k + 1) #[]).trans (List.nil_append _)
theorem rep_ok {c k : Nat} (hk : k < 7) : MulOk ⟨#[c]⟩ ((k : Int) + 1) := by
  refine ⟨?_, fun _ _ => ?_, fun _ _ => ?_⟩
  · rw [decide_eq_false (by omega), decide_eq_false (by omega)]
    rfl
  · show ¬ ((1 : Int) > (2 ^ 63 - 1) / ((k : Int) + 1))
    have : k = 0 ∨ k = 1 ∨ k = 2 ∨ k = 3 ∨ k = 4 ∨ k = 5 ∨ k = 6 := by omega
    rcases this with rfl | rfl | rfl | rfl | rfl | rfl | rfl <;> decide
  · rw [show (⟨#[c]⟩ : Str).length * ((k : Int) + 1).toNat = k + 1 by show 1 * _ = _; omega]
    have : k = 0 ∨ k = 1 ∨ k = 2 ∨ k = 3 ∨ k = 4 ∨ k = 5 ∨ k = 6 := by omega
    rcases this with rfl | rfl | rfl | rfl | rfl | rfl | rfl <;> decide +kernel
theorem rep_nm {c k : Nat} (hc : 97 ≤ c ∧ c ≤ 122) (hk : k < 7) : IsNm (rep c k) := by
  have l : (rep c k).cps.size = k + 1 := by rw [← Array.length_toList, rep_codes, List.length_replicate]
  refine ⟨by omega, by omega, fun x hx => ?_⟩
  rw [rep_codes] at hx
  rw [List.eq_of_mem_replicate hx]
  exact hc
theorem rep_ne {c i j : Nat} (h : i < j) : rep c i ≠ rep c j := fun e => by
  have := congrArg (fun z : Str => z.cps.toList.length) e
  simp only [rep_codes, List.length_replicate] at this
  omega
/-- a stem with one letter put in -/
def put1 (z : Str) (at_ : Int) (c : Nat) : Str := cutS z none (some at_) ++ ⟨#[c]⟩ ++ cutS z (some at_) none
theorem put1_codes {z : Str} {n : Nat} (h : n ≤ z.length) (c : Nat) : (put1 z (n : Int) c).cps.toList = z.cps.toList.take n ++ c :: z.cps.toList.drop n := by
  have l : z.cps.toList.length = z.length := Array.length_toList
  have e1 : (cutS z none (some (n : Int))).cps.toList = z.cps.toList.take n := by
    show ((z.cps.toList.drop (HT.sIx z.length 0 none)).take (HT.sIx z.length z.length (some (n : Int)) - HT.sIx z.length 0 none)) = _
    rw [HT.sIx_none, HT.sIx_nat, Nat.min_eq_left h]
    rfl
  have e2 : (cutS z (some (n : Int)) none).cps.toList = z.cps.toList.drop n := by
    show ((z.cps.toList.drop (HT.sIx z.length 0 (some (n : Int)))).take (HT.sIx z.length z.length none - HT.sIx z.length 0 (some (n : Int)))) = _
    rw [HT.sIx_none, HT.sIx_nat, Nat.min_eq_left h]
    exact List.take_of_length_le (by rw [List.length_drop, l]; exact Nat.le_refl _)
  show ((cutS z none (some (n : Int))).cps ++ #[c] ++ (cutS z (some (n : Int)) none).cps).toList = _
  rw [Array.toList_append, Array.toList_append, e1, e2, List.append_assoc]
  rfl
theorem put1_nm {z : Str} {n c : Nat} (h : n ≤ z.length) (hz : z.length ≤ 7) (hs : ∀ x ∈ z.cps.toList, 97 ≤ x ∧ x ≤ 122) (hc : 97 ≤ c ∧ c ≤ 122) : IsNm (put1 z (n : Int) c) := by
  have l0 : z.cps.toList.length = z.length := Array.length_toList
  have l : (put1 z (n : Int) c).cps.size = z.length + 1 := by
    rw [← Array.length_toList, put1_codes h, List.length_append, List.length_cons, List.length_take, List.length_drop, l0]
    omega
  refine ⟨by omega, by omega, fun x hx => ?_⟩
  rw [put1_codes h] at hx
  rcases List.mem_append.mp hx with q | q
  · exact hs _ (List.mem_of_mem_take q)
  · rcases List.mem_cons.mp q with q | q
    · rw [q]; exact hc
    · exact hs _ (List.mem_of_mem_drop q)
theorem put1_ne {z : Str} {n c c' : Nat} (h : n ≤ z.length) (hc : c ≠ c') : put1 z (n : Int) c ≠ put1 z (n : Int) c' := fun e => by
  have q := congrArg (fun z : Str => z.cps.toList) e
  simp only [put1_codes h] at q
  exact hc (List.cons.inj (List.append_cancel_left q)).1
abbrev one (c : Nat) : Str := ⟨#[c]⟩
theorem glue1 : ∀ (cs : List Nat) (acc : Array Nat), ((cs.map one).foldl (fun acc p => acc ++ (Str.ofString "").cps ++ p.cps) acc).toList = acc.toList ++ cs
  | [], acc => by simp
  | c :: cs, acc => by
    rw [List.map_cons, List.foldl_cons, glue1 cs, Array.toList_append, Array.toList_append, show (Str.ofString "").cps.toList = [] by decide +kernel, List.append_nil, List.append_assoc]
    rfl
theorem join1 : ∀ cs : List Nat, (Txt.join (Str.ofString "") (cs.map one)).cps.toList = cs
  | [] => rfl
  | c :: cs => glue1 cs #[c]
section
variable {P : Program} {w : World} {K : PySem.W.Frag} {mg : Str → Option Value} {base : Heap} {f : Addr} {fd : FuncData}
/-! ### _law_names -/
abbrev sNames : Stmt := top 62
theorem scNames : FnScope ["_law_state", "_law_many", "_law_letters", "_law_begun", "_law_way", "_law_stem", "_law_at", "_law_k"] ["_law_state", "_law_many"] (defScope sNames) := ⟨rfl, rfl, rfl, by decide +kernel, rfl, by decide +kernel, by decide +kernel⟩
/-- nine names or more -/
def spNames : Sp := fun vs H Q _ => ∃ (a c : Addr) (n m : Nat), vs = [.ref a, .int m] ∧ Dr H a c n ∧ n + 12 ≤ 1000000 ∧ 8 ≤ m ∧ m ≤ 13 ∧
  ∀ (p : Addr) (ws : List Str) (H' : Hp), ButL [a, c] H H' → Dr H' a c (n + 12) → H p = none → p ∉ [a, c] → H' p = some (.lst (ws.map V.str)) → ws.length = m → ws.Nodup → (∀ z ∈ ws, IsNm z) → Q (.ref p) H'
theorem Dr.upd {H : Hp} {a c d : Addr} {n : Nat} {o : HO} (b : Dr H a c n) (h : d ∉ [a, c]) : Dr (upd H d o) a c n := by
  obtain ⟨t, ns, h1, h2, r⟩ := b
  exact ⟨t, ns, by rw [upd_ne (fun z => h (by rw [z]; exact List.mem_cons_self ..))]; exact h1, by rw [upd_ne (fun z => h (by rw [z]; exact List.mem_cons_of_mem _ (List.mem_singleton.mpr rfl)))]; exact h2, r⟩
theorem ButL.free {as : List Addr} {d : Addr} {H H' : Hp} (s : ButL as H H') (h : ∀ b ∈ as, ∃ u, H' b = some u) (n : H' d = none) : H d = none := by
  cases e : H d with
  | none => rfl
  | some o =>
    by_cases z : d ∈ as
    · obtain ⟨u, hu⟩ := h d z
      rw [n] at hu
      cases hu
    · rw [s d o z e] at n
      cases n
theorem ok_names {k : Nat} (F : Fun K "_law_names" "_law_names" sNames f fd) (G : FnG P w K mg base CX0 k "_law_take" ["_law_state", "_law_below"] spTake) (m_len : mg "len" = none) (m_range : mg "range" = none) :
    FnOk P w K mg base CX0 (k + 1) f fd ["_law_state", "_law_many"] spNames := by
  obtain ⟨_, _, G__law_take, m__law_take, k__law_take, b__law_take⟩ := G
  have sc := scNames
  refine F.ok sc (fun vs H Q E h => ?_) (fun cdv A outer s H vs Q E hr h => ?_)
  · obtain ⟨a, c, n, m, rfl, _⟩ := h
    rfl
  obtain ⟨a, c, n, m, rfl, hB, hn, hm, hm2, q⟩ := h
  refine ⟨_, (pss_cons (ps_asg (pe_tup (pa_cons pe_str (pa_cons (pe_call G__law_take (hr.mono (by omega)) (by rfl) m__law_take k__law_take b__law_take .nil pass0 (pa_cons (pv 0) (pa_cons pe_int pa_nil))) (pa_cons (pe_call G__law_take (hr.mono (by omega)) (by rfl) m__law_take k__law_take b__law_take .nil pass0 (pa_cons (pv 0) (pa_cons pe_int pa_nil))) pa_nil)))) (pg_tup (by rfl) (pgs_cons (pg_name (i := 2) sc.nd rfl (.inr rfl)) (pgs_cons (pg_name (i := 3) sc.nd rfl (.inr rfl)) (pgs_cons (pg_name (i := 4) sc.nd rfl (.inl rfl)) pgs_nil)))))
      (pss_cons (ps_set (i := 5) sc.nd rfl (.inr rfl) (pe_join pe_str (pe_lc (own := [("_law_k", 7)]) (by rfl) sc.nd  (pi_range1 (by rfl) m_range (pa_cons (pe_call G__law_take (hr.mono (by omega)) (by rfl) m__law_take k__law_take b__law_take .nil pass0 (pa_cons (pv 0) (pa_cons pe_int pa_nil))) pa_nil)) (blkOk_by (own := [("_law_k", 7)]) (N := ["_law_state", "_law_many", "_law_letters", "_law_begun", "_law_way", "_law_stem", "_law_at", "_law_k"]) (sc := defScope sNames) (by decide +kernel)) (fun _ _ _ _ _ => (pg_name (i := 7) sc.nd rfl (.inl rfl))) (fun _ _ _ _ _ => pts_nil) (fun _ _ _ _ _ => (pe_ix ix_str (pv 2) (pe_call G__law_take (hr.mono (by omega)) (by rfl) m__law_take k__law_take b__law_take .nil pass0 (pa_cons (pv 0) (pa_cons pe_int pa_nil))) (fun _ _ => rfl))))))
      (pss_cons (ps_if (PW.pt (pw_and (pt_cmpR op_lt (pv 1) pe_int (nomark _)) (pw_and1 (pt_cmpR op_eq (pv 4) pe_int (nomark _))))) (pss_one (ps_ret (pe_lc (own := [("_law_k", 7)]) (by rfl) sc.nd  (pi_range1 (by rfl) m_range (pa_cons (pv 1) pa_nil)) (blkOk_by (own := [("_law_k", 7)]) (N := ["_law_state", "_law_many", "_law_letters", "_law_begun", "_law_way", "_law_stem", "_law_at", "_law_k"]) (sc := defScope sNames) (by decide +kernel)) (fun _ _ _ _ _ => (pg_name (i := 7) sc.nd rfl (.inl rfl))) (fun _ _ _ _ _ => pts_nil) (fun _ _ _ _ _ => (pe_op op_mul_str (pe_ix ix_str (pv 2) (pv 3) (fun _ _ => rfl)) (pe_op op_add (pv 7) pe_int)))))) pss_nil)
      (pss_cons (ps_set (i := 6) sc.nd rfl (.inr rfl) (pe_ix ix_list (pe_lst (pa_cons pe_int (pa_cons (pe_call G__law_take (hr.mono (by omega)) (by rfl) m__law_take k__law_take b__law_take .nil pass0 (pa_cons (pv 0) (pa_cons (pe_op op_add (pe_callB call_len_str (by rfl) m_len (by decide +kernel) (pa_cons (pv 5) pa_nil)) pe_int) pa_nil))) (pa_cons (pe_callB call_len_str (by rfl) m_len (by decide +kernel) (pa_cons (pv 5) pa_nil)) pa_nil)))) (pv 4) (fun _ _ => rfl)))
      (pss_one (ps_ret (pe_lc (own := [("_law_k", 7)]) (by rfl) sc.nd  (pi_range1 (by rfl) m_range (pa_cons (pv 1) pa_nil)) (blkOk_by (own := [("_law_k", 7)]) (N := ["_law_state", "_law_many", "_law_letters", "_law_begun", "_law_way", "_law_stem", "_law_at", "_law_k"]) (sc := defScope sNames) (by decide +kernel)) (fun _ _ _ _ _ => (pg_name (i := 7) sc.nd rfl (.inl rfl))) (fun _ _ _ _ _ => pts_nil) (fun _ _ _ _ _ => (pe_op op_add_str (pe_op op_add_str (pe_slice sl_str (pv 5) po_none (po_some (pv 6))) (pe_ix ix_str (pv 2) (pe_op op_mod (pe_op op_add (pv 3) (pe_op op_mul pe_int (pv 7))) pe_int) (fun _ _ => rfl))) (pe_slice sl_str (pv 5) (po_some (pv 6)) po_none)))))))))), ?_⟩
  refine ⟨_, rfl, a, c, n, 25, rfl, hB, by omega, by decide, by decide, fun r1 H1 r10 r11 s1 B1 => ⟨_, rfl, a, c, n + 1, 3, rfl, B1, by omega, by decide, by decide, fun r2 H2 r20 r21 s2 B2 => ?_⟩⟩
  refine ⟨by show 3 ≤ sizeLine; decide, fun t nt => ⟨t, _, rfl, .inl (.inl upd_same), rfl, _, _, rfl, _, _, rfl, _, _, rfl, rfl, ?_⟩⟩
  have s3 := (s1.trans s2).trans (ButL.same (same_upd (o := .tup [.str ltrs, .int r1, .int r2]) nt))
  have B3 : Dr (upd H2 t (.tup [.str ltrs, .int r1, .int r2])) a c (n + 2) := B2.same (same_upd nt)
  refine ⟨⟨_, rfl⟩, _, rfl, a, c, n + 2, 8, rfl, B3, by omega, by decide, by decide, fun r3 H3 r30 r31 s4 B4 => ⟨r3, rfl, by omega, by omega, fun D nD => lc_it walk_range
    (fun i H' => ButL [a, c] H3 H' ∧ Dr H' a c (n + 3 + i) ∧ ∃ cs : List Nat, cs.length = i ∧ (∀ c ∈ cs, 97 ≤ c ∧ c ≤ 122) ∧ H' D = some (.lst ((cs.map one).map V.str))) ⟨ButL.same (same_upd nD), B4.same (same_upd nD), [], rfl, (by intro c hc; cases hc), upd_same⟩
    (fun _ _ _ _ => trivial) ?_ ?_⟩⟩
  · rintro i x _ H4 hi ⟨s5, B5, cs, hl, hc, hD⟩ ⟨rfl, rfl⟩
    refine ⟨rfl, ?_⟩
    unfold tYes
    refine iteT ⟨_, rfl, _, rfl, a, c, n + 3 + i, 25, rfl, B5, by omega, by decide, by decide, fun r4 H5 r40 r41 s6 B6 => ?_⟩
    have aD : D ∉ [a, c] := B4.ne nD
    have hD5 := s6 _ _ aD hD
    refine ⟨ltrs, r4, _, rfl, rfl, ltrs_fit, ltr_atI r40 r41, _, hD5, ?_, fun b o nb h => ?_, B6.upd aD, cs ++ [ltr r4.toNat], by rw [List.length_append, hl]; rfl, fun c hc' => ?_, ?_⟩
    · rw [List.length_map, List.length_map, hl]
      exact small1000 (by omega)
    · by_cases hb : b = D
      · rw [hb, nD] at h
        cases h
      · rw [upd_ne hb]
        exact s6 _ _ nb (s5 _ _ nb h)
    · rcases List.mem_append.mp hc' with z | z
      · exact hc c z
      · rw [List.mem_singleton.mp z]
        exact ltr_ok (by omega)
    · rw [upd_same, List.map_append, List.map_append]
      rfl
  rintro H4 ⟨s5, B5, cs, hl, hc, hD⟩
  have r3l : r3.toNat ≤ 7 := by omega
  refine ⟨_, D, cs.map one, rfl, rfl, .inl (SqL.of hD), ?_, ?_⟩
  · have e1 : ((cs.map one).map (·.length)).sum = cs.length := by
      clear hl hc hD
      induction cs with
      | nil => rfl
      | cons c r ih => rw [List.map_cons, List.map_cons, List.sum_cons, ih, List.length_cons]; show 1 + _ = _; omega
    rw [e1, show (Str.ofString "").length = 0 by decide +kernel, Nat.mul_zero]
    omega
  generalize hst : Txt.join (Str.ofString "") (cs.map one) = stem
  have stc : stem.cps.toList = cs := by rw [← hst]; exact join1 cs
  have stl : stem.length = r3.toNat := by rw [show stem.length = stem.cps.toList.length from Array.length_toList.symm, stc, hl]
  have sta : ∀ x ∈ stem.cps.toList, 97 ≤ x ∧ x ≤ 122 := by rw [stc]; exact hc
  have B6 : Dr H4 a c (n + 10) := B5.le (by omega)
  have s6 := (s3.trans s4).trans s5
  refine ⟨_, rfl, _, _, rfl, rfl, _, rfl, ifF (by show ¬ ((m : Nat) : Int) < 8; omega) (iteF ?_)⟩
  refine ⟨_, rfl, _, rfl, stem, rfl, Nat.le_of_lt (small1000 (by omega)), _, 1, rfl, rfl, a, c, n + 10, _, rfl, B6, by omega, by omega, by omega, fun r4 H5 r40 r41 s7 B7 => ?_⟩
  refine ⟨_, rfl, stem, rfl, Nat.le_of_lt (small1000 (by omega)), by show 3 ≤ sizeLine; decide, fun l nl => ?_⟩
  obtain ⟨na, hna, hat⟩ : ∃ na : Nat, na ≤ stem.length ∧ atI [V.int 0, V.int r4, V.int (stem.length : Nat)] r2 = some (.int (na : Int)) := by
    have : r2 = 0 ∨ r2 = 1 ∨ r2 = 2 := by omega
    rcases this with rfl | rfl | rfl
    · exact ⟨0, Nat.zero_le _, rfl⟩
    · exact ⟨r4.toNat, by omega, by rw [show ((r4.toNat : Nat) : Int) = r4 by omega]; rfl⟩
    · exact ⟨stem.length, Nat.le_refl _, rfl⟩
  refine ⟨_, rfl, l, _, r2, _, rfl, rfl, SqL.of upd_same, hat, ?_⟩
  have s8 : ButL [a, c] H4 (upd H5 l (.lst [.int 0, .int r4, .int (stem.length : Nat)])) := s7.trans (ButL.same (same_upd nl))
  have B8 : Dr (upd H5 l (.lst [.int 0, .int r4, .int (stem.length : Nat)])) a c (n + 11) := B7.same (same_upd nl)
  refine ⟨_, rfl, m, rfl, by omega, by omega, fun D2 nD2 => lc_it walk_range
    (fun i H' => ButL [a, c] (upd H5 l (.lst [.int 0, .int r4, .int (stem.length : Nat)])) H' ∧ Dr H' a c (n + 11) ∧ H' D2 = some (.lst (((List.range i).map fun k => put1 stem (na : Int) (ltr ((r1.toNat + 7 * k) % 25))).map V.str)))
    ⟨ButL.same (same_upd nD2), B8.same (same_upd nD2), upd_same⟩ (fun _ _ _ _ => trivial) ?_ ?_⟩
  · rintro i x _ H6 hi ⟨s9, B9, hD2⟩ ⟨rfl, ex⟩
    obtain rfl : x = V.int i := ex.trans (congrArg V.int (Int.zero_add _))
    have hi' : i < m := by simpa using hi
    have ei : (r1 + 7 * (i : Int)) % 25 = (((r1.toNat + 7 * i) % 25 : Nat) : Int) := by omega
    refine ⟨rfl, ?_⟩
    unfold tYes
    refine iteT ⟨_, rfl, _, rfl, na, rfl, stem, rfl, Nat.le_of_lt (small1000 (by omega)), _, rfl, _, rfl, _, rfl, 7, i, rfl, rfl, .inl ⟨by decide, by decide⟩, r1, _, rfl, rfl, _, 25, rfl, rfl, (show (0 : Int) < 25 by decide),
      ltrs, _, _, rfl, rfl, ltrs_fit, ltr_atI (by omega) (by omega), _, _, rfl, rfl, ?_, _, rfl, _, rfl, na, rfl, stem, rfl, Nat.le_of_lt (small1000 (by omega)), _, _, rfl, rfl, ?_, _, hD2, ?_, fun b o nb h => ?_, B9.upd (B8.ne nD2), ?_⟩
    · have := cutS_length stem none (some (na : Int))
      exact Nat.le_of_lt (small1000 (by show (cutS stem none (some (na : Int))).length + 1 ≤ 1000; omega))
    · have h1 := cutS_length stem none (some (na : Int))
      have h2 := cutS_length stem (some (na : Int)) none
      have h3 : (cutS stem none (some (na : Int)) ++ one (ltr ((r1 + 7 * (i : Int)) % 25).toNat)).length = (cutS stem none (some (na : Int))).length + 1 := Array.size_append
      exact Nat.le_of_lt (small1000 (by show (cutS stem none (some (na : Int)) ++ one (ltr ((r1 + 7 * (i : Int)) % 25).toNat)).length + (cutS stem (some (na : Int)) none).length ≤ 1000; omega))
    · rw [List.length_map, List.length_map, List.length_range]
      exact small1000 (by omega)
    · rw [upd_ne (fun z => by rw [z, nD2] at h; cases h)]
      exact s9 _ _ nb h
    · rw [upd_same, List.range_succ, List.map_append, List.map_append]
      show some (HO.lst (_ ++ [V.str (put1 stem (na : Int) (ltr ((r1 + 7 * (i : Int)) % 25).toNat))])) = _
      rw [ei, Int.toNat_natCast]
      rfl
  · rintro H6 ⟨s9, B9, hD2⟩
    refine q D2 _ H6 ((s6.trans s8).trans s9) (B9.le (by omega)) ((s6.trans s8).free B8.in_ nD2) (B8.ne nD2) hD2 ?_ (nodup_of fun i j h1 h2 => put1_ne hna fun z => ?_) fun z hz => ?_
    · rw [List.length_map, List.length_range, Int.toNat_natCast]
    · have := ltr_inj (Nat.mod_lt _ (by decide)) (Nat.mod_lt _ (by decide)) z
      have h2' : j < m := by simpa using h2
      omega
    · obtain ⟨i, hi, rfl⟩ := List.mem_map.mp hz
      exact put1_nm hna (by omega) sta (ltr_ok (Nat.mod_lt _ (by decide)))
end
end Fd

set_option Elab.async false
set_option linter.all false
set_option maxRecDepth 100000
set_option maxHeartbeats 4000000
namespace Fd
open PySem PySem.Spec PyProof.Rows L2
abbrev kv10 (v1 v2 v3 v4 v5 v6 v7 v8 v9 v10 : V) : List (L2.Key × V) := [(Sum.inr "name", v1), (Sum.inr "spot", v2), (Sum.inr "names", v3), (Sum.inr "lists", v4), (Sum.inr "pieces", v5), (Sum.inr "scripts", v6), (Sum.inr "sides", v7), (Sum.inr "shared", v8), (Sum.inr "all", v9), (Sum.inr "more", v10)]
/-- the play that is made of ten things -/
def mkW (d1 d2 d3 d4 d5 d6 d7 d8 d9 : PyData) (ms : List PyData) : PyData := .tuple [d7, d8, d9, .tuple (.tuple [d1, d2, d3, d4, d5, d6] :: ms)]
abbrev o3 : PyData := .tuple [.int 0, .int 0, .int 0]
abbrev e0 : PyData := .tuple []
abbrev s32 : PyData := .tuple [.int 3, .int 2]
section
variable {P : Program} {w : World} {K : PySem.W.Frag} {mg : Str → Option Value} {base : Heap} {f : Addr} {fd : FuncData}
def spBase (K : PySem.W.Frag) : Sp := fun vs H Q _ => ∃ (l : Addr) (w0 : Str) (r : List V), vs = [.ref l] ∧ SqL K H l (.str w0 :: r) ∧
  ∀ a v2 v3 v4 v5 v6 v7 v8 v9 v10 H', Same H H' → H a = none → H' a = some (.dK (kv10 (.str w0) v2 v3 v4 v5 v6 v7 v8 v9 v10)) → Dp K H' v2 o3 → Dp K H' v3 e0 → Dp K H' v4 e0 → Dp K H' v5 e0 → Dp K H' v6 e0 → Dp K H' v7 s32 → Dp K H' v8 e0 → Dp K H' v9 e0 → Dp K H' v10 e0 → Q (.ref a) H'
abbrev sBase : Stmt := top 64
theorem scBase : FnScope ["_law_n"] ["_law_n"] (defScope sBase) := ⟨rfl, rfl, rfl, by decide +kernel, rfl, by decide +kernel, by decide +kernel⟩
theorem ok_base {k : Nat} (F : Fun K "_law_base" "_law_base" sBase f fd) : FnOk P w K mg base CX0 (k + 1) f fd ["_law_n"] (spBase K) := by
  have sc := scBase
  refine F.ok sc (fun vs H Q E h => ?_) (fun cdv A outer s H vs Q E hr h => ?_)
  · obtain ⟨l, w0, r, rfl, _⟩ := h
    rfl
  obtain ⟨l, w0, r, rfl, hl, q⟩ := h
  refine ⟨_, (pss_one (ps_ret (pe_disp (pps_cons pe_str (pe_ix ix_list (pv 0) pe_int (fun _ _ => rfl)) (pps_cons pe_str (pe_tup (pa_cons pe_int (pa_cons pe_int (pa_cons pe_int pa_nil)))) (pps_cons pe_str (pe_tup pa_nil) (pps_cons pe_str (pe_tup pa_nil) (pps_cons pe_str (pe_tup pa_nil) (pps_cons pe_str (pe_tup pa_nil) (pps_cons pe_str (pe_tup (pa_cons pe_int (pa_cons pe_int pa_nil))) (pps_cons pe_str (pe_tup pa_nil) (pps_cons pe_str (pe_tup pa_nil) (pps_cons pe_str (pe_tup pa_nil) pps_nil)))))))))) rfl rfl (by decide) (by decide)))), ?_⟩
  have z0 : 0 ≤ sizeLine := by decide
  have z2 : 2 ≤ sizeLine := by decide
  have z3 : 3 ≤ sizeLine := by decide
  intro a na
  have s0 := same_upd (o := .dK []) na
  have ea : (upd H a (.dK [])) a = some (.dK []) := upd_same
  generalize upd H a (.dK []) = H0 at *
  refine ⟨_, rfl, l, _, 0, _, rfl, rfl, s0.seq hl, atI_nat (j := 0) rfl, z3, fun t2 np => ?_⟩
  have x1 := same_upd (o := .tup [.int 0, .int 0, .int 0]) np
  have d_t2 : Dp K (upd H0 t2 (.tup [.int 0, .int 0, .int 0])) (.ref t2) (o3) := .tup (SqT.of upd_same) (.cons (.int _) (.cons (.int _) (.cons (.int _) .nil)))
  replace s0 := s0.trans x1
  replace ea := x1 _ _ ea
  generalize upd H0 t2 (.tup [.int 0, .int 0, .int 0]) = Gt2 at *
  clear x1 np
  refine ⟨z0, fun t3 np => ?_⟩
  have x1 := same_upd (o := .tup []) np
  have d_t3 : Dp K (upd Gt2 t3 (.tup [])) (.ref t3) (e0) := .tup (SqT.of upd_same) .nil
  replace d_t2 := dp_same x1 _ _ d_t2
  replace s0 := s0.trans x1
  replace ea := x1 _ _ ea
  generalize upd Gt2 t3 (.tup []) = Gt3 at *
  clear x1 np
  refine ⟨z0, fun t4 np => ?_⟩
  have x1 := same_upd (o := .tup []) np
  have d_t4 : Dp K (upd Gt3 t4 (.tup [])) (.ref t4) (e0) := .tup (SqT.of upd_same) .nil
  replace d_t2 := dp_same x1 _ _ d_t2
  replace d_t3 := dp_same x1 _ _ d_t3
  replace s0 := s0.trans x1
  replace ea := x1 _ _ ea
  generalize upd Gt3 t4 (.tup []) = Gt4 at *
  clear x1 np
  refine ⟨z0, fun t5 np => ?_⟩
  have x1 := same_upd (o := .tup []) np
  have d_t5 : Dp K (upd Gt4 t5 (.tup [])) (.ref t5) (e0) := .tup (SqT.of upd_same) .nil
  replace d_t2 := dp_same x1 _ _ d_t2
  replace d_t3 := dp_same x1 _ _ d_t3
  replace d_t4 := dp_same x1 _ _ d_t4
  replace s0 := s0.trans x1
  replace ea := x1 _ _ ea
  generalize upd Gt4 t5 (.tup []) = Gt5 at *
  clear x1 np
  refine ⟨z0, fun t6 np => ?_⟩
  have x1 := same_upd (o := .tup []) np
  have d_t6 : Dp K (upd Gt5 t6 (.tup [])) (.ref t6) (e0) := .tup (SqT.of upd_same) .nil
  replace d_t2 := dp_same x1 _ _ d_t2
  replace d_t3 := dp_same x1 _ _ d_t3
  replace d_t4 := dp_same x1 _ _ d_t4
  replace d_t5 := dp_same x1 _ _ d_t5
  replace s0 := s0.trans x1
  replace ea := x1 _ _ ea
  generalize upd Gt5 t6 (.tup []) = Gt6 at *
  clear x1 np
  refine ⟨z2, fun t7 np => ?_⟩
  have x1 := same_upd (o := .tup [.int 3, .int 2]) np
  have d_t7 : Dp K (upd Gt6 t7 (.tup [.int 3, .int 2])) (.ref t7) (s32) := .tup (SqT.of upd_same) (.cons (.int _) (.cons (.int _) .nil))
  replace d_t2 := dp_same x1 _ _ d_t2
  replace d_t3 := dp_same x1 _ _ d_t3
  replace d_t4 := dp_same x1 _ _ d_t4
  replace d_t5 := dp_same x1 _ _ d_t5
  replace d_t6 := dp_same x1 _ _ d_t6
  replace s0 := s0.trans x1
  replace ea := x1 _ _ ea
  generalize upd Gt6 t7 (.tup [.int 3, .int 2]) = Gt7 at *
  clear x1 np
  refine ⟨z0, fun t8 np => ?_⟩
  have x1 := same_upd (o := .tup []) np
  have d_t8 : Dp K (upd Gt7 t8 (.tup [])) (.ref t8) (e0) := .tup (SqT.of upd_same) .nil
  replace d_t2 := dp_same x1 _ _ d_t2
  replace d_t3 := dp_same x1 _ _ d_t3
  replace d_t4 := dp_same x1 _ _ d_t4
  replace d_t5 := dp_same x1 _ _ d_t5
  replace d_t6 := dp_same x1 _ _ d_t6
  replace d_t7 := dp_same x1 _ _ d_t7
  replace s0 := s0.trans x1
  replace ea := x1 _ _ ea
  generalize upd Gt7 t8 (.tup []) = Gt8 at *
  clear x1 np
  refine ⟨z0, fun t9 np => ?_⟩
  have x1 := same_upd (o := .tup []) np
  have d_t9 : Dp K (upd Gt8 t9 (.tup [])) (.ref t9) (e0) := .tup (SqT.of upd_same) .nil
  replace d_t2 := dp_same x1 _ _ d_t2
  replace d_t3 := dp_same x1 _ _ d_t3
  replace d_t4 := dp_same x1 _ _ d_t4
  replace d_t5 := dp_same x1 _ _ d_t5
  replace d_t6 := dp_same x1 _ _ d_t6
  replace d_t7 := dp_same x1 _ _ d_t7
  replace d_t8 := dp_same x1 _ _ d_t8
  replace s0 := s0.trans x1
  replace ea := x1 _ _ ea
  generalize upd Gt8 t9 (.tup []) = Gt9 at *
  clear x1 np
  refine ⟨z0, fun t10 np => ?_⟩
  have x1 := same_upd (o := .tup []) np
  have d_t10 : Dp K (upd Gt9 t10 (.tup [])) (.ref t10) (e0) := .tup (SqT.of upd_same) .nil
  replace d_t2 := dp_same x1 _ _ d_t2
  replace d_t3 := dp_same x1 _ _ d_t3
  replace d_t4 := dp_same x1 _ _ d_t4
  replace d_t5 := dp_same x1 _ _ d_t5
  replace d_t6 := dp_same x1 _ _ d_t6
  replace d_t7 := dp_same x1 _ _ d_t7
  replace d_t8 := dp_same x1 _ _ d_t8
  replace d_t9 := dp_same x1 _ _ d_t9
  replace s0 := s0.trans x1
  replace ea := x1 _ _ ea
  generalize upd Gt9 t10 (.tup []) = Gt10 at *
  clear x1 np
  refine ⟨ea, kv10 (.str w0) (.ref t2) (.ref t3) (.ref t4) (.ref t5) (.ref t6) (.ref t7) (.ref t8) (.ref t9) (.ref t10), rfl, by show 10 ≤ 15; decide, ?_⟩
  have up : ∀ {v : V} {d : PyData}, tOn d = true → Dp K Gt10 v d → Dp K (upd Gt10 a (.dK (mergeK [] (kv10 (.str w0) (.ref t2) (.ref t3) (.ref t4) (.ref t5) (.ref t6) (.ref t7) (.ref t8) (.ref t9) (.ref t10))))) v d := fun {v d} on hd => by
    have := dp_noD ea d v on hd
    rw [← rmL_upd (o := .dK (mergeK [] (kv10 (.str w0) (.ref t2) (.ref t3) (.ref t4) (.ref t5) (.ref t6) (.ref t7) (.ref t8) (.ref t9) (.ref t10)))) (List.mem_singleton.mpr rfl)] at this
    exact dp_same (rmL_sub (as := [a])) _ _ this
  refine q a _ _ _ _ _ _ _ _ _ _ (fun b o hb => ?_) na ?_ (up rfl d_t2) (up rfl d_t3) (up rfl d_t4) (up rfl d_t5) (up rfl d_t6) (up rfl d_t7) (up rfl d_t8) (up rfl d_t9) (up rfl d_t10)
  · rw [upd_ne (ne_of_none hb na)]
    exact s0 _ _ hb
  · rw [upd_same]
    rfl
def spMade (K : PySem.W.Frag) : Sp := fun vs H Q _ => ∃ (a : Addr) (v1 v2 v3 v4 v5 v6 v7 v8 v9 v10 : V) (d1 d2 d3 d4 d5 d6 d7 d8 d9 : PyData) (ms : List PyData), vs = [.ref a] ∧ H a = some (.dK (kv10 v1 v2 v3 v4 v5 v6 v7 v8 v9 v10)) ∧ Dp K H v1 d1 ∧ Dp K H v2 d2 ∧ Dp K H v3 d3 ∧ Dp K H v4 d4 ∧ Dp K H v5 d5 ∧ Dp K H v6 d6 ∧ Dp K H v7 d7 ∧ Dp K H v8 d8 ∧ Dp K H v9 d9 ∧ Dp K H v10 (.tuple ms) ∧ ms.length ≤ 100 ∧ ∀ p H', Same H H' → Dp K H' p (mkW d1 d2 d3 d4 d5 d6 d7 d8 d9 ms) → Q p H'
abbrev sMade : Stmt := top 63
theorem scMade : FnScope ["_law_w", "_law_fig"] ["_law_w"] (defScope sMade) := ⟨rfl, rfl, rfl, by decide +kernel, rfl, by decide +kernel, by decide +kernel⟩
theorem ok_made {k : Nat} (F : Fun K "_law_made" "_law_made" sMade f fd) : FnOk P w K mg base CX0 (k + 1) f fd ["_law_w"] (spMade K) := by
  have sc := scMade
  refine F.ok sc (fun vs H Q E h => ?_) (fun cdv A outer s H vs Q E hr h => ?_)
  · obtain ⟨a, _, _, _, _, _, _, _, _, _, _, _, _, _, _, _, _, _, _, _, _, rfl, _⟩ := h
    rfl
  obtain ⟨a, v1, v2, v3, v4, v5, v6, v7, v8, v9, v10, d1, d2, d3, d4, d5, d6, d7, d8, d9, ms, rfl, ha, p1, p2, p3, p4, p5, p6, p7, p8, p9, p10, lm, q⟩ := h
  refine ⟨_, (pss_cons (ps_set (i := 1) sc.nd rfl (.inl rfl) (pe_tup (pa_cons (pe_dget (hu_of hr) (pv 0) pe_str (fun _ _ => rfl)) (pa_cons (pe_dget (hu_of hr) (pv 0) pe_str (fun _ _ => rfl)) (pa_cons (pe_dget (hu_of hr) (pv 0) pe_str (fun _ _ => rfl)) (pa_cons (pe_dget (hu_of hr) (pv 0) pe_str (fun _ _ => rfl)) (pa_cons (pe_dget (hu_of hr) (pv 0) pe_str (fun _ _ => rfl)) (pa_cons (pe_dget (hu_of hr) (pv 0) pe_str (fun _ _ => rfl)) pa_nil))))))))
      (pss_one (ps_ret (pe_tup (pa_cons (pe_dget (hu_of hr) (pv 0) pe_str (fun _ _ => rfl)) (pa_cons (pe_dget (hu_of hr) (pv 0) pe_str (fun _ _ => rfl)) (pa_cons (pe_dget (hu_of hr) (pv 0) pe_str (fun _ _ => rfl)) (pa_cons (pe_op op_catA (pe_tup (pa_cons (pv 1) pa_nil)) (pe_dget (hu_of hr) (pv 0) pe_str (fun _ _ => rfl))) pa_nil)))))))), ?_⟩
  have z1 : 1 ≤ sizeLine := by decide
  have z4 : 4 ≤ sizeLine := by decide
  have z6 : 6 ≤ sizeLine := by decide

  refine ⟨_, rfl, a, v1, rfl, DGet.k (k := Sum.inr "name") ha, _, rfl, a, v2, rfl, DGet.k (k := Sum.inr "spot") ha, _, rfl, a, v3, rfl, DGet.k (k := Sum.inr "names") ha, _, rfl, a, v4, rfl, DGet.k (k := Sum.inr "lists") ha, _, rfl, a, v5, rfl, DGet.k (k := Sum.inr "pieces") ha, _, rfl, a, v6, rfl, DGet.k (k := Sum.inr "scripts") ha, z6, fun t1 n1 => ?_⟩
  have s1 := same_upd (o := .tup [v1, v2, v3, v4, v5, v6]) n1
  have D1 : Dp K (upd H t1 (.tup [v1, v2, v3, v4, v5, v6])) (.ref t1) (.tuple [d1, d2, d3, d4, d5, d6]) := .tup (SqT.of upd_same) (.cons (dp_same s1 _ _ p1) (.cons (dp_same s1 _ _ p2) (.cons (dp_same s1 _ _ p3) (.cons (dp_same s1 _ _ p4) (.cons (dp_same s1 _ _ p5) (.cons (dp_same s1 _ _ p6) .nil))))))
  have ha1 := s1 _ _ ha
  generalize upd H t1 (.tup [v1, v2, v3, v4, v5, v6]) = H1 at *
  refine ⟨_, rfl, a, v7, rfl, DGet.k (k := Sum.inr "sides") ha1, _, rfl, a, v8, rfl, DGet.k (k := Sum.inr "shared") ha1, _, rfl, a, v9, rfl, DGet.k (k := Sum.inr "all") ha1, _, rfl, z1, fun t2 n2 => ?_⟩
  have s2 := same_upd (o := .tup [.ref t1]) n2
  have E2 : (upd H1 t2 (.tup [.ref t1])) t2 = some (.tup [.ref t1]) := upd_same
  have ha2 := s2 _ _ ha1
  have D2 := dp_same s2 _ _ D1
  have t12 := s1.trans s2
  generalize upd H1 t2 (.tup [.ref t1]) = H2 at *
  obtain ⟨am, xs, rfl, hm, mx⟩ := dp_items (dp_same t12 _ _ p10)
  have lx := dpAll_len mx
  refine ⟨_, rfl, a, .ref am, rfl, DGet.k (k := Sum.inr "more") ha2, t2, am, [.ref t1], xs, rfl, rfl, SqT.of E2, hm, Nat.le_of_lt (small1000 (by show 1 + xs.length ≤ 1000; omega)), (fun z => nomatch z), fun _ z => ?_, fun _ _ p np => ?_⟩
  · subst z
    cases mx
    refine ⟨z4, fun u nu => ?_⟩
    have su := same_upd (o := .tup [v7, v8, v9, .ref t2]) nu
    exact q _ _ (t12.trans su) (.tup (SqT.of upd_same) (.cons (dp_same (t12.trans su) _ _ p7) (.cons (dp_same (t12.trans su) _ _ p8) (.cons (dp_same (t12.trans su) _ _ p9) (.cons (.tup (SqT.of (su _ _ E2)) (.cons (dp_same su _ _ D2) .nil)) .nil)))))
  · have sp := same_upd (o := .tup ([.ref t1] ++ xs)) np
    have Ep : (upd H2 p (.tup ([.ref t1] ++ xs))) p = some (.tup ([.ref t1] ++ xs)) := upd_same
    have Dm := dpAll_same sp _ _ mx
    replace D2 := dp_same sp _ _ D2
    have t13 := t12.trans sp
    generalize upd H2 p (.tup ([.ref t1] ++ xs)) = H3 at *
    refine ⟨z4, fun u nu => ?_⟩
    have su := same_upd (o := .tup [v7, v8, v9, .ref p]) nu
    exact q _ _ (t13.trans su) (.tup (SqT.of upd_same) (.cons (dp_same (t13.trans su) _ _ p7) (.cons (dp_same (t13.trans su) _ _ p8) (.cons (dp_same (t13.trans su) _ _ p9) (.cons (.tup (SqT.of (su _ _ Ep)) (.cons (dp_same su _ _ D2) (dpAll_same su _ _ Dm))) .nil)))))
/-! ### what is changed -/
abbrev Op := Option (V × PyData)
def sel (o : Op) (v : V) : V := match o with | some p => p.1 | none => v
def dsel (o : Op) (d : PyData) : PyData := match o with | some p => p.2 | none => d
def OpOk (K : PySem.W.Frag) (H : Hp) (o : Op) : Prop := ∀ p, o = some p → Dp K H p.1 p.2
theorem sel_dp {K : PySem.W.Frag} {H : Hp} {o : Op} {v : V} {d : PyData} (h : OpOk K H o) (g : Dp K H v d) : Dp K H (sel o v) (dsel o d) := by
  cases o with
  | none => exact g
  | some p => exact h p rfl
theorem OpOk.same {K : PySem.W.Frag} {H H' : Hp} {o : Op} (h : OpOk K H o) (s : Same H H') : OpOk K H' o := fun p e => dp_same s _ _ (h p e)
theorem op_no {K : PySem.W.Frag} {H : Hp} : OpOk K H none := fun p e => nomatch e
theorem op_is {K : PySem.W.Frag} {H : Hp} {v : V} {d : PyData} (h : Dp K H v d) : OpOk K H (some (v, d)) := fun p e => by cases e; exact h
structure Chs where
  c2 : Op := none
  c3 : Op := none
  c4 : Op := none
  c5 : Op := none
  c6 : Op := none
  c7 : Op := none
  c8 : Op := none
  c9 : Op := none
  c10 : Op := none
structure Chs.Ok (K : PySem.W.Frag) (H : Hp) (c : Chs) : Prop where
  h2 : OpOk K H c.c2
  h3 : OpOk K H c.c3
  h4 : OpOk K H c.c4
  h5 : OpOk K H c.c5
  h6 : OpOk K H c.c6
  h7 : OpOk K H c.c7
  h8 : OpOk K H c.c8
  h9 : OpOk K H c.c9
  h10 : OpOk K H c.c10
def Chs.dat (c : Chs) (w0 : Str) : PyData := mkW (.str w0) (dsel c.c2 o3) (dsel c.c3 e0) (dsel c.c4 e0) (dsel c.c5 e0) (dsel c.c6 e0) (dsel c.c7 s32) (dsel c.c8 e0) (dsel c.c9 e0) (items (dsel c.c10 e0))
def Chs.Is (c : Chs) (kvs : List (L2.Key × V)) : Prop := ∀ v1 v2 v3 v4 v5 v6 v7 v8 v9 v10 : V, mergeK (kv10 v1 v2 v3 v4 v5 v6 v7 v8 v9 v10) kvs = kv10 v1 (sel c.c2 v2) (sel c.c3 v3) (sel c.c4 v4) (sel c.c5 v5) (sel c.c6 v6) (sel c.c7 v7) (sel c.c8 v8) (sel c.c9 v9) (sel c.c10 v10)
def spWith (K : PySem.W.Frag) : Sp := fun vs H Q _ => ∃ (l c : Addr) (w0 : Str) (r : List V) (kvs : List (L2.Key × V)) (ch : Chs), vs = [.ref l, .ref c] ∧ SqL K H l (.str w0 :: r) ∧ H c = some (.dK kvs) ∧ kvs.length ≤ 10 ∧ ch.Is kvs ∧ ch.Ok K H ∧ (∃ ms, dsel ch.c10 e0 = .tuple ms ∧ ms.length ≤ 100) ∧
  OkA (ch.dat w0) ∧ (∀ f ∈ items (nth (ch.dat w0) 3), Few f) ∧ ∀ H', Same H H' → Q (.bl (isPlay (ch.dat w0))) H'
abbrev sWith : Stmt := top 65
theorem scWith : FnScope ["_law_n", "_law_changes", "_law_w"] ["_law_n", "_law_changes"] (defScope sWith) := ⟨rfl, rfl, rfl, by decide +kernel, rfl, by decide +kernel, by decide +kernel⟩
theorem ok_with {k : Nat} (F : Fun K "_law_with" "_law_with" sWith f fd) (GB : FnG P w K mg base CX0 k "_law_base" ["_law_n"] (spBase K)) (GM : FnG P w K mg base CX0 k "_law_made" ["_law_w"] (spMade K)) (GP : FnG P w K mg base CX0 k "is_play" ["thing"] (spPl K)) :
    FnOk P w K mg base CX0 (k + 1) f fd ["_law_n", "_law_changes"] (spWith K) := by
  obtain ⟨_, _, G__law_base, m__law_base, k__law_base, b__law_base⟩ := GB
  obtain ⟨_, _, G__law_made, m__law_made, k__law_made, b__law_made⟩ := GM
  obtain ⟨_, _, G_is_play, m_is_play, k_is_play, b_is_play⟩ := GP
  have sc := scWith
  refine F.ok sc (fun vs H Q E h => ?_) (fun cdv A outer s H vs Q E hr h => ?_)
  · obtain ⟨l, c, _, _, _, _, rfl, _⟩ := h
    rfl
  obtain ⟨l, c, w0, r, kvs, ch, rfl, hl, hc, l10, is, ok, ⟨ms, em, lm⟩, okA, few, q⟩ := h
  refine ⟨_, (pss_cons (ps_set (i := 2) sc.nd rfl (.inl rfl) (pe_call G__law_base (hr.mono (by omega)) (by rfl) m__law_base k__law_base b__law_base .nil pass0 (pa_cons (pv 0) pa_nil)))
      (pss_cons (ps_expr (pe_bm PySem.F.plainAttrs_dict PySem.F.slot_dict_update PySem.F.type_dict_update Fw.mt_update (pv 2) (pa_cons (pv 1) pa_nil)))
      (pss_one (ps_ret (pe_call G_is_play (hr.mono (by omega)) (by rfl) m_is_play k_is_play b_is_play .nil pass0 (pa_cons (pe_call G__law_made (hr.mono (by omega)) (by rfl) m__law_made k__law_made b__law_made .nil pass0 (pa_cons (pv 2) pa_nil)) pa_nil)))))), ?_⟩
  refine ⟨_, rfl, l, w0, r, rfl, hl, fun a v2 v3 v4 v5 v6 v7 v8 v9 v10 H1 s1 na ea p2 p3 p4 p5 p6 p7 p8 p9 p10 => ?_⟩
  have hc1 := s1 _ _ hc
  have nac : a ≠ c := fun z => by rw [z, hc] at na; cases na
  have mg' := is (.str w0) v2 v3 v4 v5 v6 v7 v8 v9 v10
  refine ⟨_, rfl, .inr (.inr (.inl ⟨rfl, .inl ⟨_, ea⟩⟩)), _, rfl, a, c, _, kvs, rfl, rfl, ea, hc1, nac, Nat.le_of_lt (small1000 (by show 10 + kvs.length ≤ 1000; omega)), by rw [mg']; show 10 ≤ sizeLine; decide, ?_⟩
  rw [mg']
  generalize hkv : (.dK (kv10 (.str w0) (sel ch.c2 v2) (sel ch.c3 v3) (sel ch.c4 v4) (sel ch.c5 v5) (sel ch.c6 v6) (sel ch.c7 v7) (sel ch.c8 v8) (sel ch.c9 v9) (sel ch.c10 v10)) : HO) = ob
  have up : ∀ {v : V} {d : PyData}, tOn d = true → Dp K H1 v d → Dp K (upd H1 a ob) v d := fun {v d} on hd => by
    have := dp_noD ea d v on hd
    rw [← rmL_upd (o := ob) (List.mem_singleton.mpr rfl)] at this
    exact dp_same (rmL_sub (as := [a])) _ _ this
  have s2 : Same H (upd H1 a ob) := fun b o hb => by
    rw [upd_ne (ne_of_none hb na)]
    exact s1 _ _ hb
  have ea2 : (upd H1 a ob) a = some ob := upd_same
  replace p2 := up rfl p2
  replace p3 := up rfl p3
  replace p4 := up rfl p4
  replace p5 := up rfl p5
  replace p6 := up rfl p6
  replace p7 := up rfl p7
  replace p8 := up rfl p8
  replace p9 := up rfl p9
  replace p10 := up rfl p10
  clear up mg'
  generalize upd H1 a ob = H2 at *
  rw [← hkv] at ea2
  have o10 := sel_dp (ok.h10.same s2) p10
  rw [em] at o10
  refine ⟨_, rfl, a, _, _, _, _, _, _, _, _, _, _, _, _, _, _, _, _, _, _, _, ms, rfl, ea2, .str w0, sel_dp (ok.h2.same s2) p2, sel_dp (ok.h3.same s2) p3, sel_dp (ok.h4.same s2) p4, sel_dp (ok.h5.same s2) p5, sel_dp (ok.h6.same s2) p6, sel_dp (ok.h7.same s2) p7, sel_dp (ok.h8.same s2) p8, sel_dp (ok.h9.same s2) p9, o10, lm, fun p H3 s3 dp => ?_⟩
  have e : ch.dat w0 = mkW (.str w0) (dsel ch.c2 o3) (dsel ch.c3 e0) (dsel ch.c4 e0) (dsel ch.c5 e0) (dsel ch.c6 e0) (dsel ch.c7 s32) (dsel ch.c8 e0) (dsel ch.c9 e0) ms := by
    unfold Chs.dat
    rw [em]
    rfl
  rw [← e] at dp
  exact ⟨p, _, rfl, dp, okA, few, fun H' s' => q H' (s2.trans (s3.trans s'))⟩
end
end Fd

set_option Elab.async false
set_option linter.all false
set_option maxRecDepth 100000
set_option maxHeartbeats 4000000
namespace Fd
open PySem PySem.Spec PyProof.Rows L2
theorem c_size : sizeB s32 = true := by decide +kernel
theorem c_names : namesB e0 = true := by decide +kernel
theorem c_lists : listsB e0 = true := by decide +kernel
theorem c_spot : spotB 3 2 o3 = true := by decide +kernel
theorem c_pcs : rowAll 0 3 pieceB e0 = true := by decide +kernel
theorem c_scs : rowAll 0 6 scriptB e0 = true := by decide +kernel
theorem c_in : innerB 4 e0 = true := by decide +kernel
theorem nodup1 (w0 : Str) : nodupB [.str w0] = true := by unfold nodupB; simp
theorem nodup0 : nodupB [] = true := by decide +kernel
theorem there0 {p n sp ns ls : PyData} : thereB p (.tuple [n, sp, ns, ls, e0, e0]) = true := rfl
theorem pl_all {w0 : Str} (hw : isNm (.str w0) = true) (d2 d3 d4 d5 d6 : PyData) (a b : Int) (d8 d9 : PyData) (ms : List PyData) :
    isPlay (mkW (.str w0) d2 d3 d4 d5 d6 (.tuple [.int a, .int b]) d8 d9 ms) =
      ((sizeB (.tuple [.int a, .int b]) && (decide (ms.length + 1 ≤ 4) && (namesB d8 && (listsB d9 && (((spotB a b d2 && (namesB d3 && (listsB d4 && (rowAll 0 3 pieceB d5 && (rowAll 0 6 scriptB d6 && nodupB ((items d5).map hdD)))))) && ms.all (figB a b)) && nodupB (.str w0 :: ms.map hdD)))))) &&
        (thereB (mkW (.str w0) d2 d3 d4 d5 d6 (.tuple [.int a, .int b]) d8 d9 ms) (.tuple [.str w0, d2, d3, d4, d5, d6]) && ms.all (thereB (mkW (.str w0) d2 d3 d4 d5 d6 (.tuple [.int a, .int b]) d8 d9 ms)))) := by
  show (shapedB (mkW (.str w0) d2 d3 d4 d5 d6 (.tuple [.int a, .int b]) d8 d9 ms) && _) = _
  congr 1
  show (sizeB _ && ((decide (1 ≤ ms.length + 1) && decide (ms.length + 1 ≤ 4)) && (namesB d8 && (listsB d9 && (((isNm (.str w0) && (spotB a b d2 && (namesB d3 && (listsB d4 && (rowAll 0 3 pieceB d5 && (rowAll 0 6 scriptB d6 && nodupB ((items d5).map hdD))))))) && ms.all (figB a b)) && nodupB (.str w0 :: ms.map hdD)))))) = _
  rw [hw, Bool.true_and, decide_eq_true (show 1 ≤ ms.length + 1 by omega), Bool.true_and]
theorem pl_no {d1 d2 d3 d4 d5 d6 d7 d8 d9 : PyData} {ms : List PyData} (h : sizeB d7 = false) : isPlay (mkW d1 d2 d3 d4 d5 d6 d7 d8 d9 ms) = false := by
  show ((sizeB d7 && _) && _) = false
  rw [h]
  rfl
section
variable {w0 : Str} (hw : isNm (.str w0) = true)
include hw
theorem pl0 : isPlay (mkW (.str w0) o3 e0 e0 e0 e0 s32 e0 e0 []) = true := by
  rw [pl_all hw, c_size, c_names, c_lists, c_spot, c_pcs, c_scs, there0]
  simp [items, nodup1, nodup0]
theorem pl3 (d : PyData) : isPlay (mkW (.str w0) o3 d e0 e0 e0 s32 e0 e0 []) = namesB d := by
  rw [pl_all hw, c_size, c_names, c_lists, c_spot, c_pcs, c_scs, there0]
  simp [items, nodup1, nodup0]
theorem pl8 (d : PyData) : isPlay (mkW (.str w0) o3 e0 e0 e0 e0 s32 d e0 []) = namesB d := by
  rw [pl_all hw, c_size, c_names, c_lists, c_spot, c_pcs, c_scs, there0]
  simp [items, nodup1, nodup0]
theorem pl4 (d : PyData) : isPlay (mkW (.str w0) o3 e0 d e0 e0 s32 e0 e0 []) = listsB d := by
  rw [pl_all hw, c_size, c_names, c_lists, c_spot, c_pcs, c_scs, there0]
  simp [items, nodup1, nodup0]
theorem pl9 (d : PyData) : isPlay (mkW (.str w0) o3 e0 e0 e0 e0 s32 e0 d []) = listsB d := by
  rw [pl_all hw, c_size, c_names, c_lists, c_spot, c_pcs, c_scs, there0]
  simp [items, nodup1, nodup0]
theorem pl72 (a b : Int) (d : PyData) : isPlay (mkW (.str w0) d e0 e0 e0 e0 (.tuple [.int a, .int b]) e0 e0 []) = (sizeB (.tuple [.int a, .int b]) && spotB a b d) := by
  rw [pl_all hw, c_names, c_lists, c_pcs, c_scs, there0]
  simp [items, nodup1, nodup0]
/-- pieces whose blocks are empty -/
def pcsB (ps : List PyData) : Bool := rowAll 0 3 pieceB (.tuple ps) && nodupB (ps.map hdD)
theorem pl5 (ps : List PyData) (h : ∀ p ∈ ps, nth p 3 = e0) : isPlay (mkW (.str w0) o3 e0 e0 (.tuple ps) e0 s32 e0 e0 []) = pcsB ps := by
  rw [pl_all hw, c_size, c_names, c_lists, c_spot, c_scs]
  have : thereB (mkW (.str w0) o3 e0 e0 (.tuple ps) e0 s32 e0 e0 []) (.tuple [.str w0, o3, e0, e0, .tuple ps, e0]) = true := by
    show ((ps.all _) && true) = true
    rw [Bool.and_true, List.all_eq_true]
    intro p hp
    rw [h p hp]
    rfl
  rw [this]
  unfold pcsB
  simp [items, nodup1, nodup0]
theorem pl6 (ss : List PyData) (h : ∀ p ∈ ss, nth p 1 = e0) : isPlay (mkW (.str w0) o3 e0 e0 e0 (.tuple ss) s32 e0 e0 []) = rowAll 0 6 scriptB (.tuple ss) := by
  rw [pl_all hw, c_size, c_names, c_lists, c_spot, c_pcs]
  have : thereB (mkW (.str w0) o3 e0 e0 e0 (.tuple ss) s32 e0 e0 []) (.tuple [.str w0, o3, e0, e0, e0, .tuple ss]) = true := by
    show (true && (ss.all _)) = true
    rw [Bool.true_and, List.all_eq_true]
    intro p hp
    rw [h p hp]
    rfl
  rw [this]
  simp [items, nodup1, nodup0]
/-- more figures, of nothing -/
abbrev figE (n sp : PyData) : PyData := .tuple [n, sp, e0, e0, e0, e0]
omit hw in
theorem figE_B {n sp : PyData} {a b : Int} : figB a b (figE n sp) = (isNm n && spotB a b sp) := by
  show (isNm n && (spotB a b sp && (namesB e0 && (listsB e0 && (rowAll 0 3 pieceB e0 && (rowAll 0 6 scriptB e0 && nodupB ((items e0).map hdD))))))) = _
  rw [c_names, c_lists, c_pcs, c_scs]
  simp [items, nodup0]
theorem pl10 (xs : List (Str × PyData)) (hn : ∀ x ∈ xs, isNm (.str x.1) = true) (hs : ∀ x ∈ xs, spotB 3 2 x.2 = true) :
    isPlay (mkW (.str w0) o3 e0 e0 e0 e0 s32 e0 e0 (xs.map fun x => figE (.str x.1) x.2)) = (decide (xs.length ≤ 3) && decide (w0 :: xs.map (·.1)).Nodup) := by
  rw [pl_all hw, c_size, c_names, c_lists, c_spot, c_pcs, c_scs, there0]
  have e1 : (xs.map fun x => figE (.str x.1) x.2).all (figB 3 2) = true := by
    rw [List.all_eq_true]
    intro p hp
    obtain ⟨x, hx, rfl⟩ := List.mem_map.mp hp
    rw [figE_B, hn x hx, hs x hx]
    rfl
  have e2 : ∀ pl, (xs.map fun x => figE (.str x.1) x.2).all (thereB pl) = true := fun pl => by
    rw [List.all_eq_true]
    intro p hp
    obtain ⟨x, hx, rfl⟩ := List.mem_map.mp hp
    rfl
  have e3 : nodupB (.str w0 :: (xs.map fun x => figE (.str x.1) x.2).map hdD) = decide (w0 :: xs.map (·.1)).Nodup := by
    unfold nodupB
    have : (.str w0 :: (xs.map fun x => figE (.str x.1) x.2).map hdD).map strD = w0 :: xs.map (·.1) := by
      rw [List.map_cons, List.map_map, List.map_map]
      rfl
    rw [this]
  rw [e1, e2, e3, List.length_map]
  simp [items, nodup0]
end
/-! ### names, lists, pieces by the words they begin with -/
def prs (xs : List (Str × PyData)) : PyData := .tuple (xs.map fun x => .tuple [.str x.1, x.2])
theorem prs_hd (xs : List (Str × PyData)) : (items (prs xs)).map hdD = xs.map fun x => .str x.1 := by
  show (xs.map _).map hdD = _
  rw [List.map_map]
  rfl
theorem str_map (ws : List Str) : (ws.map PyData.str).map strD = ws := by
  rw [List.map_map]
  exact List.map_id ws
theorem unl_ws {ws : List Str} (h : ∀ z ∈ ws, isNm (.str z) = true) : unlNm (ws.map PyData.str) = decide ws.Nodup := by
  unfold unlNm nodupB
  rw [str_map]
  have : (ws.map PyData.str).all isNm = true := by
    rw [List.all_eq_true]
    intro p hp
    obtain ⟨x, hx, rfl⟩ := List.mem_map.mp hp
    exact h x hx
  rw [this, Bool.true_and]
theorem pairs_prs {m : Nat} {xs : List (Str × PyData)} (h : ∀ x ∈ xs, isNm (.str x.1) = true) : pairsB m (prs xs) = (decide (xs.length ≤ m) && decide (xs.map (·.1)).Nodup) := by
  show (((decide (0 ≤ (xs.map fun x => PyData.tuple [.str x.1, x.2]).length) && decide ((xs.map fun x => PyData.tuple [.str x.1, x.2]).length ≤ m)) && (xs.map fun x => PyData.tuple [.str x.1, x.2]).all (rowB 2 2)) && unlNm ((items (prs xs)).map hdD)) = _
  rw [prs_hd, show (xs.map fun x => PyData.str x.1) = (xs.map (·.1)).map PyData.str by rw [List.map_map]; rfl, unl_ws (fun z hz => by obtain ⟨x, hx, rfl⟩ := List.mem_map.mp hz; exact h x hx), List.length_map, decide_eq_true (Nat.zero_le _), Bool.true_and]
  have : (xs.map fun x => PyData.tuple [.str x.1, x.2]).all (rowB 2 2) = true := by
    rw [List.all_eq_true]
    intro p hp
    obtain ⟨x, hx, rfl⟩ := List.mem_map.mp hp
    rfl
  rw [this, Bool.and_true]
theorem all_snd {f : PyData → Bool} {xs : List (Str × PyData)} : (items (prs xs)).all (fun p => f (sndD p)) = xs.all fun x => f x.2 := by
  show (xs.map _).all _ = _
  rw [List.all_map]
  rfl
theorem names_prs {xs : List (Str × PyData)} (h : ∀ x ∈ xs, isNm (.str x.1) = true) : namesB (prs xs) = ((decide (xs.length ≤ 4) && decide (xs.map (·.1)).Nodup) && xs.all fun x => isVal x.2) := by
  unfold namesB
  rw [pairs_prs h, all_snd]
theorem lists_prs {xs : List (Str × PyData)} (h : ∀ x ∈ xs, isNm (.str x.1) = true) : listsB (prs xs) = ((decide (xs.length ≤ 2) && decide (xs.map (·.1)).Nodup) && xs.all fun x => valsB x.2) := by
  unfold listsB
  rw [pairs_prs h, all_snd]
abbrev pcE (n k p : PyData) : PyData := .tuple [n, k, p, e0]
theorem pcE_B {n k : PyData} {ps : List PyData} : pieceB (pcE n k (.tuple ps)) = (isNm n && (kindB k && (decide (ps.length ≤ 2) && unlNm ps))) := by
  show (isNm n && (kindB k && (innerB 4 e0 && ((decide (0 ≤ ps.length) && decide (ps.length ≤ 2)) && unlNm ps)))) = _
  rw [c_in, decide_eq_true (Nat.zero_le _), Bool.true_and, Bool.true_and]
theorem rowAll_tup {m : Nat} {f : PyData → Bool} {ds : List PyData} : rowAll 0 m f (.tuple ds) = (decide (ds.length ≤ m) && ds.all f) := by
  show ((decide (0 ≤ ds.length) && decide (ds.length ≤ m)) && ds.all f) = _
  rw [decide_eq_true (Nat.zero_le _), Bool.true_and]
theorem pcs_prs {xs : List (Str × PyData)} (h : ∀ x ∈ xs, isNm (.str x.1) = true) : pcsB (xs.map fun x => pcE (.str x.1) x.2 e0) = ((decide (xs.length ≤ 3) && xs.all fun x => kindB x.2) && decide (xs.map (·.1)).Nodup) := by
  unfold pcsB nodupB
  have e : ((xs.map fun x => pcE (.str x.1) x.2 e0).map hdD).map strD = xs.map (·.1) := by
    rw [List.map_map, List.map_map]
    rfl
  rw [e, rowAll_tup, List.length_map, List.all_map]
  congr 2
  clear e
  induction xs with
  | nil => rfl
  | cons x r ih =>
    rw [List.all_cons, List.all_cons, ih (fun y hy => h y (List.mem_cons_of_mem _ hy))]
    congr 1
    show pieceB (pcE _ _ _) = _
    rw [pcE_B, h x (List.mem_cons_self ..), show unlNm [] = true by decide +kernel]
    simp
/-! ### small things -/
theorem okA_mk {w0 : Str} {d2 d3 d4 d5 d6 d7 d8 d9 : PyData} {ms : List PyData} (hw : IsNm w0) (h2 : OkT 3 8 d2) (h3 : OkT 3 8 d3) (h4 : OkT 3 8 d4) (h5 : OkT 3 8 d5) (h6 : OkT 3 8 d6) (h7 : OkT 3 10 d7) (h8 : OkT 3 10 d8) (h9 : OkT 3 10 d9) (hm : ms.length ≤ 10) (hms : ∀ m ∈ ms, OkT 3 9 m) : OkA (mkW (.str w0) d2 d3 d4 d5 d6 d7 d8 d9 ms) := by
  refine ⟨11, by decide, show (4 : Nat) ≤ 11 by decide, fun d hd => ?_⟩
  rcases List.mem_cons.mp hd with rfl | hd
  · exact h7
  rcases List.mem_cons.mp hd with rfl | hd
  · exact h8
  rcases List.mem_cons.mp hd with rfl | hd
  · exact h9
  obtain rfl := List.mem_singleton.mp hd
  refine ⟨show ms.length + 1 ≤ 11 by omega, fun f hf => ?_⟩
  rcases List.mem_cons.mp hf with rfl | hf
  · refine ⟨show (6 : Nat) ≤ 11 by decide, fun d hd => ?_⟩
    rcases List.mem_cons.mp hd with rfl | hd
    · exact okt_str hw
    rcases List.mem_cons.mp hd with rfl | hd
    · exact h2
    rcases List.mem_cons.mp hd with rfl | hd
    · exact h3
    rcases List.mem_cons.mp hd with rfl | hd
    · exact h4
    rcases List.mem_cons.mp hd with rfl | hd
    · exact h5
    obtain rfl := List.mem_singleton.mp hd
    exact h6
  · exact hms f hf
theorem okt_all {n : Nat} {ds : List PyData} (hl : ds.length ≤ 11) (h : ∀ d ∈ ds, OkT 3 n d) : OkT 3 (n + 1) (.tuple ds) := ⟨hl, h⟩
theorem okt_e0 {n : Nat} : OkT 3 (n + 1) e0 := ⟨by show 0 ≤ 11; decide, fun d hd => nomatch hd⟩
theorem okt_int {n : Nat} {i : Int} (h : -4000001 ≤ i) (h' : i ≤ 4000001) : OkT 3 (n + 1) (.int i) := ⟨by show -(1000001 + 1000000 * (3 : Int)) ≤ i; omega, by show i ≤ 1000001 + 1000000 * (3 : Int); omega⟩
theorem okt_o3 {n : Nat} : OkT 3 (n + 2) o3 := ⟨by show 3 ≤ 11; decide, fun d hd => by
  have : d = .int 0 := by simpa using hd
  subst this
  exact okt_int (by decide) (by decide)⟩
theorem okt_s32 {n : Nat} : OkT 3 (n + 2) s32 := ⟨by show 2 ≤ 11; decide, fun d hd => by
  have : d = .int 3 ∨ d = .int 2 := by simpa using hd
  rcases this with rfl | rfl <;> exact okt_int (by decide) (by decide)⟩
theorem okt_cons {n : Nat} {d : PyData} {ds : List PyData} (h : OkT 3 n d) (g : ∀ x ∈ ds, OkT 3 n x) : ∀ x ∈ d :: ds, OkT 3 n x := fun x hx => by
  rcases List.mem_cons.mp hx with rfl | hx
  · exact h
  · exact g x hx
theorem okt_nil {n : Nat} : ∀ x ∈ ([] : List PyData), OkT 3 n x := fun x hx => nomatch hx
theorem few_e {n sp ns ls : PyData} : Few (.tuple [n, sp, ns, ls, e0, e0]) := ⟨(fun p hp => nomatch hp), fun p hp => nomatch hp⟩
theorem few_pc {n sp ns ls : PyData} {ps : List PyData} (h : ∀ p ∈ ps, nth p 3 = e0) : Few (.tuple [n, sp, ns, ls, .tuple ps, e0]) := ⟨fun p hp => by rw [h p hp]; exact Nat.zero_le _, fun p hp => nomatch hp⟩
theorem few_sc {n sp ns ls : PyData} {ss : List PyData} (h : ∀ p ∈ ss, nth p 1 = e0) : Few (.tuple [n, sp, ns, ls, e0, .tuple ss]) := ⟨(fun p hp => nomatch hp), fun p hp => by rw [h p hp]; exact Nat.zero_le _⟩
end Fd

set_option Elab.async false
set_option linter.all false
set_option maxRecDepth 100000
set_option maxHeartbeats 4000000
namespace Fd
open PySem PySem.Spec PyProof.Rows L2
/-- a dict that was begun, and is ended -/
theorem dEnd {K : PySem.W.Frag} {H H1 : Hp} {a : Addr} {kvs : List (L2.Key × V)} (na : H a = none) (s : Same (upd H a (.dK [])) H1) :
    Same H (upd H1 a (.dK kvs)) ∧ (upd H1 a (.dK kvs)) a = some (.dK kvs) ∧ (∀ {v d}, tOn d = true → Dp K H1 v d → Dp K (upd H1 a (.dK kvs)) v d) ∧ ∀ {t xs}, H1 t = some (.tup xs) → (upd H1 a (.dK kvs)) t = some (.tup xs) := by
  have ea : H1 a = some (.dK []) := s _ _ upd_same
  refine ⟨fun b o hb => ?_, upd_same, fun {v d} on hd => ?_, fun {t xs} ht => ?_⟩
  · have nb := ne_of_none hb na
    rw [upd_ne nb]
    exact s _ _ (by rw [upd_ne nb]; exact hb)
  · have := dp_noD ea d v on hd
    rw [← rmL_upd (o := .dK kvs) (List.mem_singleton.mpr rfl)] at this
    exact dp_same (rmL_sub (as := [a])) _ _ this
  · have nt : t ≠ a := fun z => by rw [z, ea] at ht; cases ht
    rw [upd_ne nt]
    exact ht
section
variable {K : PySem.W.Frag} {H : Hp} {l c : Addr} {w0 : Str} {r : List V} {v v' : V} {Q : VK} {E : XK}

theorem w0_  (hl : SqL K H l (.str w0 :: r)) (hw : IsNm w0) (hc : H c = some (.dK []))   (q : ∀ H', Same H H' → Q (.bl (true)) H') : spWith K [.ref l, .ref c] H Q E := by
  refine ⟨l, c, w0, r, _, ({} : Chs), rfl, hl, hc, by show 0 ≤ 10; decide, fun _ _ _ _ _ _ _ _ _ _ => rfl, ⟨op_no, op_no, op_no, op_no, op_no, op_no, op_no, op_no, op_no⟩, ⟨[], rfl, by decide⟩, okA_mk hw okt_o3 okt_e0 okt_e0 okt_e0 okt_e0 okt_s32 okt_e0 okt_e0 (by show 0 ≤ 10; decide) okt_nil, ?_, fun H' s => ?_⟩
  · intro f hf
    obtain rfl := List.mem_singleton.mp hf
    exact few_e
  · rw [show isPlay (({} : Chs).dat w0) = (true) from pl0 (nm_of hw)]
    exact q H' s
theorem w3 {d : PyData} (hl : SqL K H l (.str w0 :: r)) (hw : IsNm w0) (hc : H c = some (.dK [(Sum.inr "names", v)])) (hd3 : Dp K H v (d)) (ok3 : OkT 3 8 (d)) (q : ∀ H', Same H H' → Q (.bl (namesB d)) H') : spWith K [.ref l, .ref c] H Q E := by
  refine ⟨l, c, w0, r, _, ({c3 := some (v, d)} : Chs), rfl, hl, hc, by show 1 ≤ 10; decide, fun _ _ _ _ _ _ _ _ _ _ => rfl, ⟨op_no, op_is hd3, op_no, op_no, op_no, op_no, op_no, op_no, op_no⟩, ⟨[], rfl, by decide⟩, okA_mk hw okt_o3 ok3 okt_e0 okt_e0 okt_e0 okt_s32 okt_e0 okt_e0 (by show 0 ≤ 10; decide) okt_nil, ?_, fun H' s => ?_⟩
  · intro f hf
    obtain rfl := List.mem_singleton.mp hf
    exact few_e
  · rw [show isPlay (({c3 := some (v, d)} : Chs).dat w0) = (namesB d) from pl3 (nm_of hw) d]
    exact q H' s
theorem w8 {d : PyData} (hl : SqL K H l (.str w0 :: r)) (hw : IsNm w0) (hc : H c = some (.dK [(Sum.inr "shared", v)])) (hd8 : Dp K H v (d)) (ok8 : OkT 3 10 (d)) (q : ∀ H', Same H H' → Q (.bl (namesB d)) H') : spWith K [.ref l, .ref c] H Q E := by
  refine ⟨l, c, w0, r, _, ({c8 := some (v, d)} : Chs), rfl, hl, hc, by show 1 ≤ 10; decide, fun _ _ _ _ _ _ _ _ _ _ => rfl, ⟨op_no, op_no, op_no, op_no, op_no, op_no, op_is hd8, op_no, op_no⟩, ⟨[], rfl, by decide⟩, okA_mk hw okt_o3 okt_e0 okt_e0 okt_e0 okt_e0 okt_s32 ok8 okt_e0 (by show 0 ≤ 10; decide) okt_nil, ?_, fun H' s => ?_⟩
  · intro f hf
    obtain rfl := List.mem_singleton.mp hf
    exact few_e
  · rw [show isPlay (({c8 := some (v, d)} : Chs).dat w0) = (namesB d) from pl8 (nm_of hw) d]
    exact q H' s
theorem w4 {d : PyData} (hl : SqL K H l (.str w0 :: r)) (hw : IsNm w0) (hc : H c = some (.dK [(Sum.inr "lists", v)])) (hd4 : Dp K H v (d)) (ok4 : OkT 3 8 (d)) (q : ∀ H', Same H H' → Q (.bl (listsB d)) H') : spWith K [.ref l, .ref c] H Q E := by
  refine ⟨l, c, w0, r, _, ({c4 := some (v, d)} : Chs), rfl, hl, hc, by show 1 ≤ 10; decide, fun _ _ _ _ _ _ _ _ _ _ => rfl, ⟨op_no, op_no, op_is hd4, op_no, op_no, op_no, op_no, op_no, op_no⟩, ⟨[], rfl, by decide⟩, okA_mk hw okt_o3 okt_e0 ok4 okt_e0 okt_e0 okt_s32 okt_e0 okt_e0 (by show 0 ≤ 10; decide) okt_nil, ?_, fun H' s => ?_⟩
  · intro f hf
    obtain rfl := List.mem_singleton.mp hf
    exact few_e
  · rw [show isPlay (({c4 := some (v, d)} : Chs).dat w0) = (listsB d) from pl4 (nm_of hw) d]
    exact q H' s
theorem w9 {d : PyData} (hl : SqL K H l (.str w0 :: r)) (hw : IsNm w0) (hc : H c = some (.dK [(Sum.inr "all", v)])) (hd9 : Dp K H v (d)) (ok9 : OkT 3 10 (d)) (q : ∀ H', Same H H' → Q (.bl (listsB d)) H') : spWith K [.ref l, .ref c] H Q E := by
  refine ⟨l, c, w0, r, _, ({c9 := some (v, d)} : Chs), rfl, hl, hc, by show 1 ≤ 10; decide, fun _ _ _ _ _ _ _ _ _ _ => rfl, ⟨op_no, op_no, op_no, op_no, op_no, op_no, op_no, op_is hd9, op_no⟩, ⟨[], rfl, by decide⟩, okA_mk hw okt_o3 okt_e0 okt_e0 okt_e0 okt_e0 okt_s32 okt_e0 ok9 (by show 0 ≤ 10; decide) okt_nil, ?_, fun H' s => ?_⟩
  · intro f hf
    obtain rfl := List.mem_singleton.mp hf
    exact few_e
  · rw [show isPlay (({c9 := some (v, d)} : Chs).dat w0) = (listsB d) from pl9 (nm_of hw) d]
    exact q H' s
theorem w5 {ps : List PyData} (h : ∀ p ∈ ps, nth p 3 = e0) (hl : SqL K H l (.str w0 :: r)) (hw : IsNm w0) (hc : H c = some (.dK [(Sum.inr "pieces", v)])) (hd5 : Dp K H v (.tuple ps)) (ok5 : OkT 3 8 (.tuple ps)) (q : ∀ H', Same H H' → Q (.bl (pcsB ps)) H') : spWith K [.ref l, .ref c] H Q E := by
  refine ⟨l, c, w0, r, _, ({c5 := some (v, .tuple ps)} : Chs), rfl, hl, hc, by show 1 ≤ 10; decide, fun _ _ _ _ _ _ _ _ _ _ => rfl, ⟨op_no, op_no, op_no, op_is hd5, op_no, op_no, op_no, op_no, op_no⟩, ⟨[], rfl, by decide⟩, okA_mk hw okt_o3 okt_e0 okt_e0 ok5 okt_e0 okt_s32 okt_e0 okt_e0 (by show 0 ≤ 10; decide) okt_nil, ?_, fun H' s => ?_⟩
  · intro f hf
    obtain rfl := List.mem_singleton.mp hf
    exact few_pc h
  · rw [show isPlay (({c5 := some (v, .tuple ps)} : Chs).dat w0) = (pcsB ps) from pl5 (nm_of hw) ps h]
    exact q H' s
theorem w6 {ss : List PyData} (h : ∀ p ∈ ss, nth p 1 = e0) (hl : SqL K H l (.str w0 :: r)) (hw : IsNm w0) (hc : H c = some (.dK [(Sum.inr "scripts", v)])) (hd6 : Dp K H v (.tuple ss)) (ok6 : OkT 3 8 (.tuple ss)) (q : ∀ H', Same H H' → Q (.bl (rowAll 0 6 scriptB (.tuple ss))) H') : spWith K [.ref l, .ref c] H Q E := by
  refine ⟨l, c, w0, r, _, ({c6 := some (v, .tuple ss)} : Chs), rfl, hl, hc, by show 1 ≤ 10; decide, fun _ _ _ _ _ _ _ _ _ _ => rfl, ⟨op_no, op_no, op_no, op_no, op_is hd6, op_no, op_no, op_no, op_no⟩, ⟨[], rfl, by decide⟩, okA_mk hw okt_o3 okt_e0 okt_e0 okt_e0 ok6 okt_s32 okt_e0 okt_e0 (by show 0 ≤ 10; decide) okt_nil, ?_, fun H' s => ?_⟩
  · intro f hf
    obtain rfl := List.mem_singleton.mp hf
    exact few_sc h
  · rw [show isPlay (({c6 := some (v, .tuple ss)} : Chs).dat w0) = (rowAll 0 6 scriptB (.tuple ss)) from pl6 (nm_of hw) ss h]
    exact q H' s
theorem w72 {a b : Int} {d : PyData} (hl : SqL K H l (.str w0 :: r)) (hw : IsNm w0) (hc : H c = some (.dK [(Sum.inr "sides", v), (Sum.inr "spot", v')])) (hd7 : Dp K H v (.tuple [.int a, .int b])) (hd2 : Dp K H v' (d)) (ok7 : OkT 3 10 (.tuple [.int a, .int b])) (ok2 : OkT 3 8 (d)) (q : ∀ H', Same H H' → Q (.bl (sizeB (.tuple [.int a, .int b]) && spotB a b d)) H') : spWith K [.ref l, .ref c] H Q E := by
  refine ⟨l, c, w0, r, _, ({c7 := some (v, .tuple [.int a, .int b]), c2 := some (v', d)} : Chs), rfl, hl, hc, by show 2 ≤ 10; decide, fun _ _ _ _ _ _ _ _ _ _ => rfl, ⟨op_is hd2, op_no, op_no, op_no, op_no, op_is hd7, op_no, op_no, op_no⟩, ⟨[], rfl, by decide⟩, okA_mk hw ok2 okt_e0 okt_e0 okt_e0 okt_e0 ok7 okt_e0 okt_e0 (by show 0 ≤ 10; decide) okt_nil, ?_, fun H' s => ?_⟩
  · intro f hf
    obtain rfl := List.mem_singleton.mp hf
    exact few_e
  · rw [show isPlay (({c7 := some (v, .tuple [.int a, .int b]), c2 := some (v', d)} : Chs).dat w0) = (sizeB (.tuple [.int a, .int b]) && spotB a b d) from pl72 (nm_of hw) a b d]
    exact q H' s
theorem w7 {a b : Int} (hl : SqL K H l (.str w0 :: r)) (hw : IsNm w0) (hc : H c = some (.dK [(Sum.inr "sides", v)])) (hd7 : Dp K H v (.tuple [.int a, .int b])) (ok7 : OkT 3 10 (.tuple [.int a, .int b])) (q : ∀ H', Same H H' → Q (.bl (sizeB (.tuple [.int a, .int b]) && spotB a b o3)) H') : spWith K [.ref l, .ref c] H Q E := by
  refine ⟨l, c, w0, r, _, ({c7 := some (v, .tuple [.int a, .int b])} : Chs), rfl, hl, hc, by show 1 ≤ 10; decide, fun _ _ _ _ _ _ _ _ _ _ => rfl, ⟨op_no, op_no, op_no, op_no, op_no, op_is hd7, op_no, op_no, op_no⟩, ⟨[], rfl, by decide⟩, okA_mk hw okt_o3 okt_e0 okt_e0 okt_e0 okt_e0 ok7 okt_e0 okt_e0 (by show 0 ≤ 10; decide) okt_nil, ?_, fun H' s => ?_⟩
  · intro f hf
    obtain rfl := List.mem_singleton.mp hf
    exact few_e
  · rw [show isPlay (({c7 := some (v, .tuple [.int a, .int b])} : Chs).dat w0) = (sizeB (.tuple [.int a, .int b]) && spotB a b o3) from pl72 (nm_of hw) a b o3]
    exact q H' s
theorem w7n {d : PyData} (h : sizeB d = false) (hl : SqL K H l (.str w0 :: r)) (hw : IsNm w0) (hc : H c = some (.dK [(Sum.inr "sides", v)])) (hd7 : Dp K H v (d)) (ok7 : OkT 3 10 (d)) (q : ∀ H', Same H H' → Q (.bl (false)) H') : spWith K [.ref l, .ref c] H Q E := by
  refine ⟨l, c, w0, r, _, ({c7 := some (v, d)} : Chs), rfl, hl, hc, by show 1 ≤ 10; decide, fun _ _ _ _ _ _ _ _ _ _ => rfl, ⟨op_no, op_no, op_no, op_no, op_no, op_is hd7, op_no, op_no, op_no⟩, ⟨[], rfl, by decide⟩, okA_mk hw okt_o3 okt_e0 okt_e0 okt_e0 okt_e0 ok7 okt_e0 okt_e0 (by show 0 ≤ 10; decide) okt_nil, ?_, fun H' s => ?_⟩
  · intro f hf
    obtain rfl := List.mem_singleton.mp hf
    exact few_e
  · rw [show isPlay (({c7 := some (v, d)} : Chs).dat w0) = (false) from pl_no h]
    exact q H' s
theorem w10 {xs : List (Str × PyData)} (hn : ∀ x ∈ xs, IsNm x.1) (hs : ∀ x ∈ xs, spotB 3 2 x.2 = true) (hk : ∀ x ∈ xs, OkT 3 8 x.2) (hx : xs.length ≤ 10) (hl : SqL K H l (.str w0 :: r)) (hw : IsNm w0) (hc : H c = some (.dK [(Sum.inr "more", v)])) (hd10 : Dp K H v (.tuple (xs.map fun x => figE (.str x.1) x.2)))  (q : ∀ H', Same H H' → Q (.bl (decide (xs.length ≤ 3) && decide (w0 :: xs.map (·.1)).Nodup)) H') : spWith K [.ref l, .ref c] H Q E := by
  refine ⟨l, c, w0, r, _, ({c10 := some (v, .tuple (xs.map fun x => figE (.str x.1) x.2))} : Chs), rfl, hl, hc, by show 1 ≤ 10; decide, fun _ _ _ _ _ _ _ _ _ _ => rfl, ⟨op_no, op_no, op_no, op_no, op_no, op_no, op_no, op_no, op_is hd10⟩, ⟨_, rfl, by rw [List.length_map]; omega⟩, okA_mk hw okt_o3 okt_e0 okt_e0 okt_e0 okt_e0 okt_s32 okt_e0 okt_e0 (by show (xs.map fun x => figE (.str x.1) x.2).length ≤ 10; rw [List.length_map]; omega) (fun m hm => by
    obtain ⟨x, hx, rfl⟩ := List.mem_map.mp (show m ∈ (xs.map fun x => figE (.str x.1) x.2) from hm)
    exact okt_all (by show 6 ≤ 11; decide) (okt_cons (okt_str (hn x hx)) (okt_cons (hk x hx) (okt_cons okt_e0 (okt_cons okt_e0 (okt_cons okt_e0 (okt_cons okt_e0 okt_nil))))))), ?_, fun H' s => ?_⟩
  · intro f hf
    rcases List.mem_cons.mp hf with rfl | hf
    · exact few_e
    · obtain ⟨x, hx, rfl⟩ := List.mem_map.mp (show f ∈ (xs.map fun x => figE (.str x.1) x.2) from hf)
      exact few_e
  · rw [show isPlay (({c10 := some (v, .tuple (xs.map fun x => figE (.str x.1) x.2))} : Chs).dat w0) = (decide (xs.length ≤ 3) && decide (w0 :: xs.map (·.1)).Nodup) from pl10 (nm_of hw) xs (fun x hx => nm_of (hn x hx)) hs]
    exact q H' s
end
end Fd

set_option Elab.async false
set_option linter.all false
set_option maxRecDepth 100000
set_option maxHeartbeats 4000000
namespace Fd
open PySem PySem.Spec PyProof.Rows L2
theorem bls {K : PySem.W.Frag} {H : Hp} : ∀ bs : List Bool, DpAll K H (bs.map V.bl) (bs.map PyData.bool)
  | [] => .nil
  | b :: r => .cons (.bl b) (bls r)
theorem eqv_bls : ∀ bs : List Bool, PyData.eqvAll (bs.map PyData.bool) (bs.map PyData.bool) = true
  | [] => rfl
  | b :: r => by
    show ((b == b) && PyData.eqvAll (r.map PyData.bool) (r.map PyData.bool)) = true
    rw [eqv_bls r, beq_self_eq_true]
    rfl
theorem lay_bls : ∀ bs : List Bool, PyData.canLayAll0 (bs.map PyData.bool) = true
  | [] => rfl
  | b :: r => by show (true && PyData.canLayAll0 (r.map PyData.bool)) = true; rw [lay_bls r]; rfl
theorem deep_bls : ∀ bs : List Bool, PyData.depthAll (bs.map PyData.bool) = 0
  | [] => rfl
  | b :: r => by show max 0 (PyData.depthAll (r.map PyData.bool)) = 0; rw [deep_bls r]; rfl
theorem shaped_bls (bs : List Bool) : SeqAt.shaped (.list (bs.map PyData.bool)) = true := by
  unfold SeqAt.shaped
  rw [show (PyData.list (bs.map PyData.bool)).canLay0 = PyData.canLayAll0 (bs.map PyData.bool) from rfl, lay_bls,
    show (PyData.list (bs.map PyData.bool)).depth = PyData.depthAll (bs.map PyData.bool) + 1 from rfl, deep_bls]
  rfl

/-- two lists of the same truths are alike -/
theorem eqBls {K : PySem.W.Frag} {H : Hp} {p q : Addr} (bs : List Bool) {Q : VK} (h1 : H p = some (.lst (bs.map V.bl))) (h2 : H q = some (.lst (bs.map V.bl))) (h : Q (.bl true) H) : rEqD K (.ref p) (.ref q) H Q :=
  ⟨.list (bs.map PyData.bool), .list (bs.map PyData.bool), .lst (SqL.of h1) (bls bs), .lst (SqL.of h2) (bls bs), shaped_bls bs, shaped_bls bs, by
    rw [show PyData.eqv (.list (bs.map PyData.bool)) (.list (bs.map PyData.bool)) = true from eqv_bls bs]
    exact h⟩
/-- the names of the law -/
def spOf (K : PySem.W.Frag) : Sp := fun vs H Q _ => ∃ (l : Addr) (ws : List Str), vs = [.ref l] ∧ H l = some (.lst (ws.map V.str)) ∧ ws.length = 9 ∧ ws.Nodup ∧ (∀ z ∈ ws, IsNm z) ∧ ∀ H', Same H H' → Q (.bl true) H'
theorem nine {ws : List Str} (h : ws.length = 9) : ∃ a b c d e f g i j, ws = [a, b, c, d, e, f, g, i, j] := by
  match ws, h with
  | [a, b, c, d, e, f, g, i, j], _ => exact ⟨a, b, c, d, e, f, g, i, j, rfl⟩
theorem alT {K : PySem.W.Frag} {H : Hp} {t : Addr} {xs vs : List V} {ds es : List PyData} (np : H t = none) (dx : DpAll K H xs ds) (dd : DpAll K H vs es) : DpAll K (upd H t (.tup xs)) (vs ++ [.ref t]) (es ++ [.tuple ds]) :=
  dpAll_app (dpAll_same (same_upd np) _ _ dd) (.cons (.tup (SqT.of upd_same) (dpAll_same (same_upd np) _ _ dx)) .nil)
/-! ### hats -/
abbrev w2 (a : Str) (d : PyData) : PyData := .tuple [.str a, d]
abbrev w1 (a : Str) : PyData := .tuple [.str a]

abbrev hats (x0 x1 : Str) : List PyData := [.tuple [.str "flag"], .tuple [.str "touch"], .tuple [.str "born"], .tuple [.str "key", .str x1], .tuple [.str "news", .str x1], .tuple [.str "key", .str "flag"], .tuple [.str "news", .str x0], .tuple [], .str "flag", .list [.str "flag"], .tuple [.str "flag", .str x1], .tuple [.str "touch", .str x1], .tuple [.str "born", .str x1], .tuple [.str "key"], .tuple [.str "news"], .tuple [.str "key", .int 1], .tuple [.str "news", .str ""], .tuple [.str "key", .str x1, .str x1], .tuple [.str "out"], .tuple [.str "keys", .str x1], .tuple [.int 1], .none, .tuple [.str "key", .none]]
def hatG (d : PyData) : Bool := rowAll 0 6 scriptB (.tuple [.tuple [d, e0]])
theorem hatG_B (d : PyData) : hatG d = hatB d := by
  unfold hatG
  rw [rowAll_tup]
  show (true && ((hatB d && innerB 4 e0) && true)) = hatB d
  rw [c_in]
  simp
theorem hat_nm {k x : Str} (hk : inV (.str k) namedH = true) (h : isNm (.str x) = true) : hatB (.tuple [.str k, .str x]) = true := by
  show (if inV (.str k) namedH = true then decide ((1 : Nat) = 1) && (isNm (.str x) && true) else _) = true
  rw [if_pos hk, h]
  rfl
theorem hat_pl {k x : Str} (hk : inV (.str k) namedH = false) : hatB (.tuple [.str k, .str x]) = false := by
  show (if inV (.str k) namedH = true then _ else inV (.str k) plainH && decide ((1 : Nat) = 0)) = false
  rw [if_neg (by rw [hk]; decide), show decide ((1 : Nat) = 0) = false by decide, Bool.and_false]
theorem hat_3 {k x y : Str} (hk : inV (.str k) namedH = true) : hatB (.tuple [.str k, .str x, .str y]) = false := by
  show (if inV (.str k) namedH = true then decide ((2 : Nat) = 1) && _ else _) = false
  rw [if_pos hk]
  rfl
theorem hats_are {x0 x1 : Str} (h0 : isNm (.str x0) = true) (h1 : isNm (.str x1) = true) : (hats x0 x1).map hatG = List.replicate 7 true ++ List.replicate 16 false := by
  rw [show hatG = hatB from funext hatG_B]
  show [hatB (.tuple [.str "flag"]), hatB (.tuple [.str "touch"]), hatB (.tuple [.str "born"]), hatB (.tuple [.str "key", .str x1]), hatB (.tuple [.str "news", .str x1]), hatB (.tuple [.str "key", .str "flag"]), hatB (.tuple [.str "news", .str x0]), hatB (.tuple []), hatB (.str "flag"), hatB (.list [.str "flag"]), hatB (.tuple [.str "flag", .str x1]), hatB (.tuple [.str "touch", .str x1]), hatB (.tuple [.str "born", .str x1]), hatB (.tuple [.str "key"]), hatB (.tuple [.str "news"]), hatB (.tuple [.str "key", .int 1]), hatB (.tuple [.str "news", .str ""]), hatB (.tuple [.str "key", .str x1, .str x1]), hatB (.tuple [.str "out"]), hatB (.tuple [.str "keys", .str x1]), hatB (.tuple [.int 1]), hatB (.none), hatB (.tuple [.str "key", .none])] = _
  rw [show hatB (.tuple [.str "flag"]) = true by decide +kernel, show hatB (.tuple [.str "touch"]) = true by decide +kernel, show hatB (.tuple [.str "born"]) = true by decide +kernel, show hatB (.tuple [.str "key", .str "flag"]) = true by decide +kernel, show hatB (.tuple []) = false by decide +kernel, show hatB (.str "flag") = false by decide +kernel, show hatB (.list [.str "flag"]) = false by decide +kernel, show hatB (.tuple [.str "key"]) = false by decide +kernel, show hatB (.tuple [.str "news"]) = false by decide +kernel, show hatB (.tuple [.str "key", .int 1]) = false by decide +kernel, show hatB (.tuple [.str "news", .str ""]) = false by decide +kernel, show hatB (.tuple [.str "out"]) = false by decide +kernel, show hatB (.tuple [.int 1]) = false by decide +kernel, show hatB (.none) = false by decide +kernel, show hatB (.tuple [.str "key", .none]) = false by decide +kernel, show hatB (.tuple [.str "key", .str x1]) = true from hat_nm (by decide +kernel) h1, show hatB (.tuple [.str "news", .str x1]) = true from hat_nm (by decide +kernel) h1, show hatB (.tuple [.str "news", .str x0]) = true from hat_nm (by decide +kernel) h0, show hatB (.tuple [.str "flag", .str x1]) = false from hat_pl (by decide +kernel), show hatB (.tuple [.str "touch", .str x1]) = false from hat_pl (by decide +kernel), show hatB (.tuple [.str "born", .str x1]) = false from hat_pl (by decide +kernel), show hatB (.tuple [.str "keys", .str x1]) = false from hat_pl (by decide +kernel), show hatB (.tuple [.str "key", .str x1, .str x1]) = false from hat_3 (by decide +kernel)]
  rfl

def wdB (z : Str) : Bool := decide (z.cps.size ≤ 11) && z.cps.toList.all fun c => decide (c < 128)
theorem okt_wd {n : Nat} {z : Str} (h : wdB z = true) : OkT 3 (n + 1) (.str z) := by
  unfold wdB at h
  rw [Bool.and_eq_true, decide_eq_true_eq, List.all_eq_true] at h
  exact ⟨h.1, fun c hc => of_decide_eq_true (h.2 c hc)⟩
theorem hats_ok {x0 x1 : Str} (n0 : IsNm x0) (n1 : IsNm x1) : ∀ d ∈ hats x0 x1, OkT 3 6 d := (okt_cons ⟨by show 1 ≤ 11; decide, (okt_cons (okt_wd (by decide +kernel)) okt_nil)⟩ (okt_cons ⟨by show 1 ≤ 11; decide, (okt_cons (okt_wd (by decide +kernel)) okt_nil)⟩ (okt_cons ⟨by show 1 ≤ 11; decide, (okt_cons (okt_wd (by decide +kernel)) okt_nil)⟩ (okt_cons ⟨by show 2 ≤ 11; decide, (okt_cons (okt_wd (by decide +kernel)) (okt_cons (okt_str n1) okt_nil))⟩ (okt_cons ⟨by show 2 ≤ 11; decide, (okt_cons (okt_wd (by decide +kernel)) (okt_cons (okt_str n1) okt_nil))⟩ (okt_cons ⟨by show 2 ≤ 11; decide, (okt_cons (okt_wd (by decide +kernel)) (okt_cons (okt_wd (by decide +kernel)) okt_nil))⟩ (okt_cons ⟨by show 2 ≤ 11; decide, (okt_cons (okt_wd (by decide +kernel)) (okt_cons (okt_str n0) okt_nil))⟩ (okt_cons ⟨by show 0 ≤ 11; decide, okt_nil⟩ (okt_cons (okt_wd (by decide +kernel)) (okt_cons ⟨by show 1 ≤ 11; decide, okt_cons (okt_wd (by decide +kernel)) okt_nil⟩ (okt_cons ⟨by show 2 ≤ 11; decide, (okt_cons (okt_wd (by decide +kernel)) (okt_cons (okt_str n1) okt_nil))⟩ (okt_cons ⟨by show 2 ≤ 11; decide, (okt_cons (okt_wd (by decide +kernel)) (okt_cons (okt_str n1) okt_nil))⟩ (okt_cons ⟨by show 2 ≤ 11; decide, (okt_cons (okt_wd (by decide +kernel)) (okt_cons (okt_str n1) okt_nil))⟩ (okt_cons ⟨by show 1 ≤ 11; decide, (okt_cons (okt_wd (by decide +kernel)) okt_nil)⟩ (okt_cons ⟨by show 1 ≤ 11; decide, (okt_cons (okt_wd (by decide +kernel)) okt_nil)⟩ (okt_cons ⟨by show 2 ≤ 11; decide, (okt_cons (okt_wd (by decide +kernel)) (okt_cons (okt_int (by decide) (by decide)) okt_nil))⟩ (okt_cons ⟨by show 2 ≤ 11; decide, (okt_cons (okt_wd (by decide +kernel)) (okt_cons (okt_wd (by decide +kernel)) okt_nil))⟩ (okt_cons ⟨by show 3 ≤ 11; decide, (okt_cons (okt_wd (by decide +kernel)) (okt_cons (okt_str n1) (okt_cons (okt_str n1) okt_nil)))⟩ (okt_cons ⟨by show 1 ≤ 11; decide, (okt_cons (okt_wd (by decide +kernel)) okt_nil)⟩ (okt_cons ⟨by show 2 ≤ 11; decide, (okt_cons (okt_wd (by decide +kernel)) (okt_cons (okt_str n1) okt_nil))⟩ (okt_cons ⟨by show 1 ≤ 11; decide, (okt_cons (okt_int (by decide) (by decide)) okt_nil)⟩ (okt_cons trivial (okt_cons ⟨by show 2 ≤ 11; decide, (okt_cons (okt_wd (by decide +kernel)) (okt_cons trivial okt_nil))⟩ okt_nil)))))))))))))))))))))))
abbrev kinds : List PyData := [.str "open", .str "closed", .str "Open", .str "", .none, .str "shut"]
def kindG (x1 : Str) (d : PyData) : Bool := pcsB [pcE (.str x1) d e0]
theorem kindG_B {x1 : Str} (h1 : isNm (.str x1) = true) (d : PyData) : kindG x1 d = kindB d := by
  have := pcs_prs (xs := [(x1, d)]) (fun x hx => by obtain rfl := List.mem_singleton.mp hx; exact h1)
  unfold kindG
  rw [show [pcE (.str x1) d e0] = [(x1, d)].map fun x => pcE (.str x.1) x.2 e0 from rfl, this]
  simp
theorem kinds_are {x1 : Str} (h1 : isNm (.str x1) = true) : kinds.map (kindG x1) = [true, true, false, false, false, false] := by
  rw [show kindG x1 = kindB from funext (kindG_B h1)]
  decide +kernel
theorem kinds_ok : ∀ d ∈ kinds, OkT 3 6 d := okt_cons (okt_wd (by decide +kernel)) (okt_cons (okt_wd (by decide +kernel)) (okt_cons (okt_wd (by decide +kernel)) (okt_cons (okt_wd (by decide +kernel)) (okt_cons trivial (okt_cons (okt_wd (by decide +kernel)) okt_nil)))))
section
variable {P : Program} {w : World} {K : PySem.W.Frag} {mg : Str → Option Value} {base : Heap} {f : Addr} {fd : FuncData}
abbrev sHt : Stmt := top 69
theorem scHt : FnScope ["_law_n", "_law_good", "_law_wrong", "_law_told", "_law_kinds", "_law_hat", "_law_kind"] ["_law_n"] (defScope sHt) := ⟨rfl, rfl, rfl, by decide +kernel, rfl, by decide +kernel, by decide +kernel⟩
theorem ok_ht {k : Nat} (F : Fun K "_law_hats_right" "_law_hats_right" sHt f fd) (GW : FnG P w K mg base CX0 k "_law_with" ["_law_n", "_law_changes"] (spWith K)) :
    FnOk P w K mg base CX0 (k + 1) f fd ["_law_n"] (spOf K) := by
  obtain ⟨_, _, G__law_with, m__law_with, k__law_with, b__law_with⟩ := GW
  have sc := scHt
  refine F.ok sc (fun vs H Q E h => ?_) (fun cdv A outer s H vs Q E hr h => ?_)
  · obtain ⟨l, ws, rfl, _⟩ := h
    rfl
  obtain ⟨l, ws, rfl, hl, l9, nd, nm, q⟩ := h
  refine ⟨_, (pss_cons (ps_set (i := 1) sc.nd rfl (.inl rfl) (pe_lst (pa_cons (pe_tup (pa_cons pe_str pa_nil)) (pa_cons (pe_tup (pa_cons pe_str pa_nil)) (pa_cons (pe_tup (pa_cons pe_str pa_nil)) (pa_cons (pe_tup (pa_cons pe_str (pa_cons (pe_ix (show IxR _ (rIxL K) from ix_list) (pv 0) pe_int (fun _ _ => rfl)) pa_nil))) (pa_cons (pe_tup (pa_cons pe_str (pa_cons (pe_ix (show IxR _ (rIxL K) from ix_list) (pv 0) pe_int (fun _ _ => rfl)) pa_nil))) (pa_cons (pe_tup (pa_cons pe_str (pa_cons pe_str pa_nil))) (pa_cons (pe_tup (pa_cons pe_str (pa_cons (pe_ix (show IxR _ (rIxL K) from ix_list) (pv 0) pe_int (fun _ _ => rfl)) pa_nil))) pa_nil)))))))))
      (pss_cons (ps_set (i := 2) sc.nd rfl (.inl rfl) (pe_lst (pa_cons (pe_tup pa_nil) (pa_cons pe_str (pa_cons (pe_lst (pa_cons pe_str pa_nil)) (pa_cons (pe_tup (pa_cons pe_str (pa_cons (pe_ix (show IxR _ (rIxL K) from ix_list) (pv 0) pe_int (fun _ _ => rfl)) pa_nil))) (pa_cons (pe_tup (pa_cons pe_str (pa_cons (pe_ix (show IxR _ (rIxL K) from ix_list) (pv 0) pe_int (fun _ _ => rfl)) pa_nil))) (pa_cons (pe_tup (pa_cons pe_str (pa_cons (pe_ix (show IxR _ (rIxL K) from ix_list) (pv 0) pe_int (fun _ _ => rfl)) pa_nil))) (pa_cons (pe_tup (pa_cons pe_str pa_nil)) (pa_cons (pe_tup (pa_cons pe_str pa_nil)) (pa_cons (pe_tup (pa_cons pe_str (pa_cons pe_int pa_nil))) pa_nil)))))))))))
      (pss_cons (ps_set (i := 2) sc.nd rfl (.inl rfl) (pe_op op_cat (pv 2) (pe_lst (pa_cons (pe_tup (pa_cons pe_str (pa_cons pe_str pa_nil))) (pa_cons (pe_tup (pa_cons pe_str (pa_cons (pe_ix (show IxR _ (rIxL K) from ix_list) (pv 0) pe_int (fun _ _ => rfl)) (pa_cons (pe_ix (show IxR _ (rIxL K) from ix_list) (pv 0) pe_int (fun _ _ => rfl)) pa_nil)))) (pa_cons (pe_tup (pa_cons pe_str pa_nil)) (pa_cons (pe_tup (pa_cons pe_str (pa_cons (pe_ix (show IxR _ (rIxL K) from ix_list) (pv 0) pe_int (fun _ _ => rfl)) pa_nil))) (pa_cons (pe_tup (pa_cons pe_int pa_nil)) (pa_cons pe_non (pa_cons (pe_tup (pa_cons pe_str (pa_cons pe_non pa_nil))) pa_nil))))))))))
      (pss_cons (ps_setLc (i := 3) (own := [("_law_hat", 5)]) (by rfl) sc.nd rfl rfl (sw_true rfl rfl rfl (by decide +kernel)) (pi_list (pe_op op_cat (pv 1) (pv 2))) (blkOk_by (own := [("_law_hat", 5)]) (N := ["_law_n", "_law_good", "_law_wrong", "_law_told", "_law_kinds", "_law_hat", "_law_kind"]) (sc := defScope sHt) (by decide +kernel)) (fun _ _ _ _ _ => (pg_name (i := 5) sc.nd rfl (.inl rfl))) (fun _ _ _ _ _ => pts_nil) (fun _ _ _ _ _ => (pe_call G__law_with (hr.mono (by omega)) (by rfl) m__law_with k__law_with b__law_with .nil pass0 (pa_cons (pv 0) (pa_cons (pe_disp (pps_cons pe_str (pe_tup (pa_cons (pe_tup (pa_cons (pv 5) (pa_cons (pe_tup pa_nil) pa_nil))) pa_nil)) pps_nil) rfl rfl (by decide) (by decide)) pa_nil)))))
      (pss_cons (ps_setLc (i := 4) (own := [("_law_kind", 6)]) (by rfl) sc.nd rfl rfl (sw_true rfl rfl rfl (by decide +kernel)) (pi_tup (pe_tup (pa_cons pe_str (pa_cons pe_str (pa_cons pe_str (pa_cons pe_str (pa_cons pe_non (pa_cons pe_str pa_nil)))))))) (blkOk_by (own := [("_law_kind", 6)]) (N := ["_law_n", "_law_good", "_law_wrong", "_law_told", "_law_kinds", "_law_hat", "_law_kind"]) (sc := defScope sHt) (by decide +kernel)) (fun _ _ _ _ _ => (pg_name (i := 6) sc.nd rfl (.inl rfl))) (fun _ _ _ _ _ => pts_nil) (fun _ _ _ _ _ => (pe_call G__law_with (hr.mono (by omega)) (by rfl) m__law_with k__law_with b__law_with .nil pass0 (pa_cons (pv 0) (pa_cons (pe_disp (pps_cons pe_str (pe_tup (pa_cons (pe_tup (pa_cons (pe_ix (show IxR _ (rIxL K) from ix_list) (pv 0) pe_int (fun _ _ => rfl)) (pa_cons (pv 6) (pa_cons (pe_tup pa_nil) (pa_cons (pe_tup pa_nil) pa_nil))))) pa_nil)) pps_nil) rfl rfl (by decide) (by decide)) pa_nil)))))
      (pss_one (ps_ret (pe_and (pe_cmpR (op_eqD hr.units) (pv 3) (pe_op op_cat (pe_op op_rep (pe_lst (pa_cons pe_bl pa_nil)) pe_int) (pe_op op_rep (pe_lst (pa_cons pe_bl pa_nil)) pe_int)) (nomark _)) (pe_one (pe_cmpR (op_eqD hr.units) (pv 4) (pe_lst (pa_cons pe_bl (pa_cons pe_bl (pa_cons pe_bl (pa_cons pe_bl (pa_cons pe_bl (pa_cons pe_bl pa_nil))))))) (nomark _))))))))))), ?_⟩
  obtain ⟨x0, x1, x2, x3, x4, x5, x6, x7, x8, rfl⟩ := nine l9
  have n0 : IsNm x0 := nm x0 (by simp)
  have n1 : IsNm x1 := nm x1 (by simp)
  have z0 : 0 ≤ sizeLine := by decide
  have z1 : 1 ≤ sizeLine := by decide
  have z2 : 2 ≤ sizeLine := by decide
  have z3 : 3 ≤ sizeLine := by decide
  have z4 : 4 ≤ sizeLine := by decide
  have z6 : 6 ≤ sizeLine := by decide
  have z7 : 7 ≤ sizeLine := by decide
  have z9 : 9 ≤ sizeLine := by decide
  replace hl : SqL K H l [.str x0, .str x1, .str x2, .str x3, .str x4, .str x5, .str x6, .str x7, .str x8] := SqL.of hl
  have s0 : Same H H := Same.refl _
  have dd : DpAll K H [] [] := .nil
  refine ⟨z1, fun t1 np => ?_⟩
  have x1_ := same_upd (o := .tup [.str "flag"]) np
  have dd := alT np (show DpAll K H _ _ from (.cons (.str "flag") .nil)) dd
  replace s0 := s0.trans x1_
  generalize upd H t1 (.tup [.str "flag"]) = G1 at *
  clear x1_ np
  refine ⟨z1, fun t2 np => ?_⟩
  have x1_ := same_upd (o := .tup [.str "touch"]) np
  have dd := alT np (show DpAll K G1 _ _ from (.cons (.str "touch") .nil)) dd
  replace s0 := s0.trans x1_
  generalize upd G1 t2 (.tup [.str "touch"]) = G2 at *
  clear x1_ np
  refine ⟨z1, fun t3 np => ?_⟩
  have x1_ := same_upd (o := .tup [.str "born"]) np
  have dd := alT np (show DpAll K G2 _ _ from (.cons (.str "born") .nil)) dd
  replace s0 := s0.trans x1_
  generalize upd G2 t3 (.tup [.str "born"]) = G3 at *
  clear x1_ np
  refine ⟨_, rfl, l, _, 1, _, rfl, rfl, s0.seq hl, atI_nat (j := 1) rfl, z2, fun t4 np => ?_⟩
  have x1_ := same_upd (o := .tup [.str "key", .str x1]) np
  have dd := alT np (show DpAll K G3 _ _ from (.cons (.str "key") (.cons (.str x1) .nil))) dd
  replace s0 := s0.trans x1_
  generalize upd G3 t4 (.tup [.str "key", .str x1]) = G4 at *
  clear x1_ np
  refine ⟨_, rfl, l, _, 1, _, rfl, rfl, s0.seq hl, atI_nat (j := 1) rfl, z2, fun t5 np => ?_⟩
  have x1_ := same_upd (o := .tup [.str "news", .str x1]) np
  have dd := alT np (show DpAll K G4 _ _ from (.cons (.str "news") (.cons (.str x1) .nil))) dd
  replace s0 := s0.trans x1_
  generalize upd G4 t5 (.tup [.str "news", .str x1]) = G5 at *
  clear x1_ np
  refine ⟨z2, fun t6 np => ?_⟩
  have x1_ := same_upd (o := .tup [.str "key", .str "flag"]) np
  have dd := alT np (show DpAll K G5 _ _ from (.cons (.str "key") (.cons (.str "flag") .nil))) dd
  replace s0 := s0.trans x1_
  generalize upd G5 t6 (.tup [.str "key", .str "flag"]) = G6 at *
  clear x1_ np
  refine ⟨_, rfl, l, _, 0, _, rfl, rfl, s0.seq hl, atI_nat (j := 0) rfl, z2, fun t7 np => ?_⟩
  have x1_ := same_upd (o := .tup [.str "news", .str x0]) np
  have dd := alT np (show DpAll K G6 _ _ from (.cons (.str "news") (.cons (.str x0) .nil))) dd
  replace s0 := s0.trans x1_
  generalize upd G6 t7 (.tup [.str "news", .str x0]) = G7 at *
  clear x1_ np
  refine ⟨z7, fun a1 np => ?_⟩
  have e_a1 : (upd G7 a1 (.lst [.ref t1, .ref t2, .ref t3, .ref t4, .ref t5, .ref t6, .ref t7])) a1 = some (.lst [.ref t1, .ref t2, .ref t3, .ref t4, .ref t5, .ref t6, .ref t7]) := upd_same
  have x1_ := same_upd (o := .lst [.ref t1, .ref t2, .ref t3, .ref t4, .ref t5, .ref t6, .ref t7]) np
  have dd := dpAll_same x1_ _ _ dd
  replace s0 := s0.trans x1_
  generalize upd G7 a1 (.lst [.ref t1, .ref t2, .ref t3, .ref t4, .ref t5, .ref t6, .ref t7]) = Ga1 at *
  clear x1_ np
  refine ⟨z0, fun t8 np => ?_⟩
  have x1_ := same_upd (o := .tup []) np
  have dd := alT np (show DpAll K Ga1 _ _ from .nil) dd
  replace e_a1 := x1_ _ _ e_a1
  replace s0 := s0.trans x1_
  generalize upd Ga1 t8 (.tup []) = G8 at *
  clear x1_ np
  replace dd := dpAll_app dd (.cons (.str "flag") .nil)
  refine ⟨z1, fun t10 np => ?_⟩
  have x1_ := same_upd (o := .lst [.str "flag"]) np
  have dd := dpAll_app (dpAll_same x1_ _ _ dd) (.cons (.lst (SqL.of (show (upd G8 t10 (.lst [.str "flag"])) t10 = _ from upd_same)) (.cons (.str "flag") .nil)) .nil)
  replace e_a1 := x1_ _ _ e_a1
  replace s0 := s0.trans x1_
  generalize upd G8 t10 (.lst [.str "flag"]) = G10 at *
  clear x1_ np
  refine ⟨_, rfl, l, _, 1, _, rfl, rfl, s0.seq hl, atI_nat (j := 1) rfl, z2, fun t11 np => ?_⟩
  have x1_ := same_upd (o := .tup [.str "flag", .str x1]) np
  have dd := alT np (show DpAll K G10 _ _ from (.cons (.str "flag") (.cons (.str x1) .nil))) dd
  replace e_a1 := x1_ _ _ e_a1
  replace s0 := s0.trans x1_
  generalize upd G10 t11 (.tup [.str "flag", .str x1]) = G11 at *
  clear x1_ np
  refine ⟨_, rfl, l, _, 1, _, rfl, rfl, s0.seq hl, atI_nat (j := 1) rfl, z2, fun t12 np => ?_⟩
  have x1_ := same_upd (o := .tup [.str "touch", .str x1]) np
  have dd := alT np (show DpAll K G11 _ _ from (.cons (.str "touch") (.cons (.str x1) .nil))) dd
  replace e_a1 := x1_ _ _ e_a1
  replace s0 := s0.trans x1_
  generalize upd G11 t12 (.tup [.str "touch", .str x1]) = G12 at *
  clear x1_ np
  refine ⟨_, rfl, l, _, 1, _, rfl, rfl, s0.seq hl, atI_nat (j := 1) rfl, z2, fun t13 np => ?_⟩
  have x1_ := same_upd (o := .tup [.str "born", .str x1]) np
  have dd := alT np (show DpAll K G12 _ _ from (.cons (.str "born") (.cons (.str x1) .nil))) dd
  replace e_a1 := x1_ _ _ e_a1
  replace s0 := s0.trans x1_
  generalize upd G12 t13 (.tup [.str "born", .str x1]) = G13 at *
  clear x1_ np
  refine ⟨z1, fun t14 np => ?_⟩
  have x1_ := same_upd (o := .tup [.str "key"]) np
  have dd := alT np (show DpAll K G13 _ _ from (.cons (.str "key") .nil)) dd
  replace e_a1 := x1_ _ _ e_a1
  replace s0 := s0.trans x1_
  generalize upd G13 t14 (.tup [.str "key"]) = G14 at *
  clear x1_ np
  refine ⟨z1, fun t15 np => ?_⟩
  have x1_ := same_upd (o := .tup [.str "news"]) np
  have dd := alT np (show DpAll K G14 _ _ from (.cons (.str "news") .nil)) dd
  replace e_a1 := x1_ _ _ e_a1
  replace s0 := s0.trans x1_
  generalize upd G14 t15 (.tup [.str "news"]) = G15 at *
  clear x1_ np
  refine ⟨z2, fun t16 np => ?_⟩
  have x1_ := same_upd (o := .tup [.str "key", .int 1]) np
  have dd := alT np (show DpAll K G15 _ _ from (.cons (.str "key") (.cons (.int 1) .nil))) dd
  replace e_a1 := x1_ _ _ e_a1
  replace s0 := s0.trans x1_
  generalize upd G15 t16 (.tup [.str "key", .int 1]) = G16 at *
  clear x1_ np
  refine ⟨z9, fun a2 np => ?_⟩
  have e_a2 : (upd G16 a2 (.lst [.ref t8, .str "flag", .ref t10, .ref t11, .ref t12, .ref t13, .ref t14, .ref t15, .ref t16])) a2 = some (.lst [.ref t8, .str "flag", .ref t10, .ref t11, .ref t12, .ref t13, .ref t14, .ref t15, .ref t16]) := upd_same
  have x1_ := same_upd (o := .lst [.ref t8, .str "flag", .ref t10, .ref t11, .ref t12, .ref t13, .ref t14, .ref t15, .ref t16]) np
  have dd := dpAll_same x1_ _ _ dd
  replace e_a1 := x1_ _ _ e_a1
  replace s0 := s0.trans x1_
  generalize upd G16 a2 (.lst [.ref t8, .str "flag", .ref t10, .ref t11, .ref t12, .ref t13, .ref t14, .ref t15, .ref t16]) = Ga2 at *
  clear x1_ np
  refine ⟨_, rfl, ?_⟩
  refine ⟨z2, fun t17 np => ?_⟩
  have x1_ := same_upd (o := .tup [.str "news", .str ""]) np
  have dd := alT np (show DpAll K Ga2 _ _ from (.cons (.str "news") (.cons (.str "") .nil))) dd
  replace e_a1 := x1_ _ _ e_a1
  replace e_a2 := x1_ _ _ e_a2
  replace s0 := s0.trans x1_
  generalize upd Ga2 t17 (.tup [.str "news", .str ""]) = G17 at *
  clear x1_ np
  refine ⟨_, rfl, l, _, 1, _, rfl, rfl, s0.seq hl, atI_nat (j := 1) rfl, _, rfl, l, _, 1, _, rfl, rfl, s0.seq hl, atI_nat (j := 1) rfl, z3, fun t18 np => ?_⟩
  have x1_ := same_upd (o := .tup [.str "key", .str x1, .str x1]) np
  have dd := alT np (show DpAll K G17 _ _ from (.cons (.str "key") (.cons (.str x1) (.cons (.str x1) .nil)))) dd
  replace e_a1 := x1_ _ _ e_a1
  replace e_a2 := x1_ _ _ e_a2
  replace s0 := s0.trans x1_
  generalize upd G17 t18 (.tup [.str "key", .str x1, .str x1]) = G18 at *
  clear x1_ np
  refine ⟨z1, fun t19 np => ?_⟩
  have x1_ := same_upd (o := .tup [.str "out"]) np
  have dd := alT np (show DpAll K G18 _ _ from (.cons (.str "out") .nil)) dd
  replace e_a1 := x1_ _ _ e_a1
  replace e_a2 := x1_ _ _ e_a2
  replace s0 := s0.trans x1_
  generalize upd G18 t19 (.tup [.str "out"]) = G19 at *
  clear x1_ np
  refine ⟨_, rfl, l, _, 1, _, rfl, rfl, s0.seq hl, atI_nat (j := 1) rfl, z2, fun t20 np => ?_⟩
  have x1_ := same_upd (o := .tup [.str "keys", .str x1]) np
  have dd := alT np (show DpAll K G19 _ _ from (.cons (.str "keys") (.cons (.str x1) .nil))) dd
  replace e_a1 := x1_ _ _ e_a1
  replace e_a2 := x1_ _ _ e_a2
  replace s0 := s0.trans x1_
  generalize upd G19 t20 (.tup [.str "keys", .str x1]) = G20 at *
  clear x1_ np
  refine ⟨z1, fun t21 np => ?_⟩
  have x1_ := same_upd (o := .tup [.int 1]) np
  have dd := alT np (show DpAll K G20 _ _ from (.cons (.int 1) .nil)) dd
  replace e_a1 := x1_ _ _ e_a1
  replace e_a2 := x1_ _ _ e_a2
  replace s0 := s0.trans x1_
  generalize upd G20 t21 (.tup [.int 1]) = G21 at *
  clear x1_ np
  replace dd := dpAll_app dd (.cons .non .nil)
  refine ⟨z2, fun t23 np => ?_⟩
  have x1_ := same_upd (o := .tup [.str "key", .non]) np
  have dd := alT np (show DpAll K G21 _ _ from (.cons (.str "key") (.cons .non .nil))) dd
  replace e_a1 := x1_ _ _ e_a1
  replace e_a2 := x1_ _ _ e_a2
  replace s0 := s0.trans x1_
  generalize upd G21 t23 (.tup [.str "key", .non]) = G23 at *
  clear x1_ np
  refine ⟨z7, fun a3 np => ?_⟩
  have e_a3 : (upd G23 a3 (.lst [.ref t17, .ref t18, .ref t19, .ref t20, .ref t21, .non, .ref t23])) a3 = some (.lst [.ref t17, .ref t18, .ref t19, .ref t20, .ref t21, .non, .ref t23]) := upd_same
  have x1_ := same_upd (o := .lst [.ref t17, .ref t18, .ref t19, .ref t20, .ref t21, .non, .ref t23]) np
  have dd := dpAll_same x1_ _ _ dd
  replace e_a1 := x1_ _ _ e_a1
  replace e_a2 := x1_ _ _ e_a2
  replace s0 := s0.trans x1_
  generalize upd G23 a3 (.lst [.ref t17, .ref t18, .ref t19, .ref t20, .ref t21, .non, .ref t23]) = Ga3 at *
  clear x1_ np
  refine ⟨a2, a3, _, _, rfl, rfl, e_a2, e_a3, by show 16 ≤ sizeLine; decide, fun a4 np => ?_⟩
  have e_a4 : (upd Ga3 a4 (.lst ([.ref t8, .str "flag", .ref t10, .ref t11, .ref t12, .ref t13, .ref t14, .ref t15, .ref t16] ++ [.ref t17, .ref t18, .ref t19, .ref t20, .ref t21, .non, .ref t23]))) a4 = some (.lst ([.ref t8, .str "flag", .ref t10, .ref t11, .ref t12, .ref t13, .ref t14, .ref t15, .ref t16] ++ [.ref t17, .ref t18, .ref t19, .ref t20, .ref t21, .non, .ref t23])) := upd_same
  have x1_ := same_upd (o := .lst ([.ref t8, .str "flag", .ref t10, .ref t11, .ref t12, .ref t13, .ref t14, .ref t15, .ref t16] ++ [.ref t17, .ref t18, .ref t19, .ref t20, .ref t21, .non, .ref t23])) np
  replace dd := dpAll_same x1_ _ _ dd
  replace e_a1 := x1_ _ _ e_a1
  replace s0 := s0.trans x1_
  generalize upd Ga3 a4 (.lst ([.ref t8, .str "flag", .ref t10, .ref t11, .ref t12, .ref t13, .ref t14, .ref t15, .ref t16] ++ [.ref t17, .ref t18, .ref t19, .ref t20, .ref t21, .non, .ref t23])) = Ga4 at *
  clear x1_ np
  refine ⟨_, rfl, _, rfl, a1, a4, _, _, rfl, rfl, e_a1, e_a4, by show 23 ≤ sizeLine; decide, fun a5 np => ?_⟩
  have e_a5 : (upd Ga4 a5 (.lst ([.ref t1, .ref t2, .ref t3, .ref t4, .ref t5, .ref t6, .ref t7] ++ ([.ref t8, .str "flag", .ref t10, .ref t11, .ref t12, .ref t13, .ref t14, .ref t15, .ref t16] ++ [.ref t17, .ref t18, .ref t19, .ref t20, .ref t21, .non, .ref t23])))) a5 = some (.lst ([.ref t1, .ref t2, .ref t3, .ref t4, .ref t5, .ref t6, .ref t7] ++ ([.ref t8, .str "flag", .ref t10, .ref t11, .ref t12, .ref t13, .ref t14, .ref t15, .ref t16] ++ [.ref t17, .ref t18, .ref t19, .ref t20, .ref t21, .non, .ref t23]))) := upd_same
  have x1_ := same_upd (o := .lst ([.ref t1, .ref t2, .ref t3, .ref t4, .ref t5, .ref t6, .ref t7] ++ ([.ref t8, .str "flag", .ref t10, .ref t11, .ref t12, .ref t13, .ref t14, .ref t15, .ref t16] ++ [.ref t17, .ref t18, .ref t19, .ref t20, .ref t21, .non, .ref t23]))) np
  replace dd := dpAll_same x1_ _ _ dd
  replace s0 := s0.trans x1_
  generalize upd Ga4 a5 (.lst ([.ref t1, .ref t2, .ref t3, .ref t4, .ref t5, .ref t6, .ref t7] ++ ([.ref t8, .str "flag", .ref t10, .ref t11, .ref t12, .ref t13, .ref t14, .ref t15, .ref t16] ++ [.ref t17, .ref t18, .ref t19, .ref t20, .ref t21, .non, .ref t23]))) = G at *
  clear x1_ np
  simp only [List.nil_append, List.cons_append] at dd e_a5
  obtain ⟨xs, hxs⟩ : ∃ xs : List V, xs = [.ref t1, .ref t2, .ref t3, .ref t4, .ref t5, .ref t6, .ref t7, .ref t8, .str "flag", .ref t10, .ref t11, .ref t12, .ref t13, .ref t14, .ref t15, .ref t16, .ref t17, .ref t18, .ref t19, .ref t20, .ref t21, .non, .ref t23] := ⟨_, rfl⟩
  replace dd : DpAll K G xs (hats x0 x1) := by rw [hxs]; exact dd
  replace e_a5 : G a5 = some (.lst xs) := by rw [hxs]; exact e_a5
  have lxs : xs.length = 23 := by rw [hxs]; rfl
  clear e_a1 e_a4 hxs
  refine ⟨a5, rfl, ⟨xs, SqL.of e_a5⟩, fun D nD => lc_it (walk_list (xs := xs)) (fun i H' => AccB D G hatG (hats x0 x1) i H') (AccB.zero nD) (fun i H' _ h => SqL.of (h.1 _ _ e_a5)) ?_ ?_⟩
  · rintro i v _ HA hi ac ⟨rfl, ex⟩
    obtain ⟨d, ed, dv⟩ := dpAll_at (dpAll_same ac.1 _ _ dd) ex
    have md := List.mem_of_getElem? ed
    have sA := s0.trans ac.1
    refine ⟨rfl, ?_⟩
    unfold tYes
    refine iteT ⟨_, rfl, fun a na => ?_⟩
    refine ⟨_, rfl, z0, fun t1 np1 => ?_⟩
    have y1 := same_upd (o := .tup []) np1
    have f1 : (upd (upd HA a (.dK [])) t1 (.tup [])) t1 = some (.tup []) := upd_same
    generalize upd (upd HA a (.dK [])) t1 (.tup []) = J1 at *
    refine ⟨z2, fun t2 n2 => ?_⟩
    have y2 := same_upd (o := .tup [v, .ref t1]) n2
    have f2 : (upd J1 t2 (.tup [v, .ref t1])) t2 = some (.tup [v, .ref t1]) := upd_same
    replace f1 := y2 _ _ f1
    replace y1 := y1.trans y2
    generalize upd J1 t2 (.tup [v, .ref t1]) = J2 at *
    refine ⟨z1, fun t3 n3 => ?_⟩
    have y3 := same_upd (o := .tup [.ref t2]) n3
    have f3 : (upd J2 t3 (.tup [.ref t2])) t3 = some (.tup [.ref t2]) := upd_same
    replace f1 := y3 _ _ f1
    replace f2 := y3 _ _ f2
    replace y1 := y1.trans y3
    generalize upd J2 t3 (.tup [.ref t2]) = J3 at *
    refine ⟨y1 _ _ upd_same, [(Sum.inr "scripts", .ref t3)], rfl, by show 1 ≤ 15; decide, ?_⟩
    obtain ⟨sE, eE, _, tE⟩ := dEnd (K := K) (kvs := [(Sum.inr "scripts", .ref t3)]) na y1
    unfold tNil
    refine w6 (ss := [.tuple [d, e0]]) (fun p hp => by obtain rfl := List.mem_singleton.mp hp; rfl) ((sA.trans sE).seq hl) n0 eE (.tup (SqT.of (tE f3)) (.cons (.tup (SqT.of (tE f2)) (.cons (dp_same sE _ _ dv) (.cons (.tup (SqT.of (tE f1)) .nil) .nil))) .nil)) (okt_all (by show 1 ≤ 11; decide) (okt_cons (okt_all (by show 2 ≤ 11; decide) (okt_cons (hats_ok n0 n1 d md) (okt_cons okt_e0 okt_nil))) okt_nil)) fun H' s' => ?_
    exact ac.step nD (sE.trans s') ed (by show 23 ≤ 1000; decide)
  · rintro H1 ac
    have hD := ac.fin (by rw [lxs]; exact Nat.le_refl _)
    rw [hats_are (nm_of n0) (nm_of n1)] at hD
    have s1 := s0.trans ac.1
    clear ac dd e_a5
    clear s0
    obtain ⟨ht, hht⟩ : ∃ ht : List Bool, ht = List.replicate 7 true ++ List.replicate 16 false := ⟨_, rfl⟩
    rw [← hht] at hD
    refine ⟨z6, fun kt nk => ?_⟩
    have x2 := same_upd (o := .tup [.str "open", .str "closed", .str "Open", .str "", .non, .str "shut"]) nk
    have ek : (upd H1 kt (.tup [.str "open", .str "closed", .str "Open", .str "", .non, .str "shut"])) kt = some (.tup [.str "open", .str "closed", .str "Open", .str "", .non, .str "shut"]) := upd_same
    have dk : DpAll K (upd H1 kt (.tup [.str "open", .str "closed", .str "Open", .str "", .non, .str "shut"])) [.str "open", .str "closed", .str "Open", .str "", .non, .str "shut"] kinds := .cons (.str _) (.cons (.str _) (.cons (.str _) (.cons (.str _) (.cons .non (.cons (.str _) .nil)))))
    replace hD := x2 _ _ hD
    replace s1 := s1.trans x2
    generalize upd H1 kt (.tup [.str "open", .str "closed", .str "Open", .str "", .non, .str "shut"]) = G2 at *
    clear x2 nk
    refine ⟨kt, rfl, ⟨_, SqT.of ek⟩, fun D2 nD2 => lc_it (walk_tup (xs := [.str "open", .str "closed", .str "Open", .str "", .non, .str "shut"])) (fun i H' => AccB D2 G2 (kindG x1) kinds i H') (AccB.zero nD2) (fun i H' _ h => seqT h.1 (SqT.of ek)) ?_ ?_⟩
    · rintro i v _ HA hi ac ⟨rfl, ex⟩
      obtain ⟨d, ed, dv⟩ := dpAll_at (dpAll_same ac.1 _ _ dk) ex
      have md := List.mem_of_getElem? ed
      have sA := s1.trans ac.1
      refine ⟨rfl, ?_⟩
      unfold tYes
      refine iteT ⟨_, rfl, fun a na => ?_⟩
      have y0 := same_upd (o := .dK []) na
      refine ⟨_, rfl, l, _, 1, _, rfl, rfl, (sA.trans y0).seq hl, atI_nat (j := 1) rfl, _, rfl, z0, fun t0 np0 => ?_⟩
      have y1 := same_upd (o := .tup []) np0
      have f0 : (upd (upd HA a (.dK [])) t0 (.tup [])) t0 = some (.tup []) := upd_same
      generalize upd (upd HA a (.dK [])) t0 (.tup []) = J0 at *
      refine ⟨z0, fun t1 np1 => ?_⟩
      have y2 := same_upd (o := .tup []) np1
      have f1 : (upd J0 t1 (.tup [])) t1 = some (.tup []) := upd_same
      replace f0 := y2 _ _ f0
      replace y1 := y1.trans y2
      generalize upd J0 t1 (.tup []) = J1 at *
      refine ⟨z4, fun t2 np2 => ?_⟩
      have y2 := same_upd (o := .tup [.str x1, v, .ref t0, .ref t1]) np2
      have f2 : (upd J1 t2 (.tup [.str x1, v, .ref t0, .ref t1])) t2 = some (.tup [.str x1, v, .ref t0, .ref t1]) := upd_same
      replace f0 := y2 _ _ f0
      replace f1 := y2 _ _ f1
      replace y1 := y1.trans y2
      generalize upd J1 t2 (.tup [.str x1, v, .ref t0, .ref t1]) = J2 at *
      refine ⟨z1, fun t3 np3 => ?_⟩
      have y3 := same_upd (o := .tup [.ref t2]) np3
      have f3 : (upd J2 t3 (.tup [.ref t2])) t3 = some (.tup [.ref t2]) := upd_same
      replace f0 := y3 _ _ f0
      replace f1 := y3 _ _ f1
      replace f2 := y3 _ _ f2
      replace y1 := y1.trans y3
      generalize upd J2 t3 (.tup [.ref t2]) = J3 at *
      refine ⟨y1 _ _ upd_same, [(Sum.inr "pieces", .ref t3)], rfl, by show 1 ≤ 15; decide, ?_⟩
      obtain ⟨sE, eE, _, tE⟩ := dEnd (K := K) (kvs := [(Sum.inr "pieces", .ref t3)]) na y1
      unfold tNil
      refine w5 (ps := [pcE (.str x1) d e0]) (fun p hp => by obtain rfl := List.mem_singleton.mp hp; rfl) ((sA.trans sE).seq hl) n0 eE (.tup (SqT.of (tE f3)) (.cons (.tup (SqT.of (tE f2)) (.cons (.str _) (.cons (dp_same sE _ _ dv) (.cons (.tup (SqT.of (tE f0)) .nil) (.cons (.tup (SqT.of (tE f1)) .nil) .nil))))) .nil)) (okt_all (by show 1 ≤ 11; decide) (okt_cons (okt_all (by show 4 ≤ 11; decide) (okt_cons (okt_str n1) (okt_cons (kinds_ok d md) (okt_cons okt_e0 (okt_cons okt_e0 okt_nil))))) okt_nil)) fun H' s' => ?_
      exact ac.step nD2 (sE.trans s') ed (by show 6 ≤ 1000; decide)
    · rintro H2 ac
      have hD2 := ac.fin (by show 6 ≤ 6; decide)
      rw [kinds_are (nm_of n1)] at hD2
      replace hD := ac.1 _ _ hD
      have s2 := s1.trans ac.1
      clear ac dk ek s1
      refine ⟨_, rfl, z1, fun b1 np => ?_⟩
      have x2 := same_upd (o := .lst [.bl true]) np
      have e1 : (upd H2 b1 (.lst [.bl true])) b1 = some (.lst [.bl true]) := upd_same
      replace hD := x2 _ _ hD
      replace hD2 := x2 _ _ hD2
      replace s2 := s2.trans x2
      generalize upd H2 b1 (.lst [.bl true]) = G3 at *
      clear x2 np
      refine ⟨b1, 7, _, rfl, rfl, e1, by decide, by decide, by show 7 ≤ sizeLine; decide, fun b2 np => ?_⟩
      rw [show (List.replicate (7 : Int).toNat [V.bl true]).flatten = (List.replicate 7 true).map V.bl from rfl]
      have x2 := same_upd (o := .lst ((List.replicate 7 true).map V.bl)) np
      have e2 : (upd G3 b2 (.lst ((List.replicate 7 true).map V.bl))) b2 = some (.lst ((List.replicate 7 true).map V.bl)) := upd_same
      replace hD := x2 _ _ hD
      replace hD2 := x2 _ _ hD2
      replace s2 := s2.trans x2
      generalize upd G3 b2 (.lst ((List.replicate 7 true).map V.bl)) = G4 at *
      clear x2 np e1
      refine ⟨z1, fun b3 np => ?_⟩
      have x2 := same_upd (o := .lst [.bl false]) np
      have e3 : (upd G4 b3 (.lst [.bl false])) b3 = some (.lst [.bl false]) := upd_same
      replace hD := x2 _ _ hD
      replace hD2 := x2 _ _ hD2
      replace e2 := x2 _ _ e2
      replace s2 := s2.trans x2
      generalize upd G4 b3 (.lst [.bl false]) = G5 at *
      clear x2 np
      refine ⟨b3, 16, _, rfl, rfl, e3, by decide, by decide, by show 16 ≤ sizeLine; decide, fun b4 np => ?_⟩
      rw [show (List.replicate (16 : Int).toNat [V.bl false]).flatten = (List.replicate 16 false).map V.bl from rfl]
      have x2 := same_upd (o := .lst ((List.replicate 16 false).map V.bl)) np
      have e4 : (upd G5 b4 (.lst ((List.replicate 16 false).map V.bl))) b4 = some (.lst ((List.replicate 16 false).map V.bl)) := upd_same
      replace hD := x2 _ _ hD
      replace hD2 := x2 _ _ hD2
      replace e2 := x2 _ _ e2
      replace s2 := s2.trans x2
      generalize upd G5 b4 (.lst ((List.replicate 16 false).map V.bl)) = G6 at *
      clear x2 np e3
      refine ⟨b2, b4, _, _, rfl, rfl, e2, e4, by show 7 + 16 ≤ sizeLine; decide, fun b5 np => ?_⟩
      rw [← List.map_append, ← hht]
      have x2 := same_upd (o := .lst (ht.map V.bl)) np
      refine eqBls ht (x2 _ _ hD) upd_same ⟨_, rfl, iteT ?_⟩
      replace hD2 := x2 _ _ hD2
      replace s2 := s2.trans x2
      generalize upd G6 b5 (.lst (ht.map V.bl)) = G7 at *
      clear x2 np hD e2 e4
      refine ⟨_, rfl, z6, fun b6 np => ?_⟩
      have x2 := same_upd (o := .lst ([true, true, false, false, false, false].map V.bl)) np
      exact eqBls [true, true, false, false, false, false] (x2 _ _ hD2) upd_same (q _ (s2.trans x2))
end
end Fd

set_option Elab.async false
set_option linter.all false
set_option maxRecDepth 100000
set_option maxHeartbeats 1000000
namespace Fd
open PySem PySem.Spec PyProof.Rows L2
/-! ### so many of each -/
def wk (F : Nat → Str) (g : Nat → PyData) (s : Nat) : List (Str × PyData) := (List.range s).map fun k => (F k, g k)
section
variable {F : Nat → Str} (hn : ∀ i, i < 8 → IsNm (F i)) (hj : ∀ i j, i < j → j < 8 → F i ≠ F j) {g : Nat → PyData} {s : Nat} (hs : s ≤ 7)
include hn hs in
theorem wk_nm : ∀ x ∈ wk F g s, IsNm x.1 := fun x hx => by
  obtain ⟨k, hk, rfl⟩ := List.mem_map.mp hx
  exact hn k (by have := List.mem_range.mp hk; omega)
include hj hs in
theorem wk_nd : ((wk F g s).map (·.1)).Nodup := by
  unfold wk
  rw [List.map_map]
  exact nodup_of (f := F) fun i j h1 h2 => hj i j h1 (by omega)
theorem wk_len : (wk F g s).length = s := by unfold wk; simp
theorem wk_all {p : PyData → Bool} (h : ∀ k, k < s → p (g k) = true) : ((wk F g s).all fun x => p x.2) = true := by
  rw [List.all_eq_true]
  intro x hx
  obtain ⟨k, hk, rfl⟩ := List.mem_map.mp hx
  exact h k (List.mem_range.mp hk)
theorem lt_le {m : Nat} : decide (s ≤ m) = decide ((s : Int) < ((m + 1 : Nat) : Int)) := by
  by_cases c : s ≤ m
  · rw [decide_eq_true c, decide_eq_true (by omega)]
  · rw [decide_eq_false c, decide_eq_false (by omega)]
include hn hj hs
theorem sz_names (hv : ∀ k, k < s → isVal (g k) = true) : namesB (prs (wk F g s)) = decide ((s : Int) < 5) := by
  rw [names_prs (fun x hx => nm_of (wk_nm hn hs x hx)), wk_len, decide_eq_true (wk_nd hj hs), wk_all hv, Bool.and_true, Bool.and_true, lt_le]
  rfl
theorem sz_lists (hv : ∀ k, k < s → valsB (g k) = true) : listsB (prs (wk F g s)) = decide ((s : Int) < 3) := by
  rw [lists_prs (fun x hx => nm_of (wk_nm hn hs x hx)), wk_len, decide_eq_true (wk_nd hj hs), wk_all hv, Bool.and_true, Bool.and_true, lt_le]
  rfl
theorem sz_pcs (hv : ∀ k, k < s → kindB (g k) = true) : pcsB ((wk F g s).map fun x => pcE (.str x.1) x.2 e0) = decide ((s : Int) < 4) := by
  rw [pcs_prs (fun x hx => nm_of (wk_nm hn hs x hx)), wk_len, decide_eq_true (wk_nd hj hs), wk_all hv, Bool.and_true, Bool.and_true, lt_le]
  rfl
theorem sz_more {w0 : Str} (h0 : ∀ i, i < 8 → w0 ≠ F i) : (decide ((wk F g s).length ≤ 3) && decide (w0 :: (wk F g s).map (·.1)).Nodup) = decide ((s : Int) < 4) := by
  have : (w0 :: (wk F g s).map (·.1)).Nodup := List.nodup_cons.mpr ⟨fun h => by
    obtain ⟨x, hx, e⟩ := List.mem_map.mp h
    obtain ⟨k, hk, rfl⟩ := List.mem_map.mp hx
    exact h0 k (by have := List.mem_range.mp hk; omega) e.symm, wk_nd hj hs⟩
  rw [decide_eq_true this, wk_len, Bool.and_true, lt_le]
  rfl
theorem sz_prm {n : Str} (h0 : IsNm n) : pcsB [pcE (.str n) (.str "closed") (.tuple (((List.range s).map F).map PyData.str))] = decide ((s : Int) < 3) := by
  unfold pcsB
  rw [rowAll_tup, List.map_cons, List.map_nil, show hdD (pcE (.str n) (.str "closed") (.tuple (((List.range s).map F).map PyData.str))) = .str n from rfl, nodup1, List.all_cons, List.all_nil, pcE_B, nm_of h0,
    show kindB (.str "closed") = true by decide +kernel, unl_ws (fun z hz => by
      obtain ⟨k, hk, rfl⟩ := List.mem_map.mp hz
      exact nm_of (hn k (by have := List.mem_range.mp hk; omega))), decide_eq_true (nodup_of (f := F) fun i j h1 h2 => hj i j h1 (by omega))]
  simp only [List.length_map, List.length_range, List.length_singleton, Bool.true_and, Bool.and_true]
  rw [show decide ((1 : Nat) ≤ 3) = true by decide, Bool.true_and, lt_le]
  rfl
omit hn hj in
theorem sz_scs : rowAll 0 6 scriptB (.tuple (List.replicate s (.tuple [.tuple [.str "flag"], e0]))) = decide ((s : Int) < 7) := by
  rw [rowAll_tup, List.length_replicate]
  have : (List.replicate s (PyData.tuple [.tuple [.str "flag"], e0])).all scriptB = true := by
    rw [List.all_eq_true]
    intro x hx
    rw [List.eq_of_mem_replicate hx]
    decide +kernel
  rw [this, Bool.and_true, lt_le]
  rfl
end
/-- k times the number k: a list that may be -/
theorem vals_rep {k : Nat} (h : k < 8) : valsB (.tuple (List.replicate k (.int k))) = true := by
  unfold valsB
  rw [rowAll_tup, List.length_replicate, decide_eq_true (by omega), Bool.true_and, List.all_eq_true]
  intro x hx
  rw [List.eq_of_mem_replicate hx]
  show inB _ = true
  unfold inB
  simp
  omega
end Fd

set_option Elab.async false
set_option linter.all false
set_option maxRecDepth 100000
set_option maxHeartbeats 1000000
namespace Fd
open PySem PySem.Spec PyProof.Rows L2
/-! ### a list of tuples, piece by piece, as a comprehension makes it -/
theorem Nmd.zero {K : PySem.W.Frag} {H : Hp} {N : Addr} {ds : List PyData} (n : H N = none) : Nmd K H N (ds.take 0) (upd H N (.lst [])) :=
  ⟨same_upd n, ⟨[], upd_same, .nil, Nat.le_refl _⟩, rfl⟩
theorem Nmd.step {K : PySem.W.Frag} {H H1 H5 : Hp} {N : Addr} {ds : List PyData} {i : Nat} {d : PyData} {v : V} (h : Nmd K H N (ds.take i) H1) (nN : H N = none) (s5 : Same H1 H5) (ed : ds[i]? = some d) (dv : Dp K H5 v d) (on : tOn d = true) (hl : ds.length ≤ 1000) :
    ∃ acc, H5 N = some (.lst acc) ∧ acc.length < sizeLine ∧ Nmd K H N (ds.take (i + 1)) (upd H5 N (.lst (acc ++ [v]))) := by
  obtain ⟨ys, h1, h2, h3⟩ := (h.more s5).put nN (.cons dv .nil) (show (tOn d && true) = true by rw [on]; rfl)
  refine ⟨ys, h1, ?_, ?_⟩
  · rw [h2, List.length_take]
    exact small1000 (by omega)
  · rw [List.take_succ, ed]
    exact h3
theorem Nmd.fin {K : PySem.W.Frag} {H H' : Hp} {N : Addr} {ds : List PyData} {n : Nat} (h : Nmd K H N (ds.take n) H') (hn : ds.length ≤ n) : Same H H' ∧ ∃ ys, H' N = some (.lst ys) ∧ DpAll K H' ys ds := by
  obtain ⟨s0, ⟨ys, h1, h2, _⟩, _⟩ := h
  rw [List.take_of_length_le hn] at h2
  exact ⟨s0, ys, h1, dpAll_same (rmL_sub (as := [N])) _ _ h2⟩
/-- tuple(of such a list) -/
theorem tup_of {K : PySem.W.Frag} {H : Hp} {l : Addr} {ys : List V} {ds : List PyData} (nl : H l = none) (h : DpAll K H ys ds) : Dp K (upd H l (.tup ys)) (.ref l) (.tuple ds) :=
  .tup (SqT.of upd_same) (dpAll_same (same_upd nl) _ _ h)
end Fd

set_option Elab.async false
set_option linter.all false
set_option maxRecDepth 100000
set_option maxHeartbeats 1000000
namespace Fd
open PySem PySem.Spec PyProof.Rows L2
/-! ### alike ones -/
section
variable {w0 x1 x2 : Str} (n0 : IsNm w0) (n1 : IsNm x1) (n2 : IsNm x2) (ne : w0 ≠ x1)
include n1 n2 in
theorem al1 (g : Nat → PyData) : namesB (prs [(x1, g 0), (x2, g 1), (x1, g 2)]) = false := by
  rw [names_prs (fun x hx => by
    simp at hx
    rcases hx with rfl | rfl | rfl
    · exact nm_of n1
    · exact nm_of n2
    · exact nm_of n1)]
  simp
include n1 in
theorem al2 (a b : PyData) : namesB (prs [(x1, a), (x1, b)]) = false := by
  rw [names_prs (fun x hx => by
    simp at hx
    rcases hx with rfl | rfl <;> exact nm_of n1)]
  simp
include n1 in
theorem al3 (a b : PyData) : listsB (prs [(x1, a), (x1, b)]) = false := by
  rw [lists_prs (fun x hx => by
    simp at hx
    rcases hx with rfl | rfl <;> exact nm_of n1)]
  simp
include n1 n2 in
theorem al5 (a b c : PyData) : pcsB [pcE (.str x1) a e0, pcE (.str x2) b e0, pcE (.str x1) c e0] = false := by
  rw [show [pcE (.str x1) a e0, pcE (.str x2) b e0, pcE (.str x1) c e0] = [(x1, a), (x2, b), (x1, c)].map fun x => pcE (.str x.1) x.2 e0 from rfl, pcs_prs (fun x hx => by
    simp at hx
    rcases hx with rfl | rfl | rfl
    · exact nm_of n1
    · exact nm_of n2
    · exact nm_of n1)]
  simp
include n1 n2 in
theorem al6 (k : PyData) : pcsB [pcE (.str x1) k (.tuple [.str x2, .str x2])] = false := by
  unfold pcsB
  rw [rowAll_tup, List.all_cons, pcE_B, show unlNm [.str x2, .str x2] = decide [x2, x2].Nodup from unl_ws (ws := [x2, x2]) (fun z hz => by
    simp at hz
    subst hz
    exact nm_of n2)]
  simp
theorem al7 (sp : PyData) : (decide ([(w0, sp)].length ≤ 3) && decide (w0 :: [(w0, sp)].map (·.1)).Nodup) = false := by simp
include n0 n1 ne in
/-- one NAME in several tuples -/
theorem al8 : isPlay (mkW (.str w0) o3 (prs [(x1, .int 1)]) (prs [(x1, e0)]) (.tuple [pcE (.str x1) (.str "open") e0]) (.tuple [.tuple [.tuple [.str "news", .str x1], e0], .tuple [.tuple [.str "key", .str x1], e0]]) s32 (prs [(x1, .int 1)]) (prs [(x1, e0)]) [figE (.str x1) o3]) = true := by
  have hm : ∀ (d : PyData), ∀ x ∈ [(x1, d)], isNm (.str x.1) = true := fun d x hx => by
    obtain rfl := List.mem_singleton.mp hx
    exact nm_of n1
  have a1 : namesB (prs [(x1, .int 1)]) = true := by
    rw [names_prs (hm _)]
    simp
    decide +kernel
  have a2 : listsB (prs [(x1, e0)]) = true := by
    rw [lists_prs (hm _)]
    simp
    decide +kernel
  have a3 : rowAll 0 3 pieceB (.tuple [pcE (.str x1) (.str "open") e0]) = true := by
    rw [rowAll_tup, List.all_cons, List.all_nil, pcE_B, nm_of n1, show kindB (.str "open") = true by decide +kernel, show unlNm [] = true by decide +kernel]
    rfl
  have a4 : rowAll 0 6 scriptB (.tuple [.tuple [.tuple [.str "news", .str x1], e0], .tuple [.tuple [.str "key", .str x1], e0]]) = true := by
    rw [rowAll_tup, List.all_cons, List.all_cons, List.all_nil]
    show (true && ((hatB _ && innerB 4 e0) && ((hatB _ && innerB 4 e0) && true))) = true
    rw [hat_nm (by decide +kernel) (nm_of n1), hat_nm (by decide +kernel) (nm_of n1), c_in]
    rfl
  rw [pl_all (nm_of n0), c_size, c_spot, a1, a2, a3, a4, List.all_cons, List.all_nil, figE_B, nm_of n1, c_spot, show nodupB ((items (.tuple [pcE (.str x1) (.str "open") e0])).map hdD) = true from nodup1 x1, List.all_cons, List.all_nil, there0]
  have : nodupB [.str w0, .str x1] = true := by
    show decide [w0, x1].Nodup = true
    simp [ne]
  rw [show nodupB (.str w0 :: [figE (.str x1) o3].map hdD) = true from this]
  rfl
end
end Fd

set_option Elab.async false
set_option linter.all false
set_option maxRecDepth 100000
set_option maxHeartbeats 1000000
namespace Fd
open PySem PySem.Spec PyProof.Rows L2
abbrev sayB (x : Str) : PyData := .tuple [.tuple [.str "say", .tuple [.str "name", .str x]]]
theorem say_in {x1 : Str} (n1 : IsNm x1) : innerB 4 (sayB x1) = true := by
  have h : isPart 6 "look" (.tuple [.str "name", .str x1]) = true := (part_lk 6 (.name x1) n1).trans (by show decide ((1 : Nat) ≤ 6) = true; decide)
  show (decide ((1 : Nat) ≤ 8) && ([PyData.tuple [.str "say", .tuple [.str "name", .str x1]]].all (deedB (innerB 3)))) = true
  rw [List.all_cons, List.all_nil]
  have hd : deedB (innerB 3) (.tuple [.str "say", .tuple [.str "name", .str x1]]) = true := by
    unfold deedB
    dsimp only
    rw [show gD "say" = some (["look"] : List Str) by decide +kernel]
    show (decide ((1 : Nat) = 1) && (dpB (innerB 3) "look" (.tuple [.str "name", .str x1]) && true)) = true
    unfold dpB
    rw [if_pos (by decide +kernel), h]
    rfl
  rw [hd]
  rfl
theorem say_nin {x1 : Str} : nin 4 (sayB x1) = [.tuple [.str "name", .str x1]] := by
  show ([PyData.tuple [.str "say", .tuple [.str "name", .str x1]]].flatMap (ndeed (nin 3))) = _
  rw [List.flatMap_cons, List.flatMap_nil, List.append_nil]
  rw [ndeed_tup (show gD "say" = some (["look"] : List Str) by decide +kernel), if_neg (by decide +kernel), List.nil_append]
  show ([((PyData.tuple [.str "name", .str x1]), ("look" : Str))].flatMap fun p => nby (nin 3) p.2 p.1) = _
  rw [List.flatMap_cons, List.flatMap_nil, List.append_nil]
  show nby (nin 3) "look" (.tuple [.str "name", .str x1]) = _
  unfold nby
  rw [if_neg (by decide +kernel), if_neg (by decide +kernel), if_pos (by decide +kernel)]
  rw [nms_tup (by decide +kernel) (show gP ["look", "name"] = some (["name"] : List Str) by decide +kernel)]
  show ([((PyData.str x1), ("name" : Str))].flatMap fun p => nmsIn 5 p.2 p.1) = _
  rw [List.flatMap_cons, List.flatMap_nil, List.append_nil]
  rfl
/-- a piece that says its own param -/
theorem al9 {w0 x1 x2 : Str} (n0 : IsNm w0) (n1 : IsNm x1) (n2 : IsNm x2) (ne : x1 ≠ x2) : isPlay (mkW (.str w0) o3 (prs [(x1, .int 1)]) e0 (.tuple [.tuple [.str x1, .str "closed", .tuple [.str x1, .str x2], sayB x1]]) e0 s32 e0 e0 []) = true := by
  have a1 : namesB (prs [(x1, .int 1)]) = true := by
    rw [names_prs (fun x hx => by obtain rfl := List.mem_singleton.mp hx; exact nm_of n1)]
    simp
    decide +kernel
  have hp : pieceB (.tuple [.str x1, .str "closed", .tuple [.str x1, .str x2], sayB x1]) = true := by
    show (isNm (.str x1) && (kindB (.str "closed") && (innerB 4 (sayB x1) && (rowB 0 2 (.tuple [.str x1, .str x2]) && unlNm [.str x1, .str x2])))) = true
    rw [nm_of n1, say_in n1, show kindB (.str "closed") = true by decide +kernel, show unlNm [.str x1, .str x2] = decide [x1, x2].Nodup from unl_ws (ws := [x1, x2]) (fun z hz => by
      simp at hz
      rcases hz with rfl | rfl
      · exact nm_of n1
      · exact nm_of n2)]
    simp [ne]
    rfl
  have a3 : rowAll 0 3 pieceB (.tuple [.tuple [.str x1, .str "closed", .tuple [.str x1, .str x2], sayB x1]]) = true := by
    rw [rowAll_tup, List.all_cons, List.all_nil, hp]
    rfl
  rw [pl_all (nm_of n0), c_size, c_spot, c_names, c_lists, c_scs, a1, a3, show nodupB ((items (.tuple [.tuple [.str x1, .str "closed", .tuple [.str x1, .str x2], sayB x1]])).map hdD) = true from nodup1 x1, show nodupB (.str w0 :: ([] : List PyData).map hdD) = true from nodup1 w0]
  have ht : thereB (mkW (.str w0) o3 (prs [(x1, .int 1)]) e0 (.tuple [.tuple [.str x1, .str "closed", .tuple [.str x1, .str x2], sayB x1]]) e0 s32 e0 e0 []) (.tuple [.str w0, o3, prs [(x1, .int 1)], e0, .tuple [.tuple [.str x1, .str "closed", .tuple [.str x1, .str x2], sayB x1]], e0]) = true := by
    show (((nin 4 (sayB x1)).all _ && true) && true) = true
    rw [say_nin, Bool.and_true, Bool.and_true, List.all_cons, List.all_nil, Bool.and_true]
    show ((Scd.at _ "name").any fun z => PyData.eqv z (.str x1)) = true
    unfold Scd.at
    rw [if_pos rfl]
    show (PyData.eqv (.str x1) (.str x1) || _) = true
    rw [show PyData.eqv (.str x1) (.str x1) = true from beq_self_eq_true x1]
    rfl
  rw [ht]
  rfl
end Fd

set_option Elab.async false
set_option linter.all false
set_option maxRecDepth 100000
set_option maxHeartbeats 1000000
namespace Fd
open PySem PySem.Spec PyProof.Rows L2
/-! ### numbers at their bounds -/
section
variable {x1 : Str} (n1 : IsNm x1)
include n1
theorem nu_one {d : PyData} : ∀ x ∈ [(x1, d)], isNm (.str x.1) = true := fun x hx => by
  obtain rfl := List.mem_singleton.mp hx
  exact nm_of n1
theorem nu_names (d : PyData) : namesB (prs [(x1, d)]) = isVal d := by
  rw [names_prs (nu_one n1)]
  simp
theorem nu_lists (d : PyData) : listsB (prs [(x1, d)]) = valsB d := by
  rw [lists_prs (nu_one n1)]
  simp
theorem nu_l1 (d : PyData) : listsB (prs [(x1, .tuple [d])]) = isVal d := by
  rw [nu_lists n1]
  unfold valsB
  rw [rowAll_tup]
  simp
theorem nu_l2 (d : PyData) : listsB (prs [(x1, .tuple [.int 1, d])]) = isVal d := by
  rw [nu_lists n1]
  unfold valsB
  rw [rowAll_tup, List.all_cons, show isVal (.int 1) = true by decide +kernel]
  simp
theorem nu_rep (s : Nat) : listsB (prs [(x1, .tuple (List.replicate s (.int 0)))]) = decide ((s : Int) < 9) := by
  rw [nu_lists n1]
  unfold valsB
  rw [rowAll_tup, List.length_replicate]
  have : (List.replicate s (PyData.int 0)).all isVal = true := by
    rw [List.all_eq_true]
    intro x hx
    rw [List.eq_of_mem_replicate hx]
    decide +kernel
  rw [this, Bool.and_true, lt_le]
  rfl
end
theorem nu_size {a b : Int} (h1 : 1 ≤ a) (h2 : a ≤ 20) (h3 : 1 ≤ b) (h4 : b ≤ 20) : sizeB (.tuple [.int a, .int b]) = true := by
  show ((true && true) && (ftB 1 20 (.int a) && (ftB 1 20 (.int b) && true))) = true
  unfold ftB
  simp
  omega
theorem nu_spot {a b x y t : Int} : spotB a b (.tuple [.int x, .int y, .int t]) = ((decide (0 ≤ x) && decide (x < a)) && ((decide (0 ≤ y) && decide (y < b)) && (decide (0 ≤ t) && decide (t < 4)))) := by
  show (true && (ftB 0 (a - 1) (.int x) && (ftB 0 (b - 1) (.int y) && (ftB 0 (4 - 1) (.int t) && true)))) = _
  unfold ftB
  have e : ∀ x a : Int, decide (x ≤ a - 1) = decide (x < a) := fun x a => by
    by_cases c : x < a
    · rw [decide_eq_true c, decide_eq_true (by omega)]
    · rw [decide_eq_false c, decide_eq_false (by omega)]
  rw [Bool.true_and, Bool.and_true]
  dsimp only
  rw [e, e, e]
end Fd

set_option Elab.async false
set_option linter.all false
set_option maxRecDepth 100000
set_option maxHeartbeats 1000000
namespace Fd
open PySem PySem.Spec PyProof.Rows L2
/-- the nine names: the first, and eight by their number -/
theorem names9 {ws : List Str} (l9 : ws.length = 9) (nd : ws.Nodup) (nm : ∀ z ∈ ws, IsNm z) : ∃ (w0 : Str) (F : Nat → Str), ws = w0 :: (List.range 8).map F ∧ IsNm w0 ∧ (∀ i, i < 8 → IsNm (F i)) ∧ (∀ i j, i < j → j < 8 → F i ≠ F j) ∧ ∀ i, i < 8 → w0 ≠ F i := by
  cases ws with
  | nil => cases l9
  | cons w0 us =>
    have l8 : us.length = 8 := by simpa using l9
    have hu : ∀ i, i < 8 → us[i]? = some (us.getD i "") := fun i hi => by
      rw [List.getD_eq_getElem?_getD, List.getElem?_eq_getElem (by omega)]
      rfl
    have mu : ∀ i, i < 8 → us.getD i "" ∈ us := fun i hi => List.mem_of_getElem? (hu i hi)
    have nd2 := List.nodup_cons.mp nd
    refine ⟨w0, fun i => us.getD i "", ?_, nm w0 (List.mem_cons_self ..), fun i hi => nm _ (List.mem_cons_of_mem _ (mu i hi)), fun i j hij hj e => ?_, fun i hi e => nd2.1 (e ▸ mu i hi)⟩
    · congr 1
      refine List.ext_getElem? fun i => ?_
      by_cases h : i < 8
      · rw [hu i h, List.getElem?_map, List.getElem?_range h]
        rfl
      · rw [List.getElem?_eq_none (by omega), List.getElem?_eq_none (by simp; omega)]
    · have a := hu i (by omega)
      have b := hu j hj
      dsimp only at e
      rw [e, ← b] at a
      have h1 := List.pairwise_iff_getElem.mp nd2.2 i j (by omega) (by omega) hij
      rw [List.getElem?_eq_getElem (by omega), List.getElem?_eq_getElem (by omega)] at a
      exact h1 (Option.some.inj a)
theorem ix9 {w0 : Str} {F : Nat → Str} {k : Nat} (h : k < 8) : (V.str w0 :: ((List.range 8).map F).map V.str)[k + 1]? = some (.str (F k)) := by
  rw [List.getElem?_cons_succ, List.getElem?_map, List.getElem?_map, List.getElem?_range h]
  rfl
end Fd

set_option Elab.async false
set_option linter.all false
set_option maxRecDepth 100000
set_option maxHeartbeats 1000000
namespace Fd
open PySem PySem.Spec PyProof.Rows L2
theorem dpAll_rep {K : PySem.W.Frag} {H : Hp} {v : V} {d : PyData} (h : Dp K H v d) : ∀ j : Nat, DpAll K H (List.replicate j [v]).flatten (List.replicate j d)
  | 0 => .nil
  | j + 1 => by
    rw [List.replicate_succ, List.replicate_succ, List.flatten_cons]
    exact .cons h (dpAll_rep h j)
/-- (v,) * j as data -/
theorem repD {K : PySem.W.Frag} {H : Hp} {t : Addr} {v : V} {d : PyData} {j : Nat} {Q : VK} (ht : SqT K H t [v]) (dv : Dp K H v d) (hj : j ≤ 1000) (q : ∀ p H', Same H H' → Dp K H' p (.tuple (List.replicate j d)) → Q p H') : Fw.rRepZ K (.ref t) (.int j) H Q :=
  ⟨t, j, [v], rfl, rfl, ht, (by simp), hj, (by show 1 ≤ 1000; decide), (fun e => q _ _ (Same.refl _) (by rw [e]; exact .tup ht (.cons dv .nil))), fun _ p np => q _ _ (same_upd np) (.tup (SqT.of upd_same) (dpAll_same (same_upd np) _ _ (dpAll_rep dv j)))⟩
end Fd

set_option Elab.async false
set_option linter.all false
set_option maxRecDepth 100000
set_option maxHeartbeats 1000000
namespace Fd
open PySem PySem.Spec PyProof.Rows L2
theorem on_rep {i : Int} : ∀ j : Nat, tOns (List.replicate j (PyData.int i)) = true
  | 0 => rfl
  | j + 1 => on_rep j
theorem it_map {F : Nat → Str} {g : Nat → PyData} {f : Str × PyData → PyData} {s j : Nat} (h : j < s) : ((wk F g s).map f)[j]? = some (f (F j, g j)) := by
  unfold wk
  rw [List.getElem?_map, List.getElem?_map, List.getElem?_range h]
  rfl
theorem it_maplen {F : Nat → Str} {g : Nat → PyData} {f : Str × PyData → PyData} {s : Nat} : ((wk F g s).map f).length = s := by
  rw [List.length_map, wk_len]
theorem okt_wk {n s : Nat} {F : Nat → Str} {g : Nat → PyData} {f : Str × PyData → PyData} (hs : s ≤ 7) (h : ∀ k, k < s → OkT 3 n (f (F k, g k))) : OkT 3 (n + 1) (.tuple ((wk F g s).map f)) :=
  okt_all (by rw [it_maplen]; omega) fun d hd => by
    obtain ⟨x, hx, rfl⟩ := List.mem_map.mp hd
    obtain ⟨k, hk, rfl⟩ := List.mem_map.mp hx
    exact h k (List.mem_range.mp hk)
theorem catB {H : Hp} {l b : Addr} {bs cs : List Bool} {Q : VK} (h1 : H l = some (.lst (bs.map V.bl))) (h2 : H b = some (.lst (cs.map V.bl))) (hl : bs.length + cs.length ≤ 1000) (q : ∀ p H', Same H H' → H' p = some (.lst ((bs ++ cs).map V.bl)) → Q (.ref p) H') : rCat (.ref l) (.ref b) H Q :=
  ⟨l, b, _, _, rfl, rfl, h1, h2, by rw [List.length_map, List.length_map]; exact Nat.le_of_lt (small1000 hl), fun p np => q p _ (same_upd np) (by rw [List.map_append]; exact upd_same)⟩
theorem cut_from (xs : List V) (m n : Nat) (h : n ≤ xs.length) (hm : m ≤ n) : cutV xs (some (m : Int)) (some (n : Int)) = (xs.drop m).take (n - m) := by
  rw [cut_mid, Nat.min_eq_left h, Nat.min_eq_left (by omega)]
theorem dpStrs {K : PySem.W.Frag} {H : Hp} : ∀ ws : List Str, DpAll K H (ws.map V.str) (ws.map PyData.str)
  | [] => .nil
  | z :: r => .cons (.str z) (dpStrs r)
theorem md3 (k : Nat) : spotB 3 2 (.tuple [.int ((0 + (k : Int)) % 3), .int 0, .int 0]) = true := by
  rw [nu_spot]
  simp
  omega
theorem it_wk {F : Nat → Str} {g : Nat → PyData} {s j : Nat} (h : j < s) : (items (prs (wk F g s)))[j]? = some (.tuple [.str (F j), g j]) := by
  show ((wk F g s).map _)[j]? = _
  unfold wk
  rw [List.getElem?_map, List.getElem?_map, List.getElem?_range h]
  rfl
theorem it_len {F : Nat → Str} {g : Nat → PyData} {s : Nat} : (items (prs (wk F g s))).length = s := by
  show ((wk F g s).map _).length = _
  rw [List.length_map, wk_len]
section
variable {P : Program} {w : World} {K : PySem.W.Frag} {mg : Str → Option Value} {base : Heap} {f : Addr} {fd : FuncData}
abbrev sZs : Stmt := top 66
theorem scZs : FnScope ["_law_n", "_law_told", "_law_dues", "_law_size", "_law_some", "_law_lists", "_law_pieces", "_law_more", "_law_params", "_law_scripts", "_law_k"] ["_law_n"] (defScope sZs) := ⟨rfl, rfl, rfl, by decide +kernel, rfl, by decide +kernel, by decide +kernel⟩
theorem ok_zs {k : Nat} (F : Fun K "_law_sizes_right" "_law_sizes_right" sZs f fd) (GW : FnG P w K mg base CX0 k "_law_with" ["_law_n", "_law_changes"] (spWith K)) (m_tuple : mg "tuple" = none) (m_range : mg "range" = none) :
    FnOk P w K mg base CX0 (k + 1) f fd ["_law_n"] (spOf K) := by
  obtain ⟨_, _, G__law_with, m__law_with, k__law_with, b__law_with⟩ := GW
  have sc := scZs
  refine F.ok sc (fun vs H Q E h => ?_) (fun cdv A outer s H vs Q E hr h => ?_)
  · obtain ⟨l, ws, rfl, _⟩ := h
    rfl
  obtain ⟨l, ws, rfl, hl, l9, nd, nm, q⟩ := h
  refine ⟨_, (pss_cons (ps_par (i := 1) (j := 2) (by rfl) sc.nd rfl rfl (by decide) rfl rfl (pa_cons (pe_lst pa_nil) (pa_cons (pe_lst pa_nil) pa_nil)) (by rfl))
      (pss_cons (ps_for PassesOwn.never rfl (pi_range1 (by rfl) m_range (pa_cons pe_int pa_nil)) (pg_name (i := 3) sc.nd rfl (.inl rfl)) (pss_cons (ps_set (i := 4) sc.nd rfl (.inl rfl) (pe_callTy call_tuple_of (by rfl) m_tuple (by decide +kernel) (pa_cons (pe_lc (own := [("_law_k", 10)]) (by rfl) sc.nd  (pi_range1 (by rfl) m_range (pa_cons (pv 3) pa_nil)) (blkOk_by (own := [("_law_k", 10)]) (N := ["_law_n", "_law_told", "_law_dues", "_law_size", "_law_some", "_law_lists", "_law_pieces", "_law_more", "_law_params", "_law_scripts", "_law_k"]) (sc := defScope sZs) (by decide +kernel)) (fun _ _ _ _ _ => (pg_name (i := 10) sc.nd rfl (.inl rfl))) (fun _ _ _ _ _ => pts_nil) (fun _ _ _ _ _ => (pe_tup (pa_cons (pe_ix (show IxR _ (rIxL K) from ix_list) (pv 0) (pe_op op_add pe_int (pv 10)) (fun _ _ => rfl)) (pa_cons (pv 10) pa_nil))))) pa_nil)))
      (pss_cons (ps_set (i := 5) sc.nd rfl (.inl rfl) (pe_callTy call_tuple_of (by rfl) m_tuple (by decide +kernel) (pa_cons (pe_lc (own := [("_law_k", 10)]) (by rfl) sc.nd  (pi_range1 (by rfl) m_range (pa_cons (pv 3) pa_nil)) (blkOk_by (own := [("_law_k", 10)]) (N := ["_law_n", "_law_told", "_law_dues", "_law_size", "_law_some", "_law_lists", "_law_pieces", "_law_more", "_law_params", "_law_scripts", "_law_k"]) (sc := defScope sZs) (by decide +kernel)) (fun _ _ _ _ _ => (pg_name (i := 10) sc.nd rfl (.inl rfl))) (fun _ _ _ _ _ => pts_nil) (fun _ _ _ _ _ => (pe_tup (pa_cons (pe_ix (show IxR _ (rIxL K) from ix_list) (pv 0) (pe_op op_add pe_int (pv 10)) (fun _ _ => rfl)) (pa_cons (pe_op (show OpR _ _ (Fw.rRepZ K) from Fw.op_repZ) (pe_tup (pa_cons (pv 10) pa_nil)) (pv 10)) pa_nil))))) pa_nil)))
      (pss_cons (ps_set (i := 6) sc.nd rfl (.inl rfl) (pe_callTy call_tuple_of (by rfl) m_tuple (by decide +kernel) (pa_cons (pe_lc (own := [("_law_k", 10)]) (by rfl) sc.nd  (pi_range1 (by rfl) m_range (pa_cons (pv 3) pa_nil)) (blkOk_by (own := [("_law_k", 10)]) (N := ["_law_n", "_law_told", "_law_dues", "_law_size", "_law_some", "_law_lists", "_law_pieces", "_law_more", "_law_params", "_law_scripts", "_law_k"]) (sc := defScope sZs) (by decide +kernel)) (fun _ _ _ _ _ => (pg_name (i := 10) sc.nd rfl (.inl rfl))) (fun _ _ _ _ _ => pts_nil) (fun _ _ _ _ _ => (pe_tup (pa_cons (pe_ix (show IxR _ (rIxL K) from ix_list) (pv 0) (pe_op op_add pe_int (pv 10)) (fun _ _ => rfl)) (pa_cons pe_str (pa_cons (pe_tup pa_nil) (pa_cons (pe_tup pa_nil) pa_nil))))))) pa_nil)))
      (pss_cons (ps_set (i := 7) sc.nd rfl (.inl rfl) (pe_callTy call_tuple_of (by rfl) m_tuple (by decide +kernel) (pa_cons (pe_lc (own := [("_law_k", 10)]) (by rfl) sc.nd  (pi_range1 (by rfl) m_range (pa_cons (pv 3) pa_nil)) (blkOk_by (own := [("_law_k", 10)]) (N := ["_law_n", "_law_told", "_law_dues", "_law_size", "_law_some", "_law_lists", "_law_pieces", "_law_more", "_law_params", "_law_scripts", "_law_k"]) (sc := defScope sZs) (by decide +kernel)) (fun _ _ _ _ _ => (pg_name (i := 10) sc.nd rfl (.inl rfl))) (fun _ _ _ _ _ => pts_nil) (fun _ _ _ _ _ => (pe_tup (pa_cons (pe_ix (show IxR _ (rIxL K) from ix_list) (pv 0) (pe_op op_add pe_int (pv 10)) (fun _ _ => rfl)) (pa_cons (pe_tup (pa_cons (pe_op op_mod (pv 10) pe_int) (pa_cons pe_int (pa_cons pe_int pa_nil)))) (pa_cons (pe_tup pa_nil) (pa_cons (pe_tup pa_nil) (pa_cons (pe_tup pa_nil) (pa_cons (pe_tup pa_nil) pa_nil))))))))) pa_nil)))
      (pss_cons (ps_set (i := 1) sc.nd rfl (.inl rfl) (pe_op op_cat (pv 1) (pe_lst (pa_cons (pe_call G__law_with (hr.mono (by omega)) (by rfl) m__law_with k__law_with b__law_with .nil pass0 (pa_cons (pv 0) (pa_cons (pe_disp (pps_cons pe_str (pv 4) pps_nil) rfl rfl (by decide) (by decide)) pa_nil))) (pa_cons (pe_call G__law_with (hr.mono (by omega)) (by rfl) m__law_with k__law_with b__law_with .nil pass0 (pa_cons (pv 0) (pa_cons (pe_disp (pps_cons pe_str (pv 4) pps_nil) rfl rfl (by decide) (by decide)) pa_nil))) (pa_cons (pe_call G__law_with (hr.mono (by omega)) (by rfl) m__law_with k__law_with b__law_with .nil pass0 (pa_cons (pv 0) (pa_cons (pe_disp (pps_cons pe_str (pv 5) pps_nil) rfl rfl (by decide) (by decide)) pa_nil))) pa_nil))))))
      (pss_cons (ps_set (i := 1) sc.nd rfl (.inl rfl) (pe_op op_cat (pv 1) (pe_lst (pa_cons (pe_call G__law_with (hr.mono (by omega)) (by rfl) m__law_with k__law_with b__law_with .nil pass0 (pa_cons (pv 0) (pa_cons (pe_disp (pps_cons pe_str (pv 5) pps_nil) rfl rfl (by decide) (by decide)) pa_nil))) (pa_cons (pe_call G__law_with (hr.mono (by omega)) (by rfl) m__law_with k__law_with b__law_with .nil pass0 (pa_cons (pv 0) (pa_cons (pe_disp (pps_cons pe_str (pv 6) pps_nil) rfl rfl (by decide) (by decide)) pa_nil))) (pa_cons (pe_call G__law_with (hr.mono (by omega)) (by rfl) m__law_with k__law_with b__law_with .nil pass0 (pa_cons (pv 0) (pa_cons (pe_disp (pps_cons pe_str (pv 7) pps_nil) rfl rfl (by decide) (by decide)) pa_nil))) pa_nil))))))
      (pss_cons (ps_set (i := 2) sc.nd rfl (.inl rfl) (pe_op op_cat (pv 2) (pe_lst (pa_cons (pe_cmpR op_lt (pv 3) pe_int (nomark _)) (pa_cons (pe_cmpR op_lt (pv 3) pe_int (nomark _)) (pa_cons (pe_cmpR op_lt (pv 3) pe_int (nomark _)) (pa_cons (pe_cmpR op_lt (pv 3) pe_int (nomark _)) (pa_cons (pe_cmpR op_lt (pv 3) pe_int (nomark _)) (pa_cons (pe_cmpR op_lt (pv 3) pe_int (nomark _)) pa_nil)))))))))
      (pss_cons (ps_set (i := 8) sc.nd rfl (.inl rfl) (pe_tup (pa_cons (pe_tup (pa_cons (pe_ix (show IxR _ (rIxL K) from ix_list) (pv 0) pe_int (fun _ _ => rfl)) (pa_cons pe_str (pa_cons (pe_callTy call_tuple_of (by rfl) m_tuple (by decide +kernel) (pa_cons (pe_slice sl_list (pv 0) (po_some pe_int) (po_some (pe_op op_add pe_int (pv 3)))) pa_nil)) (pa_cons (pe_tup pa_nil) pa_nil))))) pa_nil)))
      (pss_cons (ps_set (i := 9) sc.nd rfl (.inl rfl) (pe_op (show OpR _ _ (Fw.rRepZ K) from Fw.op_repZ) (pe_tup (pa_cons (pe_tup (pa_cons (pe_tup (pa_cons pe_str pa_nil)) (pa_cons (pe_tup pa_nil) pa_nil))) pa_nil)) (pv 3)))
      (pss_cons (ps_set (i := 1) sc.nd rfl (.inl rfl) (pe_op op_cat (pv 1) (pe_lst (pa_cons (pe_call G__law_with (hr.mono (by omega)) (by rfl) m__law_with k__law_with b__law_with .nil pass0 (pa_cons (pv 0) (pa_cons (pe_disp (pps_cons pe_str (pv 8) pps_nil) rfl rfl (by decide) (by decide)) pa_nil))) (pa_cons (pe_call G__law_with (hr.mono (by omega)) (by rfl) m__law_with k__law_with b__law_with .nil pass0 (pa_cons (pv 0) (pa_cons (pe_disp (pps_cons pe_str (pv 9) pps_nil) rfl rfl (by decide) (by decide)) pa_nil))) pa_nil)))))
      (pss_one (ps_set (i := 2) sc.nd rfl (.inl rfl) (pe_op op_cat (pv 2) (pe_lst (pa_cons (pe_cmpR op_lt (pv 3) pe_int (nomark _)) (pa_cons (pe_cmpR op_lt (pv 3) pe_int (nomark _)) pa_nil)))))))))))))))))
      (pss_one (ps_ret (pe_cmpR (op_eqD hr.units) (pv 1) (pv 2) (nomark _)))))), ?_⟩
  obtain ⟨w0, F, rfl, n0, hn, hj, h0⟩ := names9 l9 nd nm
  replace hl : SqL K H l (.str w0 :: ((List.range 8).map F).map V.str) := SqL.of hl
  have z0 : 0 ≤ sizeLine := by decide
  have z1 : 1 ≤ sizeLine := by decide
  have z2 : 2 ≤ sizeLine := by decide
  have z3 : 3 ≤ sizeLine := by decide
  have z4 : 4 ≤ sizeLine := by decide
  have z6 : 6 ≤ sizeLine := by decide
  refine ⟨z0, fun lt np => ?_⟩
  have s0 := same_upd (o := .lst []) np
  have et : (upd H lt (.lst [])) lt = some (.lst []) := upd_same
  generalize upd H lt (.lst []) = G1 at *
  refine ⟨z0, fun ld np' => ?_⟩
  have s1 := same_upd (o := .lst []) np'
  have ed : (upd G1 ld (.lst [])) ld = some (.lst []) := upd_same
  replace et := s1 _ _ et
  replace s0 := s0.trans s1
  generalize upd G1 ld (.lst []) = G2 at *
  clear s1 np np'
  refine ⟨_, _, rfl, 8, rfl, by decide, by decide, for_it walk_range (fun i σ H' => Same H H' ∧ ∃ lt ld bs, H' lt = some (.lst (bs.map V.bl)) ∧ H' ld = some (.lst (bs.map V.bl)) ∧ bs.length = 8 * i ∧ ∃ o3 o4 o5 o6 o7 o8 o9 o10, σ = [some (.ref l), some (.ref lt), some (.ref ld), o3, o4, o5, o6, o7, o8, o9, o10]) ⟨s0, lt, ld, [], et, ed, rfl, _, _, _, _, _, _, _, _, rfl⟩ (fun _ _ _ _ _ => trivial) ?_ ?_⟩
  · rintro s v σ _ HA hi ⟨sA, lt, ld, bs, et, ed, lb, o3, o4, o5, o6, o7, o8, o9, o10, rfl⟩ ⟨rfl, ey⟩
    obtain rfl := ey.trans (congrArg V.int (Int.zero_add _))
    replace hi : s < 8 := hi
    have hs : s ≤ 7 := by omega
    refine ⟨_, rfl, s, rfl, by omega, by omega, fun D nD => lc_it walk_range (fun j H' => Nmd K HA D ((items (prs (wk F (fun k => .int k) s))).take j) H') (Nmd.zero nD) (fun _ _ _ _ => trivial) ?_ ?_⟩
    · rintro j v _ HB hj' nm ⟨rfl, rfl⟩
      replace hj' : j < s := hj'
      refine ⟨rfl, ?_⟩
      unfold tYes
      refine iteT ⟨_, rfl, _, rfl, _, _, rfl, rfl, l, _, 1 + (0 + (j : Int)), _, rfl, rfl, (sA.trans nm.same).seq hl, (by rw [show (1 + (0 + (j : Int))) = ((j + 1 : Nat) : Int) by omega]; exact atI_nat (ix9 (by omega))), _, rfl, z2, fun t np => ?_⟩
      refine nm.step (d := .tuple [.str (F j), .int j]) nD (same_upd np) (it_wk hj') (.tup (SqT.of upd_same) (.cons (.str _) (.cons ?_ .nil))) rfl (by rw [it_len]; omega)
      show Dp K _ (.int (0 + (j : Int))) _
      rw [Int.zero_add]
      exact .int _
    · rintro H1 nm
      obtain ⟨s1, ys, hD, dy⟩ := nm.fin (by rw [it_len]; show s ≤ (s : Int).toNat; omega)
      refine ⟨D, ys, rfl, .inl ⟨SqL.of hD, fun t4 np => ?_⟩⟩
      have d4 := tup_of np dy
      replace s1 := s1.trans (same_upd (o := .tup ys) np)
      generalize upd H1 t4 (.tup ys) = G4 at *
      clear nm dy hD np
      replace et := s1 _ _ et
      replace ed := s1 _ _ ed
      replace s1 := sA.trans s1
      clear sA
      refine ⟨_, rfl, s, rfl, by omega, by omega, fun D nD => lc_it walk_range (fun j H' => Nmd K G4 D ((items (prs (wk F (fun k => .tuple (List.replicate k (.int k))) s))).take j) H') (Nmd.zero nD) (fun _ _ _ _ => trivial) ?_ ?_⟩
      · rintro j v _ HB hj' nm ⟨rfl, rfl⟩
        replace hj' : j < s := hj'
        refine ⟨rfl, ?_⟩
        unfold tYes
        refine iteT ⟨_, rfl, _, rfl, _, _, rfl, rfl, l, _, 1 + (0 + (j : Int)), _, rfl, rfl, (s1.trans nm.same).seq hl, (by rw [show (1 + (0 + (j : Int))) = ((j + 1 : Nat) : Int) by omega]; exact atI_nat (ix9 (by omega))), _, rfl, z1, fun t np => ?_⟩
        have y1 := same_upd (o := .tup [.int (0 + (j : Int))]) np
        have f1 : (upd HB t (.tup [.int (0 + (j : Int))])) t = some (.tup [.int (0 + (j : Int))]) := upd_same
        generalize hJ : upd HB t (.tup [.int (0 + (j : Int))]) = J1 at *
        refine ⟨_, rfl, ?_⟩
        rw [Int.zero_add] at f1
        show Fw.rRepZ K (.ref t) (.int (0 + (j : Int))) J1 _
        rw [show (0 + (j : Int)) = j from Int.zero_add _]
        refine repD (SqT.of f1) (.int _) (by omega) fun p HC sC dC => ⟨z2, fun t' np' => ?_⟩
        refine nm.step (d := .tuple [.str (F j), .tuple (List.replicate j (.int j))]) nD (y1.trans (sC.trans (same_upd np'))) (it_wk hj') (.tup (SqT.of upd_same) (.cons (.str _) (.cons (dp_same (same_upd np') _ _ dC) .nil))) ?_ (by rw [it_len]; omega)
        show (true && (tOns (List.replicate j (PyData.int j)) && true)) = true
        rw [on_rep]
        rfl
      · rintro H1 nm
        obtain ⟨s2, ys, hD, dy⟩ := nm.fin (by rw [it_len]; show s ≤ (s : Int).toNat; omega)
        refine ⟨D, ys, rfl, .inl ⟨SqL.of hD, fun t5 np => ?_⟩⟩
        have d5 := tup_of np dy
        replace s2 := s2.trans (same_upd (o := .tup ys) np)
        generalize upd H1 t5 (.tup ys) = G5 at *
        clear nm dy hD np
        replace d4 := dp_same s2 _ _ d4
        replace et := s2 _ _ et
        replace ed := s2 _ _ ed
        replace s1 := s1.trans s2
        clear s2
        replace d4 : Dp K G5 (.ref t4) (prs (wk F (fun k => .int k) s)) := d4
        replace d5 : Dp K G5 (.ref t5) (prs (wk F (fun k => .tuple (List.replicate k (.int k))) s)) := d5
        refine ⟨_, rfl, s, rfl, by omega, by omega, fun D nD => lc_it walk_range (fun j H' => Nmd K G5 D (((wk F (fun _ => .str "open") s).map fun x => pcE (.str x.1) x.2 e0).take j) H') (Nmd.zero nD) (fun _ _ _ _ => trivial) ?_ ?_⟩
        · rintro j v _ HB hj' nm ⟨rfl, rfl⟩
          replace hj' : j < s := hj'
          refine ⟨rfl, ?_⟩
          unfold tYes
          refine iteT ⟨_, rfl, _, rfl, _, _, rfl, rfl, l, _, 1 + (0 + (j : Int)), _, rfl, rfl, (s1.trans nm.same).seq hl, (by rw [show (1 + (0 + (j : Int))) = ((j + 1 : Nat) : Int) by omega]; exact atI_nat (ix9 (by omega))), ?_⟩
          have y : Same HB HB := Same.refl _
          refine ⟨z0, fun t1 np_ => ?_⟩
          have x_ := same_upd (o := .tup []) np_
          have e_t1 : (upd HB t1 (.tup [])) t1 = some (.tup []) := upd_same
          replace y := y.trans x_
          generalize upd HB t1 (.tup []) = J1 at *
          clear x_ np_
          have d_t1 : Dp K J1 (.ref t1) (e0) := .tup (SqT.of e_t1) .nil
          clear e_t1
          refine ⟨z0, fun t2 np_ => ?_⟩
          have x_ := same_upd (o := .tup []) np_
          have e_t2 : (upd J1 t2 (.tup [])) t2 = some (.tup []) := upd_same
          replace y := y.trans x_
          replace d_t1 := dp_same x_ _ _ d_t1
          generalize upd J1 t2 (.tup []) = J2 at *
          clear x_ np_
          have d_t2 : Dp K J2 (.ref t2) (e0) := .tup (SqT.of e_t2) .nil
          clear e_t2
          refine ⟨z4, fun t np => ?_⟩
          exact nm.step (d := pcE (.str (F j)) (.str "open") e0) nD (y.trans (same_upd np)) (it_map hj') (.tup (SqT.of upd_same) (.cons (.str _) (.cons (.str _) (.cons (dp_same (same_upd np) _ _ d_t1) (.cons (dp_same (same_upd np) _ _ d_t2) .nil))))) rfl (by rw [it_maplen]; omega)
        · rintro H1 nm
          obtain ⟨s2, ys, hD, dy⟩ := nm.fin (by rw [it_maplen]; show s ≤ (s : Int).toNat; omega)
          refine ⟨D, ys, rfl, .inl ⟨SqL.of hD, fun t6 np => ?_⟩⟩
          have d6 := tup_of np dy
          replace s2 := s2.trans (same_upd (o := .tup ys) np)
          generalize upd H1 t6 (.tup ys) = G6 at *
          clear nm dy hD np
          replace s1 := s1.trans s2
          replace d4 := dp_same s2 _ _ d4
          replace d5 := dp_same s2 _ _ d5
          replace et := s2 _ _ et
          replace ed := s2 _ _ ed
          clear s2
          refine ⟨_, rfl, s, rfl, by omega, by omega, fun D nD => lc_it walk_range (fun j H' => Nmd K G6 D (((wk F (fun k => PyData.tuple [.int ((0 + (k : Int)) % 3), .int 0, .int 0]) s).map fun x => figE (.str x.1) x.2).take j) H') (Nmd.zero nD) (fun _ _ _ _ => trivial) ?_ ?_⟩
          · rintro j v _ HB hj' nm ⟨rfl, rfl⟩
            replace hj' : j < s := hj'
            refine ⟨rfl, ?_⟩
            unfold tYes
            refine iteT ⟨_, rfl, _, rfl, _, _, rfl, rfl, l, _, 1 + (0 + (j : Int)), _, rfl, rfl, (s1.trans nm.same).seq hl, (by rw [show (1 + (0 + (j : Int))) = ((j + 1 : Nat) : Int) by omega]; exact atI_nat (ix9 (by omega))), ?_⟩
            have y : Same HB HB := Same.refl _
            refine ⟨_, rfl, _, _, rfl, rfl, by show (0 : Int) < 3; decide, z3, fun t0 np_ => ?_⟩
            have x_ := same_upd (o := .tup [.int ((0 + (j : Int)) % 3), .int 0, .int 0]) np_
            have e_t0 : (upd HB t0 (.tup [.int ((0 + (j : Int)) % 3), .int 0, .int 0])) t0 = some (.tup [.int ((0 + (j : Int)) % 3), .int 0, .int 0]) := upd_same
            replace y := y.trans x_
            generalize upd HB t0 (.tup [.int ((0 + (j : Int)) % 3), .int 0, .int 0]) = J1 at *
            clear x_ np_
            have d_t0 : Dp K J1 (.ref t0) (.tuple [.int ((0 + (j : Int)) % 3), .int 0, .int 0]) := .tup (SqT.of e_t0) (.cons (.int _) (.cons (.int _) (.cons (.int _) .nil)))
            clear e_t0
            refine ⟨z0, fun t1 np_ => ?_⟩
            have x_ := same_upd (o := .tup []) np_
            have e_t1 : (upd J1 t1 (.tup [])) t1 = some (.tup []) := upd_same
            replace y := y.trans x_
            replace d_t0 := dp_same x_ _ _ d_t0
            generalize upd J1 t1 (.tup []) = J2 at *
            clear x_ np_
            have d_t1 : Dp K J2 (.ref t1) (e0) := .tup (SqT.of e_t1) .nil
            clear e_t1
            refine ⟨z0, fun t2 np_ => ?_⟩
            have x_ := same_upd (o := .tup []) np_
            have e_t2 : (upd J2 t2 (.tup [])) t2 = some (.tup []) := upd_same
            replace y := y.trans x_
            replace d_t0 := dp_same x_ _ _ d_t0
            replace d_t1 := dp_same x_ _ _ d_t1
            generalize upd J2 t2 (.tup []) = J3 at *
            clear x_ np_
            have d_t2 : Dp K J3 (.ref t2) (e0) := .tup (SqT.of e_t2) .nil
            clear e_t2
            refine ⟨z0, fun t3 np_ => ?_⟩
            have x_ := same_upd (o := .tup []) np_
            have e_t3 : (upd J3 t3 (.tup [])) t3 = some (.tup []) := upd_same
            replace y := y.trans x_
            replace d_t0 := dp_same x_ _ _ d_t0
            replace d_t1 := dp_same x_ _ _ d_t1
            replace d_t2 := dp_same x_ _ _ d_t2
            generalize upd J3 t3 (.tup []) = J4 at *
            clear x_ np_
            have d_t3 : Dp K J4 (.ref t3) (e0) := .tup (SqT.of e_t3) .nil
            clear e_t3
            refine ⟨z0, fun t7 np_ => ?_⟩
            have x_ := same_upd (o := .tup []) np_
            have e_t7 : (upd J4 t7 (.tup [])) t7 = some (.tup []) := upd_same
            replace y := y.trans x_
            replace d_t0 := dp_same x_ _ _ d_t0
            replace d_t1 := dp_same x_ _ _ d_t1
            replace d_t2 := dp_same x_ _ _ d_t2
            replace d_t3 := dp_same x_ _ _ d_t3
            generalize upd J4 t7 (.tup []) = J5 at *
            clear x_ np_
            have d_t7 : Dp K J5 (.ref t7) (e0) := .tup (SqT.of e_t7) .nil
            clear e_t7
            refine ⟨z6, fun t np => ?_⟩
            exact nm.step (d := figE (.str (F j)) (.tuple [.int ((0 + (j : Int)) % 3), .int 0, .int 0])) nD (y.trans (same_upd np)) (it_map hj') (.tup (SqT.of upd_same) (.cons (.str _) (.cons (dp_same (same_upd np) _ _ d_t0) (.cons (dp_same (same_upd np) _ _ d_t1) (.cons (dp_same (same_upd np) _ _ d_t2) (.cons (dp_same (same_upd np) _ _ d_t3) (.cons (dp_same (same_upd np) _ _ d_t7) .nil))))))) rfl (by rw [it_maplen]; omega)
          · rintro H1 nm
            obtain ⟨s2, ys, hD, dy⟩ := nm.fin (by rw [it_maplen]; show s ≤ (s : Int).toNat; omega)
            refine ⟨D, ys, rfl, .inl ⟨SqL.of hD, fun t7 np => ?_⟩⟩
            have d7 := tup_of np dy
            replace s2 := s2.trans (same_upd (o := .tup ys) np)
            generalize upd H1 t7 (.tup ys) = G7 at *
            clear nm dy hD np
            replace s1 := s1.trans s2
            replace d4 := dp_same s2 _ _ d4
            replace d5 := dp_same s2 _ _ d5
            replace et := s2 _ _ et
            replace ed := s2 _ _ ed
            replace d6 := dp_same s2 _ _ d6
            clear s2
            refine ⟨_, rfl, _, rfl, fun a na => ?_⟩
            refine ⟨_, rfl, upd_same, [(Sum.inr "names", .ref t4)], rfl, by show 1 ≤ 15; decide, ?_⟩
            obtain ⟨sE, eE, _, _⟩ := dEnd (K := K) (kvs := [(Sum.inr "names", .ref t4)]) na (Same.refl _)
            try unfold tNil
            refine w3 ((s1.trans sE).seq hl) n0 eE (dp_same sE _ _ d4) (okt_wk hs fun k hk => okt_all (by show 2 ≤ 11; decide) (okt_cons (okt_str (hn k (by omega))) (okt_cons (okt_int (by omega) (by omega)) okt_nil))) fun HX1 sX => ?_
            rw [sz_names hn hj hs (g := fun k => .int k) (fun k hk => by show inB _ = true; unfold inB; simp; omega)]
            replace sX := sE.trans sX
            clear sE eE na
            replace s1 := s1.trans sX
            replace d4 := dp_same sX _ _ d4
            replace d5 := dp_same sX _ _ d5
            replace et := sX _ _ et
            replace ed := sX _ _ ed
            replace d6 := dp_same sX _ _ d6
            replace d7 := dp_same sX _ _ d7
            clear sX
            refine ⟨_, rfl, fun a na => ?_⟩
            refine ⟨_, rfl, upd_same, [(Sum.inr "shared", .ref t4)], rfl, by show 1 ≤ 15; decide, ?_⟩
            obtain ⟨sE, eE, _, _⟩ := dEnd (K := K) (kvs := [(Sum.inr "shared", .ref t4)]) na (Same.refl _)
            try unfold tNil
            refine w8 ((s1.trans sE).seq hl) n0 eE (dp_same sE _ _ d4) (okt_wk hs fun k hk => okt_all (by show 2 ≤ 11; decide) (okt_cons (okt_str (hn k (by omega))) (okt_cons (okt_int (by omega) (by omega)) okt_nil))) fun HX2 sX => ?_
            rw [sz_names hn hj hs (g := fun k => .int k) (fun k hk => by show inB _ = true; unfold inB; simp; omega)]
            replace sX := sE.trans sX
            clear sE eE na
            replace s1 := s1.trans sX
            replace d4 := dp_same sX _ _ d4
            replace d5 := dp_same sX _ _ d5
            replace et := sX _ _ et
            replace ed := sX _ _ ed
            replace d6 := dp_same sX _ _ d6
            replace d7 := dp_same sX _ _ d7
            clear sX
            refine ⟨_, rfl, fun a na => ?_⟩
            refine ⟨_, rfl, upd_same, [(Sum.inr "lists", .ref t5)], rfl, by show 1 ≤ 15; decide, ?_⟩
            obtain ⟨sE, eE, _, _⟩ := dEnd (K := K) (kvs := [(Sum.inr "lists", .ref t5)]) na (Same.refl _)
            try unfold tNil
            refine w4 ((s1.trans sE).seq hl) n0 eE (dp_same sE _ _ d5) (okt_wk hs fun k hk => okt_all (by show 2 ≤ 11; decide) (okt_cons (okt_str (hn k (by omega))) (okt_cons (okt_all (by rw [List.length_replicate]; omega) fun d hd => by rw [List.eq_of_mem_replicate hd]; exact okt_int (by omega) (by omega)) okt_nil))) fun HX3 sX => ?_
            rw [sz_lists hn hj hs (fun k hk => vals_rep (by omega))]
            replace sX := sE.trans sX
            clear sE eE na
            replace s1 := s1.trans sX
            replace d4 := dp_same sX _ _ d4
            replace d5 := dp_same sX _ _ d5
            replace et := sX _ _ et
            replace ed := sX _ _ ed
            replace d6 := dp_same sX _ _ d6
            replace d7 := dp_same sX _ _ d7
            clear sX
            refine ⟨z3, fun b1 np_ => ?_⟩
            have x_ := same_upd (o := .lst [.bl (decide ((s : Int) < 5)), .bl (decide ((s : Int) < 5)), .bl (decide ((s : Int) < 3))]) np_
            have e_b1 : (upd HX3 b1 (.lst [.bl (decide ((s : Int) < 5)), .bl (decide ((s : Int) < 5)), .bl (decide ((s : Int) < 3))])) b1 = some (.lst (([(decide ((s : Int) < 5)), (decide ((s : Int) < 5)), (decide ((s : Int) < 3))] : List Bool).map V.bl)) := upd_same
            replace s1 := s1.trans x_
            replace d4 := dp_same x_ _ _ d4
            replace d5 := dp_same x_ _ _ d5
            replace et := x_ _ _ et
            replace ed := x_ _ _ ed
            replace d6 := dp_same x_ _ _ d6
            replace d7 := dp_same x_ _ _ d7
            generalize upd HX3 b1 (.lst [.bl (decide ((s : Int) < 5)), .bl (decide ((s : Int) < 5)), .bl (decide ((s : Int) < 3))]) = W1 at *
            clear x_ np_
            refine catB et e_b1 (by simp only [List.length_append, List.length_cons, List.length_nil]; omega) fun pb1 K1 sX en => ?_
            replace s1 := s1.trans sX
            replace d4 := dp_same sX _ _ d4
            replace d5 := dp_same sX _ _ d5
            replace ed := sX _ _ ed
            replace d6 := dp_same sX _ _ d6
            replace d7 := dp_same sX _ _ d7
            clear sX
            replace et := en
            clear en
            refine ⟨_, rfl, _, rfl, fun a na => ?_⟩
            refine ⟨_, rfl, upd_same, [(Sum.inr "all", .ref t5)], rfl, by show 1 ≤ 15; decide, ?_⟩
            obtain ⟨sE, eE, _, _⟩ := dEnd (K := K) (kvs := [(Sum.inr "all", .ref t5)]) na (Same.refl _)
            try unfold tNil
            refine w9 ((s1.trans sE).seq hl) n0 eE (dp_same sE _ _ d5) (okt_wk hs fun k hk => okt_all (by show 2 ≤ 11; decide) (okt_cons (okt_str (hn k (by omega))) (okt_cons (okt_all (by rw [List.length_replicate]; omega) fun d hd => by rw [List.eq_of_mem_replicate hd]; exact okt_int (by omega) (by omega)) okt_nil))) fun HX4 sX => ?_
            rw [sz_lists hn hj hs (fun k hk => vals_rep (by omega))]
            replace sX := sE.trans sX
            clear sE eE na
            replace s1 := s1.trans sX
            replace d4 := dp_same sX _ _ d4
            replace d5 := dp_same sX _ _ d5
            replace ed := sX _ _ ed
            replace d6 := dp_same sX _ _ d6
            replace d7 := dp_same sX _ _ d7
            replace et := sX _ _ et
            clear sX
            refine ⟨_, rfl, fun a na => ?_⟩
            refine ⟨_, rfl, upd_same, [(Sum.inr "pieces", .ref t6)], rfl, by show 1 ≤ 15; decide, ?_⟩
            obtain ⟨sE, eE, _, _⟩ := dEnd (K := K) (kvs := [(Sum.inr "pieces", .ref t6)]) na (Same.refl _)
            try unfold tNil
            refine w5 (fun p hp => by obtain ⟨x, hx, rfl⟩ := List.mem_map.mp hp; rfl) ((s1.trans sE).seq hl) n0 eE (dp_same sE _ _ d6) (okt_wk hs fun k hk => okt_all (by show 4 ≤ 11; decide) (okt_cons (okt_str (hn k (by omega))) (okt_cons (okt_wd (by decide +kernel)) (okt_cons okt_e0 (okt_cons okt_e0 okt_nil))))) fun HX5 sX => ?_
            rw [sz_pcs hn hj hs (g := fun _ => .str "open") (fun k hk => by decide +kernel)]
            replace sX := sE.trans sX
            clear sE eE na
            replace s1 := s1.trans sX
            replace d4 := dp_same sX _ _ d4
            replace d5 := dp_same sX _ _ d5
            replace ed := sX _ _ ed
            replace d6 := dp_same sX _ _ d6
            replace d7 := dp_same sX _ _ d7
            replace et := sX _ _ et
            clear sX
            refine ⟨_, rfl, fun a na => ?_⟩
            refine ⟨_, rfl, upd_same, [(Sum.inr "more", .ref t7)], rfl, by show 1 ≤ 15; decide, ?_⟩
            obtain ⟨sE, eE, _, _⟩ := dEnd (K := K) (kvs := [(Sum.inr "more", .ref t7)]) na (Same.refl _)
            try unfold tNil
            refine w10 (fun x hx => wk_nm hn hs x hx) (fun x hx => by obtain ⟨k, hk, rfl⟩ := List.mem_map.mp hx; exact md3 k) (fun x hx => by obtain ⟨k, hk, rfl⟩ := List.mem_map.mp hx; exact okt_all (by show 3 ≤ 11; decide) (okt_cons (okt_int (by omega) (by omega)) (okt_cons (okt_int (by omega) (by omega)) (okt_cons (okt_int (by omega) (by omega)) okt_nil)))) (by rw [wk_len]; omega) ((s1.trans sE).seq hl) n0 eE (dp_same sE _ _ d7) fun HX6 sX => ?_
            rw [sz_more hn hj hs h0]
            replace sX := sE.trans sX
            clear sE eE na
            replace s1 := s1.trans sX
            replace d4 := dp_same sX _ _ d4
            replace d5 := dp_same sX _ _ d5
            replace ed := sX _ _ ed
            replace d6 := dp_same sX _ _ d6
            replace d7 := dp_same sX _ _ d7
            replace et := sX _ _ et
            clear sX
            refine ⟨z3, fun b2 np_ => ?_⟩
            have x_ := same_upd (o := .lst [.bl (decide ((s : Int) < 3)), .bl (decide ((s : Int) < 4)), .bl (decide ((s : Int) < 4))]) np_
            have e_b2 : (upd HX6 b2 (.lst [.bl (decide ((s : Int) < 3)), .bl (decide ((s : Int) < 4)), .bl (decide ((s : Int) < 4))])) b2 = some (.lst (([(decide ((s : Int) < 3)), (decide ((s : Int) < 4)), (decide ((s : Int) < 4))] : List Bool).map V.bl)) := upd_same
            replace s1 := s1.trans x_
            replace d4 := dp_same x_ _ _ d4
            replace d5 := dp_same x_ _ _ d5
            replace ed := x_ _ _ ed
            replace d6 := dp_same x_ _ _ d6
            replace d7 := dp_same x_ _ _ d7
            replace et := x_ _ _ et
            generalize upd HX6 b2 (.lst [.bl (decide ((s : Int) < 3)), .bl (decide ((s : Int) < 4)), .bl (decide ((s : Int) < 4))]) = W2 at *
            clear x_ np_
            refine catB et e_b2 (by simp only [List.length_append, List.length_cons, List.length_nil]; omega) fun pb2 K2 sX en => ?_
            replace s1 := s1.trans sX
            replace d4 := dp_same sX _ _ d4
            replace d5 := dp_same sX _ _ d5
            replace ed := sX _ _ ed
            replace d6 := dp_same sX _ _ d6
            replace d7 := dp_same sX _ _ d7
            clear sX
            replace et := en
            clear en
            refine ⟨_, rfl, _, rfl, _, _, rfl, rfl, _, rfl, _, _, rfl, rfl, _, rfl, _, _, rfl, rfl, _, rfl, _, _, rfl, rfl, _, rfl, _, _, rfl, rfl, _, rfl, _, _, rfl, rfl, z6, fun b3 np_ => ?_⟩
            have x_ := same_upd (o := .lst [.bl (decide ((s : Int) < 5)), .bl (decide ((s : Int) < 5)), .bl (decide ((s : Int) < 3)), .bl (decide ((s : Int) < 3)), .bl (decide ((s : Int) < 4)), .bl (decide ((s : Int) < 4))]) np_
            have e_b3 : (upd K2 b3 (.lst [.bl (decide ((s : Int) < 5)), .bl (decide ((s : Int) < 5)), .bl (decide ((s : Int) < 3)), .bl (decide ((s : Int) < 3)), .bl (decide ((s : Int) < 4)), .bl (decide ((s : Int) < 4))])) b3 = some (.lst (([(decide ((s : Int) < 5)), (decide ((s : Int) < 5)), (decide ((s : Int) < 3)), (decide ((s : Int) < 3)), (decide ((s : Int) < 4)), (decide ((s : Int) < 4))] : List Bool).map V.bl)) := upd_same
            replace s1 := s1.trans x_
            replace d4 := dp_same x_ _ _ d4
            replace d5 := dp_same x_ _ _ d5
            replace ed := x_ _ _ ed
            replace d6 := dp_same x_ _ _ d6
            replace d7 := dp_same x_ _ _ d7
            replace et := x_ _ _ et
            generalize upd K2 b3 (.lst [.bl (decide ((s : Int) < 5)), .bl (decide ((s : Int) < 5)), .bl (decide ((s : Int) < 3)), .bl (decide ((s : Int) < 3)), .bl (decide ((s : Int) < 4)), .bl (decide ((s : Int) < 4))]) = W3 at *
            clear x_ np_
            refine catB ed e_b3 (by simp only [List.length_append, List.length_cons, List.length_nil]; omega) fun pb3 K3 sX en => ?_
            replace s1 := s1.trans sX
            replace d4 := dp_same sX _ _ d4
            replace d5 := dp_same sX _ _ d5
            replace d6 := dp_same sX _ _ d6
            replace d7 := dp_same sX _ _ d7
            replace et := sX _ _ et
            clear sX
            replace ed := en
            clear en
            refine ⟨_, rfl, l, _, 8, _, rfl, rfl, s1.seq hl, atI_nat (j := 8) (ix9 (by decide)), ?_⟩
            refine ⟨_, rfl, 1, rfl, _, rfl, _, _, rfl, rfl, _, rfl, l, _, rfl, s1.seq hl, fun pl np => ?_⟩
            rw [show (1 + (s : Int)) = ((1 + s : Nat) : Int) by omega, show (some (1 : Int)) = some ((1 : Nat) : Int) from rfl, cut_from _ 1 (1 + s) (by show 1 + s ≤ (((List.range 8).map F).map V.str).length + 1; simp; omega) (by omega), show ((V.str w0 :: ((List.range 8).map F).map V.str).drop 1).take (1 + s - 1) = ((List.range s).map F).map V.str by
              rw [List.drop_succ_cons, List.drop_zero, ← List.map_take, ← List.map_take, List.take_range, show min (1 + s - 1) 8 = s by omega]]
            have x_ := same_upd (o := .lst (((List.range s).map F).map V.str)) np
            have e_pl : (upd K3 pl (.lst (((List.range s).map F).map V.str))) pl = some (.lst (((List.range s).map F).map V.str)) := upd_same
            replace s1 := s1.trans x_
            replace d4 := dp_same x_ _ _ d4
            replace d5 := dp_same x_ _ _ d5
            replace d6 := dp_same x_ _ _ d6
            replace d7 := dp_same x_ _ _ d7
            replace et := x_ _ _ et
            replace ed := x_ _ _ ed
            generalize upd K3 pl (.lst (((List.range s).map F).map V.str)) = K4 at *
            clear x_ np
            refine ⟨pl, _, rfl, .inl ⟨SqL.of e_pl, fun pt np_ => ?_⟩⟩
            have x_ := same_upd (o := .tup (((List.range s).map F).map V.str)) np_
            have e_pt : (upd K4 pt (.tup (((List.range s).map F).map V.str))) pt = some (.tup (((List.range s).map F).map V.str)) := upd_same
            replace s1 := s1.trans x_
            replace d4 := dp_same x_ _ _ d4
            replace d5 := dp_same x_ _ _ d5
            replace d6 := dp_same x_ _ _ d6
            replace d7 := dp_same x_ _ _ d7
            replace et := x_ _ _ et
            replace ed := x_ _ _ ed
            generalize upd K4 pt (.tup (((List.range s).map F).map V.str)) = W4 at *
            clear x_ np_
            have d_pt : Dp K W4 (.ref pt) (.tuple (((List.range s).map F).map PyData.str)) := .tup (SqT.of e_pt) (dpStrs _)
            clear e_pt
            refine ⟨z0, fun pe np_ => ?_⟩
            have x_ := same_upd (o := .tup []) np_
            have e_pe : (upd W4 pe (.tup [])) pe = some (.tup []) := upd_same
            replace s1 := s1.trans x_
            replace d4 := dp_same x_ _ _ d4
            replace d5 := dp_same x_ _ _ d5
            replace d6 := dp_same x_ _ _ d6
            replace d7 := dp_same x_ _ _ d7
            replace et := x_ _ _ et
            replace ed := x_ _ _ ed
            replace d_pt := dp_same x_ _ _ d_pt
            generalize upd W4 pe (.tup []) = W5 at *
            clear x_ np_
            have d_pe : Dp K W5 (.ref pe) (e0) := .tup (SqT.of e_pe) .nil
            clear e_pe
            refine ⟨z4, fun p4 np_ => ?_⟩
            have x_ := same_upd (o := .tup [.str (F 7), .str "closed", .ref pt, .ref pe]) np_
            have e_p4 : (upd W5 p4 (.tup [.str (F 7), .str "closed", .ref pt, .ref pe])) p4 = some (.tup [.str (F 7), .str "closed", .ref pt, .ref pe]) := upd_same
            replace s1 := s1.trans x_
            replace d4 := dp_same x_ _ _ d4
            replace d5 := dp_same x_ _ _ d5
            replace d6 := dp_same x_ _ _ d6
            replace d7 := dp_same x_ _ _ d7
            replace et := x_ _ _ et
            replace ed := x_ _ _ ed
            replace d_pt := dp_same x_ _ _ d_pt
            replace d_pe := dp_same x_ _ _ d_pe
            generalize upd W5 p4 (.tup [.str (F 7), .str "closed", .ref pt, .ref pe]) = W6 at *
            clear x_ np_
            have d_p4 : Dp K W6 (.ref p4) (pcE (.str (F 7)) (.str "closed") (.tuple (((List.range s).map F).map PyData.str))) := .tup (SqT.of e_p4) (.cons (.str _) (.cons (.str _) (.cons d_pt (.cons d_pe .nil))))
            clear e_p4
            refine ⟨z1, fun pp np_ => ?_⟩
            have x_ := same_upd (o := .tup [.ref p4]) np_
            have e_pp : (upd W6 pp (.tup [.ref p4])) pp = some (.tup [.ref p4]) := upd_same
            replace s1 := s1.trans x_
            replace d4 := dp_same x_ _ _ d4
            replace d5 := dp_same x_ _ _ d5
            replace d6 := dp_same x_ _ _ d6
            replace d7 := dp_same x_ _ _ d7
            replace et := x_ _ _ et
            replace ed := x_ _ _ ed
            replace d_pt := dp_same x_ _ _ d_pt
            replace d_pe := dp_same x_ _ _ d_pe
            replace d_p4 := dp_same x_ _ _ d_p4
            generalize upd W6 pp (.tup [.ref p4]) = W7 at *
            clear x_ np_
            have d_pp : Dp K W7 (.ref pp) (.tuple [pcE (.str (F 7)) (.str "closed") (.tuple (((List.range s).map F).map PyData.str))]) := .tup (SqT.of e_pp) (.cons d_p4 .nil)
            clear e_pp
            refine ⟨z1, fun q1 np_ => ?_⟩
            have x_ := same_upd (o := .tup [.str "flag"]) np_
            have e_q1 : (upd W7 q1 (.tup [.str "flag"])) q1 = some (.tup [.str "flag"]) := upd_same
            replace s1 := s1.trans x_
            replace d4 := dp_same x_ _ _ d4
            replace d5 := dp_same x_ _ _ d5
            replace d6 := dp_same x_ _ _ d6
            replace d7 := dp_same x_ _ _ d7
            replace et := x_ _ _ et
            replace ed := x_ _ _ ed
            replace d_pt := dp_same x_ _ _ d_pt
            replace d_pe := dp_same x_ _ _ d_pe
            replace d_p4 := dp_same x_ _ _ d_p4
            replace d_pp := dp_same x_ _ _ d_pp
            generalize upd W7 q1 (.tup [.str "flag"]) = W8 at *
            clear x_ np_
            have d_q1 : Dp K W8 (.ref q1) (.tuple [.str "flag"]) := .tup (SqT.of e_q1) (.cons (.str _) .nil)
            clear e_q1
            refine ⟨z0, fun q2 np_ => ?_⟩
            have x_ := same_upd (o := .tup []) np_
            have e_q2 : (upd W8 q2 (.tup [])) q2 = some (.tup []) := upd_same
            replace s1 := s1.trans x_
            replace d4 := dp_same x_ _ _ d4
            replace d5 := dp_same x_ _ _ d5
            replace d6 := dp_same x_ _ _ d6
            replace d7 := dp_same x_ _ _ d7
            replace et := x_ _ _ et
            replace ed := x_ _ _ ed
            replace d_pt := dp_same x_ _ _ d_pt
            replace d_pe := dp_same x_ _ _ d_pe
            replace d_p4 := dp_same x_ _ _ d_p4
            replace d_pp := dp_same x_ _ _ d_pp
            replace d_q1 := dp_same x_ _ _ d_q1
            generalize upd W8 q2 (.tup []) = W9 at *
            clear x_ np_
            have d_q2 : Dp K W9 (.ref q2) (e0) := .tup (SqT.of e_q2) .nil
            clear e_q2
            refine ⟨z2, fun q3 np_ => ?_⟩
            have x_ := same_upd (o := .tup [.ref q1, .ref q2]) np_
            have e_q3 : (upd W9 q3 (.tup [.ref q1, .ref q2])) q3 = some (.tup [.ref q1, .ref q2]) := upd_same
            replace s1 := s1.trans x_
            replace d4 := dp_same x_ _ _ d4
            replace d5 := dp_same x_ _ _ d5
            replace d6 := dp_same x_ _ _ d6
            replace d7 := dp_same x_ _ _ d7
            replace et := x_ _ _ et
            replace ed := x_ _ _ ed
            replace d_pt := dp_same x_ _ _ d_pt
            replace d_pe := dp_same x_ _ _ d_pe
            replace d_p4 := dp_same x_ _ _ d_p4
            replace d_pp := dp_same x_ _ _ d_pp
            replace d_q1 := dp_same x_ _ _ d_q1
            replace d_q2 := dp_same x_ _ _ d_q2
            generalize upd W9 q3 (.tup [.ref q1, .ref q2]) = W10 at *
            clear x_ np_
            have d_q3 : Dp K W10 (.ref q3) (.tuple [.tuple [.str "flag"], e0]) := .tup (SqT.of e_q3) (.cons d_q1 (.cons d_q2 .nil))
            clear e_q3
            refine ⟨z1, fun q4 np_ => ?_⟩
            have x_ := same_upd (o := .tup [.ref q3]) np_
            have e_q4 : (upd W10 q4 (.tup [.ref q3])) q4 = some (.tup [.ref q3]) := upd_same
            replace s1 := s1.trans x_
            replace d4 := dp_same x_ _ _ d4
            replace d5 := dp_same x_ _ _ d5
            replace d6 := dp_same x_ _ _ d6
            replace d7 := dp_same x_ _ _ d7
            replace et := x_ _ _ et
            replace ed := x_ _ _ ed
            replace d_pt := dp_same x_ _ _ d_pt
            replace d_pe := dp_same x_ _ _ d_pe
            replace d_p4 := dp_same x_ _ _ d_p4
            replace d_pp := dp_same x_ _ _ d_pp
            replace d_q1 := dp_same x_ _ _ d_q1
            replace d_q2 := dp_same x_ _ _ d_q2
            replace d_q3 := dp_same x_ _ _ d_q3
            generalize upd W10 q4 (.tup [.ref q3]) = W11 at *
            clear x_ np_
            refine ⟨_, rfl, ?_⟩
            show Fw.rRepZ K (.ref q4) (.int (s : Int)) W11 _
            refine repD (SqT.of e_q4) d_q3 (by omega) fun sp K9 sX d_sp => ?_
            replace s1 := s1.trans sX
            replace d4 := dp_same sX _ _ d4
            replace d5 := dp_same sX _ _ d5
            replace d6 := dp_same sX _ _ d6
            replace d7 := dp_same sX _ _ d7
            replace et := sX _ _ et
            replace ed := sX _ _ ed
            replace d_pt := dp_same sX _ _ d_pt
            replace d_pe := dp_same sX _ _ d_pe
            replace d_p4 := dp_same sX _ _ d_p4
            replace d_pp := dp_same sX _ _ d_pp
            replace d_q1 := dp_same sX _ _ d_q1
            replace d_q2 := dp_same sX _ _ d_q2
            replace d_q3 := dp_same sX _ _ d_q3
            replace e_q4 := sX _ _ e_q4
            clear sX
            refine ⟨_, rfl, _, rfl, fun a na => ?_⟩
            refine ⟨_, rfl, upd_same, [(Sum.inr "pieces", .ref pp)], rfl, by show 1 ≤ 15; decide, ?_⟩
            obtain ⟨sE, eE, _, _⟩ := dEnd (K := K) (kvs := [(Sum.inr "pieces", .ref pp)]) na (Same.refl _)
            try unfold tNil
            refine w5 (fun p hp => by obtain rfl := List.mem_singleton.mp hp; rfl) ((s1.trans sE).seq hl) n0 eE (dp_same sE _ _ d_pp) (okt_all (by show 1 ≤ 11; decide) (okt_cons (okt_all (by show 4 ≤ 11; decide) (okt_cons (okt_str (hn 7 (by decide))) (okt_cons (okt_wd (by decide +kernel)) (okt_cons (okt_all (by simp; omega) fun d hd => by obtain ⟨z, hz, rfl⟩ := List.mem_map.mp hd; obtain ⟨k, hk, rfl⟩ := List.mem_map.mp hz; exact okt_str (hn k (by have := List.mem_range.mp hk; omega))) (okt_cons okt_e0 okt_nil))))) okt_nil)) fun HX7 sX => ?_
            rw [sz_prm hn hj hs (hn 7 (by decide))]
            replace sX := sE.trans sX
            clear sE eE na
            replace s1 := s1.trans sX
            replace d4 := dp_same sX _ _ d4
            replace d5 := dp_same sX _ _ d5
            replace d6 := dp_same sX _ _ d6
            replace d7 := dp_same sX _ _ d7
            replace et := sX _ _ et
            replace ed := sX _ _ ed
            replace d_pt := dp_same sX _ _ d_pt
            replace d_pe := dp_same sX _ _ d_pe
            replace d_p4 := dp_same sX _ _ d_p4
            replace d_pp := dp_same sX _ _ d_pp
            replace d_q1 := dp_same sX _ _ d_q1
            replace d_q2 := dp_same sX _ _ d_q2
            replace d_q3 := dp_same sX _ _ d_q3
            replace e_q4 := sX _ _ e_q4
            replace d_sp := dp_same sX _ _ d_sp
            clear sX
            refine ⟨_, rfl, fun a na => ?_⟩
            refine ⟨_, rfl, upd_same, [(Sum.inr "scripts", sp)], rfl, by show 1 ≤ 15; decide, ?_⟩
            obtain ⟨sE, eE, _, _⟩ := dEnd (K := K) (kvs := [(Sum.inr "scripts", sp)]) na (Same.refl _)
            try unfold tNil
            refine w6 (fun p hp => by rw [List.eq_of_mem_replicate hp]; rfl) ((s1.trans sE).seq hl) n0 eE (dp_same sE _ _ d_sp) (okt_all (by rw [List.length_replicate]; omega) fun d hd => by rw [List.eq_of_mem_replicate hd]; exact okt_all (by show 2 ≤ 11; decide) (okt_cons (okt_all (by show 1 ≤ 11; decide) (okt_cons (okt_wd (by decide +kernel)) okt_nil)) (okt_cons okt_e0 okt_nil))) fun HX8 sX => ?_
            rw [sz_scs hs]
            replace sX := sE.trans sX
            clear sE eE na
            replace s1 := s1.trans sX
            replace d4 := dp_same sX _ _ d4
            replace d5 := dp_same sX _ _ d5
            replace d6 := dp_same sX _ _ d6
            replace d7 := dp_same sX _ _ d7
            replace et := sX _ _ et
            replace ed := sX _ _ ed
            replace d_pt := dp_same sX _ _ d_pt
            replace d_pe := dp_same sX _ _ d_pe
            replace d_p4 := dp_same sX _ _ d_p4
            replace d_pp := dp_same sX _ _ d_pp
            replace d_q1 := dp_same sX _ _ d_q1
            replace d_q2 := dp_same sX _ _ d_q2
            replace d_q3 := dp_same sX _ _ d_q3
            replace e_q4 := sX _ _ e_q4
            replace d_sp := dp_same sX _ _ d_sp
            clear sX
            refine ⟨z2, fun b4 np_ => ?_⟩
            have x_ := same_upd (o := .lst [.bl (decide ((s : Int) < 3)), .bl (decide ((s : Int) < 7))]) np_
            have e_b4 : (upd HX8 b4 (.lst [.bl (decide ((s : Int) < 3)), .bl (decide ((s : Int) < 7))])) b4 = some (.lst (([(decide ((s : Int) < 3)), (decide ((s : Int) < 7))] : List Bool).map V.bl)) := upd_same
            replace s1 := s1.trans x_
            replace d4 := dp_same x_ _ _ d4
            replace d5 := dp_same x_ _ _ d5
            replace d6 := dp_same x_ _ _ d6
            replace d7 := dp_same x_ _ _ d7
            replace et := x_ _ _ et
            replace ed := x_ _ _ ed
            replace d_pt := dp_same x_ _ _ d_pt
            replace d_pe := dp_same x_ _ _ d_pe
            replace d_p4 := dp_same x_ _ _ d_p4
            replace d_pp := dp_same x_ _ _ d_pp
            replace d_q1 := dp_same x_ _ _ d_q1
            replace d_q2 := dp_same x_ _ _ d_q2
            replace d_q3 := dp_same x_ _ _ d_q3
            replace e_q4 := x_ _ _ e_q4
            replace d_sp := dp_same x_ _ _ d_sp
            generalize upd HX8 b4 (.lst [.bl (decide ((s : Int) < 3)), .bl (decide ((s : Int) < 7))]) = W12 at *
            clear x_ np_
            refine catB et e_b4 (by simp only [List.length_append, List.length_cons, List.length_nil]; omega) fun pb4 K5 sX en => ?_
            replace s1 := s1.trans sX
            replace d4 := dp_same sX _ _ d4
            replace d5 := dp_same sX _ _ d5
            replace d6 := dp_same sX _ _ d6
            replace d7 := dp_same sX _ _ d7
            replace ed := sX _ _ ed
            replace d_pt := dp_same sX _ _ d_pt
            replace d_pe := dp_same sX _ _ d_pe
            replace d_p4 := dp_same sX _ _ d_p4
            replace d_pp := dp_same sX _ _ d_pp
            replace d_q1 := dp_same sX _ _ d_q1
            replace d_q2 := dp_same sX _ _ d_q2
            replace d_q3 := dp_same sX _ _ d_q3
            replace e_q4 := sX _ _ e_q4
            replace d_sp := dp_same sX _ _ d_sp
            clear sX
            replace et := en
            clear en
            refine ⟨_, rfl, _, rfl, _, _, rfl, rfl, _, rfl, _, _, rfl, rfl, z2, fun b5 np_ => ?_⟩
            have x_ := same_upd (o := .lst [.bl (decide ((s : Int) < 3)), .bl (decide ((s : Int) < 7))]) np_
            have e_b5 : (upd K5 b5 (.lst [.bl (decide ((s : Int) < 3)), .bl (decide ((s : Int) < 7))])) b5 = some (.lst (([(decide ((s : Int) < 3)), (decide ((s : Int) < 7))] : List Bool).map V.bl)) := upd_same
            replace s1 := s1.trans x_
            replace d4 := dp_same x_ _ _ d4
            replace d5 := dp_same x_ _ _ d5
            replace d6 := dp_same x_ _ _ d6
            replace d7 := dp_same x_ _ _ d7
            replace ed := x_ _ _ ed
            replace d_pt := dp_same x_ _ _ d_pt
            replace d_pe := dp_same x_ _ _ d_pe
            replace d_p4 := dp_same x_ _ _ d_p4
            replace d_pp := dp_same x_ _ _ d_pp
            replace d_q1 := dp_same x_ _ _ d_q1
            replace d_q2 := dp_same x_ _ _ d_q2
            replace d_q3 := dp_same x_ _ _ d_q3
            replace e_q4 := x_ _ _ e_q4
            replace d_sp := dp_same x_ _ _ d_sp
            replace et := x_ _ _ et
            generalize upd K5 b5 (.lst [.bl (decide ((s : Int) < 3)), .bl (decide ((s : Int) < 7))]) = W13 at *
            clear x_ np_
            refine catB ed e_b5 (by simp only [List.length_append, List.length_cons, List.length_nil]; omega) fun pb5 K6 sX en => ?_
            replace s1 := s1.trans sX
            replace d4 := dp_same sX _ _ d4
            replace d5 := dp_same sX _ _ d5
            replace d6 := dp_same sX _ _ d6
            replace d7 := dp_same sX _ _ d7
            replace d_pt := dp_same sX _ _ d_pt
            replace d_pe := dp_same sX _ _ d_pe
            replace d_p4 := dp_same sX _ _ d_p4
            replace d_pp := dp_same sX _ _ d_pp
            replace d_q1 := dp_same sX _ _ d_q1
            replace d_q2 := dp_same sX _ _ d_q2
            replace d_q3 := dp_same sX _ _ d_q3
            replace e_q4 := sX _ _ e_q4
            replace d_sp := dp_same sX _ _ d_sp
            replace et := sX _ _ et
            clear sX
            replace ed := en
            clear en
            refine ⟨s1, _, _, _, et, by rw [List.append_assoc bs]; exact ed, by simp; omega, _, _, _, _, _, _, _, _, rfl⟩
  · rintro σ H2 ⟨sA, lt, ld, bs, et, ed, lb, o3, o4, o5, o6, o7, o8, o9, o10, rfl⟩
    refine ⟨_, rfl, _, rfl, eqBls bs et ed (q _ sA)⟩
end
end Fd

set_option Elab.async false
set_option linter.all false
set_option maxRecDepth 100000
set_option maxHeartbeats 1000000
namespace Fd
open PySem PySem.Spec PyProof.Rows L2
theorem neBls {K : PySem.W.Frag} {H : Hp} {p q : Addr} (bs : List Bool) {Q : VK} (h1 : H p = some (.lst (bs.map V.bl))) (h2 : H q = some (.lst (bs.map V.bl))) (h : Q (.bl false) H) : rNeD K (.ref p) (.ref q) H Q :=
  ⟨.list (bs.map PyData.bool), .list (bs.map PyData.bool), .lst (SqL.of h1) (bls bs), .lst (SqL.of h2) (bls bs), shaped_bls bs, shaped_bls bs, by
    rw [show PyData.eqv (.list (bs.map PyData.bool)) (.list (bs.map PyData.bool)) = true from eqv_bls bs]
    exact h⟩
/-- _law_with of that dict is False, from here on -/
def Fls (K : PySem.W.Frag) (l a : Addr) (H : Hp) : Prop := ∀ H', Same H H' → ∀ (Q : VK) (E : XK), (∀ H'', Same H' H'' → Q (.bl false) H'') → spWith K [.ref l, .ref a] H' Q E
theorem Fls.same {K : PySem.W.Frag} {l a : Addr} {H H1 : Hp} (h : Fls K l a H) (s : Same H H1) : Fls K l a H1 := fun H' s' Q E q => h H' (s.trans s') Q E q
/-- dicts of which all are so -/
def FlsA (K : PySem.W.Frag) (l : Addr) (H : Hp) (xs : List V) : Prop := ∀ v ∈ xs, ∃ a, v = .ref a ∧ Fls K l a H
theorem FlsA.nil {K : PySem.W.Frag} {l : Addr} {H : Hp} : FlsA K l H [] := fun v hv => nomatch hv
theorem FlsA.cons {K : PySem.W.Frag} {l a : Addr} {H : Hp} {xs : List V} (h : Fls K l a H) (g : FlsA K l H xs) : FlsA K l H (.ref a :: xs) := fun v hv => by
  rcases List.mem_cons.mp hv with rfl | hv
  · exact ⟨a, rfl, h⟩
  · exact g v hv
theorem updD {K : PySem.W.Frag} {H : Hp} {a : Addr} {kvs kvs' : List (L2.Key × V)} (ea : H a = some (.dK kvs)) {v : V} {d : PyData} (on : tOn d = true) (hd : Dp K H v d) : Dp K (upd H a (.dK kvs')) v d := by
  have := dp_noD ea d v on hd
  rw [← rmL_upd (o := .dK kvs') (List.mem_singleton.mpr rfl)] at this
  exact dp_same (rmL_sub (as := [a])) _ _ this
theorem Same.putN {H H1 : Hp} {a : Addr} {o : HO} (s : Same H H1) (n : H a = none) : Same H (upd H1 a o) := fun b u hb => by
  rw [upd_ne (ne_of_none hb n)]
  exact s _ _ hb
theorem none_of {H H1 : Hp} {a : Addr} (s : Same H H1) (n : H1 a = none) : H a = none := by
  cases e : H a with
  | none => rfl
  | some o => rw [s _ _ e] at n; cases n
theorem few_two {n sp ns ls : PyData} {ps ss : List PyData} (h : ∀ p ∈ ps, (nin 4 (nth p 3)).length ≤ 1000) (g : ∀ p ∈ ss, nth p 1 = e0) : Few (.tuple [n, sp, ns, ls, .tuple ps, .tuple ss]) := ⟨fun p hp => h p hp, fun p hp => by rw [g p hp]; exact Nat.zero_le _⟩
section
variable {P : Program} {w : World} {K : PySem.W.Frag} {mg : Str → Option Value} {base : Heap} {f : Addr} {fd : FuncData}
abbrev sZl : Stmt := top 68
theorem scZl : FnScope ["_law_n", "_law_pair", "_law_piece", "_law_some", "_law_both", "_law_inner", "_law_one"] ["_law_n"] (defScope sZl) := ⟨rfl, rfl, rfl, by decide +kernel, rfl, by decide +kernel, by decide +kernel⟩
theorem ok_Zl {k : Nat} (F : Fun K "_law_alike_right" "_law_alike_right" sZl f fd) (GW : FnG P w K mg base CX0 k "_law_with" ["_law_n", "_law_changes"] (spWith K)) (m_range : mg "range" = none)  :
    FnOk P w K mg base CX0 (k + 1) f fd ["_law_n"] (spOf K) := by
  obtain ⟨_, _, G__law_with, m__law_with, k__law_with, b__law_with⟩ := GW
  have sc := scZl
  refine F.ok sc (fun vs H Q E h => ?_) (fun cdv A outer s H vs Q E hr h => ?_)
  · obtain ⟨l, ws, rfl, _⟩ := h
    rfl
  obtain ⟨l, ws, rfl, hl, l9, nd, nm, q⟩ := h
  refine ⟨_, (pss_cons (ps_par (i := 1) (j := 2) (by rfl) sc.nd rfl rfl (by decide) rfl rfl (pa_cons (pe_tup (pa_cons (pe_ix (show IxR _ (rIxL K) from ix_list) (pv 0) pe_int (fun _ _ => rfl)) (pa_cons pe_int pa_nil))) (pa_cons (pe_tup (pa_cons (pe_ix (show IxR _ (rIxL K) from ix_list) (pv 0) pe_int (fun _ _ => rfl)) (pa_cons pe_str (pa_cons (pe_tup pa_nil) (pa_cons (pe_tup pa_nil) pa_nil))))) pa_nil)) (by rfl))
      (pss_cons (ps_set (i := 3) sc.nd rfl (.inl rfl) (pe_lst (pa_cons (pe_disp (pps_cons pe_str (pe_tup (pa_cons (pv 1) (pa_cons (pe_tup (pa_cons (pe_ix (show IxR _ (rIxL K) from ix_list) (pv 0) pe_int (fun _ _ => rfl)) (pa_cons pe_int pa_nil))) (pa_cons (pv 1) pa_nil)))) pps_nil) rfl rfl (by decide) (by decide)) (pa_cons (pe_disp (pps_cons pe_str (pe_tup (pa_cons (pv 1) (pa_cons (pe_tup (pa_cons (pe_ix (show IxR _ (rIxL K) from ix_list) (pv 0) pe_int (fun _ _ => rfl)) (pa_cons pe_int pa_nil))) pa_nil))) pps_nil) rfl rfl (by decide) (by decide)) (pa_cons (pe_disp (pps_cons pe_str (pe_tup (pa_cons (pe_tup (pa_cons (pe_ix (show IxR _ (rIxL K) from ix_list) (pv 0) pe_int (fun _ _ => rfl)) (pa_cons (pe_tup pa_nil) pa_nil))) (pa_cons (pe_tup (pa_cons (pe_ix (show IxR _ (rIxL K) from ix_list) (pv 0) pe_int (fun _ _ => rfl)) (pa_cons (pe_tup (pa_cons pe_int pa_nil)) pa_nil))) pa_nil))) pps_nil) rfl rfl (by decide) (by decide)) pa_nil)))))
      (pss_cons (ps_set (i := 3) sc.nd rfl (.inl rfl) (pe_op op_cat (pv 3) (pe_lst (pa_cons (pe_disp (pps_cons pe_str (pe_op (show OpR _ _ (Fw.rRepZ K) from Fw.op_repZ) (pe_tup (pa_cons (pe_tup (pa_cons (pe_ix (show IxR _ (rIxL K) from ix_list) (pv 0) pe_int (fun _ _ => rfl)) (pa_cons (pe_tup pa_nil) pa_nil))) pa_nil)) pe_int) pps_nil) rfl rfl (by decide) (by decide)) (pa_cons (pe_disp (pps_cons pe_str (pe_tup (pa_cons (pv 2) (pa_cons (pe_tup (pa_cons (pe_ix (show IxR _ (rIxL K) from ix_list) (pv 0) pe_int (fun _ _ => rfl)) (pa_cons pe_str (pa_cons (pe_tup pa_nil) (pa_cons (pe_tup pa_nil) pa_nil))))) (pa_cons (pv 2) pa_nil)))) pps_nil) rfl rfl (by decide) (by decide)) pa_nil)))))
      (pss_cons (ps_set (i := 3) sc.nd rfl (.inl rfl) (pe_op op_cat (pv 3) (pe_lst (pa_cons (pe_disp (pps_cons pe_str (pe_tup (pa_cons (pe_tup (pa_cons (pe_ix (show IxR _ (rIxL K) from ix_list) (pv 0) pe_int (fun _ _ => rfl)) (pa_cons pe_str (pa_cons (pe_tup (pa_cons (pe_ix (show IxR _ (rIxL K) from ix_list) (pv 0) pe_int (fun _ _ => rfl)) (pa_cons (pe_ix (show IxR _ (rIxL K) from ix_list) (pv 0) pe_int (fun _ _ => rfl)) pa_nil))) (pa_cons (pe_tup pa_nil) pa_nil))))) pa_nil)) pps_nil) rfl rfl (by decide) (by decide)) (pa_cons (pe_disp (pps_cons pe_str (pe_tup (pa_cons (pe_tup (pa_cons (pe_ix (show IxR _ (rIxL K) from ix_list) (pv 0) pe_int (fun _ _ => rfl)) (pa_cons (pe_tup (pa_cons pe_int (pa_cons pe_int (pa_cons pe_int pa_nil)))) (pa_cons (pe_tup pa_nil) (pa_cons (pe_tup pa_nil) (pa_cons (pe_tup pa_nil) (pa_cons (pe_tup pa_nil) pa_nil))))))) pa_nil)) pps_nil) rfl rfl (by decide) (by decide)) pa_nil)))))
      (pss_cons (ps_if (pt_cmpR (op_neD hr.units) (pe_lc (own := [("_law_one", 6)]) (by rfl) sc.nd  (pi_list (pv 3)) (blkOk_by (own := [("_law_one", 6)]) (N := ["_law_n", "_law_pair", "_law_piece", "_law_some", "_law_both", "_law_inner", "_law_one"]) (sc := defScope sZl) (by decide +kernel)) (fun _ _ _ _ _ => (pg_name (i := 6) sc.nd rfl (.inl rfl))) (fun _ _ _ _ _ => pts_nil) (fun _ _ _ _ _ => (pe_call G__law_with (hr.mono (by omega)) (by rfl) m__law_with k__law_with b__law_with .nil pass0 (pa_cons (pv 0) (pa_cons (pv 6) pa_nil))))) (pe_op op_rep (pe_lst (pa_cons pe_bl pa_nil)) pe_int) (nomark _)) (pss_one (ps_ret pe_bl)) pss_nil)
      (pss_cons (ps_set (i := 4) sc.nd rfl (.inl rfl) (pe_disp (pps_cons pe_str (pe_tup (pa_cons (pv 1) pa_nil)) (pps_cons pe_str (pe_tup (pa_cons (pv 1) pa_nil)) (pps_cons pe_str (pe_tup (pa_cons (pe_tup (pa_cons (pe_ix (show IxR _ (rIxL K) from ix_list) (pv 0) pe_int (fun _ _ => rfl)) (pa_cons (pe_tup pa_nil) pa_nil))) pa_nil)) (pps_cons pe_str (pe_tup (pa_cons (pe_tup (pa_cons (pe_ix (show IxR _ (rIxL K) from ix_list) (pv 0) pe_int (fun _ _ => rfl)) (pa_cons (pe_tup pa_nil) pa_nil))) pa_nil)) (pps_cons pe_str (pe_tup (pa_cons (pv 2) pa_nil)) pps_nil))))) rfl rfl (by decide) (by decide)))
      (pss_cons (ps_expr (pe_bm PySem.F.plainAttrs_dict PySem.F.slot_dict_update PySem.F.type_dict_update Fw.mt_update (pv 4) (pa_cons (pe_disp (pps_cons pe_str (pe_tup (pa_cons (pe_tup (pa_cons (pe_ix (show IxR _ (rIxL K) from ix_list) (pv 0) pe_int (fun _ _ => rfl)) (pa_cons (pe_tup (pa_cons pe_int (pa_cons pe_int (pa_cons pe_int pa_nil)))) (pa_cons (pe_tup pa_nil) (pa_cons (pe_tup pa_nil) (pa_cons (pe_tup pa_nil) (pa_cons (pe_tup pa_nil) pa_nil))))))) pa_nil)) (pps_cons pe_str (pe_tup (pa_cons (pe_tup (pa_cons (pe_tup (pa_cons pe_str (pa_cons (pe_ix (show IxR _ (rIxL K) from ix_list) (pv 0) pe_int (fun _ _ => rfl)) pa_nil))) (pa_cons (pe_tup pa_nil) pa_nil))) (pa_cons (pe_tup (pa_cons (pe_tup (pa_cons pe_str (pa_cons (pe_ix (show IxR _ (rIxL K) from ix_list) (pv 0) pe_int (fun _ _ => rfl)) pa_nil))) (pa_cons (pe_tup pa_nil) pa_nil))) pa_nil))) pps_nil)) rfl rfl (by decide) (by decide)) pa_nil)))
      (pss_cons (ps_set (i := 5) sc.nd rfl (.inl rfl) (pe_disp (pps_cons pe_str (pe_tup (pa_cons (pe_tup (pa_cons (pe_ix (show IxR _ (rIxL K) from ix_list) (pv 0) pe_int (fun _ _ => rfl)) (pa_cons pe_str (pa_cons (pe_tup (pa_cons (pe_ix (show IxR _ (rIxL K) from ix_list) (pv 0) pe_int (fun _ _ => rfl)) (pa_cons (pe_ix (show IxR _ (rIxL K) from ix_list) (pv 0) pe_int (fun _ _ => rfl)) pa_nil))) (pa_cons (pe_tup (pa_cons (pe_tup (pa_cons pe_str (pa_cons (pe_tup (pa_cons pe_str (pa_cons (pe_ix (show IxR _ (rIxL K) from ix_list) (pv 0) pe_int (fun _ _ => rfl)) pa_nil))) pa_nil))) pa_nil)) pa_nil))))) pa_nil)) (pps_cons pe_str (pe_tup (pa_cons (pe_tup (pa_cons (pe_ix (show IxR _ (rIxL K) from ix_list) (pv 0) pe_int (fun _ _ => rfl)) (pa_cons pe_int pa_nil))) pa_nil)) pps_nil)) rfl rfl (by decide) (by decide)))
      (pss_one (ps_ret (pe_and (pe_cmpR op_is_bl (pe_call G__law_with (hr.mono (by omega)) (by rfl) m__law_with k__law_with b__law_with .nil pass0 (pa_cons (pv 0) (pa_cons (pv 4) pa_nil))) pe_bl (nomark _)) (pe_one (pe_cmpR op_is_bl (pe_call G__law_with (hr.mono (by omega)) (by rfl) m__law_with k__law_with b__law_with .nil pass0 (pa_cons (pv 0) (pa_cons (pv 5) pa_nil))) pe_bl (nomark _)))))))))))))), ?_⟩
  obtain ⟨x0, x1, x2, x3, x4, x5, x6, x7, x8, rfl⟩ := nine l9
  have n0 : IsNm x0 := nm x0 (by simp)
  have n1 : IsNm x1 := nm x1 (by simp)
  have n2 : IsNm x2 := nm x2 (by simp)
  have ne01 : x0 ≠ x1 := by simp at nd; exact nd.1.1
  have ne12 : x1 ≠ x2 := by simp at nd; exact nd.2.1.1
  clear nd nm l9
  replace hl : SqL K H l [.str x0, .str x1, .str x2, .str x3, .str x4, .str x5, .str x6, .str x7, .str x8] := SqL.of hl
  have s0 : Same H H := Same.refl _
  refine ⟨_, rfl, l, _, 1, _, rfl, rfl, s0.seq hl, atI_nat (j := 1) rfl, by show 2 ≤ sizeLine; decide, fun t1 np_ => ?_⟩
  have x_ := same_upd (o := .tup [.str x1, .int 1]) np_
  have e_t1 : (upd H t1 (.tup [.str x1, .int 1])) t1 = some (.tup [.str x1, .int 1]) := upd_same
  replace s0 := s0.trans x_
  generalize upd H t1 (.tup [.str x1, .int 1]) = W2 at *
  clear x_ np_
  have d_t1 : Dp K W2 (.ref t1) (.tuple [.str x1, .int 1]) := .tup (SqT.of e_t1) (.cons (.str _) (.cons (.int _) .nil))
  clear e_t1
  refine ⟨_, rfl, l, _, 1, _, rfl, rfl, s0.seq hl, atI_nat (j := 1) rfl, by show 0 ≤ sizeLine; decide, fun t3 np_ => ?_⟩
  have x_ := same_upd (o := .tup []) np_
  have e_t3 : (upd W2 t3 (.tup [])) t3 = some (.tup []) := upd_same
  replace s0 := s0.trans x_
  replace d_t1 := dp_same x_ _ _ d_t1
  generalize upd W2 t3 (.tup []) = W4 at *
  clear x_ np_
  have d_t3 : Dp K W4 (.ref t3) (.tuple []) := .tup (SqT.of e_t3) .nil
  clear e_t3
  refine ⟨by show 0 ≤ sizeLine; decide, fun t5 np_ => ?_⟩
  have x_ := same_upd (o := .tup []) np_
  have e_t5 : (upd W4 t5 (.tup [])) t5 = some (.tup []) := upd_same
  replace s0 := s0.trans x_
  replace d_t1 := dp_same x_ _ _ d_t1
  replace d_t3 := dp_same x_ _ _ d_t3
  generalize upd W4 t5 (.tup []) = W6 at *
  clear x_ np_
  have d_t5 : Dp K W6 (.ref t5) (.tuple []) := .tup (SqT.of e_t5) .nil
  clear e_t5
  refine ⟨by show 4 ≤ sizeLine; decide, fun t7 np_ => ?_⟩
  have x_ := same_upd (o := .tup [.str x1, .str "open", .ref t3, .ref t5]) np_
  have e_t7 : (upd W6 t7 (.tup [.str x1, .str "open", .ref t3, .ref t5])) t7 = some (.tup [.str x1, .str "open", .ref t3, .ref t5]) := upd_same
  replace s0 := s0.trans x_
  replace d_t1 := dp_same x_ _ _ d_t1
  replace d_t3 := dp_same x_ _ _ d_t3
  replace d_t5 := dp_same x_ _ _ d_t5
  generalize upd W6 t7 (.tup [.str x1, .str "open", .ref t3, .ref t5]) = W8 at *
  clear x_ np_
  have d_t7 : Dp K W8 (.ref t7) (.tuple [.str x1, .str "open", .tuple [], .tuple []]) := .tup (SqT.of e_t7) (.cons (.str _) (.cons (.str _) (.cons d_t3 (.cons d_t5 .nil))))
  clear e_t7
  clear d_t3 d_t5
  refine ⟨_, _, rfl, fun a9 na9 => ?_⟩
  have sa9 : Same (upd W8 a9 (.dK [])) (upd W8 a9 (.dK [])) := Same.refl _
  refine ⟨_, rfl, _, rfl, l, _, 2, _, rfl, rfl, (s0.trans ((same_upd na9).trans sa9)).seq hl, atI_nat (j := 2) rfl, by show 2 ≤ sizeLine; decide, fun t11 np_ => ?_⟩
  have x_ := same_upd (o := .tup [.str x2, .int 1]) np_
  have e_t11 : (upd (upd W8 a9 (.dK [])) t11 (.tup [.str x2, .int 1])) t11 = some (.tup [.str x2, .int 1]) := upd_same
  replace sa9 := sa9.trans x_
  generalize upd (upd W8 a9 (.dK [])) t11 (.tup [.str x2, .int 1]) = W12 at *
  clear x_ np_
  have d_t11 : Dp K W12 (.ref t11) (.tuple [.str x2, .int 1]) := .tup (SqT.of e_t11) (.cons (.str _) (.cons (.int _) .nil))
  clear e_t11
  refine ⟨_, rfl, by show 3 ≤ sizeLine; decide, fun t13 np_ => ?_⟩
  have x_ := same_upd (o := .tup [.ref t1, .ref t11, .ref t1]) np_
  have e_t13 : (upd W12 t13 (.tup [.ref t1, .ref t11, .ref t1])) t13 = some (.tup [.ref t1, .ref t11, .ref t1]) := upd_same
  replace d_t11 := dp_same x_ _ _ d_t11
  replace sa9 := sa9.trans x_
  generalize upd W12 t13 (.tup [.ref t1, .ref t11, .ref t1]) = W14 at *
  clear x_ np_
  have d_t13 : Dp K W14 (.ref t13) (.tuple [.tuple [.str x1, .int 1], .tuple [.str x2, .int 1], .tuple [.str x1, .int 1]]) := .tup (SqT.of e_t13) (.cons (dp_same ((same_upd na9).trans sa9) _ _ d_t1) (.cons d_t11 (.cons (dp_same ((same_upd na9).trans sa9) _ _ d_t1) .nil)))
  clear e_t13
  clear d_t11
  refine ⟨sa9 _ _ upd_same, [(Sum.inr "names", .ref t13)], rfl, by show 1 ≤ 15; decide, ?_⟩
  rw [show mergeK [] ([(Sum.inr "names", .ref t13)] : List (L2.Key × V)) = ([(Sum.inr "names", .ref t13)] : List (L2.Key × V)) from rfl]
  obtain ⟨sE_, e_a9, dE_, tE_⟩ := dEnd (K := K) (kvs := [(Sum.inr "names", .ref t13)]) na9 sa9
  replace d_t13 := dE_ rfl d_t13
  replace s0 := s0.trans sE_
  replace d_t1 := dp_same sE_ _ _ d_t1
  replace d_t7 := dp_same sE_ _ _ d_t7
  clear dE_ tE_ sa9 
  generalize upd W14 a9 (.dK [(Sum.inr "names", .ref t13)]) = W15 at *
  clear sE_ na9
  have f_a9 : Fls K l a9 W15 := fun H' s' Q E q => w3  (d := prs [(x1, .int 1), (x2, .int 1), (x1, .int 1)]) ((s0.trans s').seq hl) n0 (s' _ _ e_a9) (dp_same s' _ _ d_t13) (okt_all (by show 3 ≤ 11; decide) (okt_cons (okt_all (by show 2 ≤ 11; decide) (okt_cons (okt_str n1) (okt_cons (okt_int (by decide) (by decide)) okt_nil))) (okt_cons (okt_all (by show 2 ≤ 11; decide) (okt_cons (okt_str n2) (okt_cons (okt_int (by decide) (by decide)) okt_nil))) (okt_cons (okt_all (by show 2 ≤ 11; decide) (okt_cons (okt_str n1) (okt_cons (okt_int (by decide) (by decide)) okt_nil))) okt_nil)))) fun H'' s'' => by rw [al1 n1 n2 (fun _ => .int 1)]; exact q H'' s''
  clear e_a9
  clear d_t13
  intro a16 na16
  have sa16 : Same (upd W15 a16 (.dK [])) (upd W15 a16 (.dK [])) := Same.refl _
  refine ⟨_, rfl, _, rfl, l, _, 1, _, rfl, rfl, (s0.trans ((same_upd na16).trans sa16)).seq hl, atI_nat (j := 1) rfl, by show 2 ≤ sizeLine; decide, fun t18 np_ => ?_⟩
  have x_ := same_upd (o := .tup [.str x1, .int 2]) np_
  have e_t18 : (upd (upd W15 a16 (.dK [])) t18 (.tup [.str x1, .int 2])) t18 = some (.tup [.str x1, .int 2]) := upd_same
  replace sa16 := sa16.trans x_
  generalize upd (upd W15 a16 (.dK [])) t18 (.tup [.str x1, .int 2]) = W19 at *
  clear x_ np_
  have d_t18 : Dp K W19 (.ref t18) (.tuple [.str x1, .int 2]) := .tup (SqT.of e_t18) (.cons (.str _) (.cons (.int _) .nil))
  clear e_t18
  refine ⟨by show 2 ≤ sizeLine; decide, fun t20 np_ => ?_⟩
  have x_ := same_upd (o := .tup [.ref t1, .ref t18]) np_
  have e_t20 : (upd W19 t20 (.tup [.ref t1, .ref t18])) t20 = some (.tup [.ref t1, .ref t18]) := upd_same
  replace d_t18 := dp_same x_ _ _ d_t18
  replace sa16 := sa16.trans x_
  generalize upd W19 t20 (.tup [.ref t1, .ref t18]) = W21 at *
  clear x_ np_
  have d_t20 : Dp K W21 (.ref t20) (.tuple [.tuple [.str x1, .int 1], .tuple [.str x1, .int 2]]) := .tup (SqT.of e_t20) (.cons (dp_same ((same_upd na16).trans sa16) _ _ d_t1) (.cons d_t18 .nil))
  clear e_t20
  clear d_t18
  refine ⟨sa16 _ _ upd_same, [(Sum.inr "shared", .ref t20)], rfl, by show 1 ≤ 15; decide, ?_⟩
  rw [show mergeK [] ([(Sum.inr "shared", .ref t20)] : List (L2.Key × V)) = ([(Sum.inr "shared", .ref t20)] : List (L2.Key × V)) from rfl]
  obtain ⟨sE_, e_a16, dE_, tE_⟩ := dEnd (K := K) (kvs := [(Sum.inr "shared", .ref t20)]) na16 sa16
  replace d_t20 := dE_ rfl d_t20
  replace s0 := s0.trans sE_
  replace d_t1 := dp_same sE_ _ _ d_t1
  replace d_t7 := dp_same sE_ _ _ d_t7
  replace f_a9 := f_a9.same sE_
  clear dE_ tE_ sa16 
  generalize upd W21 a16 (.dK [(Sum.inr "shared", .ref t20)]) = W22 at *
  clear sE_ na16
  have f_a16 : Fls K l a16 W22 := fun H' s' Q E q => w8  (d := prs [(x1, .int 1), (x1, .int 2)]) ((s0.trans s').seq hl) n0 (s' _ _ e_a16) (dp_same s' _ _ d_t20) (okt_all (by show 2 ≤ 11; decide) (okt_cons (okt_all (by show 2 ≤ 11; decide) (okt_cons (okt_str n1) (okt_cons (okt_int (by decide) (by decide)) okt_nil))) (okt_cons (okt_all (by show 2 ≤ 11; decide) (okt_cons (okt_str n1) (okt_cons (okt_int (by decide) (by decide)) okt_nil))) okt_nil))) fun H'' s'' => by rw [al2 n1 (.int 1) (.int 2)]; exact q H'' s''
  clear e_a16
  clear d_t20
  intro a23 na23
  have sa23 : Same (upd W22 a23 (.dK [])) (upd W22 a23 (.dK [])) := Same.refl _
  refine ⟨_, rfl, l, _, 1, _, rfl, rfl, (s0.trans ((same_upd na23).trans sa23)).seq hl, atI_nat (j := 1) rfl, by show 0 ≤ sizeLine; decide, fun t25 np_ => ?_⟩
  have x_ := same_upd (o := .tup []) np_
  have e_t25 : (upd (upd W22 a23 (.dK [])) t25 (.tup [])) t25 = some (.tup []) := upd_same
  replace sa23 := sa23.trans x_
  generalize upd (upd W22 a23 (.dK [])) t25 (.tup []) = W26 at *
  clear x_ np_
  have d_t25 : Dp K W26 (.ref t25) (.tuple []) := .tup (SqT.of e_t25) .nil
  clear e_t25
  refine ⟨by show 2 ≤ sizeLine; decide, fun t27 np_ => ?_⟩
  have x_ := same_upd (o := .tup [.str x1, .ref t25]) np_
  have e_t27 : (upd W26 t27 (.tup [.str x1, .ref t25])) t27 = some (.tup [.str x1, .ref t25]) := upd_same
  replace d_t25 := dp_same x_ _ _ d_t25
  replace sa23 := sa23.trans x_
  generalize upd W26 t27 (.tup [.str x1, .ref t25]) = W28 at *
  clear x_ np_
  have d_t27 : Dp K W28 (.ref t27) (.tuple [.str x1, .tuple []]) := .tup (SqT.of e_t27) (.cons (.str _) (.cons d_t25 .nil))
  clear e_t27
  clear d_t25
  refine ⟨_, rfl, l, _, 1, _, rfl, rfl, (s0.trans ((same_upd na23).trans sa23)).seq hl, atI_nat (j := 1) rfl, by show 1 ≤ sizeLine; decide, fun t29 np_ => ?_⟩
  have x_ := same_upd (o := .tup [.int 1]) np_
  have e_t29 : (upd W28 t29 (.tup [.int 1])) t29 = some (.tup [.int 1]) := upd_same
  replace d_t27 := dp_same x_ _ _ d_t27
  replace sa23 := sa23.trans x_
  generalize upd W28 t29 (.tup [.int 1]) = W30 at *
  clear x_ np_
  have d_t29 : Dp K W30 (.ref t29) (.tuple [.int 1]) := .tup (SqT.of e_t29) (.cons (.int _) .nil)
  clear e_t29
  refine ⟨by show 2 ≤ sizeLine; decide, fun t31 np_ => ?_⟩
  have x_ := same_upd (o := .tup [.str x1, .ref t29]) np_
  have e_t31 : (upd W30 t31 (.tup [.str x1, .ref t29])) t31 = some (.tup [.str x1, .ref t29]) := upd_same
  replace d_t27 := dp_same x_ _ _ d_t27
  replace d_t29 := dp_same x_ _ _ d_t29
  replace sa23 := sa23.trans x_
  generalize upd W30 t31 (.tup [.str x1, .ref t29]) = W32 at *
  clear x_ np_
  have d_t31 : Dp K W32 (.ref t31) (.tuple [.str x1, .tuple [.int 1]]) := .tup (SqT.of e_t31) (.cons (.str _) (.cons d_t29 .nil))
  clear e_t31
  clear d_t29
  refine ⟨by show 2 ≤ sizeLine; decide, fun t33 np_ => ?_⟩
  have x_ := same_upd (o := .tup [.ref t27, .ref t31]) np_
  have e_t33 : (upd W32 t33 (.tup [.ref t27, .ref t31])) t33 = some (.tup [.ref t27, .ref t31]) := upd_same
  replace d_t27 := dp_same x_ _ _ d_t27
  replace d_t31 := dp_same x_ _ _ d_t31
  replace sa23 := sa23.trans x_
  generalize upd W32 t33 (.tup [.ref t27, .ref t31]) = W34 at *
  clear x_ np_
  have d_t33 : Dp K W34 (.ref t33) (.tuple [.tuple [.str x1, .tuple []], .tuple [.str x1, .tuple [.int 1]]]) := .tup (SqT.of e_t33) (.cons d_t27 (.cons d_t31 .nil))
  clear e_t33
  clear d_t27 d_t31
  refine ⟨sa23 _ _ upd_same, [(Sum.inr "lists", .ref t33)], rfl, by show 1 ≤ 15; decide, ?_⟩
  rw [show mergeK [] ([(Sum.inr "lists", .ref t33)] : List (L2.Key × V)) = ([(Sum.inr "lists", .ref t33)] : List (L2.Key × V)) from rfl]
  obtain ⟨sE_, e_a23, dE_, tE_⟩ := dEnd (K := K) (kvs := [(Sum.inr "lists", .ref t33)]) na23 sa23
  replace d_t33 := dE_ rfl d_t33
  replace s0 := s0.trans sE_
  replace d_t1 := dp_same sE_ _ _ d_t1
  replace d_t7 := dp_same sE_ _ _ d_t7
  replace f_a9 := f_a9.same sE_
  replace f_a16 := f_a16.same sE_
  clear dE_ tE_ sa23 
  generalize upd W34 a23 (.dK [(Sum.inr "lists", .ref t33)]) = W35 at *
  clear sE_ na23
  have f_a23 : Fls K l a23 W35 := fun H' s' Q E q => w4  (d := prs [(x1, e0), (x1, .tuple [.int 1])]) ((s0.trans s').seq hl) n0 (s' _ _ e_a23) (dp_same s' _ _ d_t33) (okt_all (by show 2 ≤ 11; decide) (okt_cons (okt_all (by show 2 ≤ 11; decide) (okt_cons (okt_str n1) (okt_cons okt_e0 okt_nil))) (okt_cons (okt_all (by show 2 ≤ 11; decide) (okt_cons (okt_str n1) (okt_cons (okt_all (by show 1 ≤ 11; decide) (okt_cons (okt_int (by decide) (by decide)) okt_nil)) okt_nil))) okt_nil))) fun H'' s'' => by rw [al3 n1 e0 (.tuple [.int 1])]; exact q H'' s''
  clear e_a23
  clear d_t33
  refine ⟨by show 3 ≤ sizeLine; decide, fun t36 np_ => ?_⟩
  have x_ := same_upd (o := .lst [.ref a9, .ref a16, .ref a23]) np_
  have e_t36 : (upd W35 t36 (.lst [.ref a9, .ref a16, .ref a23])) t36 = some (.lst [.ref a9, .ref a16, .ref a23]) := upd_same
  replace s0 := s0.trans x_
  replace d_t1 := dp_same x_ _ _ d_t1
  replace d_t7 := dp_same x_ _ _ d_t7
  replace f_a9 := f_a9.same x_
  replace f_a16 := f_a16.same x_
  replace f_a23 := f_a23.same x_
  generalize upd W35 t36 (.lst [.ref a9, .ref a16, .ref a23]) = W37 at *
  clear x_ np_
  refine ⟨_, rfl, fun a38 na38 => ?_⟩
  have sa38 : Same (upd W37 a38 (.dK [])) (upd W37 a38 (.dK [])) := Same.refl _
  refine ⟨_, rfl, l, _, 1, _, rfl, rfl, (s0.trans ((same_upd na38).trans sa38)).seq hl, atI_nat (j := 1) rfl, by show 0 ≤ sizeLine; decide, fun t40 np_ => ?_⟩
  have x_ := same_upd (o := .tup []) np_
  have e_t40 : (upd (upd W37 a38 (.dK [])) t40 (.tup [])) t40 = some (.tup []) := upd_same
  replace sa38 := sa38.trans x_
  generalize upd (upd W37 a38 (.dK [])) t40 (.tup []) = W41 at *
  clear x_ np_
  have d_t40 : Dp K W41 (.ref t40) (.tuple []) := .tup (SqT.of e_t40) .nil
  clear e_t40
  refine ⟨by show 2 ≤ sizeLine; decide, fun t42 np_ => ?_⟩
  have x_ := same_upd (o := .tup [.str x1, .ref t40]) np_
  have e_t42 : (upd W41 t42 (.tup [.str x1, .ref t40])) t42 = some (.tup [.str x1, .ref t40]) := upd_same
  replace d_t40 := dp_same x_ _ _ d_t40
  replace sa38 := sa38.trans x_
  generalize upd W41 t42 (.tup [.str x1, .ref t40]) = W43 at *
  clear x_ np_
  have d_t42 : Dp K W43 (.ref t42) (.tuple [.str x1, .tuple []]) := .tup (SqT.of e_t42) (.cons (.str _) (.cons d_t40 .nil))
  clear e_t42
  clear d_t40
  refine ⟨by show 1 ≤ sizeLine; decide, fun t44 np_ => ?_⟩
  have x_ := same_upd (o := .tup [.ref t42]) np_
  have e_t44 : (upd W43 t44 (.tup [.ref t42])) t44 = some (.tup [.ref t42]) := upd_same
  replace d_t42 := dp_same x_ _ _ d_t42
  replace sa38 := sa38.trans x_
  generalize upd W43 t44 (.tup [.ref t42]) = W45 at *
  clear x_ np_
  refine ⟨t44, 2, _, rfl, rfl, SqT.of e_t44, by simp, by decide, by show 1 ≤ 1000; decide, (fun e => absurd e (by decide)), fun _ t46 np_ => ?_⟩
  rw [show (List.replicate 2 [V.ref t42]).flatten = [V.ref t42, V.ref t42] from rfl]
  have x_ := same_upd (o := .tup [.ref t42, .ref t42]) np_
  have e_t46 : (upd W45 t46 (.tup [.ref t42, .ref t42])) t46 = some (.tup [.ref t42, .ref t42]) := upd_same
  clear e_t44
  replace d_t42 := dp_same x_ _ _ d_t42
  replace sa38 := sa38.trans x_
  generalize upd W45 t46 (.tup [.ref t42, .ref t42]) = W47 at *
  clear x_ np_
  have d_t46 : Dp K W47 (.ref t46) (.tuple [.tuple [.str x1, .tuple []], .tuple [.str x1, .tuple []]]) := .tup (SqT.of e_t46) (.cons d_t42 (.cons d_t42 .nil))
  clear e_t46
  clear d_t42
  refine ⟨sa38 _ _ upd_same, [(Sum.inr "all", .ref t46)], rfl, by show 1 ≤ 15; decide, ?_⟩
  rw [show mergeK [] ([(Sum.inr "all", .ref t46)] : List (L2.Key × V)) = ([(Sum.inr "all", .ref t46)] : List (L2.Key × V)) from rfl]
  obtain ⟨sE_, e_a38, dE_, tE_⟩ := dEnd (K := K) (kvs := [(Sum.inr "all", .ref t46)]) na38 sa38
  replace d_t46 := dE_ rfl d_t46
  replace s0 := s0.trans sE_
  replace d_t1 := dp_same sE_ _ _ d_t1
  replace d_t7 := dp_same sE_ _ _ d_t7
  replace f_a9 := f_a9.same sE_
  replace f_a16 := f_a16.same sE_
  replace f_a23 := f_a23.same sE_
  replace e_t36 := sE_ _ _ e_t36
  clear dE_ tE_ sa38 
  generalize upd W47 a38 (.dK [(Sum.inr "all", .ref t46)]) = W48 at *
  clear sE_ na38
  have f_a38 : Fls K l a38 W48 := fun H' s' Q E q => w9  (d := prs [(x1, e0), (x1, e0)]) ((s0.trans s').seq hl) n0 (s' _ _ e_a38) (dp_same s' _ _ d_t46) (okt_all (by show 2 ≤ 11; decide) (okt_cons (okt_all (by show 2 ≤ 11; decide) (okt_cons (okt_str n1) (okt_cons okt_e0 okt_nil))) (okt_cons (okt_all (by show 2 ≤ 11; decide) (okt_cons (okt_str n1) (okt_cons okt_e0 okt_nil))) okt_nil))) fun H'' s'' => by rw [al3 n1 e0 e0]; exact q H'' s''
  clear e_a38
  clear d_t46
  intro a49 na49
  have sa49 : Same (upd W48 a49 (.dK [])) (upd W48 a49 (.dK [])) := Same.refl _
  refine ⟨_, rfl, _, rfl, l, _, 2, _, rfl, rfl, (s0.trans ((same_upd na49).trans sa49)).seq hl, atI_nat (j := 2) rfl, by show 0 ≤ sizeLine; decide, fun t51 np_ => ?_⟩
  have x_ := same_upd (o := .tup []) np_
  have e_t51 : (upd (upd W48 a49 (.dK [])) t51 (.tup [])) t51 = some (.tup []) := upd_same
  replace sa49 := sa49.trans x_
  generalize upd (upd W48 a49 (.dK [])) t51 (.tup []) = W52 at *
  clear x_ np_
  have d_t51 : Dp K W52 (.ref t51) (.tuple []) := .tup (SqT.of e_t51) .nil
  clear e_t51
  refine ⟨by show 0 ≤ sizeLine; decide, fun t53 np_ => ?_⟩
  have x_ := same_upd (o := .tup []) np_
  have e_t53 : (upd W52 t53 (.tup [])) t53 = some (.tup []) := upd_same
  replace d_t51 := dp_same x_ _ _ d_t51
  replace sa49 := sa49.trans x_
  generalize upd W52 t53 (.tup []) = W54 at *
  clear x_ np_
  have d_t53 : Dp K W54 (.ref t53) (.tuple []) := .tup (SqT.of e_t53) .nil
  clear e_t53
  refine ⟨by show 4 ≤ sizeLine; decide, fun t55 np_ => ?_⟩
  have x_ := same_upd (o := .tup [.str x2, .str "open", .ref t51, .ref t53]) np_
  have e_t55 : (upd W54 t55 (.tup [.str x2, .str "open", .ref t51, .ref t53])) t55 = some (.tup [.str x2, .str "open", .ref t51, .ref t53]) := upd_same
  replace d_t51 := dp_same x_ _ _ d_t51
  replace d_t53 := dp_same x_ _ _ d_t53
  replace sa49 := sa49.trans x_
  generalize upd W54 t55 (.tup [.str x2, .str "open", .ref t51, .ref t53]) = W56 at *
  clear x_ np_
  have d_t55 : Dp K W56 (.ref t55) (.tuple [.str x2, .str "open", .tuple [], .tuple []]) := .tup (SqT.of e_t55) (.cons (.str _) (.cons (.str _) (.cons d_t51 (.cons d_t53 .nil))))
  clear e_t55
  clear d_t51 d_t53
  refine ⟨_, rfl, by show 3 ≤ sizeLine; decide, fun t57 np_ => ?_⟩
  have x_ := same_upd (o := .tup [.ref t7, .ref t55, .ref t7]) np_
  have e_t57 : (upd W56 t57 (.tup [.ref t7, .ref t55, .ref t7])) t57 = some (.tup [.ref t7, .ref t55, .ref t7]) := upd_same
  replace d_t55 := dp_same x_ _ _ d_t55
  replace sa49 := sa49.trans x_
  generalize upd W56 t57 (.tup [.ref t7, .ref t55, .ref t7]) = W58 at *
  clear x_ np_
  have d_t57 : Dp K W58 (.ref t57) (.tuple [.tuple [.str x1, .str "open", .tuple [], .tuple []], .tuple [.str x2, .str "open", .tuple [], .tuple []], .tuple [.str x1, .str "open", .tuple [], .tuple []]]) := .tup (SqT.of e_t57) (.cons (dp_same ((same_upd na49).trans sa49) _ _ d_t7) (.cons d_t55 (.cons (dp_same ((same_upd na49).trans sa49) _ _ d_t7) .nil)))
  clear e_t57
  clear d_t55
  refine ⟨sa49 _ _ upd_same, [(Sum.inr "pieces", .ref t57)], rfl, by show 1 ≤ 15; decide, ?_⟩
  rw [show mergeK [] ([(Sum.inr "pieces", .ref t57)] : List (L2.Key × V)) = ([(Sum.inr "pieces", .ref t57)] : List (L2.Key × V)) from rfl]
  obtain ⟨sE_, e_a49, dE_, tE_⟩ := dEnd (K := K) (kvs := [(Sum.inr "pieces", .ref t57)]) na49 sa49
  replace d_t57 := dE_ rfl d_t57
  replace s0 := s0.trans sE_
  replace d_t1 := dp_same sE_ _ _ d_t1
  replace d_t7 := dp_same sE_ _ _ d_t7
  replace f_a9 := f_a9.same sE_
  replace f_a16 := f_a16.same sE_
  replace f_a23 := f_a23.same sE_
  replace e_t36 := sE_ _ _ e_t36
  replace f_a38 := f_a38.same sE_
  clear dE_ tE_ sa49 
  generalize upd W58 a49 (.dK [(Sum.inr "pieces", .ref t57)]) = W59 at *
  clear sE_ na49
  have f_a49 : Fls K l a49 W59 := fun H' s' Q E q => w5 (ps := [pcE (.str x1) (.str "open") e0, pcE (.str x2) (.str "open") e0, pcE (.str x1) (.str "open") e0]) (fun p hp => by simp at hp; rcases hp with rfl | rfl | rfl <;> rfl) ((s0.trans s').seq hl) n0 (s' _ _ e_a49) (dp_same s' _ _ d_t57) (okt_all (by show 3 ≤ 11; decide) (okt_cons (okt_all (by show 4 ≤ 11; decide) (okt_cons (okt_str n1) (okt_cons (okt_wd (by decide +kernel)) (okt_cons okt_e0 (okt_cons okt_e0 okt_nil))))) (okt_cons (okt_all (by show 4 ≤ 11; decide) (okt_cons (okt_str n2) (okt_cons (okt_wd (by decide +kernel)) (okt_cons okt_e0 (okt_cons okt_e0 okt_nil))))) (okt_cons (okt_all (by show 4 ≤ 11; decide) (okt_cons (okt_str n1) (okt_cons (okt_wd (by decide +kernel)) (okt_cons okt_e0 (okt_cons okt_e0 okt_nil))))) okt_nil)))) fun H'' s'' => by rw [al5 n1 n2 (.str "open") (.str "open") (.str "open")]; exact q H'' s''
  clear e_a49
  clear d_t57
  refine ⟨by show 2 ≤ sizeLine; decide, fun t60 np_ => ?_⟩
  have x_ := same_upd (o := .lst [.ref a38, .ref a49]) np_
  have e_t60 : (upd W59 t60 (.lst [.ref a38, .ref a49])) t60 = some (.lst [.ref a38, .ref a49]) := upd_same
  replace s0 := s0.trans x_
  replace d_t1 := dp_same x_ _ _ d_t1
  replace d_t7 := dp_same x_ _ _ d_t7
  replace f_a9 := f_a9.same x_
  replace f_a16 := f_a16.same x_
  replace f_a23 := f_a23.same x_
  replace e_t36 := x_ _ _ e_t36
  replace f_a38 := f_a38.same x_
  replace f_a49 := f_a49.same x_
  generalize upd W59 t60 (.lst [.ref a38, .ref a49]) = W61 at *
  clear x_ np_
  refine ⟨t36, t60, _, _, rfl, rfl, e_t36, e_t60, by show 5 ≤ sizeLine; decide, fun t62 np_ => ?_⟩
  have x_ := same_upd (o := .lst ([.ref a9, .ref a16, .ref a23] ++ [.ref a38, .ref a49])) np_
  have e_t62 : (upd W61 t62 (.lst ([.ref a9, .ref a16, .ref a23] ++ [.ref a38, .ref a49]))) t62 = some (.lst [.ref a9, .ref a16, .ref a23, .ref a38, .ref a49]) := upd_same
  replace s0 := s0.trans x_
  replace d_t1 := dp_same x_ _ _ d_t1
  replace d_t7 := dp_same x_ _ _ d_t7
  replace f_a9 := f_a9.same x_
  replace f_a16 := f_a16.same x_
  replace f_a23 := f_a23.same x_
  replace e_t36 := x_ _ _ e_t36
  replace f_a38 := f_a38.same x_
  replace f_a49 := f_a49.same x_
  replace e_t60 := x_ _ _ e_t60
  generalize upd W61 t62 (.lst ([.ref a9, .ref a16, .ref a23] ++ [.ref a38, .ref a49])) = W63 at *
  clear x_ np_
  clear e_t36 e_t60
  refine ⟨_, rfl, fun a64 na64 => ?_⟩
  have sa64 : Same (upd W63 a64 (.dK [])) (upd W63 a64 (.dK [])) := Same.refl _
  refine ⟨_, rfl, l, _, 1, _, rfl, rfl, (s0.trans ((same_upd na64).trans sa64)).seq hl, atI_nat (j := 1) rfl, _, rfl, l, _, 2, _, rfl, rfl, (s0.trans ((same_upd na64).trans sa64)).seq hl, atI_nat (j := 2) rfl, _, rfl, l, _, 2, _, rfl, rfl, (s0.trans ((same_upd na64).trans sa64)).seq hl, atI_nat (j := 2) rfl, by show 2 ≤ sizeLine; decide, fun t66 np_ => ?_⟩
  have x_ := same_upd (o := .tup [.str x2, .str x2]) np_
  have e_t66 : (upd (upd W63 a64 (.dK [])) t66 (.tup [.str x2, .str x2])) t66 = some (.tup [.str x2, .str x2]) := upd_same
  replace sa64 := sa64.trans x_
  generalize upd (upd W63 a64 (.dK [])) t66 (.tup [.str x2, .str x2]) = W67 at *
  clear x_ np_
  have d_t66 : Dp K W67 (.ref t66) (.tuple [.str x2, .str x2]) := .tup (SqT.of e_t66) (.cons (.str _) (.cons (.str _) .nil))
  clear e_t66
  refine ⟨by show 0 ≤ sizeLine; decide, fun t68 np_ => ?_⟩
  have x_ := same_upd (o := .tup []) np_
  have e_t68 : (upd W67 t68 (.tup [])) t68 = some (.tup []) := upd_same
  replace d_t66 := dp_same x_ _ _ d_t66
  replace sa64 := sa64.trans x_
  generalize upd W67 t68 (.tup []) = W69 at *
  clear x_ np_
  have d_t68 : Dp K W69 (.ref t68) (.tuple []) := .tup (SqT.of e_t68) .nil
  clear e_t68
  refine ⟨by show 4 ≤ sizeLine; decide, fun t70 np_ => ?_⟩
  have x_ := same_upd (o := .tup [.str x1, .str "open", .ref t66, .ref t68]) np_
  have e_t70 : (upd W69 t70 (.tup [.str x1, .str "open", .ref t66, .ref t68])) t70 = some (.tup [.str x1, .str "open", .ref t66, .ref t68]) := upd_same
  replace d_t66 := dp_same x_ _ _ d_t66
  replace d_t68 := dp_same x_ _ _ d_t68
  replace sa64 := sa64.trans x_
  generalize upd W69 t70 (.tup [.str x1, .str "open", .ref t66, .ref t68]) = W71 at *
  clear x_ np_
  have d_t70 : Dp K W71 (.ref t70) (.tuple [.str x1, .str "open", .tuple [.str x2, .str x2], .tuple []]) := .tup (SqT.of e_t70) (.cons (.str _) (.cons (.str _) (.cons d_t66 (.cons d_t68 .nil))))
  clear e_t70
  clear d_t66 d_t68
  refine ⟨by show 1 ≤ sizeLine; decide, fun t72 np_ => ?_⟩
  have x_ := same_upd (o := .tup [.ref t70]) np_
  have e_t72 : (upd W71 t72 (.tup [.ref t70])) t72 = some (.tup [.ref t70]) := upd_same
  replace d_t70 := dp_same x_ _ _ d_t70
  replace sa64 := sa64.trans x_
  generalize upd W71 t72 (.tup [.ref t70]) = W73 at *
  clear x_ np_
  have d_t72 : Dp K W73 (.ref t72) (.tuple [.tuple [.str x1, .str "open", .tuple [.str x2, .str x2], .tuple []]]) := .tup (SqT.of e_t72) (.cons d_t70 .nil)
  clear e_t72
  clear d_t70
  refine ⟨sa64 _ _ upd_same, [(Sum.inr "pieces", .ref t72)], rfl, by show 1 ≤ 15; decide, ?_⟩
  rw [show mergeK [] ([(Sum.inr "pieces", .ref t72)] : List (L2.Key × V)) = ([(Sum.inr "pieces", .ref t72)] : List (L2.Key × V)) from rfl]
  obtain ⟨sE_, e_a64, dE_, tE_⟩ := dEnd (K := K) (kvs := [(Sum.inr "pieces", .ref t72)]) na64 sa64
  replace d_t72 := dE_ rfl d_t72
  replace s0 := s0.trans sE_
  replace d_t1 := dp_same sE_ _ _ d_t1
  replace d_t7 := dp_same sE_ _ _ d_t7
  replace f_a9 := f_a9.same sE_
  replace f_a16 := f_a16.same sE_
  replace f_a23 := f_a23.same sE_
  replace f_a38 := f_a38.same sE_
  replace f_a49 := f_a49.same sE_
  replace e_t62 := sE_ _ _ e_t62
  clear dE_ tE_ sa64 
  generalize upd W73 a64 (.dK [(Sum.inr "pieces", .ref t72)]) = W74 at *
  clear sE_ na64
  have f_a64 : Fls K l a64 W74 := fun H' s' Q E q => w5 (ps := [pcE (.str x1) (.str "open") (.tuple [.str x2, .str x2])]) (fun p hp => by obtain rfl := List.mem_singleton.mp hp; rfl) ((s0.trans s').seq hl) n0 (s' _ _ e_a64) (dp_same s' _ _ d_t72) (okt_all (by show 1 ≤ 11; decide) (okt_cons (okt_all (by show 4 ≤ 11; decide) (okt_cons (okt_str n1) (okt_cons (okt_wd (by decide +kernel)) (okt_cons (okt_all (by show 2 ≤ 11; decide) (okt_cons (okt_str n2) (okt_cons (okt_str n2) okt_nil))) (okt_cons okt_e0 okt_nil))))) okt_nil)) fun H'' s'' => by rw [al6 n1 n2 (.str "open")]; exact q H'' s''
  clear e_a64
  clear d_t72
  intro a75 na75
  have sa75 : Same (upd W74 a75 (.dK [])) (upd W74 a75 (.dK [])) := Same.refl _
  refine ⟨_, rfl, l, _, 0, _, rfl, rfl, (s0.trans ((same_upd na75).trans sa75)).seq hl, atI_nat (j := 0) rfl, by show 3 ≤ sizeLine; decide, fun t77 np_ => ?_⟩
  have x_ := same_upd (o := .tup [.int 0, .int 0, .int 0]) np_
  have e_t77 : (upd (upd W74 a75 (.dK [])) t77 (.tup [.int 0, .int 0, .int 0])) t77 = some (.tup [.int 0, .int 0, .int 0]) := upd_same
  replace sa75 := sa75.trans x_
  generalize upd (upd W74 a75 (.dK [])) t77 (.tup [.int 0, .int 0, .int 0]) = W78 at *
  clear x_ np_
  have d_t77 : Dp K W78 (.ref t77) (.tuple [.int 0, .int 0, .int 0]) := .tup (SqT.of e_t77) (.cons (.int _) (.cons (.int _) (.cons (.int _) .nil)))
  clear e_t77
  refine ⟨by show 0 ≤ sizeLine; decide, fun t79 np_ => ?_⟩
  have x_ := same_upd (o := .tup []) np_
  have e_t79 : (upd W78 t79 (.tup [])) t79 = some (.tup []) := upd_same
  replace d_t77 := dp_same x_ _ _ d_t77
  replace sa75 := sa75.trans x_
  generalize upd W78 t79 (.tup []) = W80 at *
  clear x_ np_
  have d_t79 : Dp K W80 (.ref t79) (.tuple []) := .tup (SqT.of e_t79) .nil
  clear e_t79
  refine ⟨by show 0 ≤ sizeLine; decide, fun t81 np_ => ?_⟩
  have x_ := same_upd (o := .tup []) np_
  have e_t81 : (upd W80 t81 (.tup [])) t81 = some (.tup []) := upd_same
  replace d_t77 := dp_same x_ _ _ d_t77
  replace d_t79 := dp_same x_ _ _ d_t79
  replace sa75 := sa75.trans x_
  generalize upd W80 t81 (.tup []) = W82 at *
  clear x_ np_
  have d_t81 : Dp K W82 (.ref t81) (.tuple []) := .tup (SqT.of e_t81) .nil
  clear e_t81
  refine ⟨by show 0 ≤ sizeLine; decide, fun t83 np_ => ?_⟩
  have x_ := same_upd (o := .tup []) np_
  have e_t83 : (upd W82 t83 (.tup [])) t83 = some (.tup []) := upd_same
  replace d_t77 := dp_same x_ _ _ d_t77
  replace d_t79 := dp_same x_ _ _ d_t79
  replace d_t81 := dp_same x_ _ _ d_t81
  replace sa75 := sa75.trans x_
  generalize upd W82 t83 (.tup []) = W84 at *
  clear x_ np_
  have d_t83 : Dp K W84 (.ref t83) (.tuple []) := .tup (SqT.of e_t83) .nil
  clear e_t83
  refine ⟨by show 0 ≤ sizeLine; decide, fun t85 np_ => ?_⟩
  have x_ := same_upd (o := .tup []) np_
  have e_t85 : (upd W84 t85 (.tup [])) t85 = some (.tup []) := upd_same
  replace d_t77 := dp_same x_ _ _ d_t77
  replace d_t79 := dp_same x_ _ _ d_t79
  replace d_t81 := dp_same x_ _ _ d_t81
  replace d_t83 := dp_same x_ _ _ d_t83
  replace sa75 := sa75.trans x_
  generalize upd W84 t85 (.tup []) = W86 at *
  clear x_ np_
  have d_t85 : Dp K W86 (.ref t85) (.tuple []) := .tup (SqT.of e_t85) .nil
  clear e_t85
  refine ⟨by show 6 ≤ sizeLine; decide, fun t87 np_ => ?_⟩
  have x_ := same_upd (o := .tup [.str x0, .ref t77, .ref t79, .ref t81, .ref t83, .ref t85]) np_
  have e_t87 : (upd W86 t87 (.tup [.str x0, .ref t77, .ref t79, .ref t81, .ref t83, .ref t85])) t87 = some (.tup [.str x0, .ref t77, .ref t79, .ref t81, .ref t83, .ref t85]) := upd_same
  replace d_t77 := dp_same x_ _ _ d_t77
  replace d_t79 := dp_same x_ _ _ d_t79
  replace d_t81 := dp_same x_ _ _ d_t81
  replace d_t83 := dp_same x_ _ _ d_t83
  replace d_t85 := dp_same x_ _ _ d_t85
  replace sa75 := sa75.trans x_
  generalize upd W86 t87 (.tup [.str x0, .ref t77, .ref t79, .ref t81, .ref t83, .ref t85]) = W88 at *
  clear x_ np_
  have d_t87 : Dp K W88 (.ref t87) (.tuple [.str x0, .tuple [.int 0, .int 0, .int 0], .tuple [], .tuple [], .tuple [], .tuple []]) := .tup (SqT.of e_t87) (.cons (.str _) (.cons d_t77 (.cons d_t79 (.cons d_t81 (.cons d_t83 (.cons d_t85 .nil))))))
  clear e_t87
  clear d_t77 d_t79 d_t81 d_t83 d_t85
  refine ⟨by show 1 ≤ sizeLine; decide, fun t89 np_ => ?_⟩
  have x_ := same_upd (o := .tup [.ref t87]) np_
  have e_t89 : (upd W88 t89 (.tup [.ref t87])) t89 = some (.tup [.ref t87]) := upd_same
  replace d_t87 := dp_same x_ _ _ d_t87
  replace sa75 := sa75.trans x_
  generalize upd W88 t89 (.tup [.ref t87]) = W90 at *
  clear x_ np_
  have d_t89 : Dp K W90 (.ref t89) (.tuple [.tuple [.str x0, .tuple [.int 0, .int 0, .int 0], .tuple [], .tuple [], .tuple [], .tuple []]]) := .tup (SqT.of e_t89) (.cons d_t87 .nil)
  clear e_t89
  clear d_t87
  refine ⟨sa75 _ _ upd_same, [(Sum.inr "more", .ref t89)], rfl, by show 1 ≤ 15; decide, ?_⟩
  rw [show mergeK [] ([(Sum.inr "more", .ref t89)] : List (L2.Key × V)) = ([(Sum.inr "more", .ref t89)] : List (L2.Key × V)) from rfl]
  obtain ⟨sE_, e_a75, dE_, tE_⟩ := dEnd (K := K) (kvs := [(Sum.inr "more", .ref t89)]) na75 sa75
  replace d_t89 := dE_ rfl d_t89
  replace s0 := s0.trans sE_
  replace d_t1 := dp_same sE_ _ _ d_t1
  replace d_t7 := dp_same sE_ _ _ d_t7
  replace f_a9 := f_a9.same sE_
  replace f_a16 := f_a16.same sE_
  replace f_a23 := f_a23.same sE_
  replace f_a38 := f_a38.same sE_
  replace f_a49 := f_a49.same sE_
  replace e_t62 := sE_ _ _ e_t62
  replace f_a64 := f_a64.same sE_
  clear dE_ tE_ sa75 
  generalize upd W90 a75 (.dK [(Sum.inr "more", .ref t89)]) = W91 at *
  clear sE_ na75
  have f_a75 : Fls K l a75 W91 := fun H' s' Q E q => w10 (xs := [(x0, o3)]) (fun x hx => by obtain rfl := List.mem_singleton.mp hx; exact n0) (fun x hx => by obtain rfl := List.mem_singleton.mp hx; exact c_spot) (fun x hx => by obtain rfl := List.mem_singleton.mp hx; exact okt_o3) (by show 1 ≤ 10; decide) ((s0.trans s').seq hl) n0 (s' _ _ e_a75) (dp_same s' _ _ d_t89)  fun H'' s'' => by rw [al7 o3]; exact q H'' s''
  clear e_a75
  clear d_t89
  refine ⟨by show 2 ≤ sizeLine; decide, fun t92 np_ => ?_⟩
  have x_ := same_upd (o := .lst [.ref a64, .ref a75]) np_
  have e_t92 : (upd W91 t92 (.lst [.ref a64, .ref a75])) t92 = some (.lst [.ref a64, .ref a75]) := upd_same
  replace s0 := s0.trans x_
  replace d_t1 := dp_same x_ _ _ d_t1
  replace d_t7 := dp_same x_ _ _ d_t7
  replace f_a9 := f_a9.same x_
  replace f_a16 := f_a16.same x_
  replace f_a23 := f_a23.same x_
  replace f_a38 := f_a38.same x_
  replace f_a49 := f_a49.same x_
  replace e_t62 := x_ _ _ e_t62
  replace f_a64 := f_a64.same x_
  replace f_a75 := f_a75.same x_
  generalize upd W91 t92 (.lst [.ref a64, .ref a75]) = W93 at *
  clear x_ np_
  refine ⟨t62, t92, _, _, rfl, rfl, e_t62, e_t92, by show 7 ≤ sizeLine; decide, fun t94 np_ => ?_⟩
  have x_ := same_upd (o := .lst ([.ref a9, .ref a16, .ref a23, .ref a38, .ref a49] ++ [.ref a64, .ref a75])) np_
  have e_t94 : (upd W93 t94 (.lst ([.ref a9, .ref a16, .ref a23, .ref a38, .ref a49] ++ [.ref a64, .ref a75]))) t94 = some (.lst [.ref a9, .ref a16, .ref a23, .ref a38, .ref a49, .ref a64, .ref a75]) := upd_same
  replace s0 := s0.trans x_
  replace d_t1 := dp_same x_ _ _ d_t1
  replace d_t7 := dp_same x_ _ _ d_t7
  replace f_a9 := f_a9.same x_
  replace f_a16 := f_a16.same x_
  replace f_a23 := f_a23.same x_
  replace f_a38 := f_a38.same x_
  replace f_a49 := f_a49.same x_
  replace e_t62 := x_ _ _ e_t62
  replace f_a64 := f_a64.same x_
  replace f_a75 := f_a75.same x_
  replace e_t92 := x_ _ _ e_t92
  generalize upd W93 t94 (.lst ([.ref a9, .ref a16, .ref a23, .ref a38, .ref a49] ++ [.ref a64, .ref a75])) = W95 at *
  clear x_ np_
  clear e_t62 e_t92
  have FA : FlsA K l W95 [.ref a9, .ref a16, .ref a23, .ref a38, .ref a49, .ref a64, .ref a75] := (.cons f_a9 (.cons f_a16 (.cons f_a23 (.cons f_a38 (.cons f_a49 (.cons f_a64 (.cons f_a75 .nil)))))))
  clear f_a9
  clear f_a16
  clear f_a23
  clear f_a38
  clear f_a49
  clear f_a64
  clear f_a75
  obtain ⟨xs, hxs⟩ : ∃ xs : List V, xs = [.ref a9, .ref a16, .ref a23, .ref a38, .ref a49, .ref a64, .ref a75] := ⟨_, rfl⟩
  have lxs : xs.length = 7 := by rw [hxs]; rfl
  rw [← hxs] at FA e_t94
  clear hxs
  refine ⟨_, rfl, t94, rfl, ⟨_, SqL.of e_t94⟩, fun D nD => lc_it (walk_list (xs := xs)) (fun i H' => AccB D W95 (fun _ => false) (List.replicate 7 .none) i H') (AccB.zero nD) (fun i H' _ h => SqL.of (h.1 _ _ e_t94)) ?_ ?_⟩
  · rintro i v _ HA hi ac ⟨rfl, ex⟩
    have hi7 : i < 7 := by rw [← lxs]; exact hi
    obtain ⟨a, rfl, fa⟩ := FA v (List.mem_of_getElem? ex)
    refine ⟨rfl, ?_⟩
    unfold tYes
    refine iteT ⟨_, rfl, _, rfl, ?_⟩
    unfold tNil
    refine fa HA ac.1 _ _ fun H' s' => ?_
    exact ac.step (d := .none) nD s' (by rw [List.getElem?_replicate, if_pos hi7]) (by show 7 ≤ 1000; decide)
  · rintro H1 ac
    have hD := ac.fin (by rw [lxs]; exact Nat.le_refl _)
    have x_ := ac.1
    clear ac FA
    clear e_t94
    replace s0 := s0.trans x_
    replace d_t1 := dp_same x_ _ _ d_t1
    replace d_t7 := dp_same x_ _ _ d_t7
    clear x_
    refine ⟨by show 1 ≤ sizeLine; decide, fun t96 np_ => ?_⟩
    have x_ := same_upd (o := .lst [.bl false]) np_
    have e_t96 : (upd H1 t96 (.lst [.bl false])) t96 = some (.lst (([false] : List Bool).map V.bl)) := upd_same
    replace s0 := s0.trans x_
    replace d_t1 := dp_same x_ _ _ d_t1
    replace d_t7 := dp_same x_ _ _ d_t7
    replace hD := x_ _ _ hD
    generalize upd H1 t96 (.lst [.bl false]) = W97 at *
    clear x_ np_
    refine ⟨t96, 7, _, rfl, rfl, e_t96, by decide, by decide, by show 7 ≤ sizeLine; decide, fun t98 np_ => ?_⟩
    rw [show (List.replicate (7 : Int).toNat (List.map V.bl [false])).flatten = (List.replicate 7 false).map V.bl from rfl]
    have x_ := same_upd (o := .lst ((List.replicate 7 false).map V.bl)) np_
    have e_t98 : (upd W97 t98 (.lst ((List.replicate 7 false).map V.bl))) t98 = some (.lst ((List.replicate 7 false).map V.bl)) := upd_same
    replace s0 := s0.trans x_
    replace d_t1 := dp_same x_ _ _ d_t1
    replace d_t7 := dp_same x_ _ _ d_t7
    replace hD := x_ _ _ hD
    replace e_t96 := x_ _ _ e_t96
    generalize upd W97 t98 (.lst ((List.replicate 7 false).map V.bl)) = W99 at *
    clear x_ np_
    refine neBls (List.replicate 7 false) hD e_t98 ⟨_, rfl, iteF ?_⟩
    clear hD e_t96 e_t98
    intro a100 na100
    have sa100 : Same (upd W99 a100 (.dK [])) (upd W99 a100 (.dK [])) := Same.refl _
    have nn_a100 := none_of s0 na100
    refine ⟨_, rfl, by show 1 ≤ sizeLine; decide, fun t102 np_ => ?_⟩
    have x_ := same_upd (o := .tup [.ref t1]) np_
    have e_t102 : (upd (upd W99 a100 (.dK [])) t102 (.tup [.ref t1])) t102 = some (.tup [.ref t1]) := upd_same
    replace sa100 := sa100.trans x_
    generalize upd (upd W99 a100 (.dK [])) t102 (.tup [.ref t1]) = W103 at *
    clear x_ np_
    have d_t102 : Dp K W103 (.ref t102) (.tuple [.tuple [.str x1, .int 1]]) := .tup (SqT.of e_t102) (.cons (dp_same ((same_upd na100).trans sa100) _ _ d_t1) .nil)
    clear e_t102
    refine ⟨_, rfl, by show 1 ≤ sizeLine; decide, fun t104 np_ => ?_⟩
    have x_ := same_upd (o := .tup [.ref t1]) np_
    have e_t104 : (upd W103 t104 (.tup [.ref t1])) t104 = some (.tup [.ref t1]) := upd_same
    replace d_t102 := dp_same x_ _ _ d_t102
    replace sa100 := sa100.trans x_
    generalize upd W103 t104 (.tup [.ref t1]) = W105 at *
    clear x_ np_
    have d_t104 : Dp K W105 (.ref t104) (.tuple [.tuple [.str x1, .int 1]]) := .tup (SqT.of e_t104) (.cons (dp_same ((same_upd na100).trans sa100) _ _ d_t1) .nil)
    clear e_t104
    refine ⟨_, rfl, l, _, 1, _, rfl, rfl, (s0.trans ((same_upd na100).trans sa100)).seq hl, atI_nat (j := 1) rfl, by show 0 ≤ sizeLine; decide, fun t106 np_ => ?_⟩
    have x_ := same_upd (o := .tup []) np_
    have e_t106 : (upd W105 t106 (.tup [])) t106 = some (.tup []) := upd_same
    replace d_t102 := dp_same x_ _ _ d_t102
    replace d_t104 := dp_same x_ _ _ d_t104
    replace sa100 := sa100.trans x_
    generalize upd W105 t106 (.tup []) = W107 at *
    clear x_ np_
    have d_t106 : Dp K W107 (.ref t106) (.tuple []) := .tup (SqT.of e_t106) .nil
    clear e_t106
    refine ⟨by show 2 ≤ sizeLine; decide, fun t108 np_ => ?_⟩
    have x_ := same_upd (o := .tup [.str x1, .ref t106]) np_
    have e_t108 : (upd W107 t108 (.tup [.str x1, .ref t106])) t108 = some (.tup [.str x1, .ref t106]) := upd_same
    replace d_t102 := dp_same x_ _ _ d_t102
    replace d_t104 := dp_same x_ _ _ d_t104
    replace d_t106 := dp_same x_ _ _ d_t106
    replace sa100 := sa100.trans x_
    generalize upd W107 t108 (.tup [.str x1, .ref t106]) = W109 at *
    clear x_ np_
    have d_t108 : Dp K W109 (.ref t108) (.tuple [.str x1, .tuple []]) := .tup (SqT.of e_t108) (.cons (.str _) (.cons d_t106 .nil))
    clear e_t108
    clear d_t106
    refine ⟨by show 1 ≤ sizeLine; decide, fun t110 np_ => ?_⟩
    have x_ := same_upd (o := .tup [.ref t108]) np_
    have e_t110 : (upd W109 t110 (.tup [.ref t108])) t110 = some (.tup [.ref t108]) := upd_same
    replace d_t102 := dp_same x_ _ _ d_t102
    replace d_t104 := dp_same x_ _ _ d_t104
    replace d_t108 := dp_same x_ _ _ d_t108
    replace sa100 := sa100.trans x_
    generalize upd W109 t110 (.tup [.ref t108]) = W111 at *
    clear x_ np_
    have d_t110 : Dp K W111 (.ref t110) (.tuple [.tuple [.str x1, .tuple []]]) := .tup (SqT.of e_t110) (.cons d_t108 .nil)
    clear e_t110
    clear d_t108
    refine ⟨_, rfl, l, _, 1, _, rfl, rfl, (s0.trans ((same_upd na100).trans sa100)).seq hl, atI_nat (j := 1) rfl, by show 0 ≤ sizeLine; decide, fun t112 np_ => ?_⟩
    have x_ := same_upd (o := .tup []) np_
    have e_t112 : (upd W111 t112 (.tup [])) t112 = some (.tup []) := upd_same
    replace d_t102 := dp_same x_ _ _ d_t102
    replace d_t104 := dp_same x_ _ _ d_t104
    replace d_t110 := dp_same x_ _ _ d_t110
    replace sa100 := sa100.trans x_
    generalize upd W111 t112 (.tup []) = W113 at *
    clear x_ np_
    have d_t112 : Dp K W113 (.ref t112) (.tuple []) := .tup (SqT.of e_t112) .nil
    clear e_t112
    refine ⟨by show 2 ≤ sizeLine; decide, fun t114 np_ => ?_⟩
    have x_ := same_upd (o := .tup [.str x1, .ref t112]) np_
    have e_t114 : (upd W113 t114 (.tup [.str x1, .ref t112])) t114 = some (.tup [.str x1, .ref t112]) := upd_same
    replace d_t102 := dp_same x_ _ _ d_t102
    replace d_t104 := dp_same x_ _ _ d_t104
    replace d_t110 := dp_same x_ _ _ d_t110
    replace d_t112 := dp_same x_ _ _ d_t112
    replace sa100 := sa100.trans x_
    generalize upd W113 t114 (.tup [.str x1, .ref t112]) = W115 at *
    clear x_ np_
    have d_t114 : Dp K W115 (.ref t114) (.tuple [.str x1, .tuple []]) := .tup (SqT.of e_t114) (.cons (.str _) (.cons d_t112 .nil))
    clear e_t114
    clear d_t112
    refine ⟨by show 1 ≤ sizeLine; decide, fun t116 np_ => ?_⟩
    have x_ := same_upd (o := .tup [.ref t114]) np_
    have e_t116 : (upd W115 t116 (.tup [.ref t114])) t116 = some (.tup [.ref t114]) := upd_same
    replace d_t102 := dp_same x_ _ _ d_t102
    replace d_t104 := dp_same x_ _ _ d_t104
    replace d_t110 := dp_same x_ _ _ d_t110
    replace d_t114 := dp_same x_ _ _ d_t114
    replace sa100 := sa100.trans x_
    generalize upd W115 t116 (.tup [.ref t114]) = W117 at *
    clear x_ np_
    have d_t116 : Dp K W117 (.ref t116) (.tuple [.tuple [.str x1, .tuple []]]) := .tup (SqT.of e_t116) (.cons d_t114 .nil)
    clear e_t116
    clear d_t114
    refine ⟨_, rfl, by show 1 ≤ sizeLine; decide, fun t118 np_ => ?_⟩
    have x_ := same_upd (o := .tup [.ref t7]) np_
    have e_t118 : (upd W117 t118 (.tup [.ref t7])) t118 = some (.tup [.ref t7]) := upd_same
    replace d_t102 := dp_same x_ _ _ d_t102
    replace d_t104 := dp_same x_ _ _ d_t104
    replace d_t110 := dp_same x_ _ _ d_t110
    replace d_t116 := dp_same x_ _ _ d_t116
    replace sa100 := sa100.trans x_
    generalize upd W117 t118 (.tup [.ref t7]) = W119 at *
    clear x_ np_
    have d_t118 : Dp K W119 (.ref t118) (.tuple [.tuple [.str x1, .str "open", .tuple [], .tuple []]]) := .tup (SqT.of e_t118) (.cons (dp_same ((same_upd na100).trans sa100) _ _ d_t7) .nil)
    clear e_t118
    refine ⟨sa100 _ _ upd_same, [(Sum.inr "names", .ref t102), (Sum.inr "shared", .ref t104), (Sum.inr "lists", .ref t110), (Sum.inr "all", .ref t116), (Sum.inr "pieces", .ref t118)], rfl, by show 5 ≤ 15; decide, ?_⟩
    rw [show mergeK [] ([(Sum.inr "names", .ref t102), (Sum.inr "shared", .ref t104), (Sum.inr "lists", .ref t110), (Sum.inr "all", .ref t116), (Sum.inr "pieces", .ref t118)] : List (L2.Key × V)) = ([(Sum.inr "names", .ref t102), (Sum.inr "shared", .ref t104), (Sum.inr "lists", .ref t110), (Sum.inr "all", .ref t116), (Sum.inr "pieces", .ref t118)] : List (L2.Key × V)) from rfl]
    obtain ⟨sE_, e_a100, dE_, tE_⟩ := dEnd (K := K) (kvs := [(Sum.inr "names", .ref t102), (Sum.inr "shared", .ref t104), (Sum.inr "lists", .ref t110), (Sum.inr "all", .ref t116), (Sum.inr "pieces", .ref t118)]) na100 sa100
    replace d_t102 := dE_ rfl d_t102
    replace d_t104 := dE_ rfl d_t104
    replace d_t110 := dE_ rfl d_t110
    replace d_t116 := dE_ rfl d_t116
    replace d_t118 := dE_ rfl d_t118
    replace s0 := s0.trans sE_
    replace d_t1 := dp_same sE_ _ _ d_t1
    replace d_t7 := dp_same sE_ _ _ d_t7
    clear dE_ tE_ sa100 
    generalize upd W119 a100 (.dK [(Sum.inr "names", .ref t102), (Sum.inr "shared", .ref t104), (Sum.inr "lists", .ref t110), (Sum.inr "all", .ref t116), (Sum.inr "pieces", .ref t118)]) = W120 at *
    clear sE_ na100
    refine ⟨_, rfl, .inr (.inr (.inl ⟨rfl, .inl ⟨_, e_a100⟩⟩)), fun a121 na121 => ?_⟩
    have sa121 : Same (upd W120 a121 (.dK [])) (upd W120 a121 (.dK [])) := Same.refl _
    have nn_a121 := none_of s0 na121
    refine ⟨_, rfl, l, _, 1, _, rfl, rfl, (s0.trans ((same_upd na121).trans sa121)).seq hl, atI_nat (j := 1) rfl, by show 3 ≤ sizeLine; decide, fun t123 np_ => ?_⟩
    have x_ := same_upd (o := .tup [.int 0, .int 0, .int 0]) np_
    have e_t123 : (upd (upd W120 a121 (.dK [])) t123 (.tup [.int 0, .int 0, .int 0])) t123 = some (.tup [.int 0, .int 0, .int 0]) := upd_same
    replace sa121 := sa121.trans x_
    generalize upd (upd W120 a121 (.dK [])) t123 (.tup [.int 0, .int 0, .int 0]) = W124 at *
    clear x_ np_
    have d_t123 : Dp K W124 (.ref t123) (.tuple [.int 0, .int 0, .int 0]) := .tup (SqT.of e_t123) (.cons (.int _) (.cons (.int _) (.cons (.int _) .nil)))
    clear e_t123
    refine ⟨by show 0 ≤ sizeLine; decide, fun t125 np_ => ?_⟩
    have x_ := same_upd (o := .tup []) np_
    have e_t125 : (upd W124 t125 (.tup [])) t125 = some (.tup []) := upd_same
    replace d_t123 := dp_same x_ _ _ d_t123
    replace sa121 := sa121.trans x_
    generalize upd W124 t125 (.tup []) = W126 at *
    clear x_ np_
    have d_t125 : Dp K W126 (.ref t125) (.tuple []) := .tup (SqT.of e_t125) .nil
    clear e_t125
    refine ⟨by show 0 ≤ sizeLine; decide, fun t127 np_ => ?_⟩
    have x_ := same_upd (o := .tup []) np_
    have e_t127 : (upd W126 t127 (.tup [])) t127 = some (.tup []) := upd_same
    replace d_t123 := dp_same x_ _ _ d_t123
    replace d_t125 := dp_same x_ _ _ d_t125
    replace sa121 := sa121.trans x_
    generalize upd W126 t127 (.tup []) = W128 at *
    clear x_ np_
    have d_t127 : Dp K W128 (.ref t127) (.tuple []) := .tup (SqT.of e_t127) .nil
    clear e_t127
    refine ⟨by show 0 ≤ sizeLine; decide, fun t129 np_ => ?_⟩
    have x_ := same_upd (o := .tup []) np_
    have e_t129 : (upd W128 t129 (.tup [])) t129 = some (.tup []) := upd_same
    replace d_t123 := dp_same x_ _ _ d_t123
    replace d_t125 := dp_same x_ _ _ d_t125
    replace d_t127 := dp_same x_ _ _ d_t127
    replace sa121 := sa121.trans x_
    generalize upd W128 t129 (.tup []) = W130 at *
    clear x_ np_
    have d_t129 : Dp K W130 (.ref t129) (.tuple []) := .tup (SqT.of e_t129) .nil
    clear e_t129
    refine ⟨by show 0 ≤ sizeLine; decide, fun t131 np_ => ?_⟩
    have x_ := same_upd (o := .tup []) np_
    have e_t131 : (upd W130 t131 (.tup [])) t131 = some (.tup []) := upd_same
    replace d_t123 := dp_same x_ _ _ d_t123
    replace d_t125 := dp_same x_ _ _ d_t125
    replace d_t127 := dp_same x_ _ _ d_t127
    replace d_t129 := dp_same x_ _ _ d_t129
    replace sa121 := sa121.trans x_
    generalize upd W130 t131 (.tup []) = W132 at *
    clear x_ np_
    have d_t131 : Dp K W132 (.ref t131) (.tuple []) := .tup (SqT.of e_t131) .nil
    clear e_t131
    refine ⟨by show 6 ≤ sizeLine; decide, fun t133 np_ => ?_⟩
    have x_ := same_upd (o := .tup [.str x1, .ref t123, .ref t125, .ref t127, .ref t129, .ref t131]) np_
    have e_t133 : (upd W132 t133 (.tup [.str x1, .ref t123, .ref t125, .ref t127, .ref t129, .ref t131])) t133 = some (.tup [.str x1, .ref t123, .ref t125, .ref t127, .ref t129, .ref t131]) := upd_same
    replace d_t123 := dp_same x_ _ _ d_t123
    replace d_t125 := dp_same x_ _ _ d_t125
    replace d_t127 := dp_same x_ _ _ d_t127
    replace d_t129 := dp_same x_ _ _ d_t129
    replace d_t131 := dp_same x_ _ _ d_t131
    replace sa121 := sa121.trans x_
    generalize upd W132 t133 (.tup [.str x1, .ref t123, .ref t125, .ref t127, .ref t129, .ref t131]) = W134 at *
    clear x_ np_
    have d_t133 : Dp K W134 (.ref t133) (.tuple [.str x1, .tuple [.int 0, .int 0, .int 0], .tuple [], .tuple [], .tuple [], .tuple []]) := .tup (SqT.of e_t133) (.cons (.str _) (.cons d_t123 (.cons d_t125 (.cons d_t127 (.cons d_t129 (.cons d_t131 .nil))))))
    clear e_t133
    clear d_t123 d_t125 d_t127 d_t129 d_t131
    refine ⟨by show 1 ≤ sizeLine; decide, fun t135 np_ => ?_⟩
    have x_ := same_upd (o := .tup [.ref t133]) np_
    have e_t135 : (upd W134 t135 (.tup [.ref t133])) t135 = some (.tup [.ref t133]) := upd_same
    replace d_t133 := dp_same x_ _ _ d_t133
    replace sa121 := sa121.trans x_
    generalize upd W134 t135 (.tup [.ref t133]) = W136 at *
    clear x_ np_
    have d_t135 : Dp K W136 (.ref t135) (.tuple [.tuple [.str x1, .tuple [.int 0, .int 0, .int 0], .tuple [], .tuple [], .tuple [], .tuple []]]) := .tup (SqT.of e_t135) (.cons d_t133 .nil)
    clear e_t135
    clear d_t133
    refine ⟨_, rfl, l, _, 1, _, rfl, rfl, (s0.trans ((same_upd na121).trans sa121)).seq hl, atI_nat (j := 1) rfl, by show 2 ≤ sizeLine; decide, fun t137 np_ => ?_⟩
    have x_ := same_upd (o := .tup [.str "news", .str x1]) np_
    have e_t137 : (upd W136 t137 (.tup [.str "news", .str x1])) t137 = some (.tup [.str "news", .str x1]) := upd_same
    replace d_t135 := dp_same x_ _ _ d_t135
    replace sa121 := sa121.trans x_
    generalize upd W136 t137 (.tup [.str "news", .str x1]) = W138 at *
    clear x_ np_
    have d_t137 : Dp K W138 (.ref t137) (.tuple [.str "news", .str x1]) := .tup (SqT.of e_t137) (.cons (.str _) (.cons (.str _) .nil))
    clear e_t137
    refine ⟨by show 0 ≤ sizeLine; decide, fun t139 np_ => ?_⟩
    have x_ := same_upd (o := .tup []) np_
    have e_t139 : (upd W138 t139 (.tup [])) t139 = some (.tup []) := upd_same
    replace d_t135 := dp_same x_ _ _ d_t135
    replace d_t137 := dp_same x_ _ _ d_t137
    replace sa121 := sa121.trans x_
    generalize upd W138 t139 (.tup []) = W140 at *
    clear x_ np_
    have d_t139 : Dp K W140 (.ref t139) (.tuple []) := .tup (SqT.of e_t139) .nil
    clear e_t139
    refine ⟨by show 2 ≤ sizeLine; decide, fun t141 np_ => ?_⟩
    have x_ := same_upd (o := .tup [.ref t137, .ref t139]) np_
    have e_t141 : (upd W140 t141 (.tup [.ref t137, .ref t139])) t141 = some (.tup [.ref t137, .ref t139]) := upd_same
    replace d_t135 := dp_same x_ _ _ d_t135
    replace d_t137 := dp_same x_ _ _ d_t137
    replace d_t139 := dp_same x_ _ _ d_t139
    replace sa121 := sa121.trans x_
    generalize upd W140 t141 (.tup [.ref t137, .ref t139]) = W142 at *
    clear x_ np_
    have d_t141 : Dp K W142 (.ref t141) (.tuple [.tuple [.str "news", .str x1], .tuple []]) := .tup (SqT.of e_t141) (.cons d_t137 (.cons d_t139 .nil))
    clear e_t141
    clear d_t137 d_t139
    refine ⟨_, rfl, l, _, 1, _, rfl, rfl, (s0.trans ((same_upd na121).trans sa121)).seq hl, atI_nat (j := 1) rfl, by show 2 ≤ sizeLine; decide, fun t143 np_ => ?_⟩
    have x_ := same_upd (o := .tup [.str "key", .str x1]) np_
    have e_t143 : (upd W142 t143 (.tup [.str "key", .str x1])) t143 = some (.tup [.str "key", .str x1]) := upd_same
    replace d_t135 := dp_same x_ _ _ d_t135
    replace d_t141 := dp_same x_ _ _ d_t141
    replace sa121 := sa121.trans x_
    generalize upd W142 t143 (.tup [.str "key", .str x1]) = W144 at *
    clear x_ np_
    have d_t143 : Dp K W144 (.ref t143) (.tuple [.str "key", .str x1]) := .tup (SqT.of e_t143) (.cons (.str _) (.cons (.str _) .nil))
    clear e_t143
    refine ⟨by show 0 ≤ sizeLine; decide, fun t145 np_ => ?_⟩
    have x_ := same_upd (o := .tup []) np_
    have e_t145 : (upd W144 t145 (.tup [])) t145 = some (.tup []) := upd_same
    replace d_t135 := dp_same x_ _ _ d_t135
    replace d_t141 := dp_same x_ _ _ d_t141
    replace d_t143 := dp_same x_ _ _ d_t143
    replace sa121 := sa121.trans x_
    generalize upd W144 t145 (.tup []) = W146 at *
    clear x_ np_
    have d_t145 : Dp K W146 (.ref t145) (.tuple []) := .tup (SqT.of e_t145) .nil
    clear e_t145
    refine ⟨by show 2 ≤ sizeLine; decide, fun t147 np_ => ?_⟩
    have x_ := same_upd (o := .tup [.ref t143, .ref t145]) np_
    have e_t147 : (upd W146 t147 (.tup [.ref t143, .ref t145])) t147 = some (.tup [.ref t143, .ref t145]) := upd_same
    replace d_t135 := dp_same x_ _ _ d_t135
    replace d_t141 := dp_same x_ _ _ d_t141
    replace d_t143 := dp_same x_ _ _ d_t143
    replace d_t145 := dp_same x_ _ _ d_t145
    replace sa121 := sa121.trans x_
    generalize upd W146 t147 (.tup [.ref t143, .ref t145]) = W148 at *
    clear x_ np_
    have d_t147 : Dp K W148 (.ref t147) (.tuple [.tuple [.str "key", .str x1], .tuple []]) := .tup (SqT.of e_t147) (.cons d_t143 (.cons d_t145 .nil))
    clear e_t147
    clear d_t143 d_t145
    refine ⟨by show 2 ≤ sizeLine; decide, fun t149 np_ => ?_⟩
    have x_ := same_upd (o := .tup [.ref t141, .ref t147]) np_
    have e_t149 : (upd W148 t149 (.tup [.ref t141, .ref t147])) t149 = some (.tup [.ref t141, .ref t147]) := upd_same
    replace d_t135 := dp_same x_ _ _ d_t135
    replace d_t141 := dp_same x_ _ _ d_t141
    replace d_t147 := dp_same x_ _ _ d_t147
    replace sa121 := sa121.trans x_
    generalize upd W148 t149 (.tup [.ref t141, .ref t147]) = W150 at *
    clear x_ np_
    have d_t149 : Dp K W150 (.ref t149) (.tuple [.tuple [.tuple [.str "news", .str x1], .tuple []], .tuple [.tuple [.str "key", .str x1], .tuple []]]) := .tup (SqT.of e_t149) (.cons d_t141 (.cons d_t147 .nil))
    clear e_t149
    clear d_t141 d_t147
    refine ⟨sa121 _ _ upd_same, [(Sum.inr "more", .ref t135), (Sum.inr "scripts", .ref t149)], rfl, by show 2 ≤ 15; decide, ?_⟩
    rw [show mergeK [] ([(Sum.inr "more", .ref t135), (Sum.inr "scripts", .ref t149)] : List (L2.Key × V)) = ([(Sum.inr "more", .ref t135), (Sum.inr "scripts", .ref t149)] : List (L2.Key × V)) from rfl]
    obtain ⟨sE_, e_a121, dE_, tE_⟩ := dEnd (K := K) (kvs := [(Sum.inr "more", .ref t135), (Sum.inr "scripts", .ref t149)]) na121 sa121
    replace d_t135 := dE_ rfl d_t135
    replace d_t149 := dE_ rfl d_t149
    replace s0 := s0.trans sE_
    replace d_t1 := dp_same sE_ _ _ d_t1
    replace d_t7 := dp_same sE_ _ _ d_t7
    replace d_t102 := dp_same sE_ _ _ d_t102
    replace d_t104 := dp_same sE_ _ _ d_t104
    replace d_t110 := dp_same sE_ _ _ d_t110
    replace d_t116 := dp_same sE_ _ _ d_t116
    replace d_t118 := dp_same sE_ _ _ d_t118
    replace e_a100 := sE_ _ _ e_a100
    clear dE_ tE_ sa121 
    generalize upd W150 a121 (.dK [(Sum.inr "more", .ref t135), (Sum.inr "scripts", .ref t149)]) = W151 at *
    clear sE_ na121
    have nac : a100 ≠ a121 := fun z => by have y_ := e_a100; rw [z, e_a121] at y_; cases y_
    refine ⟨a100, a121, _, _, rfl, rfl, e_a100, e_a121, nac, by show 7 ≤ sizeLine; decide, by show 7 ≤ sizeLine; decide, ?_⟩
    rw [show mergeK ([(Sum.inr "names", .ref t102), (Sum.inr "shared", .ref t104), (Sum.inr "lists", .ref t110), (Sum.inr "all", .ref t116), (Sum.inr "pieces", .ref t118)] : List (L2.Key × V)) [(Sum.inr "more", .ref t135), (Sum.inr "scripts", .ref t149)] = ([(Sum.inr "names", .ref t102), (Sum.inr "shared", .ref t104), (Sum.inr "lists", .ref t110), (Sum.inr "all", .ref t116), (Sum.inr "pieces", .ref t118), (Sum.inr "more", .ref t135), (Sum.inr "scripts", .ref t149)] : List (L2.Key × V)) from rfl]
    replace s0 := Same.putN (a := a100) (o := .dK [(Sum.inr "names", .ref t102), (Sum.inr "shared", .ref t104), (Sum.inr "lists", .ref t110), (Sum.inr "all", .ref t116), (Sum.inr "pieces", .ref t118), (Sum.inr "more", .ref t135), (Sum.inr "scripts", .ref t149)]) s0 nn_a100
    replace d_t102 := updD (kvs' := [(Sum.inr "names", .ref t102), (Sum.inr "shared", .ref t104), (Sum.inr "lists", .ref t110), (Sum.inr "all", .ref t116), (Sum.inr "pieces", .ref t118), (Sum.inr "more", .ref t135), (Sum.inr "scripts", .ref t149)]) e_a100 rfl d_t102
    replace d_t104 := updD (kvs' := [(Sum.inr "names", .ref t102), (Sum.inr "shared", .ref t104), (Sum.inr "lists", .ref t110), (Sum.inr "all", .ref t116), (Sum.inr "pieces", .ref t118), (Sum.inr "more", .ref t135), (Sum.inr "scripts", .ref t149)]) e_a100 rfl d_t104
    replace d_t110 := updD (kvs' := [(Sum.inr "names", .ref t102), (Sum.inr "shared", .ref t104), (Sum.inr "lists", .ref t110), (Sum.inr "all", .ref t116), (Sum.inr "pieces", .ref t118), (Sum.inr "more", .ref t135), (Sum.inr "scripts", .ref t149)]) e_a100 rfl d_t110
    replace d_t116 := updD (kvs' := [(Sum.inr "names", .ref t102), (Sum.inr "shared", .ref t104), (Sum.inr "lists", .ref t110), (Sum.inr "all", .ref t116), (Sum.inr "pieces", .ref t118), (Sum.inr "more", .ref t135), (Sum.inr "scripts", .ref t149)]) e_a100 rfl d_t116
    replace d_t118 := updD (kvs' := [(Sum.inr "names", .ref t102), (Sum.inr "shared", .ref t104), (Sum.inr "lists", .ref t110), (Sum.inr "all", .ref t116), (Sum.inr "pieces", .ref t118), (Sum.inr "more", .ref t135), (Sum.inr "scripts", .ref t149)]) e_a100 rfl d_t118
    replace d_t135 := updD (kvs' := [(Sum.inr "names", .ref t102), (Sum.inr "shared", .ref t104), (Sum.inr "lists", .ref t110), (Sum.inr "all", .ref t116), (Sum.inr "pieces", .ref t118), (Sum.inr "more", .ref t135), (Sum.inr "scripts", .ref t149)]) e_a100 rfl d_t135
    replace d_t149 := updD (kvs' := [(Sum.inr "names", .ref t102), (Sum.inr "shared", .ref t104), (Sum.inr "lists", .ref t110), (Sum.inr "all", .ref t116), (Sum.inr "pieces", .ref t118), (Sum.inr "more", .ref t135), (Sum.inr "scripts", .ref t149)]) e_a100 rfl d_t149
    clear d_t1 d_t7
    clear e_a121 nac
    have e_B : (upd W151 a100 (.dK [(Sum.inr "names", .ref t102), (Sum.inr "shared", .ref t104), (Sum.inr "lists", .ref t110), (Sum.inr "all", .ref t116), (Sum.inr "pieces", .ref t118), (Sum.inr "more", .ref t135), (Sum.inr "scripts", .ref t149)])) a100 = some (.dK [(Sum.inr "names", .ref t102), (Sum.inr "shared", .ref t104), (Sum.inr "lists", .ref t110), (Sum.inr "all", .ref t116), (Sum.inr "pieces", .ref t118), (Sum.inr "more", .ref t135), (Sum.inr "scripts", .ref t149)]) := upd_same
    clear e_a100
    generalize upd W151 a100 (.dK [(Sum.inr "names", .ref t102), (Sum.inr "shared", .ref t104), (Sum.inr "lists", .ref t110), (Sum.inr "all", .ref t116), (Sum.inr "pieces", .ref t118), (Sum.inr "more", .ref t135), (Sum.inr "scripts", .ref t149)]) = B0 at *
    intro a152 na152
    have sa152 : Same (upd B0 a152 (.dK [])) (upd B0 a152 (.dK [])) := Same.refl _
    have nn_a152 := none_of s0 na152
    refine ⟨_, rfl, l, _, 1, _, rfl, rfl, (s0.trans ((same_upd na152).trans sa152)).seq hl, atI_nat (j := 1) rfl, _, rfl, l, _, 1, _, rfl, rfl, (s0.trans ((same_upd na152).trans sa152)).seq hl, atI_nat (j := 1) rfl, _, rfl, l, _, 2, _, rfl, rfl, (s0.trans ((same_upd na152).trans sa152)).seq hl, atI_nat (j := 2) rfl, by show 2 ≤ sizeLine; decide, fun t154 np_ => ?_⟩
    have x_ := same_upd (o := .tup [.str x1, .str x2]) np_
    have e_t154 : (upd (upd B0 a152 (.dK [])) t154 (.tup [.str x1, .str x2])) t154 = some (.tup [.str x1, .str x2]) := upd_same
    replace sa152 := sa152.trans x_
    generalize upd (upd B0 a152 (.dK [])) t154 (.tup [.str x1, .str x2]) = W155 at *
    clear x_ np_
    have d_t154 : Dp K W155 (.ref t154) (.tuple [.str x1, .str x2]) := .tup (SqT.of e_t154) (.cons (.str _) (.cons (.str _) .nil))
    clear e_t154
    refine ⟨_, rfl, l, _, 1, _, rfl, rfl, (s0.trans ((same_upd na152).trans sa152)).seq hl, atI_nat (j := 1) rfl, by show 2 ≤ sizeLine; decide, fun t156 np_ => ?_⟩
    have x_ := same_upd (o := .tup [.str "name", .str x1]) np_
    have e_t156 : (upd W155 t156 (.tup [.str "name", .str x1])) t156 = some (.tup [.str "name", .str x1]) := upd_same
    replace d_t154 := dp_same x_ _ _ d_t154
    replace sa152 := sa152.trans x_
    generalize upd W155 t156 (.tup [.str "name", .str x1]) = W157 at *
    clear x_ np_
    have d_t156 : Dp K W157 (.ref t156) (.tuple [.str "name", .str x1]) := .tup (SqT.of e_t156) (.cons (.str _) (.cons (.str _) .nil))
    clear e_t156
    refine ⟨by show 2 ≤ sizeLine; decide, fun t158 np_ => ?_⟩
    have x_ := same_upd (o := .tup [.str "say", .ref t156]) np_
    have e_t158 : (upd W157 t158 (.tup [.str "say", .ref t156])) t158 = some (.tup [.str "say", .ref t156]) := upd_same
    replace d_t154 := dp_same x_ _ _ d_t154
    replace d_t156 := dp_same x_ _ _ d_t156
    replace sa152 := sa152.trans x_
    generalize upd W157 t158 (.tup [.str "say", .ref t156]) = W159 at *
    clear x_ np_
    have d_t158 : Dp K W159 (.ref t158) (.tuple [.str "say", .tuple [.str "name", .str x1]]) := .tup (SqT.of e_t158) (.cons (.str _) (.cons d_t156 .nil))
    clear e_t158
    clear d_t156
    refine ⟨by show 1 ≤ sizeLine; decide, fun t160 np_ => ?_⟩
    have x_ := same_upd (o := .tup [.ref t158]) np_
    have e_t160 : (upd W159 t160 (.tup [.ref t158])) t160 = some (.tup [.ref t158]) := upd_same
    replace d_t154 := dp_same x_ _ _ d_t154
    replace d_t158 := dp_same x_ _ _ d_t158
    replace sa152 := sa152.trans x_
    generalize upd W159 t160 (.tup [.ref t158]) = W161 at *
    clear x_ np_
    have d_t160 : Dp K W161 (.ref t160) (.tuple [.tuple [.str "say", .tuple [.str "name", .str x1]]]) := .tup (SqT.of e_t160) (.cons d_t158 .nil)
    clear e_t160
    clear d_t158
    refine ⟨by show 4 ≤ sizeLine; decide, fun t162 np_ => ?_⟩
    have x_ := same_upd (o := .tup [.str x1, .str "closed", .ref t154, .ref t160]) np_
    have e_t162 : (upd W161 t162 (.tup [.str x1, .str "closed", .ref t154, .ref t160])) t162 = some (.tup [.str x1, .str "closed", .ref t154, .ref t160]) := upd_same
    replace d_t154 := dp_same x_ _ _ d_t154
    replace d_t160 := dp_same x_ _ _ d_t160
    replace sa152 := sa152.trans x_
    generalize upd W161 t162 (.tup [.str x1, .str "closed", .ref t154, .ref t160]) = W163 at *
    clear x_ np_
    have d_t162 : Dp K W163 (.ref t162) (.tuple [.str x1, .str "closed", .tuple [.str x1, .str x2], .tuple [.tuple [.str "say", .tuple [.str "name", .str x1]]]]) := .tup (SqT.of e_t162) (.cons (.str _) (.cons (.str _) (.cons d_t154 (.cons d_t160 .nil))))
    clear e_t162
    clear d_t154 d_t160
    refine ⟨by show 1 ≤ sizeLine; decide, fun t164 np_ => ?_⟩
    have x_ := same_upd (o := .tup [.ref t162]) np_
    have e_t164 : (upd W163 t164 (.tup [.ref t162])) t164 = some (.tup [.ref t162]) := upd_same
    replace d_t162 := dp_same x_ _ _ d_t162
    replace sa152 := sa152.trans x_
    generalize upd W163 t164 (.tup [.ref t162]) = W165 at *
    clear x_ np_
    have d_t164 : Dp K W165 (.ref t164) (.tuple [.tuple [.str x1, .str "closed", .tuple [.str x1, .str x2], .tuple [.tuple [.str "say", .tuple [.str "name", .str x1]]]]]) := .tup (SqT.of e_t164) (.cons d_t162 .nil)
    clear e_t164
    clear d_t162
    refine ⟨_, rfl, l, _, 1, _, rfl, rfl, (s0.trans ((same_upd na152).trans sa152)).seq hl, atI_nat (j := 1) rfl, by show 2 ≤ sizeLine; decide, fun t166 np_ => ?_⟩
    have x_ := same_upd (o := .tup [.str x1, .int 1]) np_
    have e_t166 : (upd W165 t166 (.tup [.str x1, .int 1])) t166 = some (.tup [.str x1, .int 1]) := upd_same
    replace d_t164 := dp_same x_ _ _ d_t164
    replace sa152 := sa152.trans x_
    generalize upd W165 t166 (.tup [.str x1, .int 1]) = W167 at *
    clear x_ np_
    have d_t166 : Dp K W167 (.ref t166) (.tuple [.str x1, .int 1]) := .tup (SqT.of e_t166) (.cons (.str _) (.cons (.int _) .nil))
    clear e_t166
    refine ⟨by show 1 ≤ sizeLine; decide, fun t168 np_ => ?_⟩
    have x_ := same_upd (o := .tup [.ref t166]) np_
    have e_t168 : (upd W167 t168 (.tup [.ref t166])) t168 = some (.tup [.ref t166]) := upd_same
    replace d_t164 := dp_same x_ _ _ d_t164
    replace d_t166 := dp_same x_ _ _ d_t166
    replace sa152 := sa152.trans x_
    generalize upd W167 t168 (.tup [.ref t166]) = W169 at *
    clear x_ np_
    have d_t168 : Dp K W169 (.ref t168) (.tuple [.tuple [.str x1, .int 1]]) := .tup (SqT.of e_t168) (.cons d_t166 .nil)
    clear e_t168
    clear d_t166
    refine ⟨sa152 _ _ upd_same, [(Sum.inr "pieces", .ref t164), (Sum.inr "names", .ref t168)], rfl, by show 2 ≤ 15; decide, ?_⟩
    rw [show mergeK [] ([(Sum.inr "pieces", .ref t164), (Sum.inr "names", .ref t168)] : List (L2.Key × V)) = ([(Sum.inr "pieces", .ref t164), (Sum.inr "names", .ref t168)] : List (L2.Key × V)) from rfl]
    obtain ⟨sE_, e_a152, dE_, tE_⟩ := dEnd (K := K) (kvs := [(Sum.inr "pieces", .ref t164), (Sum.inr "names", .ref t168)]) na152 sa152
    replace d_t164 := dE_ rfl d_t164
    replace d_t168 := dE_ rfl d_t168
    replace s0 := s0.trans sE_
    replace d_t102 := dp_same sE_ _ _ d_t102
    replace d_t104 := dp_same sE_ _ _ d_t104
    replace d_t110 := dp_same sE_ _ _ d_t110
    replace d_t116 := dp_same sE_ _ _ d_t116
    replace d_t118 := dp_same sE_ _ _ d_t118
    replace d_t135 := dp_same sE_ _ _ d_t135
    replace d_t149 := dp_same sE_ _ _ d_t149
    replace e_B := sE_ _ _ e_B
    clear dE_ tE_ sa152 
    generalize upd W169 a152 (.dK [(Sum.inr "pieces", .ref t164), (Sum.inr "names", .ref t168)]) = W170 at *
    clear sE_ na152
    refine ⟨_, rfl, _, rfl, ?_⟩
    try unfold tNil
    refine ⟨l, a100, x0, _, _, ({c3 := some (.ref t102, prs [(x1, .int 1)]), c8 := some (.ref t104, prs [(x1, .int 1)]), c4 := some (.ref t110, prs [(x1, e0)]), c9 := some (.ref t116, prs [(x1, e0)]), c5 := some (.ref t118, .tuple [pcE (.str x1) (.str "open") e0]), c10 := some (.ref t135, .tuple [figE (.str x1) o3]), c6 := some (.ref t149, .tuple [.tuple [.tuple [.str "news", .str x1], e0], .tuple [.tuple [.str "key", .str x1], e0]])} : Chs), rfl, s0.seq hl, e_B, by show 7 ≤ 10; decide, fun _ _ _ _ _ _ _ _ _ _ => rfl, ⟨op_no, op_is d_t102, op_is d_t110, op_is d_t118, op_is d_t149, op_no, op_is d_t104, op_is d_t116, op_is d_t135⟩, ⟨[figE (.str x1) o3], rfl, by show 1 ≤ 100; decide⟩, okA_mk n0 okt_o3 (okt_all (by show 1 ≤ 11; decide) (okt_cons (okt_all (by show 2 ≤ 11; decide) (okt_cons (okt_str n1) (okt_cons (okt_int (by decide) (by decide)) okt_nil))) okt_nil)) (okt_all (by show 1 ≤ 11; decide) (okt_cons (okt_all (by show 2 ≤ 11; decide) (okt_cons (okt_str n1) (okt_cons okt_e0 okt_nil))) okt_nil)) (okt_all (by show 1 ≤ 11; decide) (okt_cons (okt_all (by show 4 ≤ 11; decide) (okt_cons (okt_str n1) (okt_cons (okt_wd (by decide +kernel)) (okt_cons okt_e0 (okt_cons okt_e0 okt_nil))))) okt_nil)) (okt_all (by show 2 ≤ 11; decide) (okt_cons (okt_all (by show 2 ≤ 11; decide) (okt_cons (okt_all (by show 2 ≤ 11; decide) (okt_cons (okt_wd (by decide +kernel)) (okt_cons (okt_str n1) okt_nil))) (okt_cons okt_e0 okt_nil))) (okt_cons (okt_all (by show 2 ≤ 11; decide) (okt_cons (okt_all (by show 2 ≤ 11; decide) (okt_cons (okt_wd (by decide +kernel)) (okt_cons (okt_str n1) okt_nil))) (okt_cons okt_e0 okt_nil))) okt_nil))) okt_s32 (okt_all (by show 1 ≤ 11; decide) (okt_cons (okt_all (by show 2 ≤ 11; decide) (okt_cons (okt_str n1) (okt_cons (okt_int (by decide) (by decide)) okt_nil))) okt_nil)) (okt_all (by show 1 ≤ 11; decide) (okt_cons (okt_all (by show 2 ≤ 11; decide) (okt_cons (okt_str n1) (okt_cons okt_e0 okt_nil))) okt_nil)) (by show 1 ≤ 10; decide) (okt_cons (okt_all (by show 6 ≤ 11; decide) (okt_cons (okt_str n1) (okt_cons okt_o3 (okt_cons okt_e0 (okt_cons okt_e0 (okt_cons okt_e0 (okt_cons okt_e0 okt_nil))))))) okt_nil), ?_, fun B1 x_ => ?_⟩
    · intro f hf
      rcases List.mem_cons.mp hf with rfl | hf
      · exact few_two (fun p hp => by obtain rfl := List.mem_singleton.mp hp; exact Nat.zero_le _) (fun p hp => by simp at hp; rcases hp with rfl | rfl <;> rfl)
      · obtain rfl := List.mem_singleton.mp hf
        exact few_e
    refine ⟨_, true, rfl, rfl, ?_⟩
    rw [show isPlay (({c3 := some (.ref t102, prs [(x1, .int 1)]), c8 := some (.ref t104, prs [(x1, .int 1)]), c4 := some (.ref t110, prs [(x1, e0)]), c9 := some (.ref t116, prs [(x1, e0)]), c5 := some (.ref t118, .tuple [pcE (.str x1) (.str "open") e0]), c10 := some (.ref t135, .tuple [figE (.str x1) o3]), c6 := some (.ref t149, .tuple [.tuple [.tuple [.str "news", .str x1], e0], .tuple [.tuple [.str "key", .str x1], e0]])} : Chs).dat x0) = true from al8 n0 n1 ne01]
    refine ⟨_, rfl, iteT ?_⟩
    replace s0 := s0.trans x_
    replace d_t102 := dp_same x_ _ _ d_t102
    replace d_t104 := dp_same x_ _ _ d_t104
    replace d_t110 := dp_same x_ _ _ d_t110
    replace d_t116 := dp_same x_ _ _ d_t116
    replace d_t118 := dp_same x_ _ _ d_t118
    replace d_t135 := dp_same x_ _ _ d_t135
    replace d_t149 := dp_same x_ _ _ d_t149
    replace e_B := x_ _ _ e_B
    replace d_t164 := dp_same x_ _ _ d_t164
    replace d_t168 := dp_same x_ _ _ d_t168
    replace e_a152 := x_ _ _ e_a152
    clear x_
    refine ⟨_, rfl, _, rfl, ?_⟩
    try unfold tNil
    refine ⟨l, a152, x0, _, _, ({c5 := some (.ref t164, .tuple [.tuple [.str x1, .str "closed", .tuple [.str x1, .str x2], sayB x1]]), c3 := some (.ref t168, prs [(x1, .int 1)])} : Chs), rfl, s0.seq hl, e_a152, by show 2 ≤ 10; decide, fun _ _ _ _ _ _ _ _ _ _ => rfl, ⟨op_no, op_is d_t168, op_no, op_is d_t164, op_no, op_no, op_no, op_no, op_no⟩, ⟨[], rfl, by decide⟩, okA_mk n0 okt_o3 (okt_all (by show 1 ≤ 11; decide) (okt_cons (okt_all (by show 2 ≤ 11; decide) (okt_cons (okt_str n1) (okt_cons (okt_int (by decide) (by decide)) okt_nil))) okt_nil)) okt_e0 (okt_all (by show 1 ≤ 11; decide) (okt_cons (okt_all (by show 4 ≤ 11; decide) (okt_cons (okt_str n1) (okt_cons (okt_wd (by decide +kernel)) (okt_cons (okt_all (by show 2 ≤ 11; decide) (okt_cons (okt_str n1) (okt_cons (okt_str n2) okt_nil))) (okt_cons (okt_all (by show 1 ≤ 11; decide) (okt_cons (okt_all (by show 2 ≤ 11; decide) (okt_cons (okt_wd (by decide +kernel)) (okt_cons (okt_all (by show 2 ≤ 11; decide) (okt_cons (okt_wd (by decide +kernel)) (okt_cons (okt_str n1) okt_nil))) okt_nil))) okt_nil)) okt_nil))))) okt_nil)) okt_e0 okt_s32 okt_e0 okt_e0 (by show 0 ≤ 10; decide) okt_nil, ?_, fun B2 y_ => ?_⟩
    · intro f hf
      obtain rfl := List.mem_singleton.mp hf
      exact few_two (fun p hp => by obtain rfl := List.mem_singleton.mp hp; show (nin 4 (sayB x1)).length ≤ 1000; rw [say_nin]; show 1 ≤ 1000; decide) (fun p hp => nomatch hp)
    refine ⟨_, true, rfl, rfl, ?_⟩
    rw [show isPlay (({c5 := some (.ref t164, .tuple [.tuple [.str x1, .str "closed", .tuple [.str x1, .str x2], sayB x1]]), c3 := some (.ref t168, prs [(x1, .int 1)])} : Chs).dat x0) = true from al9 n0 n1 n2 ne12]
    exact q _ (s0.trans y_)
end
end Fd

set_option Elab.async false
set_option linter.all false
set_option maxRecDepth 100000
set_option maxHeartbeats 1000000
namespace Fd
open PySem PySem.Spec PyProof.Rows L2
def spNum (K : PySem.W.Frag) : Sp := fun vs H Q _ => ∃ (a c l : Addr) (n : Nat) (ws : List Str), vs = [.ref a, .ref l] ∧ Dr H a c n ∧ n + 2 ≤ 1000000 ∧ l ∉ [a, c] ∧ H l = some (.lst (ws.map V.str)) ∧ ws.length = 9 ∧ ws.Nodup ∧ (∀ z ∈ ws, IsNm z) ∧ ∀ H', ButL [a, c] H H' → Dr H' a c (n + 2) → Q (.bl true) H'
/-! ### what of tuples alone is, is so without the lists told -/
def LstsIn (H : Hp) (as : List Addr) : Prop := ∀ a ∈ as, ∃ xs, H a = some (.lst xs)
mutual
theorem dp_noLs {K : PySem.W.Frag} {H : Hp} {as : List Addr} (hN : LstsIn H as) : ∀ (d : PyData) (v : V), tOn d = true → Dp K H v d → Dp K (rmL as H) v d
  | .none, _, _, h => by cases h; exact .non
  | .bool b, _, _, h => by cases h; exact .bl b
  | .int i, _, _, h => by cases h; exact .int i
  | .str x, _, _, h => by cases h; exact .str x
  | .list ds, _, g, h => by cases g
  | .dict _, _, g, h => by cases g
  | .tuple ds, _, g, h => by
    cases h with
    | tup q r =>
      have no : ∀ {b : Addr} {o : HO}, H b = some o → (∀ xs, o ≠ .lst xs) → rmL as H b = some o := fun {b o} hb ho => by
        rw [rmL_at (fun z => by
          obtain ⟨xs, hx⟩ := hN b z
          rw [hb] at hx
          exact ho xs (Option.some.inj hx))]
        exact hb
      refine .tup ?_ (dpAll_noLs hN ds _ g r)
      rcases q with (q | ⟨o, q⟩) | q
      · exact .inl (.inl (no q fun xs z => nomatch z))
      · exact .inl (.inr ⟨o, no q fun xs z => nomatch z⟩)
      · exact .inr q
theorem dpAll_noLs {K : PySem.W.Frag} {H : Hp} {as : List Addr} (hN : LstsIn H as) : ∀ (ds : List PyData) (vs : List V), tOns ds = true → DpAll K H vs ds → DpAll K (rmL as H) vs ds
  | [], _, _, h => by cases h; exact .nil
  | d :: ds, _, g, h => by
    cases h with
    | cons q r =>
      have g : (tOn d && tOns ds) = true := g
      rw [Bool.and_eq_true] at g
      exact .cons (dp_noLs hN d _ g.1 q) (dpAll_noLs hN ds _ g.2 r)
end
/-- triples of small numbers -/
def Spt (K : PySem.W.Frag) (H : Hp) (v : V) : Prop := ∃ x y t : Int, Dp K H v (.tuple [.int x, .int y, .int t]) ∧ (-1 ≤ x ∧ x ≤ 20) ∧ (-1 ≤ y ∧ y ≤ 20) ∧ (-1 ≤ t ∧ t ≤ 4)
def SptA (K : PySem.W.Frag) (H : Hp) (xs : List V) : Prop := ∀ v ∈ xs, Spt K H v
theorem SptA.nil {K : PySem.W.Frag} {H : Hp} : SptA K H [] := fun v hv => nomatch hv
theorem SptA.cons {K : PySem.W.Frag} {H : Hp} {v : V} {xs : List V} (h : Spt K H v) (g : SptA K H xs) : SptA K H (v :: xs) := fun u hu => by
  rcases List.mem_cons.mp hu with rfl | hu
  · exact h
  · exact g u hu
theorem SptA.noLs {K : PySem.W.Frag} {H : Hp} {xs : List V} {as : List Addr} (hN : LstsIn H as) (h : SptA K H xs) : SptA K (rmL as H) xs := fun v hv => by
  obtain ⟨x, y, t, d, b⟩ := h v hv
  exact ⟨x, y, t, dp_noLs hN _ _ rfl d, b⟩
theorem putS {as : List Addr} {G H' : Hp} {p : Addr} {o : HO} (s : Same (rmL as G) H') (h : p ∈ as) : Same (rmL as G) (upd H' p o) := fun b u hb => by
  rw [upd_ne (fun z => by rw [z, rmL_in h] at hb; cases hb)]
  exact s _ _ hb
theorem dpI {K : PySem.W.Frag} {H : Hp} {v : V} {x : Int} (h : Dp K H v (.int x)) : v = .int x := by cases h; rfl
/-- _law_with of other sides -/
theorem wSd {K : PySem.W.Frag} {H : Hp} {l c : Addr} {w0 : Str} {r : List V} {v : V} {d : PyData} {b : Bool} {Q : VK} {E : XK} (e : sizeB d = b) (hb : b = false ∨ ∃ i j, d = .tuple [.int i, .int j] ∧ spotB i j o3 = true) (hl : SqL K H l (.str w0 :: r)) (hw : IsNm w0) (hc : H c = some (.dK [(Sum.inr "sides", v)])) (hd7 : Dp K H v d) (ok7 : OkT 3 10 d) (q : ∀ H', Same H H' → Q (.bl b) H') : spWith K [.ref l, .ref c] H Q E := by
  rcases hb with rfl | ⟨i, j, rfl, sp⟩
  · exact w7n e hl hw hc hd7 ok7 q
  · refine w7 hl hw hc hd7 ok7 fun H' s' => ?_
    rw [e, sp, Bool.and_true]
    exact q H' s'
section
variable {P : Program} {w : World} {K : PySem.W.Frag} {mg : Str → Option Value} {base : Heap} {f : Addr} {fd : FuncData}
abbrev sZn : Stmt := top 67
theorem scZn : FnScope ["_law_state", "_law_n", "_law_wide", "_law_high", "_law_told", "_law_dues", "_law_great", "_law_spots", "_law_x", "_law_y", "_law_way", "_law_side", "_law_value", "_law_fine", "_law_size"] ["_law_state", "_law_n"] (defScope sZn) := ⟨rfl, rfl, rfl, by decide +kernel, rfl, by decide +kernel, by decide +kernel⟩
theorem ok_Zn {k : Nat} (F : Fun K "_law_numbers_right" "_law_numbers_right" sZn f fd) (GW : FnG P w K mg base CX0 k "_law_with" ["_law_n", "_law_changes"] (spWith K)) (m_range : mg "range" = none) (GT : FnG P w K mg base CX0 k "_law_take" ["_law_state", "_law_below"] spTake) :
    FnOk P w K mg base CX0 (k + 1) f fd ["_law_state", "_law_n"] (spNum K) := by
  obtain ⟨_, _, G__law_with, m__law_with, k__law_with, b__law_with⟩ := GW
  obtain ⟨_, _, G__law_take, m__law_take, k__law_take, b__law_take⟩ := GT
  have sc := scZn
  refine F.ok sc (fun vs H Q E h => ?_) (fun cdv A outer s H vs Q E hr h => ?_)
  · obtain ⟨a, c, l, n, ws, rfl, _⟩ := h
    rfl
  obtain ⟨a, c, l, n, ws, rfl, hB, hn, nl, hl, l9, nd, nm, q⟩ := h
  refine ⟨_, (pss_cons (ps_par (i := 2) (j := 3) (by rfl) sc.nd rfl rfl (by decide) rfl rfl (pa_cons (pe_op op_add pe_int (pe_call G__law_take (hr.mono (by omega)) (by rfl) m__law_take k__law_take b__law_take .nil pass0 (pa_cons (pv 0) (pa_cons pe_int pa_nil)))) (pa_cons (pe_op op_add pe_int (pe_call G__law_take (hr.mono (by omega)) (by rfl) m__law_take k__law_take b__law_take .nil pass0 (pa_cons (pv 0) (pa_cons pe_int pa_nil)))) pa_nil)) (by rfl))
      (pss_cons (ps_par3 (i := 4) (j := 5) (l := 6) (by rfl) sc.nd rfl rfl rfl (by decide) (by decide) (by decide) rfl rfl rfl (pa_cons (pe_lst pa_nil) (pa_cons (pe_lst pa_nil) (pa_cons (pe_op op_pow pe_int pe_int) pa_nil))) (by rfl))
      (pss_cons (ps_set (i := 7) sc.nd rfl (.inl rfl) (pe_lst (pa_cons (pe_tup (pa_cons (pe_op op_sub (pv 2) pe_int) (pa_cons (pe_op op_sub (pv 3) pe_int) (pa_cons pe_int pa_nil)))) (pa_cons (pe_tup (pa_cons (pv 2) (pa_cons pe_int (pa_cons pe_int pa_nil)))) (pa_cons (pe_tup (pa_cons pe_int (pa_cons (pv 3) (pa_cons pe_int pa_nil)))) (pa_cons (pe_tup (pa_cons pe_int (pa_cons pe_int (pa_cons pe_int pa_nil)))) (pa_cons (pe_tup (pa_cons (pe_un un_neg pe_int) (pa_cons pe_int (pa_cons pe_int pa_nil)))) (pa_cons (pe_tup (pa_cons pe_int (pa_cons (pe_un un_neg pe_int) (pa_cons pe_int pa_nil)))) (pa_cons (pe_tup (pa_cons pe_int (pa_cons pe_int (pa_cons (pe_un un_neg pe_int) pa_nil)))) pa_nil)))))))))
      (pss_cons (ps_for PassesOwn.never rfl (pi_list (pv 7)) (pg_tup (by rfl) (pgs_cons (pg_name (i := 8) sc.nd rfl (.inl rfl)) (pgs_cons (pg_name (i := 9) sc.nd rfl (.inl rfl)) (pgs_cons (pg_name (i := 10) sc.nd rfl (.inl rfl)) pgs_nil)))) (pss_cons (ps_expr (pe_bm PySem.F.plainAttrs_list PySem.F.slot_list_append PySem.F.type_list_append mt_append (pv 4) (pa_cons (pe_call G__law_with (hr.mono (by omega)) (by rfl) m__law_with k__law_with b__law_with .nil pass0 (pa_cons (pv 1) (pa_cons (pe_disp (pps_cons pe_str (pe_tup (pa_cons (pv 2) (pa_cons (pv 3) pa_nil))) (pps_cons pe_str (pe_tup (pa_cons (pv 8) (pa_cons (pv 9) (pa_cons (pv 10) pa_nil)))) pps_nil)) rfl rfl (by decide) (by decide)) pa_nil))) pa_nil)))
      (pss_one (ps_expr (pe_bm PySem.F.plainAttrs_list PySem.F.slot_list_append PySem.F.type_list_append mt_append (pv 5) (pa_cons (pe_and (pe_cmpR op_in_rng (pv 8) (pe_callTy Fw.cr_range1 (by rfl) m_range (by decide +kernel) (pa_cons (pv 2) pa_nil)) (by rfl)) (pe_and (pe_cmpR op_in_rng (pv 9) (pe_callTy Fw.cr_range1 (by rfl) m_range (by decide +kernel) (pa_cons (pv 3) pa_nil)) (by rfl)) (pe_one (pe_cmpR op_in_rng (pv 10) (pe_callTy Fw.cr_range1 (by rfl) m_range (by decide +kernel) (pa_cons pe_int pa_nil)) (by rfl))))) pa_nil))))))
      (pss_cons (ps_for PassesOwn.never rfl (pi_tup (pe_tup (pa_cons pe_int (pa_cons pe_int (pa_cons pe_int (pa_cons pe_int (pa_cons (pe_un un_neg pe_int) (pa_cons pe_bl (pa_cons pe_non pa_nil))))))))) (pg_name (i := 11) sc.nd rfl (.inl rfl)) (pss_cons (ps_set (i := 4) sc.nd rfl (.inl rfl) (pe_op op_cat (pv 4) (pe_lst (pa_cons (pe_call G__law_with (hr.mono (by omega)) (by rfl) m__law_with k__law_with b__law_with .nil pass0 (pa_cons (pv 1) (pa_cons (pe_disp (pps_cons pe_str (pe_tup (pa_cons (pv 11) (pa_cons pe_int pa_nil))) pps_nil) rfl rfl (by decide) (by decide)) pa_nil))) (pa_cons (pe_call G__law_with (hr.mono (by omega)) (by rfl) m__law_with k__law_with b__law_with .nil pass0 (pa_cons (pv 1) (pa_cons (pe_disp (pps_cons pe_str (pe_tup (pa_cons pe_int (pa_cons (pv 11) pa_nil))) pps_nil) rfl rfl (by decide) (by decide)) pa_nil))) pa_nil)))))
      (pss_one (ps_set (i := 5) sc.nd rfl (.inl rfl) (pe_op op_cat (pv 5) (pe_op op_rep (pe_lst (pa_cons (pe_and (pe_cmpR op_in_seq (pv 11) (pe_tup (pa_cons pe_int (pa_cons pe_int pa_nil))) (by rfl)) (pe_one (pe_cmpR (show OpR _ _ _ from Fw.op_notFl) (pv 11) pe_bl (nomark _)))) pa_nil)) pe_int))))))
      (pss_cons (ps_for PassesOwn.never rfl (pi_tup (pe_tup (pa_cons (pv 6) (pa_cons (pe_op op_add (pv 6) pe_int) (pa_cons (pe_un un_neg (pv 6)) (pa_cons (pe_op op_sub (pe_un un_neg (pv 6)) pe_int) (pa_cons pe_int (pa_cons pe_bl (pa_cons pe_non (pa_cons pe_str pa_nil)))))))))) (pg_name (i := 12) sc.nd rfl (.inl rfl)) (pss_cons (ps_set (i := 13) sc.nd rfl (.inl rfl) (pe_and (pe_cmpR op_in_seq (pv 12) (pe_tup (pa_cons (pv 6) (pa_cons (pe_un un_neg (pv 6)) (pa_cons pe_int pa_nil)))) (by rfl)) (pe_one (pe_cmpR (show OpR _ _ _ from Fw.op_notFl) (pv 12) pe_bl (nomark _)))))
      (pss_cons (ps_set (i := 4) sc.nd rfl (.inl rfl) (pe_op op_cat (pv 4) (pe_lst (pa_cons (pe_call G__law_with (hr.mono (by omega)) (by rfl) m__law_with k__law_with b__law_with .nil pass0 (pa_cons (pv 1) (pa_cons (pe_disp (pps_cons pe_str (pe_tup (pa_cons (pe_tup (pa_cons (pe_ix (show IxR _ (rIxL K) from ix_list) (pv 1) pe_int (fun _ _ => rfl)) (pa_cons (pv 12) pa_nil))) pa_nil)) pps_nil) rfl rfl (by decide) (by decide)) pa_nil))) (pa_cons (pe_call G__law_with (hr.mono (by omega)) (by rfl) m__law_with k__law_with b__law_with .nil pass0 (pa_cons (pv 1) (pa_cons (pe_disp (pps_cons pe_str (pe_tup (pa_cons (pe_tup (pa_cons (pe_ix (show IxR _ (rIxL K) from ix_list) (pv 1) pe_int (fun _ _ => rfl)) (pa_cons (pe_tup (pa_cons pe_int (pa_cons (pv 12) pa_nil))) pa_nil))) pa_nil)) pps_nil) rfl rfl (by decide) (by decide)) pa_nil))) pa_nil)))))
      (pss_cons (ps_set (i := 4) sc.nd rfl (.inl rfl) (pe_op op_cat (pv 4) (pe_lst (pa_cons (pe_call G__law_with (hr.mono (by omega)) (by rfl) m__law_with k__law_with b__law_with .nil pass0 (pa_cons (pv 1) (pa_cons (pe_disp (pps_cons pe_str (pe_tup (pa_cons (pe_tup (pa_cons (pe_ix (show IxR _ (rIxL K) from ix_list) (pv 1) pe_int (fun _ _ => rfl)) (pa_cons (pv 12) pa_nil))) pa_nil)) pps_nil) rfl rfl (by decide) (by decide)) pa_nil))) (pa_cons (pe_call G__law_with (hr.mono (by omega)) (by rfl) m__law_with k__law_with b__law_with .nil pass0 (pa_cons (pv 1) (pa_cons (pe_disp (pps_cons pe_str (pe_tup (pa_cons (pe_tup (pa_cons (pe_ix (show IxR _ (rIxL K) from ix_list) (pv 1) pe_int (fun _ _ => rfl)) (pa_cons (pe_tup (pa_cons (pv 12) pa_nil)) pa_nil))) pa_nil)) pps_nil) rfl rfl (by decide) (by decide)) pa_nil))) pa_nil)))))
      (pss_one (ps_set (i := 5) sc.nd rfl (.inl rfl) (pe_op op_cat (pv 5) (pe_op op_rep (pe_lst (pa_cons (pv 13) pa_nil)) pe_int))))))))
      (pss_cons (ps_for PassesOwn.never rfl (pi_range1 (by rfl) m_range (pa_cons pe_int pa_nil)) (pg_name (i := 14) sc.nd rfl (.inl rfl)) (pss_cons (ps_set (i := 4) sc.nd rfl (.inl rfl) (pe_op op_cat (pv 4) (pe_lst (pa_cons (pe_call G__law_with (hr.mono (by omega)) (by rfl) m__law_with k__law_with b__law_with .nil pass0 (pa_cons (pv 1) (pa_cons (pe_disp (pps_cons pe_str (pe_tup (pa_cons (pe_tup (pa_cons (pe_ix (show IxR _ (rIxL K) from ix_list) (pv 1) pe_int (fun _ _ => rfl)) (pa_cons (pe_op (show OpR _ _ (Fw.rRepZ K) from Fw.op_repZ) (pe_tup (pa_cons pe_int pa_nil)) (pv 14)) pa_nil))) pa_nil)) pps_nil) rfl rfl (by decide) (by decide)) pa_nil))) (pa_cons (pe_call G__law_with (hr.mono (by omega)) (by rfl) m__law_with k__law_with b__law_with .nil pass0 (pa_cons (pv 1) (pa_cons (pe_disp (pps_cons pe_str (pe_tup (pa_cons (pe_tup (pa_cons (pe_ix (show IxR _ (rIxL K) from ix_list) (pv 1) pe_int (fun _ _ => rfl)) (pa_cons (pe_op (show OpR _ _ (Fw.rRepZ K) from Fw.op_repZ) (pe_tup (pa_cons pe_int pa_nil)) (pv 14)) pa_nil))) pa_nil)) pps_nil) rfl rfl (by decide) (by decide)) pa_nil))) pa_nil)))))
      (pss_one (ps_set (i := 5) sc.nd rfl (.inl rfl) (pe_op op_cat (pv 5) (pe_op op_rep (pe_lst (pa_cons (pe_cmpR op_lt (pv 14) pe_int (nomark _)) pa_nil)) pe_int))))))
      (pss_one (ps_ret (pe_cmpR (op_eqD hr.units) (pv 4) (pv 5) (nomark _))))))))))), ?_⟩
  obtain ⟨x0, x1, x2, x3, x4, x5, x6, x7, x8, rfl⟩ := nine l9
  have n0 : IsNm x0 := nm x0 (by simp)
  have n1 : IsNm x1 := nm x1 (by simp)
  clear nd nm l9
  replace hl : H l = some (.lst [.str x0, .str x1, .str x2, .str x3, .str x4, .str x5, .str x6, .str x7, .str x8]) := hl
  refine ⟨_, rfl, a, c, n, 20, rfl, hB, by omega, by decide, by decide, fun r1 H1 r10 r11 s1 B1 => ⟨_, _, rfl, rfl, _, rfl, a, c, n + 1, 20, rfl, B1, by omega, by decide, by decide, fun r2 H2 r20 r21 s2 B2 => ⟨_, _, rfl, rfl, _, _, rfl, ?_⟩⟩⟩
  have sB := s1.trans s2
  replace hl := sB _ _ nl hl
  clear s1 s2 B1
  have s0 : Same H2 H2 := Same.refl _
  refine ⟨by show 0 ≤ sizeLine; decide, fun lt np_ => ?_⟩
  have x_ := same_upd (o := .lst []) np_
  have e_lt : (upd H2 lt (.lst [])) lt = some (.lst []) := upd_same
  have nn_lt := none_of s0 np_
  replace s0 := s0.trans x_
  generalize upd H2 lt (.lst []) = W1 at *
  clear x_ np_
  refine ⟨by show 0 ≤ sizeLine; decide, fun ld np_ => ?_⟩
  have x_ := same_upd (o := .lst []) np_
  have nld := ne_of_none e_lt np_
  have e_ld : (upd W1 ld (.lst [])) ld = some (.lst []) := upd_same
  have nn_ld := none_of s0 np_
  replace s0 := s0.trans x_
  replace e_lt := x_ _ _ e_lt
  generalize upd W1 ld (.lst []) = W2 at *
  clear x_ np_
  refine ⟨_, _, rfl, rfl, ⟨by decide, by decide, by decide⟩, _, _, _, rfl, ?_⟩
  refine ⟨_, rfl, _, _, rfl, rfl, _, rfl, _, _, rfl, rfl, by show 3 ≤ sizeLine; decide, fun t3 np_ => ?_⟩
  have x_ := same_upd (o := .tup [.int (1 + r1 - 1), .int (1 + r2 - 1), .int 3]) np_
  have e_t3 : (upd W2 t3 (.tup [.int (1 + r1 - 1), .int (1 + r2 - 1), .int 3])) t3 = some (.tup [.int (1 + r1 - 1), .int (1 + r2 - 1), .int 3]) := upd_same
  replace s0 := s0.trans x_
  replace e_lt := x_ _ _ e_lt
  replace e_ld := x_ _ _ e_ld
  generalize upd W2 t3 (.tup [.int (1 + r1 - 1), .int (1 + r2 - 1), .int 3]) = W4 at *
  clear x_ np_
  have d_t3 : Dp K W4 (.ref t3) (.tuple [.int (1 + r1 - 1), .int (1 + r2 - 1), .int 3]) := .tup (SqT.of e_t3) (.cons (.int _) (.cons (.int _) (.cons (.int _) .nil)))
  clear e_t3
  refine ⟨_, rfl, by show 3 ≤ sizeLine; decide, fun t5 np_ => ?_⟩
  have x_ := same_upd (o := .tup [.int (1 + r1), .int 0, .int 0]) np_
  have e_t5 : (upd W4 t5 (.tup [.int (1 + r1), .int 0, .int 0])) t5 = some (.tup [.int (1 + r1), .int 0, .int 0]) := upd_same
  replace s0 := s0.trans x_
  replace e_lt := x_ _ _ e_lt
  replace e_ld := x_ _ _ e_ld
  replace d_t3 := dp_same x_ _ _ d_t3
  generalize upd W4 t5 (.tup [.int (1 + r1), .int 0, .int 0]) = W6 at *
  clear x_ np_
  have d_t5 : Dp K W6 (.ref t5) (.tuple [.int (1 + r1), .int 0, .int 0]) := .tup (SqT.of e_t5) (.cons (.int _) (.cons (.int _) (.cons (.int _) .nil)))
  clear e_t5
  refine ⟨_, rfl, by show 3 ≤ sizeLine; decide, fun t7 np_ => ?_⟩
  have x_ := same_upd (o := .tup [.int 0, .int (1 + r2), .int 0]) np_
  have e_t7 : (upd W6 t7 (.tup [.int 0, .int (1 + r2), .int 0])) t7 = some (.tup [.int 0, .int (1 + r2), .int 0]) := upd_same
  replace s0 := s0.trans x_
  replace e_lt := x_ _ _ e_lt
  replace e_ld := x_ _ _ e_ld
  replace d_t3 := dp_same x_ _ _ d_t3
  replace d_t5 := dp_same x_ _ _ d_t5
  generalize upd W6 t7 (.tup [.int 0, .int (1 + r2), .int 0]) = W8 at *
  clear x_ np_
  have d_t7 : Dp K W8 (.ref t7) (.tuple [.int 0, .int (1 + r2), .int 0]) := .tup (SqT.of e_t7) (.cons (.int _) (.cons (.int _) (.cons (.int _) .nil)))
  clear e_t7
  refine ⟨by show 3 ≤ sizeLine; decide, fun t9 np_ => ?_⟩
  have x_ := same_upd (o := .tup [.int 0, .int 0, .int 4]) np_
  have e_t9 : (upd W8 t9 (.tup [.int 0, .int 0, .int 4])) t9 = some (.tup [.int 0, .int 0, .int 4]) := upd_same
  replace s0 := s0.trans x_
  replace e_lt := x_ _ _ e_lt
  replace e_ld := x_ _ _ e_ld
  replace d_t3 := dp_same x_ _ _ d_t3
  replace d_t5 := dp_same x_ _ _ d_t5
  replace d_t7 := dp_same x_ _ _ d_t7
  generalize upd W8 t9 (.tup [.int 0, .int 0, .int 4]) = W10 at *
  clear x_ np_
  have d_t9 : Dp K W10 (.ref t9) (.tuple [.int 0, .int 0, .int 4]) := .tup (SqT.of e_t9) (.cons (.int _) (.cons (.int _) (.cons (.int _) .nil)))
  clear e_t9
  refine ⟨_, rfl, by show 3 ≤ sizeLine; decide, fun t11 np_ => ?_⟩
  have x_ := same_upd (o := .tup [.int (-1), .int 0, .int 0]) np_
  have e_t11 : (upd W10 t11 (.tup [.int (-1), .int 0, .int 0])) t11 = some (.tup [.int (-1), .int 0, .int 0]) := upd_same
  replace s0 := s0.trans x_
  replace e_lt := x_ _ _ e_lt
  replace e_ld := x_ _ _ e_ld
  replace d_t3 := dp_same x_ _ _ d_t3
  replace d_t5 := dp_same x_ _ _ d_t5
  replace d_t7 := dp_same x_ _ _ d_t7
  replace d_t9 := dp_same x_ _ _ d_t9
  generalize upd W10 t11 (.tup [.int (-1), .int 0, .int 0]) = W12 at *
  clear x_ np_
  have d_t11 : Dp K W12 (.ref t11) (.tuple [.int (-1), .int 0, .int 0]) := .tup (SqT.of e_t11) (.cons (.int _) (.cons (.int _) (.cons (.int _) .nil)))
  clear e_t11
  refine ⟨_, rfl, by show 3 ≤ sizeLine; decide, fun t13 np_ => ?_⟩
  have x_ := same_upd (o := .tup [.int 0, .int (-1), .int 0]) np_
  have e_t13 : (upd W12 t13 (.tup [.int 0, .int (-1), .int 0])) t13 = some (.tup [.int 0, .int (-1), .int 0]) := upd_same
  replace s0 := s0.trans x_
  replace e_lt := x_ _ _ e_lt
  replace e_ld := x_ _ _ e_ld
  replace d_t3 := dp_same x_ _ _ d_t3
  replace d_t5 := dp_same x_ _ _ d_t5
  replace d_t7 := dp_same x_ _ _ d_t7
  replace d_t9 := dp_same x_ _ _ d_t9
  replace d_t11 := dp_same x_ _ _ d_t11
  generalize upd W12 t13 (.tup [.int 0, .int (-1), .int 0]) = W14 at *
  clear x_ np_
  have d_t13 : Dp K W14 (.ref t13) (.tuple [.int 0, .int (-1), .int 0]) := .tup (SqT.of e_t13) (.cons (.int _) (.cons (.int _) (.cons (.int _) .nil)))
  clear e_t13
  refine ⟨_, rfl, by show 3 ≤ sizeLine; decide, fun t15 np_ => ?_⟩
  have x_ := same_upd (o := .tup [.int 0, .int 0, .int (-1)]) np_
  have e_t15 : (upd W14 t15 (.tup [.int 0, .int 0, .int (-1)])) t15 = some (.tup [.int 0, .int 0, .int (-1)]) := upd_same
  replace s0 := s0.trans x_
  replace e_lt := x_ _ _ e_lt
  replace e_ld := x_ _ _ e_ld
  replace d_t3 := dp_same x_ _ _ d_t3
  replace d_t5 := dp_same x_ _ _ d_t5
  replace d_t7 := dp_same x_ _ _ d_t7
  replace d_t9 := dp_same x_ _ _ d_t9
  replace d_t11 := dp_same x_ _ _ d_t11
  replace d_t13 := dp_same x_ _ _ d_t13
  generalize upd W14 t15 (.tup [.int 0, .int 0, .int (-1)]) = W16 at *
  clear x_ np_
  have d_t15 : Dp K W16 (.ref t15) (.tuple [.int 0, .int 0, .int (-1)]) := .tup (SqT.of e_t15) (.cons (.int _) (.cons (.int _) (.cons (.int _) .nil)))
  clear e_t15
  refine ⟨by show 7 ≤ sizeLine; decide, fun ls np_ => ?_⟩
  have x_ := same_upd (o := .lst [.ref t3, .ref t5, .ref t7, .ref t9, .ref t11, .ref t13, .ref t15]) np_
  have e_ls : (upd W16 ls (.lst [.ref t3, .ref t5, .ref t7, .ref t9, .ref t11, .ref t13, .ref t15])) ls = some (.lst [.ref t3, .ref t5, .ref t7, .ref t9, .ref t11, .ref t13, .ref t15]) := upd_same
  replace s0 := s0.trans x_
  replace e_lt := x_ _ _ e_lt
  replace e_ld := x_ _ _ e_ld
  replace d_t3 := dp_same x_ _ _ d_t3
  replace d_t5 := dp_same x_ _ _ d_t5
  replace d_t7 := dp_same x_ _ _ d_t7
  replace d_t9 := dp_same x_ _ _ d_t9
  replace d_t11 := dp_same x_ _ _ d_t11
  replace d_t13 := dp_same x_ _ _ d_t13
  replace d_t15 := dp_same x_ _ _ d_t15
  generalize upd W16 ls (.lst [.ref t3, .ref t5, .ref t7, .ref t9, .ref t11, .ref t13, .ref t15]) = W17 at *
  clear x_ np_
  have SP : SptA K W17 [.ref t3, .ref t5, .ref t7, .ref t9, .ref t11, .ref t13, .ref t15] := (.cons ⟨_, _, _, d_t3, ⟨by omega, by omega⟩, ⟨by omega, by omega⟩, by omega, by omega⟩ (.cons ⟨_, _, _, d_t5, ⟨by omega, by omega⟩, ⟨by omega, by omega⟩, by omega, by omega⟩ (.cons ⟨_, _, _, d_t7, ⟨by omega, by omega⟩, ⟨by omega, by omega⟩, by omega, by omega⟩ (.cons ⟨_, _, _, d_t9, ⟨by omega, by omega⟩, ⟨by omega, by omega⟩, by omega, by omega⟩ (.cons ⟨_, _, _, d_t11, ⟨by omega, by omega⟩, ⟨by omega, by omega⟩, by omega, by omega⟩ (.cons ⟨_, _, _, d_t13, ⟨by omega, by omega⟩, ⟨by omega, by omega⟩, by omega, by omega⟩ (.cons ⟨_, _, _, d_t15, ⟨by omega, by omega⟩, ⟨by omega, by omega⟩, by omega, by omega⟩ .nil)))))))
  clear d_t3
  clear d_t5
  clear d_t7
  clear d_t9
  clear d_t11
  clear d_t13
  clear d_t15
  obtain ⟨xs, hxs⟩ : ∃ xs : List V, xs = [.ref t3, .ref t5, .ref t7, .ref t9, .ref t11, .ref t13, .ref t15] := ⟨_, rfl⟩
  have lxs : xs.length = 7 := by rw [hxs]; rfl
  rw [← hxs] at SP e_ls
  clear hxs
  have hN : LstsIn W17 [lt, ld] := fun b hb => by
    rcases List.mem_cons.mp hb with rfl | hb
    · exact ⟨_, e_lt⟩
    · obtain rfl := List.mem_singleton.mp hb; exact ⟨_, e_ld⟩
  replace SP := SP.noLs hN
  have sH : Same H2 (rmL [lt, ld] W17) := fun b o hb => by
    rw [rmL_at (fun z => by
      rcases List.mem_cons.mp z with rfl | z
      · rw [nn_lt] at hb; cases hb
      · obtain rfl := List.mem_singleton.mp z; rw [nn_ld] at hb; cases hb)]
    exact s0 _ _ hb
  have nls : ls ∉ [lt, ld] := fun z => by
    rcases List.mem_cons.mp z with rfl | z
    · rw [e_lt] at e_ls; injection e_ls with e_ls; injection e_ls with e_ls; rw [← e_ls] at lxs; cases lxs
    · obtain rfl := List.mem_singleton.mp z; rw [e_ld] at e_ls; injection e_ls with e_ls; injection e_ls with e_ls; rw [← e_ls] at lxs; cases lxs
  have els : rmL [lt, ld] W17 ls = some (.lst xs) := by rw [rmL_at nls]; exact e_ls
  have sG : Same (rmL [lt, ld] W17) W17 := rmL_sub
  clear hN nn_lt nn_ld nls s0 e_ls
  refine ⟨_, rfl, ls, rfl, ⟨_, SqL.of (sG _ _ els)⟩, for_it (walk_list (xs := xs)) (fun i σ H' => Same (rmL [lt, ld] W17) H' ∧ ∃ bs : List Bool, H' lt = some (.lst (bs.map V.bl)) ∧ H' ld = some (.lst (bs.map V.bl)) ∧ bs.length = i ∧ ∃ o8 o9 o10 o11 o12 o13 o14, σ = [some (.ref a), some (.ref l), some (.int (1 + r1)), some (.int (1 + r2)), some (.ref lt), some (.ref ld), some (.int 1000000), some (.ref ls), o8, o9, o10, o11, o12, o13, o14]) ⟨sG, [], e_lt, e_ld, rfl, _, _, _, _, _, _, _, rfl⟩ (fun i σ H' _ h => SqL.of (h.1 _ _ els)) ?_ ?_⟩
  · clear sG e_lt e_ld
    rintro i v σ _ HA hi ⟨sA, bs, et, ed, lb, o8, o9, o10, o11, o12, o13, o14, rfl⟩ ⟨rfl, ex⟩
    have hi7 : i < 7 := by rw [← lxs]; exact hi
    obtain ⟨x, y, t, dv, bx, by_, bt⟩ := SP v (List.mem_of_getElem? ex)
    obtain ⟨t3, vx, vy, vt, rfl, sq, d1, d2, d3⟩ := d3 dv
    obtain rfl := dpI d1
    obtain rfl := dpI d2
    obtain rfl := dpI d3
    refine ⟨t3, _, rfl, seqT sA sq, rfl, _, _, rfl, _, _, rfl, _, _, rfl, rfl, ?_⟩
    clear d1 d2 d3 dv sq
    refine ⟨_, rfl, .inl ⟨rfl, _, SqL.of et⟩, _, rfl, fun a1 na1 => ?_⟩
    have sa1 : Same (upd HA a1 (.dK [])) (upd HA a1 (.dK [])) := Same.refl _
    refine ⟨_, rfl, _, rfl, by show 2 ≤ sizeLine; decide, fun t3 np_ => ?_⟩
    have x_ := same_upd (o := .tup [.int (1 + r1), .int (1 + r2)]) np_
    have e_t3 : (upd (upd HA a1 (.dK [])) t3 (.tup [.int (1 + r1), .int (1 + r2)])) t3 = some (.tup [.int (1 + r1), .int (1 + r2)]) := upd_same
    replace sa1 := sa1.trans x_
    generalize upd (upd HA a1 (.dK [])) t3 (.tup [.int (1 + r1), .int (1 + r2)]) = U4 at *
    clear x_ np_
    have d_t3 : Dp K U4 (.ref t3) (.tuple [.int (1 + r1), .int (1 + r2)]) := .tup (SqT.of e_t3) (.cons (.int _) (.cons (.int _) .nil))
    clear e_t3
    refine ⟨_, rfl, _, rfl, _, rfl, by show 3 ≤ sizeLine; decide, fun t5 np_ => ?_⟩
    have x_ := same_upd (o := .tup [.int x, .int y, .int t]) np_
    have e_t5 : (upd U4 t5 (.tup [.int x, .int y, .int t])) t5 = some (.tup [.int x, .int y, .int t]) := upd_same
    replace d_t3 := dp_same x_ _ _ d_t3
    replace sa1 := sa1.trans x_
    generalize upd U4 t5 (.tup [.int x, .int y, .int t]) = U6 at *
    clear x_ np_
    have d_t5 : Dp K U6 (.ref t5) (.tuple [.int x, .int y, .int t]) := .tup (SqT.of e_t5) (.cons (.int _) (.cons (.int _) (.cons (.int _) .nil)))
    clear e_t5
    refine ⟨sa1 _ _ upd_same, [(Sum.inr "sides", .ref t3), (Sum.inr "spot", .ref t5)], rfl, by show 2 ≤ 15; decide, ?_⟩
    rw [show mergeK [] ([(Sum.inr "sides", .ref t3), (Sum.inr "spot", .ref t5)] : List (L2.Key × V)) = ([(Sum.inr "sides", .ref t3), (Sum.inr "spot", .ref t5)] : List (L2.Key × V)) from rfl]
    obtain ⟨sE_, e_a1, dE_, tE_⟩ := dEnd (K := K) (kvs := [(Sum.inr "sides", .ref t3), (Sum.inr "spot", .ref t5)]) na1 sa1
    replace d_t3 := dE_ rfl d_t3
    replace d_t5 := dE_ rfl d_t5
    replace sA := sA.trans sE_
    replace et := sE_ _ _ et
    replace ed := sE_ _ _ ed
    clear dE_ tE_ sa1 
    generalize upd U6 a1 (.dK [(Sum.inr "sides", .ref t3), (Sum.inr "spot", .ref t5)]) = U7 at *
    clear sE_ na1
    skip
    try unfold tNil
    refine w72 (SqL.of ((sH.trans sA) _ _ hl)) n0 e_a1 d_t3 d_t5 (okt_all (by show 2 ≤ 11; decide) (okt_cons (okt_int (by omega) (by omega)) (okt_cons (okt_int (by omega) (by omega)) okt_nil))) (okt_all (by show 3 ≤ 11; decide) (okt_cons (okt_int (by omega) (by omega)) (okt_cons (okt_int (by omega) (by omega)) (okt_cons (okt_int (by omega) (by omega)) okt_nil)))) fun HX1 s_ => ?_
    rw [nu_size (by omega) (by omega) (by omega) (by omega)]
    rw [nu_spot]
    rw [Bool.true_and]
    clear e_a1 d_t3 d_t5
    replace sA := sA.trans s_
    replace et := s_ _ _ et
    replace ed := s_ _ _ ed
    clear s_
    refine ⟨lt, _, _, rfl, rfl, et, by rw [List.length_map]; exact small1000 (by omega), ?_⟩
    have et2 : (upd HX1 lt (.lst (bs.map V.bl ++ [.bl ((decide (0 ≤ x) && decide (x < 1 + r1)) && ((decide (0 ≤ y) && decide (y < 1 + r2)) && (decide (0 ≤ t) && decide (t < 4))))]))) lt = some (.lst ((bs ++ [((decide (0 ≤ x) && decide (x < 1 + r1)) && ((decide (0 ≤ y) && decide (y < 1 + r2)) && (decide (0 ≤ t) && decide (t < 4))))]).map V.bl)) := by rw [upd_same, List.map_append]; rfl
    have sA2 : Same (rmL [lt, ld] W17) (upd HX1 lt (.lst (bs.map V.bl ++ [.bl ((decide (0 ≤ x) && decide (x < 1 + r1)) && ((decide (0 ≤ y) && decide (y < 1 + r2)) && (decide (0 ≤ t) && decide (t < 4))))]))) := putS sA (List.mem_cons_self ..)
    have ed2 : (upd HX1 lt (.lst (bs.map V.bl ++ [.bl ((decide (0 ≤ x) && decide (x < 1 + r1)) && ((decide (0 ≤ y) && decide (y < 1 + r2)) && (decide (0 ≤ t) && decide (t < 4))))]))) ld = some (.lst (bs.map V.bl)) := by rw [upd_ne (fun z => nld z.symm)]; exact ed
    clear et sA ed
    generalize upd HX1 lt (.lst (bs.map V.bl ++ [.bl ((decide (0 ≤ x) && decide (x < 1 + r1)) && ((decide (0 ≤ y) && decide (y < 1 + r2)) && (decide (0 ≤ t) && decide (t < 4))))])) = HB at *
    generalize hB0 : ((decide (0 ≤ x) && decide (x < 1 + r1)) && ((decide (0 ≤ y) && decide (y < 1 + r2)) && (decide (0 ≤ t) && decide (t < 4)))) = B0 at et2
    by_cases c1 : 0 ≤ x ∧ x < 1 + r1
    · by_cases c2 : 0 ≤ y ∧ y < 1 + r2
      · by_cases c3 : 0 ≤ t ∧ t < 4
        · refine ⟨_, rfl, .inl ⟨rfl, _, SqL.of ed2⟩, _, rfl, _, rfl, _, rfl, fun p0 np_ => ?_⟩
          have x_ := same_upd (o := .rng 0 (1 + r1)) np_
          have er : (upd HB p0 (.rng 0 (1 + r1))) p0 = some (.rng 0 (1 + r1)) := upd_same
          replace sA2 := sA2.trans x_
          replace et2 := x_ _ _ et2
          replace ed2 := x_ _ _ ed2
          generalize upd HB p0 (.rng 0 (1 + r1)) = Y31 at *
          clear x_ np_
          refine ⟨_, p0, _, _, rfl, rfl, er, ?_⟩
          clear er
          rw [decide_eq_true c1]
          refine ⟨_, rfl, iteT ?_⟩
          refine ⟨_, rfl, _, rfl, _, rfl, fun p1 np_ => ?_⟩
          have x_ := same_upd (o := .rng 0 (1 + r2)) np_
          have er : (upd Y31 p1 (.rng 0 (1 + r2))) p1 = some (.rng 0 (1 + r2)) := upd_same
          replace sA2 := sA2.trans x_
          replace et2 := x_ _ _ et2
          replace ed2 := x_ _ _ ed2
          generalize upd Y31 p1 (.rng 0 (1 + r2)) = Y32 at *
          clear x_ np_
          refine ⟨_, p1, _, _, rfl, rfl, er, ?_⟩
          clear er
          rw [decide_eq_true c2]
          refine ⟨_, rfl, iteT ?_⟩
          refine ⟨_, rfl, _, rfl, fun p2 np_ => ?_⟩
          have x_ := same_upd (o := .rng 0 4) np_
          have er : (upd Y32 p2 (.rng 0 4)) p2 = some (.rng 0 4) := upd_same
          replace sA2 := sA2.trans x_
          replace et2 := x_ _ _ et2
          replace ed2 := x_ _ _ ed2
          generalize upd Y32 p2 (.rng 0 4) = Y33 at *
          clear x_ np_
          refine ⟨_, p2, _, _, rfl, rfl, er, ?_⟩
          clear er
          rw [decide_eq_true c3]
          have eB : B0 = true := by
            rw [← hB0]
            simp only [decide_eq_true c1.1, decide_eq_true c1.2, decide_eq_true c2.1, decide_eq_true c2.2, decide_eq_true c3.1, decide_eq_true c3.2]
            simp
          refine ⟨ld, _, _, rfl, rfl, ed2, by rw [List.length_map]; exact small1000 (by omega), ?_⟩
          refine ⟨putS sA2 (List.mem_cons_of_mem _ (List.mem_singleton.mpr rfl)), bs ++ [true], ?_, ?_, by rw [List.length_append, lb]; rfl, _, _, _, _, _, _, _, rfl⟩
          · rw [upd_ne nld, ← eB]; exact et2
          · rw [upd_same, List.map_append]; rfl
        · refine ⟨_, rfl, .inl ⟨rfl, _, SqL.of ed2⟩, _, rfl, _, rfl, _, rfl, fun p0 np_ => ?_⟩
          have x_ := same_upd (o := .rng 0 (1 + r1)) np_
          have er : (upd HB p0 (.rng 0 (1 + r1))) p0 = some (.rng 0 (1 + r1)) := upd_same
          replace sA2 := sA2.trans x_
          replace et2 := x_ _ _ et2
          replace ed2 := x_ _ _ ed2
          generalize upd HB p0 (.rng 0 (1 + r1)) = Y21 at *
          clear x_ np_
          refine ⟨_, p0, _, _, rfl, rfl, er, ?_⟩
          clear er
          rw [decide_eq_true c1]
          refine ⟨_, rfl, iteT ?_⟩
          refine ⟨_, rfl, _, rfl, _, rfl, fun p1 np_ => ?_⟩
          have x_ := same_upd (o := .rng 0 (1 + r2)) np_
          have er : (upd Y21 p1 (.rng 0 (1 + r2))) p1 = some (.rng 0 (1 + r2)) := upd_same
          replace sA2 := sA2.trans x_
          replace et2 := x_ _ _ et2
          replace ed2 := x_ _ _ ed2
          generalize upd Y21 p1 (.rng 0 (1 + r2)) = Y22 at *
          clear x_ np_
          refine ⟨_, p1, _, _, rfl, rfl, er, ?_⟩
          clear er
          rw [decide_eq_true c2]
          refine ⟨_, rfl, iteT ?_⟩
          refine ⟨_, rfl, _, rfl, fun p2 np_ => ?_⟩
          have x_ := same_upd (o := .rng 0 4) np_
          have er : (upd Y22 p2 (.rng 0 4)) p2 = some (.rng 0 4) := upd_same
          replace sA2 := sA2.trans x_
          replace et2 := x_ _ _ et2
          replace ed2 := x_ _ _ ed2
          generalize upd Y22 p2 (.rng 0 4) = Y23 at *
          clear x_ np_
          refine ⟨_, p2, _, _, rfl, rfl, er, ?_⟩
          clear er
          rw [decide_eq_false c3]
          have eB : B0 = false := by
            rw [← hB0]
            have cc : (decide (0 ≤ t) && decide (t < 4)) = false := by
              by_cases h1 : 0 ≤ t
              · rw [decide_eq_false (fun h2 => c3 ⟨h1, h2⟩), Bool.and_false]
              · rw [decide_eq_false h1, Bool.false_and]
            rw [cc, decide_eq_true c1.1, decide_eq_true c1.2, decide_eq_true c2.1, decide_eq_true c2.2]
            simp
          refine ⟨ld, _, _, rfl, rfl, ed2, by rw [List.length_map]; exact small1000 (by omega), ?_⟩
          refine ⟨putS sA2 (List.mem_cons_of_mem _ (List.mem_singleton.mpr rfl)), bs ++ [false], ?_, ?_, by rw [List.length_append, lb]; rfl, _, _, _, _, _, _, _, rfl⟩
          · rw [upd_ne nld, ← eB]; exact et2
          · rw [upd_same, List.map_append]; rfl
      · refine ⟨_, rfl, .inl ⟨rfl, _, SqL.of ed2⟩, _, rfl, _, rfl, _, rfl, fun p0 np_ => ?_⟩
        have x_ := same_upd (o := .rng 0 (1 + r1)) np_
        have er : (upd HB p0 (.rng 0 (1 + r1))) p0 = some (.rng 0 (1 + r1)) := upd_same
        replace sA2 := sA2.trans x_
        replace et2 := x_ _ _ et2
        replace ed2 := x_ _ _ ed2
        generalize upd HB p0 (.rng 0 (1 + r1)) = Y11 at *
        clear x_ np_
        refine ⟨_, p0, _, _, rfl, rfl, er, ?_⟩
        clear er
        rw [decide_eq_true c1]
        refine ⟨_, rfl, iteT ?_⟩
        refine ⟨_, rfl, _, rfl, _, rfl, fun p1 np_ => ?_⟩
        have x_ := same_upd (o := .rng 0 (1 + r2)) np_
        have er : (upd Y11 p1 (.rng 0 (1 + r2))) p1 = some (.rng 0 (1 + r2)) := upd_same
        replace sA2 := sA2.trans x_
        replace et2 := x_ _ _ et2
        replace ed2 := x_ _ _ ed2
        generalize upd Y11 p1 (.rng 0 (1 + r2)) = Y12 at *
        clear x_ np_
        refine ⟨_, p1, _, _, rfl, rfl, er, ?_⟩
        clear er
        rw [decide_eq_false c2]
        refine ⟨_, rfl, iteF ?_⟩
        have eB : B0 = false := by
          rw [← hB0]
          have cc : (decide (0 ≤ y) && decide (y < 1 + r2)) = false := by
            by_cases h1 : 0 ≤ y
            · rw [decide_eq_false (fun h2 => c2 ⟨h1, h2⟩), Bool.and_false]
            · rw [decide_eq_false h1, Bool.false_and]
          rw [cc, decide_eq_true c1.1, decide_eq_true c1.2]
          simp
        refine ⟨ld, _, _, rfl, rfl, ed2, by rw [List.length_map]; exact small1000 (by omega), ?_⟩
        refine ⟨putS sA2 (List.mem_cons_of_mem _ (List.mem_singleton.mpr rfl)), bs ++ [false], ?_, ?_, by rw [List.length_append, lb]; rfl, _, _, _, _, _, _, _, rfl⟩
        · rw [upd_ne nld, ← eB]; exact et2
        · rw [upd_same, List.map_append]; rfl
    · refine ⟨_, rfl, .inl ⟨rfl, _, SqL.of ed2⟩, _, rfl, _, rfl, _, rfl, fun p0 np_ => ?_⟩
      have x_ := same_upd (o := .rng 0 (1 + r1)) np_
      have er : (upd HB p0 (.rng 0 (1 + r1))) p0 = some (.rng 0 (1 + r1)) := upd_same
      replace sA2 := sA2.trans x_
      replace et2 := x_ _ _ et2
      replace ed2 := x_ _ _ ed2
      generalize upd HB p0 (.rng 0 (1 + r1)) = Y01 at *
      clear x_ np_
      refine ⟨_, p0, _, _, rfl, rfl, er, ?_⟩
      clear er
      rw [decide_eq_false c1]
      refine ⟨_, rfl, iteF ?_⟩
      have eB : B0 = false := by
        rw [← hB0]
        have cc : (decide (0 ≤ x) && decide (x < 1 + r1)) = false := by
          by_cases h1 : 0 ≤ x
          · rw [decide_eq_false (fun h2 => c1 ⟨h1, h2⟩), Bool.and_false]
          · rw [decide_eq_false h1, Bool.false_and]
        rw [cc]
        simp
      refine ⟨ld, _, _, rfl, rfl, ed2, by rw [List.length_map]; exact small1000 (by omega), ?_⟩
      refine ⟨putS sA2 (List.mem_cons_of_mem _ (List.mem_singleton.mpr rfl)), bs ++ [false], ?_, ?_, by rw [List.length_append, lb]; rfl, _, _, _, _, _, _, _, rfl⟩
      · rw [upd_ne nld, ← eB]; exact et2
      · rw [upd_same, List.map_append]; rfl
  · rintro σ H3 ⟨sA, bs, et, ed, lb, o8, o9, o10, o11, o12, o13, o14, rfl⟩
    replace lb : bs.length = 7 := lb.trans lxs
    have s0 : Same H2 H3 := sH.trans sA
    clear sG sA sH els SP e_lt e_ld lxs
    clear nld
    refine ⟨_, rfl, by show 7 ≤ sizeLine; decide, fun kt np_ => ?_⟩
    have x_ := same_upd (o := .tup [.int 0, .int 1, .int 20, .int 21, .int (-1), .bl true, .non]) np_
    have e_kt : (upd H3 kt (.tup [.int 0, .int 1, .int 20, .int 21, .int (-1), .bl true, .non])) kt = some (.tup [.int 0, .int 1, .int 20, .int 21, .int (-1), .bl true, .non]) := upd_same
    replace s0 := s0.trans x_
    replace et := x_ _ _ et
    replace ed := x_ _ _ ed
    generalize upd H3 kt (.tup [.int 0, .int 1, .int 20, .int 21, .int (-1), .bl true, .non]) = Z1 at *
    clear x_ np_
    refine ⟨kt, rfl, ⟨_, SqT.of e_kt⟩, for_it (walk_tup (xs := [.int 0, .int 1, .int 20, .int 21, .int (-1), .bl true, .non])) (fun i σ H' => Same H2 H' ∧ H' kt = some (.tup [.int 0, .int 1, .int 20, .int 21, .int (-1), .bl true, .non]) ∧ ∃ (lt ld : Addr) (bs : List Bool), H' lt = some (.lst (bs.map V.bl)) ∧ H' ld = some (.lst (bs.map V.bl)) ∧ bs.length = 7 + 2 * i ∧ ∃ o7 o8 o9 o10 o11 o12 o13 o14, σ = [some (.ref a), some (.ref l), some (.int (1 + r1)), some (.int (1 + r2)), some (.ref lt), some (.ref ld), some (.int 1000000), o7, o8, o9, o10, o11, o12, o13, o14]) ⟨s0, e_kt, lt, ld, bs, et, ed, lb, _, _, _, _, _, _, _, _, rfl⟩ (fun i σ H' _ h => SqT.of h.2.1) ?_ ?_⟩
    · clear s0 e_kt et ed lb bs lt ld o8 o9 o10 o11 o12 o13 o14
      rintro i v σ _ HA hi ⟨sA, ek, lt, ld, bs, et, ed, lb, o7, o8, o9, o10, o11, o12, o13, o14, rfl⟩ ⟨rfl, ex⟩
      have hi7 : i < 7 := hi
      obtain ⟨d, b1, b2, dv, on, okd, hh1, hh2, fl, ein, enb⟩ : ∃ (d : PyData) (b1 b2 : Bool), (∀ H, Dp K H v d) ∧ tOn d = true ∧ OkT 3 9 d ∧ ((sizeB (.tuple [d, .int 1]) = (b1 && b2)) ∧ ((b1 && b2) = false ∨ ∃ i j, PyData.tuple [d, .int 1] = .tuple [.int i, .int j] ∧ spotB i j o3 = true)) ∧ ((sizeB (.tuple [.int 1, d]) = (b1 && b2)) ∧ ((b1 && b2) = false ∨ ∃ i j, PyData.tuple [.int 1, d] = .tuple [.int i, .int j] ∧ spotB i j o3 = true)) ∧ flatV v = true ∧ inV v [.int 1, .int 20] = b1 ∧ Fw.nb v true = b2 := by
        match i, ex with
        | 0, ex => cases (Option.some.inj ex); exact ⟨.int 0, false, true, fun _ => .int _, rfl, (okt_int (by decide) (by decide)), ⟨by decide +kernel, .inl rfl⟩, ⟨by decide +kernel, .inl rfl⟩, rfl, by decide +kernel, by decide +kernel⟩
        | 1, ex => cases (Option.some.inj ex); exact ⟨.int 1, true, true, fun _ => .int _, rfl, (okt_int (by decide) (by decide)), ⟨by decide +kernel, .inr ⟨_, _, rfl, by decide +kernel⟩⟩, ⟨by decide +kernel, .inr ⟨_, _, rfl, by decide +kernel⟩⟩, rfl, by decide +kernel, by decide +kernel⟩
        | 2, ex => cases (Option.some.inj ex); exact ⟨.int 20, true, true, fun _ => .int _, rfl, (okt_int (by decide) (by decide)), ⟨by decide +kernel, .inr ⟨_, _, rfl, by decide +kernel⟩⟩, ⟨by decide +kernel, .inr ⟨_, _, rfl, by decide +kernel⟩⟩, rfl, by decide +kernel, by decide +kernel⟩
        | 3, ex => cases (Option.some.inj ex); exact ⟨.int 21, false, true, fun _ => .int _, rfl, (okt_int (by decide) (by decide)), ⟨by decide +kernel, .inl rfl⟩, ⟨by decide +kernel, .inl rfl⟩, rfl, by decide +kernel, by decide +kernel⟩
        | 4, ex => cases (Option.some.inj ex); exact ⟨.int (-1), false, true, fun _ => .int _, rfl, (okt_int (by decide) (by decide)), ⟨by decide +kernel, .inl rfl⟩, ⟨by decide +kernel, .inl rfl⟩, rfl, by decide +kernel, by decide +kernel⟩
        | 5, ex => cases (Option.some.inj ex); exact ⟨.bool true, true, false, fun _ => .bl _, rfl, trivial, ⟨by decide +kernel, .inl rfl⟩, ⟨by decide +kernel, .inl rfl⟩, rfl, by decide +kernel, by decide +kernel⟩
        | 6, ex => cases (Option.some.inj ex); exact ⟨.none, false, true, fun _ => .non, rfl, trivial, ⟨by decide +kernel, .inl rfl⟩, ⟨by decide +kernel, .inl rfl⟩, rfl, by decide +kernel, by decide +kernel⟩
        | k + 7, ex => omega
      clear ex
      refine ⟨_, rfl, _, rfl, fun a1 na1 => ?_⟩
      have sa1 : Same (upd HA a1 (.dK [])) (upd HA a1 (.dK [])) := Same.refl _
      refine ⟨_, rfl, by show 2 ≤ sizeLine; decide, fun t3 np_ => ?_⟩
      have x_ := same_upd (o := .tup [v, .int 1]) np_
      have e_t3 : (upd (upd HA a1 (.dK [])) t3 (.tup [v, .int 1])) t3 = some (.tup [v, .int 1]) := upd_same
      replace sa1 := sa1.trans x_
      generalize upd (upd HA a1 (.dK [])) t3 (.tup [v, .int 1]) = V4 at *
      clear x_ np_
      have d_t3 : Dp K V4 (.ref t3) (.tuple [d, .int 1]) := .tup (SqT.of e_t3) (.cons (dv _) (.cons (.int _) .nil))
      clear e_t3
      refine ⟨sa1 _ _ upd_same, [(Sum.inr "sides", .ref t3)], rfl, by show 1 ≤ 15; decide, ?_⟩
      rw [show mergeK [] ([(Sum.inr "sides", .ref t3)] : List (L2.Key × V)) = ([(Sum.inr "sides", .ref t3)] : List (L2.Key × V)) from rfl]
      obtain ⟨sE_, e_a1, dE_, tE_⟩ := dEnd (K := K) (kvs := [(Sum.inr "sides", .ref t3)]) na1 sa1
      replace d_t3 := dE_ (by simp [tOn, tOns, on]) d_t3
      replace sA := sA.trans sE_
      replace ek := sE_ _ _ ek
      replace et := sE_ _ _ et
      replace ed := sE_ _ _ ed
      clear dE_ tE_ sa1 
      generalize upd V4 a1 (.dK [(Sum.inr "sides", .ref t3)]) = V5 at *
      clear sE_ na1
      try unfold tNil
      refine wSd hh1.1 hh1.2 (SqL.of (sA _ _ hl)) n0 e_a1 d_t3 (okt_all (by show 2 ≤ 11; decide) (okt_cons okd (okt_cons (okt_int (by decide) (by decide)) okt_nil))) fun HX2 s_ => ?_
      clear e_a1 d_t3
      replace sA := sA.trans s_
      replace ek := s_ _ _ ek
      replace et := s_ _ _ et
      replace ed := s_ _ _ ed
      clear s_
      refine ⟨_, rfl, fun a6 na6 => ?_⟩
      have sa6 : Same (upd HX2 a6 (.dK [])) (upd HX2 a6 (.dK [])) := Same.refl _
      refine ⟨_, rfl, by show 2 ≤ sizeLine; decide, fun t8 np_ => ?_⟩
      have x_ := same_upd (o := .tup [.int 1, v]) np_
      have e_t8 : (upd (upd HX2 a6 (.dK [])) t8 (.tup [.int 1, v])) t8 = some (.tup [.int 1, v]) := upd_same
      replace sa6 := sa6.trans x_
      generalize upd (upd HX2 a6 (.dK [])) t8 (.tup [.int 1, v]) = V9 at *
      clear x_ np_
      have d_t8 : Dp K V9 (.ref t8) (.tuple [.int 1, d]) := .tup (SqT.of e_t8) (.cons (.int _) (.cons (dv _) .nil))
      clear e_t8
      refine ⟨sa6 _ _ upd_same, [(Sum.inr "sides", .ref t8)], rfl, by show 1 ≤ 15; decide, ?_⟩
      rw [show mergeK [] ([(Sum.inr "sides", .ref t8)] : List (L2.Key × V)) = ([(Sum.inr "sides", .ref t8)] : List (L2.Key × V)) from rfl]
      obtain ⟨sE_, e_a6, dE_, tE_⟩ := dEnd (K := K) (kvs := [(Sum.inr "sides", .ref t8)]) na6 sa6
      replace d_t8 := dE_ (by simp [tOn, tOns, on]) d_t8
      replace sA := sA.trans sE_
      replace ek := sE_ _ _ ek
      replace et := sE_ _ _ et
      replace ed := sE_ _ _ ed
      clear dE_ tE_ sa6 
      generalize upd V9 a6 (.dK [(Sum.inr "sides", .ref t8)]) = V10 at *
      clear sE_ na6
      try unfold tNil
      refine wSd hh2.1 hh2.2 (SqL.of (sA _ _ hl)) n0 e_a6 d_t8 (okt_all (by show 2 ≤ 11; decide) (okt_cons (okt_int (by decide) (by decide)) (okt_cons okd okt_nil))) fun HX3 s_ => ?_
      clear e_a6 d_t8
      replace sA := sA.trans s_
      replace ek := s_ _ _ ek
      replace et := s_ _ _ et
      replace ed := s_ _ _ ed
      clear s_
      refine ⟨by show 2 ≤ sizeLine; decide, fun t11 np_ => ?_⟩
      have x_ := same_upd (o := .lst [.bl (b1 && b2), .bl (b1 && b2)]) np_
      have e_t11 : (upd HX3 t11 (.lst [.bl (b1 && b2), .bl (b1 && b2)])) t11 = some (.lst (([(b1 && b2), (b1 && b2)] : List Bool).map V.bl)) := upd_same
      replace sA := sA.trans x_
      replace ek := x_ _ _ ek
      replace et := x_ _ _ et
      replace ed := x_ _ _ ed
      generalize upd HX3 t11 (.lst [.bl (b1 && b2), .bl (b1 && b2)]) = V12 at *
      clear x_ np_
      refine catB et e_t11 (by simp only [List.length_append, List.length_cons, List.length_nil, List.length_replicate]; omega) fun qV13 V13 s_ en => ?_
      clear et e_t11
      replace sA := sA.trans s_
      replace ek := s_ _ _ ek
      replace ed := s_ _ _ ed
      clear s_
      have et := en
      clear en
      refine ⟨_, rfl, _, rfl, by show 2 ≤ sizeLine; decide, fun tt np_ => ?_⟩
      have x_ := same_upd (o := .tup [.int 1, .int 20]) np_
      have e_tt : (upd V13 tt (.tup [.int 1, .int 20])) tt = some (.tup [.int 1, .int 20]) := upd_same
      replace sA := sA.trans x_
      replace ek := x_ _ _ ek
      replace ed := x_ _ _ ed
      replace et := x_ _ _ et
      generalize upd V13 tt (.tup [.int 1, .int 20]) = V14 at *
      clear x_ np_
      refine ⟨tt, _, rfl, .inr (SqT.of e_tt), fl, rfl, ?_⟩
      clear e_tt
      rw [if_neg (by decide), ein]
      cases b1 with
      | true =>
        refine ⟨_, rfl, iteT ⟨_, rfl, _, rfl, fl, ?_⟩⟩
        rw [enb]
        refine ⟨by show 1 ≤ sizeLine; decide, fun t1 np_ => ?_⟩
        have x_ := same_upd (o := .lst [.bl b2]) np_
        have e_t1 : (upd V14 t1 (.lst [.bl b2])) t1 = some (.lst [.bl b2]) := upd_same
        replace sA := sA.trans x_
        replace ek := x_ _ _ ek
        replace ed := x_ _ _ ed
        replace et := x_ _ _ et
        generalize upd V14 t1 (.lst [.bl b2]) = Vt2 at *
        clear x_ np_
        refine ⟨t1, 2, _, rfl, rfl, e_t1, by decide, by decide, by show 2 ≤ sizeLine; decide, fun t3 np_ => ?_⟩
        rw [show (List.replicate (2 : Int).toNat [V.bl (b2)]).flatten = (List.replicate 2 (b2)).map V.bl from rfl]
        have x_ := same_upd (o := .lst ((List.replicate 2 (b2)).map V.bl)) np_
        have e_t3 : (upd Vt2 t3 (.lst ((List.replicate 2 (b2)).map V.bl))) t3 = some (.lst ((List.replicate 2 (b2)).map V.bl)) := upd_same
        replace sA := sA.trans x_
        replace ek := x_ _ _ ek
        replace ed := x_ _ _ ed
        replace et := x_ _ _ et
        replace e_t1 := x_ _ _ e_t1
        generalize upd Vt2 t3 (.lst ((List.replicate 2 (b2)).map V.bl)) = Vt4 at *
        clear x_ np_
        clear e_t1
        refine catB ed e_t3 (by simp only [List.length_append, List.length_cons, List.length_nil, List.length_replicate]; omega) fun qVt5 Vt5 s_ en => ?_
        clear ed e_t3
        replace sA := sA.trans s_
        replace ek := s_ _ _ ek
        replace et := s_ _ _ et
        clear s_
        have ed := en
        clear en
        refine ⟨sA, ek, _, _, _, et, ?_, ?_, _, _, _, _, _, _, _, _, rfl⟩
        · rw [show (true && b2) = b2 from rfl]; exact ed
        · simp only [List.length_append, List.length_cons, List.length_nil]; omega
      | false =>
        refine ⟨_, rfl, iteF ?_⟩
        refine ⟨by show 1 ≤ sizeLine; decide, fun t1 np_ => ?_⟩
        have x_ := same_upd (o := .lst [.bl false]) np_
        have e_t1 : (upd V14 t1 (.lst [.bl false])) t1 = some (.lst [.bl false]) := upd_same
        replace sA := sA.trans x_
        replace ek := x_ _ _ ek
        replace ed := x_ _ _ ed
        replace et := x_ _ _ et
        generalize upd V14 t1 (.lst [.bl false]) = Vf2 at *
        clear x_ np_
        refine ⟨t1, 2, _, rfl, rfl, e_t1, by decide, by decide, by show 2 ≤ sizeLine; decide, fun t3 np_ => ?_⟩
        rw [show (List.replicate (2 : Int).toNat [V.bl (false)]).flatten = (List.replicate 2 (false)).map V.bl from rfl]
        have x_ := same_upd (o := .lst ((List.replicate 2 (false)).map V.bl)) np_
        have e_t3 : (upd Vf2 t3 (.lst ((List.replicate 2 (false)).map V.bl))) t3 = some (.lst ((List.replicate 2 (false)).map V.bl)) := upd_same
        replace sA := sA.trans x_
        replace ek := x_ _ _ ek
        replace ed := x_ _ _ ed
        replace et := x_ _ _ et
        replace e_t1 := x_ _ _ e_t1
        generalize upd Vf2 t3 (.lst ((List.replicate 2 (false)).map V.bl)) = Vf4 at *
        clear x_ np_
        clear e_t1
        refine catB ed e_t3 (by simp only [List.length_append, List.length_cons, List.length_nil, List.length_replicate]; omega) fun qVf5 Vf5 s_ en => ?_
        clear ed e_t3
        replace sA := sA.trans s_
        replace ek := s_ _ _ ek
        replace et := s_ _ _ et
        clear s_
        have ed := en
        clear en
        refine ⟨sA, ek, _, _, _, et, ?_, ?_, _, _, _, _, _, _, _, _, rfl⟩
        · rw [show (false && b2) = false from rfl]; exact ed
        · simp only [List.length_append, List.length_cons, List.length_nil]; omega
    · rintro σ H4 ⟨s0, _, lt, ld, bs, et, ed, lb, o7, o8, o9, o10, o11, o12, o13, o14, rfl⟩
      replace lb : bs.length = 21 := lb
      refine ⟨_, rfl, _, rfl, _, _, rfl, rfl, _, rfl, _, rfl, _, rfl, _, rfl, _, _, rfl, rfl, by show 8 ≤ sizeLine; decide, fun kt np_ => ?_⟩
      have x_ := same_upd (o := .tup [.int 1000000, .int (1000000 + 1), .int (-1000000), .int (-1000000 - 1), .int 0, .bl true, .non, .str "1"]) np_
      have e_kt : (upd H4 kt (.tup [.int 1000000, .int (1000000 + 1), .int (-1000000), .int (-1000000 - 1), .int 0, .bl true, .non, .str "1"])) kt = some (.tup [.int 1000000, .int (1000000 + 1), .int (-1000000), .int (-1000000 - 1), .int 0, .bl true, .non, .str "1"]) := upd_same
      replace s0 := s0.trans x_
      replace et := x_ _ _ et
      replace ed := x_ _ _ ed
      generalize upd H4 kt (.tup [.int 1000000, .int (1000000 + 1), .int (-1000000), .int (-1000000 - 1), .int 0, .bl true, .non, .str "1"]) = A1 at *
      clear x_ np_
      refine ⟨kt, rfl, ⟨_, SqT.of e_kt⟩, for_it (walk_tup (xs := [.int 1000000, .int (1000000 + 1), .int (-1000000), .int (-1000000 - 1), .int 0, .bl true, .non, .str "1"])) (fun i σ H' => Same H2 H' ∧ H' kt = some (.tup [.int 1000000, .int (1000000 + 1), .int (-1000000), .int (-1000000 - 1), .int 0, .bl true, .non, .str "1"]) ∧ ∃ (lt ld : Addr) (bs : List Bool), H' lt = some (.lst (bs.map V.bl)) ∧ H' ld = some (.lst (bs.map V.bl)) ∧ bs.length = 21 + 4 * i ∧ ∃ o7 o8 o9 o10 o11 o12 o13 o14, σ = [some (.ref a), some (.ref l), some (.int (1 + r1)), some (.int (1 + r2)), some (.ref lt), some (.ref ld), some (.int 1000000), o7, o8, o9, o10, o11, o12, o13, o14]) ⟨s0, e_kt, lt, ld, bs, et, ed, lb, _, _, _, _, _, _, _, _, rfl⟩ (fun i σ H' _ h => SqT.of h.2.1) ?_ ?_⟩
      · clear s0 e_kt et ed lb bs lt ld o7 o8 o9 o10 o11 o12 o13 o14
        rintro i v σ _ HA hi ⟨sA, ek, lt, ld, bs, et, ed, lb, o7, o8, o9, o10, o11, o12, o13, o14, rfl⟩ ⟨rfl, ex⟩
        have hi7 : i < 8 := hi
        obtain ⟨d, b1, b2, dv, on, okd, hv, fl, ein, enb⟩ : ∃ (d : PyData) (b1 b2 : Bool), (∀ H, Dp K H v d) ∧ tOn d = true ∧ (∀ n, OkT 3 (n + 1) d) ∧ isVal d = (b1 && b2) ∧ flatV v = true ∧ inV v [.int 1000000, .int (-1000000), .int 0] = b1 ∧ Fw.nb v true = b2 := by
          match i, ex with
          | 0, ex => cases (Option.some.inj ex); exact ⟨.int 1000000, true, true, fun _ => .int _, rfl, (fun n => (okt_int (by decide) (by decide))), by decide +kernel, rfl, by decide +kernel, by decide +kernel⟩
          | 1, ex => cases (Option.some.inj ex); exact ⟨.int (1000000 + 1), false, true, fun _ => .int _, rfl, (fun n => (okt_int (by decide) (by decide))), by decide +kernel, rfl, by decide +kernel, by decide +kernel⟩
          | 2, ex => cases (Option.some.inj ex); exact ⟨.int (-1000000), true, true, fun _ => .int _, rfl, (fun n => (okt_int (by decide) (by decide))), by decide +kernel, rfl, by decide +kernel, by decide +kernel⟩
          | 3, ex => cases (Option.some.inj ex); exact ⟨.int (-1000000 - 1), false, true, fun _ => .int _, rfl, (fun n => (okt_int (by decide) (by decide))), by decide +kernel, rfl, by decide +kernel, by decide +kernel⟩
          | 4, ex => cases (Option.some.inj ex); exact ⟨.int 0, true, true, fun _ => .int _, rfl, (fun n => (okt_int (by decide) (by decide))), by decide +kernel, rfl, by decide +kernel, by decide +kernel⟩
          | 5, ex => cases (Option.some.inj ex); exact ⟨.bool true, false, false, fun _ => .bl _, rfl, (fun n => trivial), by decide +kernel, rfl, by decide +kernel, by decide +kernel⟩
          | 6, ex => cases (Option.some.inj ex); exact ⟨.none, false, true, fun _ => .non, rfl, (fun n => trivial), by decide +kernel, rfl, by decide +kernel, by decide +kernel⟩
          | 7, ex => cases (Option.some.inj ex); exact ⟨.str "1", false, true, fun _ => .str _, rfl, (fun n => (okt_wd (by decide +kernel))), by decide +kernel, rfl, by decide +kernel, by decide +kernel⟩
          | k + 8, ex => omega
        clear ex
        refine ⟨_, rfl, _, rfl, _, rfl, _, rfl, by show 3 ≤ sizeLine; decide, fun tt np_ => ?_⟩
        have x_ := same_upd (o := .tup [.int 1000000, .int (-1000000), .int 0]) np_
        have e_tt : (upd HA tt (.tup [.int 1000000, .int (-1000000), .int 0])) tt = some (.tup [.int 1000000, .int (-1000000), .int 0]) := upd_same
        replace sA := sA.trans x_
        replace ek := x_ _ _ ek
        replace et := x_ _ _ et
        replace ed := x_ _ _ ed
        generalize upd HA tt (.tup [.int 1000000, .int (-1000000), .int 0]) = B1 at *
        clear x_ np_
        refine ⟨tt, _, rfl, .inr (SqT.of e_tt), fl, rfl, ?_⟩
        clear e_tt
        rw [if_neg (by decide), ein]
        cases b1 with
        | true =>
          refine ⟨_, rfl, iteT ⟨_, rfl, _, rfl, fl, ?_⟩⟩
          rw [enb]
          replace hv : isVal d = b2 := hv
          refine ⟨_, rfl, _, rfl, fun a1 na1 => ?_⟩
          have sa1 : Same (upd B1 a1 (.dK [])) (upd B1 a1 (.dK [])) := Same.refl _
          refine ⟨_, rfl, l, _, 1, _, rfl, rfl, SqL.of ((sA.trans ((same_upd na1).trans sa1)) _ _ hl), atI_nat (j := 1) rfl, _, rfl, by show 2 ≤ sizeLine; decide, fun t3 np_ => ?_⟩
          have x_ := same_upd (o := .tup [.str x1, v]) np_
          have e_t3 : (upd (upd B1 a1 (.dK [])) t3 (.tup [.str x1, v])) t3 = some (.tup [.str x1, v]) := upd_same
          replace sa1 := sa1.trans x_
          generalize upd (upd B1 a1 (.dK [])) t3 (.tup [.str x1, v]) = Bt4 at *
          clear x_ np_
          have d_t3 : Dp K Bt4 (.ref t3) (.tuple [.str x1, d]) := .tup (SqT.of e_t3) (.cons (.str _) (.cons (dv _) .nil))
          clear e_t3
          refine ⟨by show 1 ≤ sizeLine; decide, fun t5 np_ => ?_⟩
          have x_ := same_upd (o := .tup [.ref t3]) np_
          have e_t5 : (upd Bt4 t5 (.tup [.ref t3])) t5 = some (.tup [.ref t3]) := upd_same
          replace d_t3 := dp_same x_ _ _ d_t3
          replace sa1 := sa1.trans x_
          generalize upd Bt4 t5 (.tup [.ref t3]) = Bt6 at *
          clear x_ np_
          have d_t5 : Dp K Bt6 (.ref t5) (.tuple [.tuple [.str x1, d]]) := .tup (SqT.of e_t5) (.cons d_t3 .nil)
          clear e_t5
          clear d_t3
          refine ⟨sa1 _ _ upd_same, [(Sum.inr "names", .ref t5)], rfl, by show 1 ≤ 15; decide, ?_⟩
          rw [show mergeK [] ([(Sum.inr "names", .ref t5)] : List (L2.Key × V)) = ([(Sum.inr "names", .ref t5)] : List (L2.Key × V)) from rfl]
          obtain ⟨sE_, e_a1, dE_, tE_⟩ := dEnd (K := K) (kvs := [(Sum.inr "names", .ref t5)]) na1 sa1
          replace d_t5 := dE_ (by simp [tOn, tOns, on]) d_t5
          replace sA := sA.trans sE_
          replace ek := sE_ _ _ ek
          replace et := sE_ _ _ et
          replace ed := sE_ _ _ ed
          clear dE_ tE_ sa1 
          generalize upd Bt6 a1 (.dK [(Sum.inr "names", .ref t5)]) = Bt7 at *
          clear sE_ na1
          try unfold tNil
          refine w3 (d := prs [(x1, d)]) (SqL.of (sA _ _ hl)) n0 e_a1 d_t5 (okt_all (by show 1 ≤ 11; decide) (okt_cons (okt_all (by show 2 ≤ 11; decide) (okt_cons (okt_str n1) (okt_cons (okd _) okt_nil))) okt_nil)) fun HX4 s_ => ?_
          rw [nu_names n1]
          rw [hv]
          clear e_a1 d_t5
          replace sA := sA.trans s_
          replace ek := s_ _ _ ek
          replace et := s_ _ _ et
          replace ed := s_ _ _ ed
          clear s_
          refine ⟨_, rfl, fun a8 na8 => ?_⟩
          have sa8 : Same (upd HX4 a8 (.dK [])) (upd HX4 a8 (.dK [])) := Same.refl _
          refine ⟨_, rfl, l, _, 1, _, rfl, rfl, SqL.of ((sA.trans ((same_upd na8).trans sa8)) _ _ hl), atI_nat (j := 1) rfl, _, rfl, by show 2 ≤ sizeLine; decide, fun t10 np_ => ?_⟩
          have x_ := same_upd (o := .tup [.int 1, v]) np_
          have e_t10 : (upd (upd HX4 a8 (.dK [])) t10 (.tup [.int 1, v])) t10 = some (.tup [.int 1, v]) := upd_same
          replace sa8 := sa8.trans x_
          generalize upd (upd HX4 a8 (.dK [])) t10 (.tup [.int 1, v]) = Bt11 at *
          clear x_ np_
          have d_t10 : Dp K Bt11 (.ref t10) (.tuple [.int 1, d]) := .tup (SqT.of e_t10) (.cons (.int _) (.cons (dv _) .nil))
          clear e_t10
          refine ⟨by show 2 ≤ sizeLine; decide, fun t12 np_ => ?_⟩
          have x_ := same_upd (o := .tup [.str x1, .ref t10]) np_
          have e_t12 : (upd Bt11 t12 (.tup [.str x1, .ref t10])) t12 = some (.tup [.str x1, .ref t10]) := upd_same
          replace d_t10 := dp_same x_ _ _ d_t10
          replace sa8 := sa8.trans x_
          generalize upd Bt11 t12 (.tup [.str x1, .ref t10]) = Bt13 at *
          clear x_ np_
          have d_t12 : Dp K Bt13 (.ref t12) (.tuple [.str x1, .tuple [.int 1, d]]) := .tup (SqT.of e_t12) (.cons (.str _) (.cons d_t10 .nil))
          clear e_t12
          clear d_t10
          refine ⟨by show 1 ≤ sizeLine; decide, fun t14 np_ => ?_⟩
          have x_ := same_upd (o := .tup [.ref t12]) np_
          have e_t14 : (upd Bt13 t14 (.tup [.ref t12])) t14 = some (.tup [.ref t12]) := upd_same
          replace d_t12 := dp_same x_ _ _ d_t12
          replace sa8 := sa8.trans x_
          generalize upd Bt13 t14 (.tup [.ref t12]) = Bt15 at *
          clear x_ np_
          have d_t14 : Dp K Bt15 (.ref t14) (.tuple [.tuple [.str x1, .tuple [.int 1, d]]]) := .tup (SqT.of e_t14) (.cons d_t12 .nil)
          clear e_t14
          clear d_t12
          refine ⟨sa8 _ _ upd_same, [(Sum.inr "all", .ref t14)], rfl, by show 1 ≤ 15; decide, ?_⟩
          rw [show mergeK [] ([(Sum.inr "all", .ref t14)] : List (L2.Key × V)) = ([(Sum.inr "all", .ref t14)] : List (L2.Key × V)) from rfl]
          obtain ⟨sE_, e_a8, dE_, tE_⟩ := dEnd (K := K) (kvs := [(Sum.inr "all", .ref t14)]) na8 sa8
          replace d_t14 := dE_ (by simp [tOn, tOns, on]) d_t14
          replace sA := sA.trans sE_
          replace ek := sE_ _ _ ek
          replace et := sE_ _ _ et
          replace ed := sE_ _ _ ed
          clear dE_ tE_ sa8 
          generalize upd Bt15 a8 (.dK [(Sum.inr "all", .ref t14)]) = Bt16 at *
          clear sE_ na8
          try unfold tNil
          refine w9 (d := prs [(x1, .tuple [.int 1, d])]) (SqL.of (sA _ _ hl)) n0 e_a8 d_t14 (okt_all (by show 1 ≤ 11; decide) (okt_cons (okt_all (by show 2 ≤ 11; decide) (okt_cons (okt_str n1) (okt_cons (okt_all (by show 2 ≤ 11; decide) (okt_cons (okt_int (by decide) (by decide)) (okt_cons (okd _) okt_nil))) okt_nil))) okt_nil)) fun HX5 s_ => ?_
          rw [nu_l2 n1]
          rw [hv]
          clear e_a8 d_t14
          replace sA := sA.trans s_
          replace ek := s_ _ _ ek
          replace et := s_ _ _ et
          replace ed := s_ _ _ ed
          clear s_
          refine ⟨by show 2 ≤ sizeLine; decide, fun t17 np_ => ?_⟩
          have x_ := same_upd (o := .lst [.bl b2, .bl b2]) np_
          have e_t17 : (upd HX5 t17 (.lst [.bl b2, .bl b2])) t17 = some (.lst (([b2, b2] : List Bool).map V.bl)) := upd_same
          replace sA := sA.trans x_
          replace ek := x_ _ _ ek
          replace et := x_ _ _ et
          replace ed := x_ _ _ ed
          generalize upd HX5 t17 (.lst [.bl b2, .bl b2]) = Bt18 at *
          clear x_ np_
          refine catB et e_t17 (by simp only [List.length_append, List.length_cons, List.length_nil, List.length_replicate]; omega) fun qBt19 Bt19 s_ en => ?_
          clear et e_t17
          replace sA := sA.trans s_
          replace ek := s_ _ _ ek
          replace ed := s_ _ _ ed
          clear s_
          have et := en
          clear en
          refine ⟨_, rfl, _, rfl, fun a20 na20 => ?_⟩
          have sa20 : Same (upd Bt19 a20 (.dK [])) (upd Bt19 a20 (.dK [])) := Same.refl _
          refine ⟨_, rfl, l, _, 1, _, rfl, rfl, SqL.of ((sA.trans ((same_upd na20).trans sa20)) _ _ hl), atI_nat (j := 1) rfl, _, rfl, by show 2 ≤ sizeLine; decide, fun t22 np_ => ?_⟩
          have x_ := same_upd (o := .tup [.str x1, v]) np_
          have e_t22 : (upd (upd Bt19 a20 (.dK [])) t22 (.tup [.str x1, v])) t22 = some (.tup [.str x1, v]) := upd_same
          replace sa20 := sa20.trans x_
          generalize upd (upd Bt19 a20 (.dK [])) t22 (.tup [.str x1, v]) = Bt23 at *
          clear x_ np_
          have d_t22 : Dp K Bt23 (.ref t22) (.tuple [.str x1, d]) := .tup (SqT.of e_t22) (.cons (.str _) (.cons (dv _) .nil))
          clear e_t22
          refine ⟨by show 1 ≤ sizeLine; decide, fun t24 np_ => ?_⟩
          have x_ := same_upd (o := .tup [.ref t22]) np_
          have e_t24 : (upd Bt23 t24 (.tup [.ref t22])) t24 = some (.tup [.ref t22]) := upd_same
          replace d_t22 := dp_same x_ _ _ d_t22
          replace sa20 := sa20.trans x_
          generalize upd Bt23 t24 (.tup [.ref t22]) = Bt25 at *
          clear x_ np_
          have d_t24 : Dp K Bt25 (.ref t24) (.tuple [.tuple [.str x1, d]]) := .tup (SqT.of e_t24) (.cons d_t22 .nil)
          clear e_t24
          clear d_t22
          refine ⟨sa20 _ _ upd_same, [(Sum.inr "shared", .ref t24)], rfl, by show 1 ≤ 15; decide, ?_⟩
          rw [show mergeK [] ([(Sum.inr "shared", .ref t24)] : List (L2.Key × V)) = ([(Sum.inr "shared", .ref t24)] : List (L2.Key × V)) from rfl]
          obtain ⟨sE_, e_a20, dE_, tE_⟩ := dEnd (K := K) (kvs := [(Sum.inr "shared", .ref t24)]) na20 sa20
          replace d_t24 := dE_ (by simp [tOn, tOns, on]) d_t24
          replace sA := sA.trans sE_
          replace ek := sE_ _ _ ek
          replace ed := sE_ _ _ ed
          replace et := sE_ _ _ et
          clear dE_ tE_ sa20 
          generalize upd Bt25 a20 (.dK [(Sum.inr "shared", .ref t24)]) = Bt26 at *
          clear sE_ na20
          try unfold tNil
          refine w8 (d := prs [(x1, d)]) (SqL.of (sA _ _ hl)) n0 e_a20 d_t24 (okt_all (by show 1 ≤ 11; decide) (okt_cons (okt_all (by show 2 ≤ 11; decide) (okt_cons (okt_str n1) (okt_cons (okd _) okt_nil))) okt_nil)) fun HX6 s_ => ?_
          rw [nu_names n1]
          rw [hv]
          clear e_a20 d_t24
          replace sA := sA.trans s_
          replace ek := s_ _ _ ek
          replace ed := s_ _ _ ed
          replace et := s_ _ _ et
          clear s_
          refine ⟨_, rfl, fun a27 na27 => ?_⟩
          have sa27 : Same (upd HX6 a27 (.dK [])) (upd HX6 a27 (.dK [])) := Same.refl _
          refine ⟨_, rfl, l, _, 1, _, rfl, rfl, SqL.of ((sA.trans ((same_upd na27).trans sa27)) _ _ hl), atI_nat (j := 1) rfl, _, rfl, by show 1 ≤ sizeLine; decide, fun t29 np_ => ?_⟩
          have x_ := same_upd (o := .tup [v]) np_
          have e_t29 : (upd (upd HX6 a27 (.dK [])) t29 (.tup [v])) t29 = some (.tup [v]) := upd_same
          replace sa27 := sa27.trans x_
          generalize upd (upd HX6 a27 (.dK [])) t29 (.tup [v]) = Bt30 at *
          clear x_ np_
          have d_t29 : Dp K Bt30 (.ref t29) (.tuple [d]) := .tup (SqT.of e_t29) (.cons (dv _) .nil)
          clear e_t29
          refine ⟨by show 2 ≤ sizeLine; decide, fun t31 np_ => ?_⟩
          have x_ := same_upd (o := .tup [.str x1, .ref t29]) np_
          have e_t31 : (upd Bt30 t31 (.tup [.str x1, .ref t29])) t31 = some (.tup [.str x1, .ref t29]) := upd_same
          replace d_t29 := dp_same x_ _ _ d_t29
          replace sa27 := sa27.trans x_
          generalize upd Bt30 t31 (.tup [.str x1, .ref t29]) = Bt32 at *
          clear x_ np_
          have d_t31 : Dp K Bt32 (.ref t31) (.tuple [.str x1, .tuple [d]]) := .tup (SqT.of e_t31) (.cons (.str _) (.cons d_t29 .nil))
          clear e_t31
          clear d_t29
          refine ⟨by show 1 ≤ sizeLine; decide, fun t33 np_ => ?_⟩
          have x_ := same_upd (o := .tup [.ref t31]) np_
          have e_t33 : (upd Bt32 t33 (.tup [.ref t31])) t33 = some (.tup [.ref t31]) := upd_same
          replace d_t31 := dp_same x_ _ _ d_t31
          replace sa27 := sa27.trans x_
          generalize upd Bt32 t33 (.tup [.ref t31]) = Bt34 at *
          clear x_ np_
          have d_t33 : Dp K Bt34 (.ref t33) (.tuple [.tuple [.str x1, .tuple [d]]]) := .tup (SqT.of e_t33) (.cons d_t31 .nil)
          clear e_t33
          clear d_t31
          refine ⟨sa27 _ _ upd_same, [(Sum.inr "lists", .ref t33)], rfl, by show 1 ≤ 15; decide, ?_⟩
          rw [show mergeK [] ([(Sum.inr "lists", .ref t33)] : List (L2.Key × V)) = ([(Sum.inr "lists", .ref t33)] : List (L2.Key × V)) from rfl]
          obtain ⟨sE_, e_a27, dE_, tE_⟩ := dEnd (K := K) (kvs := [(Sum.inr "lists", .ref t33)]) na27 sa27
          replace d_t33 := dE_ (by simp [tOn, tOns, on]) d_t33
          replace sA := sA.trans sE_
          replace ek := sE_ _ _ ek
          replace ed := sE_ _ _ ed
          replace et := sE_ _ _ et
          clear dE_ tE_ sa27 
          generalize upd Bt34 a27 (.dK [(Sum.inr "lists", .ref t33)]) = Bt35 at *
          clear sE_ na27
          try unfold tNil
          refine w4 (d := prs [(x1, .tuple [d])]) (SqL.of (sA _ _ hl)) n0 e_a27 d_t33 (okt_all (by show 1 ≤ 11; decide) (okt_cons (okt_all (by show 2 ≤ 11; decide) (okt_cons (okt_str n1) (okt_cons (okt_all (by show 1 ≤ 11; decide) (okt_cons (okd _) okt_nil)) okt_nil))) okt_nil)) fun HX7 s_ => ?_
          rw [nu_l1 n1]
          rw [hv]
          clear e_a27 d_t33
          replace sA := sA.trans s_
          replace ek := s_ _ _ ek
          replace ed := s_ _ _ ed
          replace et := s_ _ _ et
          clear s_
          refine ⟨by show 2 ≤ sizeLine; decide, fun t36 np_ => ?_⟩
          have x_ := same_upd (o := .lst [.bl b2, .bl b2]) np_
          have e_t36 : (upd HX7 t36 (.lst [.bl b2, .bl b2])) t36 = some (.lst (([b2, b2] : List Bool).map V.bl)) := upd_same
          replace sA := sA.trans x_
          replace ek := x_ _ _ ek
          replace ed := x_ _ _ ed
          replace et := x_ _ _ et
          generalize upd HX7 t36 (.lst [.bl b2, .bl b2]) = Bt37 at *
          clear x_ np_
          refine catB et e_t36 (by simp only [List.length_append, List.length_cons, List.length_nil, List.length_replicate]; omega) fun qBt38 Bt38 s_ en => ?_
          clear et e_t36
          replace sA := sA.trans s_
          replace ek := s_ _ _ ek
          replace ed := s_ _ _ ed
          clear s_
          have et := en
          clear en
          refine ⟨_, rfl, _, rfl, by show 1 ≤ sizeLine; decide, fun t39 np_ => ?_⟩
          have x_ := same_upd (o := .lst [.bl b2]) np_
          have e_t39 : (upd Bt38 t39 (.lst [.bl b2])) t39 = some (.lst [.bl b2]) := upd_same
          replace sA := sA.trans x_
          replace ek := x_ _ _ ek
          replace ed := x_ _ _ ed
          replace et := x_ _ _ et
          generalize upd Bt38 t39 (.lst [.bl b2]) = Bt40 at *
          clear x_ np_
          refine ⟨t39, 4, _, rfl, rfl, e_t39, by decide, by decide, by show 4 ≤ sizeLine; decide, fun t41 np_ => ?_⟩
          rw [show (List.replicate (4 : Int).toNat [V.bl (b2)]).flatten = (List.replicate 4 (b2)).map V.bl from rfl]
          have x_ := same_upd (o := .lst ((List.replicate 4 (b2)).map V.bl)) np_
          have e_t41 : (upd Bt40 t41 (.lst ((List.replicate 4 (b2)).map V.bl))) t41 = some (.lst ((List.replicate 4 (b2)).map V.bl)) := upd_same
          replace sA := sA.trans x_
          replace ek := x_ _ _ ek
          replace ed := x_ _ _ ed
          replace et := x_ _ _ et
          replace e_t39 := x_ _ _ e_t39
          generalize upd Bt40 t41 (.lst ((List.replicate 4 (b2)).map V.bl)) = Bt42 at *
          clear x_ np_
          clear e_t39
          refine catB ed e_t41 (by simp only [List.length_append, List.length_cons, List.length_nil, List.length_replicate]; omega) fun qBt43 Bt43 s_ en => ?_
          clear ed e_t41
          replace sA := sA.trans s_
          replace ek := s_ _ _ ek
          replace et := s_ _ _ et
          clear s_
          have ed := en
          clear en
          refine ⟨sA, ek, _, _, _, et, ?_, ?_, _, _, _, _, _, _, _, _, rfl⟩
          · rw [List.append_assoc bs]; exact ed
          · simp only [List.length_append, List.length_cons, List.length_nil]; omega
        | false =>
          refine ⟨_, rfl, iteF ?_⟩
          replace hv : isVal d = false := hv
          refine ⟨_, rfl, _, rfl, fun a1 na1 => ?_⟩
          have sa1 : Same (upd B1 a1 (.dK [])) (upd B1 a1 (.dK [])) := Same.refl _
          refine ⟨_, rfl, l, _, 1, _, rfl, rfl, SqL.of ((sA.trans ((same_upd na1).trans sa1)) _ _ hl), atI_nat (j := 1) rfl, _, rfl, by show 2 ≤ sizeLine; decide, fun t3 np_ => ?_⟩
          have x_ := same_upd (o := .tup [.str x1, v]) np_
          have e_t3 : (upd (upd B1 a1 (.dK [])) t3 (.tup [.str x1, v])) t3 = some (.tup [.str x1, v]) := upd_same
          replace sa1 := sa1.trans x_
          generalize upd (upd B1 a1 (.dK [])) t3 (.tup [.str x1, v]) = Bf4 at *
          clear x_ np_
          have d_t3 : Dp K Bf4 (.ref t3) (.tuple [.str x1, d]) := .tup (SqT.of e_t3) (.cons (.str _) (.cons (dv _) .nil))
          clear e_t3
          refine ⟨by show 1 ≤ sizeLine; decide, fun t5 np_ => ?_⟩
          have x_ := same_upd (o := .tup [.ref t3]) np_
          have e_t5 : (upd Bf4 t5 (.tup [.ref t3])) t5 = some (.tup [.ref t3]) := upd_same
          replace d_t3 := dp_same x_ _ _ d_t3
          replace sa1 := sa1.trans x_
          generalize upd Bf4 t5 (.tup [.ref t3]) = Bf6 at *
          clear x_ np_
          have d_t5 : Dp K Bf6 (.ref t5) (.tuple [.tuple [.str x1, d]]) := .tup (SqT.of e_t5) (.cons d_t3 .nil)
          clear e_t5
          clear d_t3
          refine ⟨sa1 _ _ upd_same, [(Sum.inr "names", .ref t5)], rfl, by show 1 ≤ 15; decide, ?_⟩
          rw [show mergeK [] ([(Sum.inr "names", .ref t5)] : List (L2.Key × V)) = ([(Sum.inr "names", .ref t5)] : List (L2.Key × V)) from rfl]
          obtain ⟨sE_, e_a1, dE_, tE_⟩ := dEnd (K := K) (kvs := [(Sum.inr "names", .ref t5)]) na1 sa1
          replace d_t5 := dE_ (by simp [tOn, tOns, on]) d_t5
          replace sA := sA.trans sE_
          replace ek := sE_ _ _ ek
          replace et := sE_ _ _ et
          replace ed := sE_ _ _ ed
          clear dE_ tE_ sa1 
          generalize upd Bf6 a1 (.dK [(Sum.inr "names", .ref t5)]) = Bf7 at *
          clear sE_ na1
          try unfold tNil
          refine w3 (d := prs [(x1, d)]) (SqL.of (sA _ _ hl)) n0 e_a1 d_t5 (okt_all (by show 1 ≤ 11; decide) (okt_cons (okt_all (by show 2 ≤ 11; decide) (okt_cons (okt_str n1) (okt_cons (okd _) okt_nil))) okt_nil)) fun HX8 s_ => ?_
          rw [nu_names n1]
          rw [hv]
          clear e_a1 d_t5
          replace sA := sA.trans s_
          replace ek := s_ _ _ ek
          replace et := s_ _ _ et
          replace ed := s_ _ _ ed
          clear s_
          refine ⟨_, rfl, fun a8 na8 => ?_⟩
          have sa8 : Same (upd HX8 a8 (.dK [])) (upd HX8 a8 (.dK [])) := Same.refl _
          refine ⟨_, rfl, l, _, 1, _, rfl, rfl, SqL.of ((sA.trans ((same_upd na8).trans sa8)) _ _ hl), atI_nat (j := 1) rfl, _, rfl, by show 2 ≤ sizeLine; decide, fun t10 np_ => ?_⟩
          have x_ := same_upd (o := .tup [.int 1, v]) np_
          have e_t10 : (upd (upd HX8 a8 (.dK [])) t10 (.tup [.int 1, v])) t10 = some (.tup [.int 1, v]) := upd_same
          replace sa8 := sa8.trans x_
          generalize upd (upd HX8 a8 (.dK [])) t10 (.tup [.int 1, v]) = Bf11 at *
          clear x_ np_
          have d_t10 : Dp K Bf11 (.ref t10) (.tuple [.int 1, d]) := .tup (SqT.of e_t10) (.cons (.int _) (.cons (dv _) .nil))
          clear e_t10
          refine ⟨by show 2 ≤ sizeLine; decide, fun t12 np_ => ?_⟩
          have x_ := same_upd (o := .tup [.str x1, .ref t10]) np_
          have e_t12 : (upd Bf11 t12 (.tup [.str x1, .ref t10])) t12 = some (.tup [.str x1, .ref t10]) := upd_same
          replace d_t10 := dp_same x_ _ _ d_t10
          replace sa8 := sa8.trans x_
          generalize upd Bf11 t12 (.tup [.str x1, .ref t10]) = Bf13 at *
          clear x_ np_
          have d_t12 : Dp K Bf13 (.ref t12) (.tuple [.str x1, .tuple [.int 1, d]]) := .tup (SqT.of e_t12) (.cons (.str _) (.cons d_t10 .nil))
          clear e_t12
          clear d_t10
          refine ⟨by show 1 ≤ sizeLine; decide, fun t14 np_ => ?_⟩
          have x_ := same_upd (o := .tup [.ref t12]) np_
          have e_t14 : (upd Bf13 t14 (.tup [.ref t12])) t14 = some (.tup [.ref t12]) := upd_same
          replace d_t12 := dp_same x_ _ _ d_t12
          replace sa8 := sa8.trans x_
          generalize upd Bf13 t14 (.tup [.ref t12]) = Bf15 at *
          clear x_ np_
          have d_t14 : Dp K Bf15 (.ref t14) (.tuple [.tuple [.str x1, .tuple [.int 1, d]]]) := .tup (SqT.of e_t14) (.cons d_t12 .nil)
          clear e_t14
          clear d_t12
          refine ⟨sa8 _ _ upd_same, [(Sum.inr "all", .ref t14)], rfl, by show 1 ≤ 15; decide, ?_⟩
          rw [show mergeK [] ([(Sum.inr "all", .ref t14)] : List (L2.Key × V)) = ([(Sum.inr "all", .ref t14)] : List (L2.Key × V)) from rfl]
          obtain ⟨sE_, e_a8, dE_, tE_⟩ := dEnd (K := K) (kvs := [(Sum.inr "all", .ref t14)]) na8 sa8
          replace d_t14 := dE_ (by simp [tOn, tOns, on]) d_t14
          replace sA := sA.trans sE_
          replace ek := sE_ _ _ ek
          replace et := sE_ _ _ et
          replace ed := sE_ _ _ ed
          clear dE_ tE_ sa8 
          generalize upd Bf15 a8 (.dK [(Sum.inr "all", .ref t14)]) = Bf16 at *
          clear sE_ na8
          try unfold tNil
          refine w9 (d := prs [(x1, .tuple [.int 1, d])]) (SqL.of (sA _ _ hl)) n0 e_a8 d_t14 (okt_all (by show 1 ≤ 11; decide) (okt_cons (okt_all (by show 2 ≤ 11; decide) (okt_cons (okt_str n1) (okt_cons (okt_all (by show 2 ≤ 11; decide) (okt_cons (okt_int (by decide) (by decide)) (okt_cons (okd _) okt_nil))) okt_nil))) okt_nil)) fun HX9 s_ => ?_
          rw [nu_l2 n1]
          rw [hv]
          clear e_a8 d_t14
          replace sA := sA.trans s_
          replace ek := s_ _ _ ek
          replace et := s_ _ _ et
          replace ed := s_ _ _ ed
          clear s_
          refine ⟨by show 2 ≤ sizeLine; decide, fun t17 np_ => ?_⟩
          have x_ := same_upd (o := .lst [.bl false, .bl false]) np_
          have e_t17 : (upd HX9 t17 (.lst [.bl false, .bl false])) t17 = some (.lst (([false, false] : List Bool).map V.bl)) := upd_same
          replace sA := sA.trans x_
          replace ek := x_ _ _ ek
          replace et := x_ _ _ et
          replace ed := x_ _ _ ed
          generalize upd HX9 t17 (.lst [.bl false, .bl false]) = Bf18 at *
          clear x_ np_
          refine catB et e_t17 (by simp only [List.length_append, List.length_cons, List.length_nil, List.length_replicate]; omega) fun qBf19 Bf19 s_ en => ?_
          clear et e_t17
          replace sA := sA.trans s_
          replace ek := s_ _ _ ek
          replace ed := s_ _ _ ed
          clear s_
          have et := en
          clear en
          refine ⟨_, rfl, _, rfl, fun a20 na20 => ?_⟩
          have sa20 : Same (upd Bf19 a20 (.dK [])) (upd Bf19 a20 (.dK [])) := Same.refl _
          refine ⟨_, rfl, l, _, 1, _, rfl, rfl, SqL.of ((sA.trans ((same_upd na20).trans sa20)) _ _ hl), atI_nat (j := 1) rfl, _, rfl, by show 2 ≤ sizeLine; decide, fun t22 np_ => ?_⟩
          have x_ := same_upd (o := .tup [.str x1, v]) np_
          have e_t22 : (upd (upd Bf19 a20 (.dK [])) t22 (.tup [.str x1, v])) t22 = some (.tup [.str x1, v]) := upd_same
          replace sa20 := sa20.trans x_
          generalize upd (upd Bf19 a20 (.dK [])) t22 (.tup [.str x1, v]) = Bf23 at *
          clear x_ np_
          have d_t22 : Dp K Bf23 (.ref t22) (.tuple [.str x1, d]) := .tup (SqT.of e_t22) (.cons (.str _) (.cons (dv _) .nil))
          clear e_t22
          refine ⟨by show 1 ≤ sizeLine; decide, fun t24 np_ => ?_⟩
          have x_ := same_upd (o := .tup [.ref t22]) np_
          have e_t24 : (upd Bf23 t24 (.tup [.ref t22])) t24 = some (.tup [.ref t22]) := upd_same
          replace d_t22 := dp_same x_ _ _ d_t22
          replace sa20 := sa20.trans x_
          generalize upd Bf23 t24 (.tup [.ref t22]) = Bf25 at *
          clear x_ np_
          have d_t24 : Dp K Bf25 (.ref t24) (.tuple [.tuple [.str x1, d]]) := .tup (SqT.of e_t24) (.cons d_t22 .nil)
          clear e_t24
          clear d_t22
          refine ⟨sa20 _ _ upd_same, [(Sum.inr "shared", .ref t24)], rfl, by show 1 ≤ 15; decide, ?_⟩
          rw [show mergeK [] ([(Sum.inr "shared", .ref t24)] : List (L2.Key × V)) = ([(Sum.inr "shared", .ref t24)] : List (L2.Key × V)) from rfl]
          obtain ⟨sE_, e_a20, dE_, tE_⟩ := dEnd (K := K) (kvs := [(Sum.inr "shared", .ref t24)]) na20 sa20
          replace d_t24 := dE_ (by simp [tOn, tOns, on]) d_t24
          replace sA := sA.trans sE_
          replace ek := sE_ _ _ ek
          replace ed := sE_ _ _ ed
          replace et := sE_ _ _ et
          clear dE_ tE_ sa20 
          generalize upd Bf25 a20 (.dK [(Sum.inr "shared", .ref t24)]) = Bf26 at *
          clear sE_ na20
          try unfold tNil
          refine w8 (d := prs [(x1, d)]) (SqL.of (sA _ _ hl)) n0 e_a20 d_t24 (okt_all (by show 1 ≤ 11; decide) (okt_cons (okt_all (by show 2 ≤ 11; decide) (okt_cons (okt_str n1) (okt_cons (okd _) okt_nil))) okt_nil)) fun HX10 s_ => ?_
          rw [nu_names n1]
          rw [hv]
          clear e_a20 d_t24
          replace sA := sA.trans s_
          replace ek := s_ _ _ ek
          replace ed := s_ _ _ ed
          replace et := s_ _ _ et
          clear s_
          refine ⟨_, rfl, fun a27 na27 => ?_⟩
          have sa27 : Same (upd HX10 a27 (.dK [])) (upd HX10 a27 (.dK [])) := Same.refl _
          refine ⟨_, rfl, l, _, 1, _, rfl, rfl, SqL.of ((sA.trans ((same_upd na27).trans sa27)) _ _ hl), atI_nat (j := 1) rfl, _, rfl, by show 1 ≤ sizeLine; decide, fun t29 np_ => ?_⟩
          have x_ := same_upd (o := .tup [v]) np_
          have e_t29 : (upd (upd HX10 a27 (.dK [])) t29 (.tup [v])) t29 = some (.tup [v]) := upd_same
          replace sa27 := sa27.trans x_
          generalize upd (upd HX10 a27 (.dK [])) t29 (.tup [v]) = Bf30 at *
          clear x_ np_
          have d_t29 : Dp K Bf30 (.ref t29) (.tuple [d]) := .tup (SqT.of e_t29) (.cons (dv _) .nil)
          clear e_t29
          refine ⟨by show 2 ≤ sizeLine; decide, fun t31 np_ => ?_⟩
          have x_ := same_upd (o := .tup [.str x1, .ref t29]) np_
          have e_t31 : (upd Bf30 t31 (.tup [.str x1, .ref t29])) t31 = some (.tup [.str x1, .ref t29]) := upd_same
          replace d_t29 := dp_same x_ _ _ d_t29
          replace sa27 := sa27.trans x_
          generalize upd Bf30 t31 (.tup [.str x1, .ref t29]) = Bf32 at *
          clear x_ np_
          have d_t31 : Dp K Bf32 (.ref t31) (.tuple [.str x1, .tuple [d]]) := .tup (SqT.of e_t31) (.cons (.str _) (.cons d_t29 .nil))
          clear e_t31
          clear d_t29
          refine ⟨by show 1 ≤ sizeLine; decide, fun t33 np_ => ?_⟩
          have x_ := same_upd (o := .tup [.ref t31]) np_
          have e_t33 : (upd Bf32 t33 (.tup [.ref t31])) t33 = some (.tup [.ref t31]) := upd_same
          replace d_t31 := dp_same x_ _ _ d_t31
          replace sa27 := sa27.trans x_
          generalize upd Bf32 t33 (.tup [.ref t31]) = Bf34 at *
          clear x_ np_
          have d_t33 : Dp K Bf34 (.ref t33) (.tuple [.tuple [.str x1, .tuple [d]]]) := .tup (SqT.of e_t33) (.cons d_t31 .nil)
          clear e_t33
          clear d_t31
          refine ⟨sa27 _ _ upd_same, [(Sum.inr "lists", .ref t33)], rfl, by show 1 ≤ 15; decide, ?_⟩
          rw [show mergeK [] ([(Sum.inr "lists", .ref t33)] : List (L2.Key × V)) = ([(Sum.inr "lists", .ref t33)] : List (L2.Key × V)) from rfl]
          obtain ⟨sE_, e_a27, dE_, tE_⟩ := dEnd (K := K) (kvs := [(Sum.inr "lists", .ref t33)]) na27 sa27
          replace d_t33 := dE_ (by simp [tOn, tOns, on]) d_t33
          replace sA := sA.trans sE_
          replace ek := sE_ _ _ ek
          replace ed := sE_ _ _ ed
          replace et := sE_ _ _ et
          clear dE_ tE_ sa27 
          generalize upd Bf34 a27 (.dK [(Sum.inr "lists", .ref t33)]) = Bf35 at *
          clear sE_ na27
          try unfold tNil
          refine w4 (d := prs [(x1, .tuple [d])]) (SqL.of (sA _ _ hl)) n0 e_a27 d_t33 (okt_all (by show 1 ≤ 11; decide) (okt_cons (okt_all (by show 2 ≤ 11; decide) (okt_cons (okt_str n1) (okt_cons (okt_all (by show 1 ≤ 11; decide) (okt_cons (okd _) okt_nil)) okt_nil))) okt_nil)) fun HX11 s_ => ?_
          rw [nu_l1 n1]
          rw [hv]
          clear e_a27 d_t33
          replace sA := sA.trans s_
          replace ek := s_ _ _ ek
          replace ed := s_ _ _ ed
          replace et := s_ _ _ et
          clear s_
          refine ⟨by show 2 ≤ sizeLine; decide, fun t36 np_ => ?_⟩
          have x_ := same_upd (o := .lst [.bl false, .bl false]) np_
          have e_t36 : (upd HX11 t36 (.lst [.bl false, .bl false])) t36 = some (.lst (([false, false] : List Bool).map V.bl)) := upd_same
          replace sA := sA.trans x_
          replace ek := x_ _ _ ek
          replace ed := x_ _ _ ed
          replace et := x_ _ _ et
          generalize upd HX11 t36 (.lst [.bl false, .bl false]) = Bf37 at *
          clear x_ np_
          refine catB et e_t36 (by simp only [List.length_append, List.length_cons, List.length_nil, List.length_replicate]; omega) fun qBf38 Bf38 s_ en => ?_
          clear et e_t36
          replace sA := sA.trans s_
          replace ek := s_ _ _ ek
          replace ed := s_ _ _ ed
          clear s_
          have et := en
          clear en
          refine ⟨_, rfl, _, rfl, by show 1 ≤ sizeLine; decide, fun t39 np_ => ?_⟩
          have x_ := same_upd (o := .lst [.bl false]) np_
          have e_t39 : (upd Bf38 t39 (.lst [.bl false])) t39 = some (.lst [.bl false]) := upd_same
          replace sA := sA.trans x_
          replace ek := x_ _ _ ek
          replace ed := x_ _ _ ed
          replace et := x_ _ _ et
          generalize upd Bf38 t39 (.lst [.bl false]) = Bf40 at *
          clear x_ np_
          refine ⟨t39, 4, _, rfl, rfl, e_t39, by decide, by decide, by show 4 ≤ sizeLine; decide, fun t41 np_ => ?_⟩
          rw [show (List.replicate (4 : Int).toNat [V.bl (false)]).flatten = (List.replicate 4 (false)).map V.bl from rfl]
          have x_ := same_upd (o := .lst ((List.replicate 4 (false)).map V.bl)) np_
          have e_t41 : (upd Bf40 t41 (.lst ((List.replicate 4 (false)).map V.bl))) t41 = some (.lst ((List.replicate 4 (false)).map V.bl)) := upd_same
          replace sA := sA.trans x_
          replace ek := x_ _ _ ek
          replace ed := x_ _ _ ed
          replace et := x_ _ _ et
          replace e_t39 := x_ _ _ e_t39
          generalize upd Bf40 t41 (.lst ((List.replicate 4 (false)).map V.bl)) = Bf42 at *
          clear x_ np_
          clear e_t39
          refine catB ed e_t41 (by simp only [List.length_append, List.length_cons, List.length_nil, List.length_replicate]; omega) fun qBf43 Bf43 s_ en => ?_
          clear ed e_t41
          replace sA := sA.trans s_
          replace ek := s_ _ _ ek
          replace et := s_ _ _ et
          clear s_
          have ed := en
          clear en
          refine ⟨sA, ek, _, _, _, et, ?_, ?_, _, _, _, _, _, _, _, _, rfl⟩
          · rw [List.append_assoc bs]; exact ed
          · simp only [List.length_append, List.length_cons, List.length_nil]; omega
      · rintro σ H5 ⟨s0, _, lt, ld, bs, et, ed, lb, o7, o8, o9, o10, o11, o12, o13, o14, rfl⟩
        replace lb : bs.length = 53 := lb
        refine ⟨11, rfl, by decide, by decide, for_it walk_range (fun i σ H' => Same H2 H' ∧ ∃ (lt ld : Addr) (bs : List Bool), H' lt = some (.lst (bs.map V.bl)) ∧ H' ld = some (.lst (bs.map V.bl)) ∧ bs.length = 53 + 2 * i ∧ ∃ o7 o8 o9 o10 o11 o12 o13 o14, σ = [some (.ref a), some (.ref l), some (.int (1 + r1)), some (.int (1 + r2)), some (.ref lt), some (.ref ld), some (.int 1000000), o7, o8, o9, o10, o11, o12, o13, o14]) ⟨s0, lt, ld, bs, et, ed, lb, _, _, _, _, _, _, _, _, rfl⟩ (fun _ _ _ _ _ => trivial) ?_ ?_⟩
        · clear s0 et ed lb bs lt ld o7 o8 o9 o10 o11 o12 o13 o14
          rintro i v σ _ HA hi ⟨sA, lt, ld, bs, et, ed, lb, o7, o8, o9, o10, o11, o12, o13, o14, rfl⟩ ⟨rfl, ey⟩
          obtain rfl := ey.trans (congrArg V.int (Int.zero_add _))
          replace hi : i < 11 := hi
          refine ⟨_, rfl, _, rfl, fun a1 na1 => ?_⟩
          have sa1 : Same (upd HA a1 (.dK [])) (upd HA a1 (.dK [])) := Same.refl _
          refine ⟨_, rfl, l, _, 1, _, rfl, rfl, SqL.of ((sA.trans ((same_upd na1).trans sa1)) _ _ hl), atI_nat (j := 1) rfl, by show 1 ≤ sizeLine; decide, fun t3 np_ => ?_⟩
          have x_ := same_upd (o := .tup [.int 0]) np_
          have e_t3 : (upd (upd HA a1 (.dK [])) t3 (.tup [.int 0])) t3 = some (.tup [.int 0]) := upd_same
          replace sa1 := sa1.trans x_
          generalize upd (upd HA a1 (.dK [])) t3 (.tup [.int 0]) = C4 at *
          clear x_ np_
          refine ⟨_, rfl, ?_⟩
          show Fw.rRepZ K (.ref t3) (.int (i : Int)) C4 _
          refine repD (SqT.of e_t3) (.int 0) (by omega) fun p5 C6 s_ d_p5 => ?_
          clear e_t3
          replace sa1 := sa1.trans s_
          clear s_
          refine ⟨by show 2 ≤ sizeLine; decide, fun t7 np_ => ?_⟩
          have x_ := same_upd (o := .tup [.str x1, p5]) np_
          have e_t7 : (upd C6 t7 (.tup [.str x1, p5])) t7 = some (.tup [.str x1, p5]) := upd_same
          replace d_p5 := dp_same x_ _ _ d_p5
          replace sa1 := sa1.trans x_
          generalize upd C6 t7 (.tup [.str x1, p5]) = C8 at *
          clear x_ np_
          have d_t7 : Dp K C8 (.ref t7) (.tuple [.str x1, .tuple (List.replicate i (.int 0))]) := .tup (SqT.of e_t7) (.cons (.str _) (.cons d_p5 .nil))
          clear e_t7
          clear d_p5
          refine ⟨by show 1 ≤ sizeLine; decide, fun t9 np_ => ?_⟩
          have x_ := same_upd (o := .tup [.ref t7]) np_
          have e_t9 : (upd C8 t9 (.tup [.ref t7])) t9 = some (.tup [.ref t7]) := upd_same
          replace d_t7 := dp_same x_ _ _ d_t7
          replace sa1 := sa1.trans x_
          generalize upd C8 t9 (.tup [.ref t7]) = C10 at *
          clear x_ np_
          have d_t9 : Dp K C10 (.ref t9) (.tuple [.tuple [.str x1, .tuple (List.replicate i (.int 0))]]) := .tup (SqT.of e_t9) (.cons d_t7 .nil)
          clear e_t9
          clear d_t7
          refine ⟨sa1 _ _ upd_same, [(Sum.inr "lists", .ref t9)], rfl, by show 1 ≤ 15; decide, ?_⟩
          rw [show mergeK [] ([(Sum.inr "lists", .ref t9)] : List (L2.Key × V)) = ([(Sum.inr "lists", .ref t9)] : List (L2.Key × V)) from rfl]
          obtain ⟨sE_, e_a1, dE_, tE_⟩ := dEnd (K := K) (kvs := [(Sum.inr "lists", .ref t9)]) na1 sa1
          replace d_t9 := dE_ (by simp [tOn, tOns, on_rep]) d_t9
          replace sA := sA.trans sE_
          replace et := sE_ _ _ et
          replace ed := sE_ _ _ ed
          clear dE_ tE_ sa1 
          generalize upd C10 a1 (.dK [(Sum.inr "lists", .ref t9)]) = C11 at *
          clear sE_ na1
          try unfold tNil
          refine w4 (d := prs [(x1, .tuple (List.replicate i (.int 0)))]) (SqL.of (sA _ _ hl)) n0 e_a1 d_t9 (okt_all (by show 1 ≤ 11; decide) (okt_cons (okt_all (by show 2 ≤ 11; decide) (okt_cons (okt_str n1) (okt_cons (okt_all (by rw [List.length_replicate]; omega) fun d hd => by rw [List.eq_of_mem_replicate hd]; exact okt_int (by decide) (by decide)) okt_nil))) okt_nil)) fun HX12 s_ => ?_
          rw [nu_rep n1]
          clear e_a1 d_t9
          replace sA := sA.trans s_
          replace et := s_ _ _ et
          replace ed := s_ _ _ ed
          clear s_
          refine ⟨_, rfl, fun a12 na12 => ?_⟩
          have sa12 : Same (upd HX12 a12 (.dK [])) (upd HX12 a12 (.dK [])) := Same.refl _
          refine ⟨_, rfl, l, _, 1, _, rfl, rfl, SqL.of ((sA.trans ((same_upd na12).trans sa12)) _ _ hl), atI_nat (j := 1) rfl, by show 1 ≤ sizeLine; decide, fun t14 np_ => ?_⟩
          have x_ := same_upd (o := .tup [.int 0]) np_
          have e_t14 : (upd (upd HX12 a12 (.dK [])) t14 (.tup [.int 0])) t14 = some (.tup [.int 0]) := upd_same
          replace sa12 := sa12.trans x_
          generalize upd (upd HX12 a12 (.dK [])) t14 (.tup [.int 0]) = C15 at *
          clear x_ np_
          refine ⟨_, rfl, ?_⟩
          show Fw.rRepZ K (.ref t14) (.int (i : Int)) C15 _
          refine repD (SqT.of e_t14) (.int 0) (by omega) fun p16 C17 s_ d_p16 => ?_
          clear e_t14
          replace sa12 := sa12.trans s_
          clear s_
          refine ⟨by show 2 ≤ sizeLine; decide, fun t18 np_ => ?_⟩
          have x_ := same_upd (o := .tup [.str x1, p16]) np_
          have e_t18 : (upd C17 t18 (.tup [.str x1, p16])) t18 = some (.tup [.str x1, p16]) := upd_same
          replace d_p16 := dp_same x_ _ _ d_p16
          replace sa12 := sa12.trans x_
          generalize upd C17 t18 (.tup [.str x1, p16]) = C19 at *
          clear x_ np_
          have d_t18 : Dp K C19 (.ref t18) (.tuple [.str x1, .tuple (List.replicate i (.int 0))]) := .tup (SqT.of e_t18) (.cons (.str _) (.cons d_p16 .nil))
          clear e_t18
          clear d_p16
          refine ⟨by show 1 ≤ sizeLine; decide, fun t20 np_ => ?_⟩
          have x_ := same_upd (o := .tup [.ref t18]) np_
          have e_t20 : (upd C19 t20 (.tup [.ref t18])) t20 = some (.tup [.ref t18]) := upd_same
          replace d_t18 := dp_same x_ _ _ d_t18
          replace sa12 := sa12.trans x_
          generalize upd C19 t20 (.tup [.ref t18]) = C21 at *
          clear x_ np_
          have d_t20 : Dp K C21 (.ref t20) (.tuple [.tuple [.str x1, .tuple (List.replicate i (.int 0))]]) := .tup (SqT.of e_t20) (.cons d_t18 .nil)
          clear e_t20
          clear d_t18
          refine ⟨sa12 _ _ upd_same, [(Sum.inr "all", .ref t20)], rfl, by show 1 ≤ 15; decide, ?_⟩
          rw [show mergeK [] ([(Sum.inr "all", .ref t20)] : List (L2.Key × V)) = ([(Sum.inr "all", .ref t20)] : List (L2.Key × V)) from rfl]
          obtain ⟨sE_, e_a12, dE_, tE_⟩ := dEnd (K := K) (kvs := [(Sum.inr "all", .ref t20)]) na12 sa12
          replace d_t20 := dE_ (by simp [tOn, tOns, on_rep]) d_t20
          replace sA := sA.trans sE_
          replace et := sE_ _ _ et
          replace ed := sE_ _ _ ed
          clear dE_ tE_ sa12 
          generalize upd C21 a12 (.dK [(Sum.inr "all", .ref t20)]) = C22 at *
          clear sE_ na12
          try unfold tNil
          refine w9 (d := prs [(x1, .tuple (List.replicate i (.int 0)))]) (SqL.of (sA _ _ hl)) n0 e_a12 d_t20 (okt_all (by show 1 ≤ 11; decide) (okt_cons (okt_all (by show 2 ≤ 11; decide) (okt_cons (okt_str n1) (okt_cons (okt_all (by rw [List.length_replicate]; omega) fun d hd => by rw [List.eq_of_mem_replicate hd]; exact okt_int (by decide) (by decide)) okt_nil))) okt_nil)) fun HX13 s_ => ?_
          rw [nu_rep n1]
          clear e_a12 d_t20
          replace sA := sA.trans s_
          replace et := s_ _ _ et
          replace ed := s_ _ _ ed
          clear s_
          refine ⟨by show 2 ≤ sizeLine; decide, fun t23 np_ => ?_⟩
          have x_ := same_upd (o := .lst [.bl (decide ((i : Int) < 9)), .bl (decide ((i : Int) < 9))]) np_
          have e_t23 : (upd HX13 t23 (.lst [.bl (decide ((i : Int) < 9)), .bl (decide ((i : Int) < 9))])) t23 = some (.lst (([(decide ((i : Int) < 9)), (decide ((i : Int) < 9))] : List Bool).map V.bl)) := upd_same
          replace sA := sA.trans x_
          replace et := x_ _ _ et
          replace ed := x_ _ _ ed
          generalize upd HX13 t23 (.lst [.bl (decide ((i : Int) < 9)), .bl (decide ((i : Int) < 9))]) = C24 at *
          clear x_ np_
          refine catB et e_t23 (by simp only [List.length_append, List.length_cons, List.length_nil, List.length_replicate]; omega) fun qC25 C25 s_ en => ?_
          clear et e_t23
          replace sA := sA.trans s_
          replace ed := s_ _ _ ed
          clear s_
          have et := en
          clear en
          refine ⟨_, rfl, _, rfl, _, _, rfl, rfl, by show 1 ≤ sizeLine; decide, fun t26 np_ => ?_⟩
          have x_ := same_upd (o := .lst [.bl (decide ((i : Int) < 9))]) np_
          have e_t26 : (upd C25 t26 (.lst [.bl (decide ((i : Int) < 9))])) t26 = some (.lst [.bl (decide ((i : Int) < 9))]) := upd_same
          replace sA := sA.trans x_
          replace ed := x_ _ _ ed
          replace et := x_ _ _ et
          generalize upd C25 t26 (.lst [.bl (decide ((i : Int) < 9))]) = C27 at *
          clear x_ np_
          refine ⟨t26, 2, _, rfl, rfl, e_t26, by decide, by decide, by show 2 ≤ sizeLine; decide, fun t28 np_ => ?_⟩
          rw [show (List.replicate (2 : Int).toNat [V.bl ((decide ((i : Int) < 9)))]).flatten = (List.replicate 2 ((decide ((i : Int) < 9)))).map V.bl from rfl]
          have x_ := same_upd (o := .lst ((List.replicate 2 ((decide ((i : Int) < 9)))).map V.bl)) np_
          have e_t28 : (upd C27 t28 (.lst ((List.replicate 2 ((decide ((i : Int) < 9)))).map V.bl))) t28 = some (.lst ((List.replicate 2 ((decide ((i : Int) < 9)))).map V.bl)) := upd_same
          replace sA := sA.trans x_
          replace ed := x_ _ _ ed
          replace et := x_ _ _ et
          replace e_t26 := x_ _ _ e_t26
          generalize upd C27 t28 (.lst ((List.replicate 2 ((decide ((i : Int) < 9)))).map V.bl)) = C29 at *
          clear x_ np_
          clear e_t26
          refine catB ed e_t28 (by simp only [List.length_append, List.length_cons, List.length_nil, List.length_replicate]; omega) fun qC30 C30 s_ en => ?_
          clear ed e_t28
          replace sA := sA.trans s_
          replace et := s_ _ _ et
          clear s_
          have ed := en
          clear en
          refine ⟨sA, _, _, _, et, ed, ?_, _, _, _, _, _, _, _, _, rfl⟩
          simp only [List.length_append, List.length_cons, List.length_nil]; omega
        · rintro σ H6 ⟨s0, lt, ld, bs, et, ed, lb, o7, o8, o9, o10, o11, o12, o13, o14, rfl⟩
          refine ⟨_, rfl, _, rfl, eqBls bs et ed (q _ (fun b o nb hb => s0 _ _ (sB b o nb hb)) (B2.same s0))⟩
end
end Fd

set_option Elab.async false
set_option linter.all false
set_option maxRecDepth 100000
set_option maxHeartbeats 4000000
namespace Fd
open PySem PySem.Spec PyProof.Rows L2
section
variable {P : Program} {w : World} {K : PySem.W.Frag} {mg : Str → Option Value} {base : Heap} {f : Addr} {fd : FuncData}
abbrev sLaw : Stmt := top 70
theorem scLaw : FnScope ["_law_script", "_law_state", "_law_turn", "_law_n"] ["_law_script"] (defScope sLaw) := ⟨rfl, rfl, rfl, by decide +kernel, rfl, by decide +kernel, by decide +kernel⟩
def spLaw (K : PySem.W.Frag) : Sp := fun vs H Q _ => ∃ (a : Addr) (ns : List Int), vs = [.ref a] ∧ SqL K H a (ns.map V.int) ∧ ns.length ≤ 63 ∧ ∀ H', Q (.bl true) H'
/-- the defs that the law calls -/
structure LawD (P : Program) (w : World) (K : PySem.W.Frag) (mg : Str → Option Value) (base : Heap) (k : Nat) : Prop where
  GB : FnG P w K mg base CX0 k "_law_begin" ["_law_script"] (spBegin K)
  GN : FnG P w K mg base CX0 k "_law_names" ["_law_state", "_law_many"] spNames
  GS : FnG P w K mg base CX0 k "_law_sizes_right" ["_law_n"] (spOf K)
  GU : FnG P w K mg base CX0 k "_law_numbers_right" ["_law_state", "_law_n"] (spNum K)
  GA : FnG P w K mg base CX0 k "_law_alike_right" ["_law_n"] (spOf K)
  GH : FnG P w K mg base CX0 k "_law_hats_right" ["_law_n"] (spOf K)
  GW : FnG P w K mg base CX0 k "_law_with" ["_law_n", "_law_changes"] (spWith K)
  mr : mg "range" = none
theorem law_body {k : Nat} (D : LawD P w K mg base k) (cdv : Value) (A : Around) (outer : List Env) (s : Shared) (H : Hp) (vs : List V) (Q : VK) (E : XK) (hr : Room k (A.deeper (envOfC "law" (defScope sLaw) s.heap.objs.size f cdv))) (h : spLaw K vs H Q E) :
    ∃ t, PSs (cxOf CX0 P w K mg base ["_law_script", "_law_state", "_law_turn", "_law_n"] "law" (defScope sLaw) f cdv A outer s H E).nox (defBody sLaw) t ∧ t { nx := fun _ H' => Q .non H', rt := Q } (L2.start ["_law_script", "_law_state", "_law_turn", "_law_n"] vs) H := by
  obtain ⟨⟨_, _, G__law_begin, m__law_begin, k__law_begin, b__law_begin⟩, ⟨_, _, G__law_names, m__law_names, k__law_names, b__law_names⟩, ⟨_, _, G__law_sizes_right, m__law_sizes_right, k__law_sizes_right, b__law_sizes_right⟩, ⟨_, _, G__law_numbers_right, m__law_numbers_right, k__law_numbers_right, b__law_numbers_right⟩, ⟨_, _, G__law_alike_right, m__law_alike_right, k__law_alike_right, b__law_alike_right⟩, ⟨_, _, G__law_hats_right, m__law_hats_right, k__law_hats_right, b__law_hats_right⟩, ⟨_, _, G__law_with, m__law_with, k__law_with, b__law_with⟩, m_range⟩ := D
  have sc := scLaw
  obtain ⟨a0, ns, rfl, hS, hl, q⟩ := h
  refine ⟨_, (pss_cons (ps_set (i := 1) sc.nd rfl (.inl rfl) (pe_call G__law_begin (hr.mono (by omega)) (by rfl) m__law_begin k__law_begin b__law_begin .nil pass0 (pa_cons (pv 0) pa_nil)))
      (pss_cons (ps_for PassesOwn.never rfl (pi_range1 (by rfl) m_range (pa_cons pe_int pa_nil)) (pg_name (i := 2) sc.nd rfl (.inl rfl)) (pss_cons (ps_set (i := 3) sc.nd rfl (.inl rfl) (pe_call G__law_names (hr.mono (by omega)) (by rfl) m__law_names k__law_names b__law_names .nil pass0 (pa_cons (pv 1) (pa_cons pe_int pa_nil))))
      (pss_cons (ps_if (PW.pt (pw_or (pt_not (pt_val (pe_call G__law_sizes_right (hr.mono (by omega)) (by rfl) m__law_sizes_right k__law_sizes_right b__law_sizes_right .nil pass0 (pa_cons (pv 3) pa_nil)))) (pw_or (pt_not (pt_val (pe_call G__law_numbers_right (hr.mono (by omega)) (by rfl) m__law_numbers_right k__law_numbers_right b__law_numbers_right .nil pass0 (pa_cons (pv 1) (pa_cons (pv 3) pa_nil))))) (pw_or1 (pt_not (pt_val (pe_call G__law_alike_right (hr.mono (by omega)) (by rfl) m__law_alike_right k__law_alike_right b__law_alike_right .nil pass0 (pa_cons (pv 3) pa_nil)))))))) (pss_one (ps_ret pe_bl)) pss_nil)
      (pss_one (ps_if (PW.pt (pw_or (pt_not (pt_val (pe_call G__law_hats_right (hr.mono (by omega)) (by rfl) m__law_hats_right k__law_hats_right b__law_hats_right .nil pass0 (pa_cons (pv 3) pa_nil)))) (pw_or1 (pt_cmpR op_isnot_bl (pe_call G__law_with (hr.mono (by omega)) (by rfl) m__law_with k__law_with b__law_with .nil pass0 (pa_cons (pv 3) (pa_cons pe_dnewK pa_nil))) pe_bl (nomark _))))) (pss_one (ps_ret pe_bl)) pss_nil)))))
      (pss_one (ps_ret pe_bl)))), ?_⟩
  refine ⟨_, rfl, a0, ns, rfl, hS, hl, fun a c H1 s1 na D => ?_⟩
  refine ⟨2, rfl, by decide, by decide, for_it walk_range (fun i σ H' => Dr H' a c (2000 * i) ∧ ∃ o2 o3, σ = [some (.ref a0), some (.ref a), o2, o3]) ⟨D, _, _, rfl⟩ (fun _ _ _ _ _ => trivial) ?_ ?_⟩
  · clear D s1 na
    rintro i x σ _ H2 hi ⟨D, o2, o3, rfl⟩ ⟨rfl, ex⟩
    have hi2 : i < 2 := hi
    generalize hN : 2000 * i = N at D
    have hN2 : N ≤ 2000 := by omega
    refine ⟨_, rfl, a, c, N, 9, rfl, D, by omega, by decide, by decide, fun p ws H3 s3 D3 np pn hp l9 nd nm => ?_⟩
    refine ⟨_, rfl, p, ws, rfl, hp, l9, nd, nm, fun H4 s4 => ?_⟩
    refine ⟨_, rfl, iteF ?_⟩
    replace hp := s4 _ _ hp
    replace D3 := D3.same s4
    refine ⟨_, rfl, _, rfl, a, c, p, N + 12, ws, rfl, D3, by omega, pn, hp, l9, nd, nm, fun H5 s5 D5 => ⟨_, rfl, iteF ?_⟩⟩
    replace hp := s5 _ _ pn hp
    refine ⟨_, rfl, p, ws, rfl, hp, l9, nd, nm, fun H6 s6 => ⟨_, rfl, iteF ?_⟩⟩
    replace hp := s6 _ _ hp
    replace D5 := D5.same s6
    refine ⟨_, rfl, p, ws, rfl, hp, l9, nd, nm, fun H7 s7 => ⟨_, rfl, iteF ?_⟩⟩
    replace hp := s7 _ _ hp
    replace D5 := D5.same s7
    obtain ⟨x0, x1, x2, x3, x4, x5, x6, x7, x8, rfl⟩ := nine l9
    refine ⟨_, rfl, fun d nD => ?_⟩
    have x_ := same_upd (o := .dK []) nD
    unfold tNil
    refine w0_ (SqL.of (x_ _ _ hp)) (nm x0 (by simp)) upd_same fun H8 s8 => ?_
    refine ⟨_, true, rfl, rfl, ?_⟩
    refine ⟨_, rfl, iteF ?_⟩
    exact ⟨((D5.same x_).same s8).le (by omega), _, _, rfl⟩
  · rintro σ H2 ⟨D, o2, o3, rfl⟩
    exact q _
end
end Fd

set_option Elab.async false
set_option linter.all false
set_option maxRecDepth 100000
set_option maxHeartbeats 4000000
namespace Fd
open PySem PySem.Spec PyProof.Rows L2
section
variable {P : Program} {w : World} {K : PySem.W.Frag} {mg : Str → Option Value} {base : Heap}
theorem ok_nis {nK dP f : Addr} {fd : FuncData} (D : Df K mg "names_in" sNI ["part", "kind"] f fd) (GN : FnG P w K mg base CX0 1 "is_number" ["thing"] (spB K (fun _ => True) isNum)) (m_zip : mg "zip" = none) (m_NAME_KINDS : mg "NAME_KINDS" = some (.ref nK)) (hK : ∀ H, SqT K H nK kindsV) (m_PARTS : mg "PARTS" = some (.ref dP)) (hP : Fw.Parts P w K dP gP) :
    ∀ n, FnG P w K mg base CX0 (n + 2) "names_in" ["part", "kind"] (spNI K n)
  | 0 => D.g (ok_ni (k := 1) (n := 0) D.F GN (fun m e => nomatch e) ⟨f, fd, ⟨fun _ _ _ _ h => h.elim, fun _ _ _ _ _ _ _ _ _ _ _ _ _ h => h.elim⟩, D.m, D.F.kp, D.b⟩ m_zip m_NAME_KINDS hK m_PARTS hP)
  | n + 1 => D.g (ok_ni (k := n + 2) (n := n + 1) D.F (GN.mono (by omega)) (fun m e => by cases e; exact ok_nis D GN m_zip m_NAME_KINDS hK m_PARTS hP n) ⟨f, fd, ⟨fun _ _ _ _ h => h.elim, fun _ _ _ _ _ _ _ _ _ _ _ _ _ h => h.elim⟩, D.m, D.F.kp, D.b⟩ m_zip m_NAME_KINDS hK m_PARTS hP)
theorem ok_nins {dD f f' : Addr} {fd fd' : FuncData} (D : Df K mg "named_in" sNin ["block"] f fd) (DB : Df K mg "named_by" sNB ["part", "kind"] f' fd') (GI : FnG P w K mg base CX0 8 "names_in" ["part", "kind"] (spNI K 6)) (m_len : mg "len" = none) (m_zip : mg "zip" = none) (m_DEEDS : mg "DEEDS" = some (.ref dD)) (hD : Fw.Deeds P w K dD gD) :
    ∀ n, FnG P w K mg base CX0 (2 * n + 8) "named_in" ["block"] (spNin K n)
  | 0 => D.g ⟨fun vs H Q E h => by
      obtain ⟨x, d, rfl, _⟩ := h
      rfl, fun A outer s H args us vs Q E _ _ _ _ h => by
      obtain ⟨x, d, _, _, _, hv, _⟩ := h
      cases (show (false : Bool) = true from hv)⟩
  | n + 1 => D.g (ok_nin (k := 2 * n + 9) (n := n) D.F (DB.g (ok_nby (k := 2 * n + 8) (n := n) DB.F (GI.mono (by omega)) (ok_nins D DB GI m_len m_zip m_DEEDS hD n))) m_len m_zip m_DEEDS hD)
/-- one entry of a def, by its body there -/
theorem enter {x qual : Str} {st : Stmt} {f : Addr} {fd : FuncData} {N ps : List Str} {k : Nat} {A : Around} {outer : List Env} {s : Shared} {H : Hp} {args : Args} {us : List Value} {vs : List V} {Q : VK} {E : XK} (F : Fun K x qual st f fd) (S : FnScope N ps (defScope st))
    (hl : vs.length = ps.length) (hr : Room (k + 1) A) (e0 : Env0 P w K mg base A outer s H) (hb : BindsTo s fd args (ps.zip us)) (r : Vals vs us)
    (body : ∀ cdv : Value, Room k (A.deeper (envOfC qual (defScope st) s.heap.objs.size f cdv)) → ∃ t, PSs (cxOf CX0 P w K mg base N qual (defScope st) f cdv A outer s H E).nox (defBody st) t ∧ t { nx := fun _ H' => Q .non H', rt := Q } (L2.start N vs) H) :
    codeAny (model P w) A (.call (.ref f) args) (CR CX0 outer P w H s Q E) s := by
  obtain ⟨oc, od, kV, doc, pm, an, cdv, ct, osl, rfl, lk, hcd⟩ := F.ex
  obtain ⟨t, ht, hq⟩ := body cdv (hr.deeper _)
  have old : ∀ b o, base.get? b = some o → s.heap.get? b = some o := fun b o e => (e0.bs b o e).1
  refine codeAny_call_function hr.depth ((e0.mod.kin.keeps old) _ _ lk) rfl S.co S.gen rfl (PySem.W.codeRec_of (e0.mod.kin.keeps old) hcd) (hb _ _ _ _ (wpAny_newFunctionEnv_cells S.kind (fun y hy => ?_) fun env he s1 x => ?_))
  · exact (S.par y.1 (List.of_mem_zip (show (y.1, y.2) ∈ ps.zip us from hy)).1).elim .inl fun z => .inr ⟨z, PySem.W.cellsFrom_some _ _ _ (.inl z)⟩
  subst he
  refine ⟨(e0.mod.nolimit.keeps old).keeps x.toInCall.keep, codeAny_func (wpAny_mono (ht.nox.run [] s1 _ H _ (inv_start S hr.hd e0 hl r x) hq) (fun fl s' hs => ?_) fun _ _ hs => hs)⟩
  cases fl with
  | ret u =>
    obtain ⟨v, _, H', J, rv, q⟩ := hs
    exact ⟨v, H', J.os, J.bare, J.base, J.hok, rv, q⟩
  | next =>
    obtain ⟨_, H', J, q⟩ := hs
    exact ⟨.non, H', J.os, J.bare, J.base, J.hok, (rfl : RelV .non Value.none), q⟩
  | brk => obtain ⟨_, _, _, q⟩ := hs; exact q.elim
  | cont => obtain ⟨_, _, _, q⟩ := hs; exact q.elim
/-- the tracked heap at the law's entry: nothing, or the script alone -/
structure Entry (P : Program) (w : World) (K : PySem.W.Frag) (a : Addr) (h : Heap) (H : Hp) : Prop where
  only : Only H
  ok : HOk P w H h
  one : ∀ b, H b ≠ none → b = a
  free : H a ≠ none → K.lookup a = none
theorem Entry.none_of {a b : Addr} {h : Heap} {H : Hp} {o : Obj} (e : Entry P w K a h H) (hb : K.lookup b = some o) : H b = none := by
  cases z : H b with
  | none => rfl
  | some u =>
    have n : H b ≠ none := by rw [z]; exact nofun
    obtain rfl := e.one b n
    rw [e.free n] at hb
    cases hb
theorem Entry.dict {a b : Addr} {h : Heap} {H : Hp} {vs : Array Value} {o : Obj} {es : Array DictEntry} {ep n : Nat} (e : Entry P w K a h H) (ha : h.get? a = some { cls := .type "list", data := .seq vs n }) (hb : h.get? b = some o) (hd : o.data = .dict es ep) : H b = none := by
  cases z : H b with
  | none => rfl
  | some u =>
    obtain rfl := e.one b (by rw [z]; exact nofun)
    rw [ha] at hb
    cases hb
    cases hd
theorem entry_of {a : Addr} {h : Heap} {vs : List Value} {ns : List Int} (KX : K.In h) (ha : h.get? a = some { cls := .type "list", data := .seq vs.toArray }) (hi : IntsAre vs ns) (hl : ns.length ≤ sizeLine) : ∃ H, Entry P w K a h H ∧ SqL K H a (ns.map V.int) := by
  cases hk : K.lookup a with
  | some o =>
    have e := KX a o hk
    rw [ha] at e
    cases e
    exact ⟨fun _ => none, ⟨fun _ => .inl rfl, fun b u z => (nomatch (show (none : Option HO) = some u from z)), fun b z => absurd rfl z, fun z => absurd rfl z⟩,
      .inr ⟨_, vs.toArray, _, hk, rfl, rfl, rfl, by rw [List.size_toArray, hi.length]; exact hl, by simpa using vals_ints hi⟩⟩
  | none =>
    let o : HO := .frz { cls := .type "list", data := .seq vs.toArray } (.lst (ns.map V.int))
    have u1 : upd (fun _ => none) a o a = some o := upd_same
    have un : ∀ {b}, b ≠ a → upd (fun _ => none) a o b = none := fun n => upd_ne n
    refine ⟨upd (fun _ => none) a o, ⟨fun b => ?_, fun b u z => ?_, fun b n => ?_, fun _ => hk⟩, .inl (.inr ⟨_, u1⟩)⟩
    · by_cases e : b = a
      · subst e; exact .inr ⟨_, _, u1⟩
      · exact .inl (un e)
    · by_cases e : b = a
      · subst e
        rw [u1] at z
        cases z
        exact ⟨ha, by rw [List.length_map]; exact hl, vs, _, vals_ints hi, ha⟩
      · rw [un e] at z; cases z
    · exact Classical.byContradiction fun e => n (un e)
theorem law_at {mb : Str → Option Value} {k : Nat} {fa a : Addr} {fd : FuncData} {x : Str} {st : Stmt} {N : List Str} {nm : Str} {s₁ : Shared} {vs : List Value} {ns : List Int} (F : Fun K nm nm st fa fd) (S : FnScope N [x] (defScope st))
    (KX : K.In s₁.heap) (hns : s₁.heap.Ns mainGlobals mg) (hb : s₁.heap.Ns builtinsNs mb) (hbb : ∀ x : Str, x ≠ "__name__" → mb x = bootBuiltins x) (hlim : s₁.heap.NoLimit) (hg : s₁.gens = #[])
    (ha : s₁.heap.get? a = some { cls := .type "list", data := .seq vs.toArray }) (hi : IntsAre vs ns) (hl : ns.length ≤ sizeLine) (hr : Room (k + 1) callerA) (hbind : ∀ (s : Shared) (u : Value), BindsTo s fd ⟨[u], []⟩ [(x, u)])
    (body : ∀ (base : Heap) (cdv : Value) (H : Hp), K.In base → base.Ns mainGlobals mg → SqL K H a (ns.map V.int) → Room k (callerA.deeper (envOfC nm (defScope st) s₁.heap.objs.size fa cdv)) →
      ∃ t, PSs (cxOf CX0 P w K mg base N nm (defScope st) fa cdv callerA [] s₁ H fun _ _ _ => False).nox (defBody st) t ∧ t { nx := fun _ _ => V.non = .bl true, rt := fun v _ => v = .bl true } (L2.start N [.ref a]) H) :
    codeAny (model P w) callerA (.call (.ref fa) ⟨[.ref a], []⟩) (fun r s' => r = .ok (.ret (.bool true)) ∧ OldK s₁.heap s'.heap ∧ s'.os = s₁.os ∧ AllBare s'.gens) s₁ := by
  obtain ⟨H, en, hS⟩ := entry_of (P := P) (w := w) KX ha hi hl
  have kb : K.In (hidT s₁.heap H) := fun b o e => hidT_get (KX b o e) (en.none_of e)
  have nb : ∀ {b : Addr} {m : Str → Option Value}, s₁.heap.Ns b m → (hidT s₁.heap H).Ns b m := fun ⟨o, es, ep, e, d, r⟩ => ⟨o, es, ep, hidT_get e (en.dict ha e d), d, r⟩
  have lim : (hidT s₁.heap H).NoLimit := by
    obtain ⟨mc, h1, h2⟩ := hlim
    exact ⟨mc, nb h1, h2⟩
  have e0 : Env0 P w K mg (hidT s₁.heap H) callerA [] s₁ H := ⟨rfl, ⟨kb, nb hns, ⟨mb, nb hb, hbb⟩, lim⟩, fun b o e => of_hidT e, Nat.le_of_eq (hidT_size _ _), trivial, fun b hb => absurd (show b ∈ ([] : List Addr) from hb) (by simp), en.ok, .of_eq hg⟩
  refine codeAny_mono (enter (vs := [.ref a]) (us := [.ref a]) (Q := fun v _ => v = .bl true) (E := fun _ _ _ => False) F S rfl hr e0 (hbind s₁ (.ref a)) (.cons rfl .nil) fun cdv hr' => body _ cdv H kb (nb hns) hS hr') fun r s' h => ?_
  cases r with
  | error e => exact h.elim
  | ok fl =>
    cases fl with
    | ret u =>
      obtain ⟨v, H', os, bare, un, ok', rv, q⟩ := h
      obtain rfl : v = .bl true := q
      obtain rfl : u = Value.bool true := rv
      refine ⟨rfl, OldK.of_keep fun b o e => ?_, os, bare⟩
      rcases en.only b with z | ⟨ob, xs, z⟩
      · exact un.keep b o e z (fun y => absurd (show b ∈ ([] : List Addr) from y) (by simp)) (by simp)
      · obtain ⟨e1, _⟩ := en.ok b _ z
        obtain ⟨e2, _⟩ := ok' b _ (un.frzs b ob _ z)
        rw [e] at e1
        cases e1
        exact e2
    | next => exact h.elim
    | brk => exact h.elim
    | cont => exact h.elim
end
theorem walk_ex {l : PySem.W.OpenLaw} {n : Nat} {q : Program} {loose : List Str} {XP : (Str → Option Value) → Heap → Prop} {YP : World → Heap → Prop} {d : DefRec} (hn : l.most = some n) (hn2 : n ≤ 63) (hdf : d.params.defaults = []) (hd : d.name = "law")
    (F : ∀ (w : World) (mg : Str → Option Value) (fa : Addr) (h : Heap), YP w h → h.Ns mainGlobals mg → mg "law" = some (.ref fa) →
      ∃ (K : PySem.W.Frag) (fd : FuncData), K.In h ∧ Fun K "law" "law" sLaw fa fd ∧ (∀ (s : Shared) (v : Value), BindsTo s fd ⟨[v], []⟩ [("_law_script", v)]) ∧ ∀ base : Heap, K.In base → base.Ns mainGlobals mg → LawD l.prog w K mg base 40) :
    PySem.W.WalkO q loose XP YP l.row.toRowW d [] (fun f vs => PySem.call f vs) := by
  refine Att.attach_call hn hdf fun w s₀ s₁ mg mb fa o pm cd doc a vs ns G Y ho hd' hcd hmg hobj hints hlen hg => ?_
  rw [hd] at hmg
  obtain ⟨K, fd, hK, hF, hb, hL⟩ := F w mg fa _ Y G.T.g hmg
  exact law_at (k := 40) (x := "_law_script") hF scLaw hK G.T.g G.T.b G.T.builtins G.T.nolimit hg hobj hints (Nat.le_trans (Nat.le_trans hlen hn2) (by decide)) ⟨rfl, by decide, by decide⟩ hb
    fun base cdv H kb nb hS hr => law_body (hL base kb nb) cdv callerA [] s₁ H [.ref a] (fun v _ => v = .bl true) (fun _ _ _ => False) hr ⟨a, ns, rfl, hS, Nat.le_trans hlen hn2, fun _ => rfl⟩
end Fd

set_option Elab.async false
set_option linter.all false
set_option maxRecDepth 100000
set_option maxHeartbeats 0
noncomputable section
namespace K13
open PySem PySem.W PySem.Calls PyProof.Rows HandSHeadRun Fw
abbrev pr : Program := PySem.Challenge.pw_figuredeeds_k13_plays_at_the_bounds
def dk (s : Stmt) : List (Option Expr) := match s with
  | .Assign _ (.Dict ks _ _) _ => ks
  | _ => []
def dv (s : Stmt) : List Expr := match s with
  | .Assign _ (.Dict _ vs _) _ => vs
  | _ => []
def dp (s : Stmt) : Pos := match s with
  | .Assign _ (.Dict _ _ p) _ => p
  | _ => default
def ap (s : Stmt) : Pos := match s with
  | .Assign _ _ p => p
  | _ => default
def np (s : Stmt) : Pos := match s with
  | .Assign [.Name _ p] _ _ => p
  | _ => default
def top (i : Nat) : Stmt := pr.main.body.getD i (.Pass ⟨0, 0, 0, 0⟩)
def st6 : Stmt := top 6
def st32 : Stmt := top 32
def parts : List PK := [("look", "name", ["name"]), ("look", "plus", ["look", "look"]), ("look", "minus", ["look", "look"]), ("look", "by", ["look", "look"]), ("look", "over", ["look", "look"]), ("look", "rest", ["look", "look"]), ("look", "item", ["list", "look"]), ("look", "many", ["list"]), ("look", "x", []), ("look", "y", []), ("look", "way", []), ("look", "number", []), ("test", "like", ["look", "look"]), ("test", "below", ["look", "look"]), ("test", "not", ["test"]), ("test", "both", ["test", "test"]), ("test", "any", ["test", "test"])]
def tl32 : List SP := [("move", ["look"]), ("turn", ["look"]), ("place", ["look", "look"]), ("show", []), ("hide", []), ("say", ["look"]), ("set", ["own", "look"]), ("add", ["own", "look"]), ("put", ["list", "look"]), ("drop", ["list", "look"]), ("write", ["list", "look", "look"]), ("wait", ["look"]), ("until", ["test"]), ("if", ["test", "block", "block"]), ("times", ["look", "block"]), ("while", ["test", "block"]), ("ever", ["block"])]
def tm32 : List SP := [("do", ["piece", "looks"]), ("tell", ["news"]), ("await", ["news"]), ("copy", ["figure"]), ("end", []), ("stop", ["word"])]
def D : Many where
  p := pr
  env := { scope := pr.main.scope, locals := mainNs, globals := mainNs, cells := [], code := .ref 13, frame := some 14 }
  q0 := ⟨0, 0, 0, 0⟩
  pos0 := ⟨0, 0, 0, 0⟩
  k0 := 12
  kB := 3
  L := [.seg ((pr.main.body.drop 0).take 6) 226, .big "PARTS" (np st6) (dk st6) (dv st6) (dp st6) (ap st6) parts ("test", "meets", ["figure"]) 60, .seg ((pr.main.body.drop 7).take 25) 938, .two "DEEDS" (np st32) (dk st32) (dv st32) (dp st32) (ap st32) tl32 tm32 60]
  rest := pr.main.body.drop 33
  M := 2312
def fnd (x : Str) (i : Nat) : He.FnD := ⟨(x, none), x, x, L2.defArgs (top i), L2.defBody (top i), L2.defScope (top i)⟩
def inC (i j : Nat) : Stmt := match top i with
  | .ClassDef _ _ _ b .. => b.getD j (.Pass ⟨0, 0, 0, 0⟩)
  | _ => .Pass ⟨0, 0, 0, 0⟩
def fn : List He.FnD := [fnd "is_number" 7, fnd "is_value" 8, fnd "is_name" 9, fnd "is_look" 10, fnd "is_test" 11, fnd "is_part" 12, fnd "is_worded" 13, fnd "has_parts" 14, fnd "names_in" 15, fnd "is_row" 33, fnd "is_from_to" 34, fnd "are_unlike" 35, fnd "is_block" 36, fnd "is_inner_block" 37, fnd "is_deed" 38, fnd "is_deed_part" 39, fnd "is_play" 40, fnd "is_shaped" 41, fnd "is_size" 42, fnd "are_names" 43, fnd "are_lists" 44, fnd "are_values" 45, fnd "are_pairs" 46, fnd "are_unlike_names" 47, fnd "firsts" 48, fnd "is_figure" 49, fnd "is_spot" 50, fnd "is_piece" 51, fnd "is_script" 52, fnd "is_hat" 53, fnd "names_are_there" 54, fnd "scope_of" 55, fnd "all_there" 56, fnd "named_in" 57, fnd "named_by" 58, fnd "_law_begin" 60, fnd "_law_take" 61, fnd "_law_names" 62, fnd "_law_made" 63, fnd "_law_base" 64, fnd "_law_with" 65, fnd "_law_sizes_right" 66, fnd "_law_numbers_right" 67, fnd "_law_alike_right" 68, fnd "_law_hats_right" 69, fnd "law" 70]
def fa : List He.Fa := [.glo "is_number", .keep "is_number", .glo "is_value", .keep "is_value", .glo "is_name", .keep "is_name", .glo "is_look", .keep "is_look", .glo "is_test", .keep "is_test", .glo "is_part", .keep "is_part", .glo "is_worded", .keep "is_worded", .glo "has_parts", .keep "has_parts", .glo "names_in", .keep "names_in", .glo "is_row", .keep "is_row", .glo "is_from_to", .keep "is_from_to", .glo "are_unlike", .keep "are_unlike", .glo "is_block", .keep "is_block", .glo "is_inner_block", .keep "is_inner_block", .glo "is_deed", .keep "is_deed", .glo "is_deed_part", .keep "is_deed_part", .glo "is_play", .keep "is_play", .glo "is_shaped", .keep "is_shaped", .glo "is_size", .keep "is_size", .glo "are_names", .keep "are_names", .glo "are_lists", .keep "are_lists", .glo "are_values", .keep "are_values", .glo "are_pairs", .keep "are_pairs", .glo "are_unlike_names", .keep "are_unlike_names", .glo "firsts", .keep "firsts", .glo "is_figure", .keep "is_figure", .glo "is_spot", .keep "is_spot", .glo "is_piece", .keep "is_piece", .glo "is_script", .keep "is_script", .glo "is_hat", .keep "is_hat", .glo "names_are_there", .keep "names_are_there", .glo "scope_of", .keep "scope_of", .glo "all_there", .keep "all_there", .glo "named_in", .keep "named_in", .glo "named_by", .keep "named_by", .glo "_law_begin", .keep "_law_begin", .glo "_law_take", .keep "_law_take", .glo "_law_names", .keep "_law_names", .glo "_law_made", .keep "_law_made", .glo "_law_base", .keep "_law_base", .glo "_law_with", .keep "_law_with", .glo "_law_sizes_right", .keep "_law_sizes_right", .glo "_law_numbers_right", .keep "_law_numbers_right", .glo "_law_alike_right", .keep "_law_alike_right", .glo "_law_hats_right", .keep "_law_hats_right", .glo "law", .keep "law", .free "len", .free "int", .free "divmod", .free "list", .free "isinstance", .free "tuple", .free "all", .free "zip", .free "str", .free "bool", .free "range", .free "set", .int "LEAST_VALUE" (-1000000), .int "MOST_VALUE" (1000000), .int "LONGEST_NAME" (8), .int "DEEPEST" (6), .int "MOST_DEEDS" (8), .int "DEEPEST_BLOCK" (4), .int "MOST_PARAMS" (2), .int "WIDEST" (20), .int "MOST_NAMES" (4), .int "MOST_LISTS" (2), .int "MOST_VALUES" (8), .int "MOST_FIGURES" (4), .int "MOST_PIECES" (3), .int "MOST_SCRIPTS" (6), .int "WAYS" (4)]
def ck (K : Frag) : Bool := He.eqO (nsIn K mainGlobals "NAME_KINDS") (some (some (.ref 15))) && He.eqO (nsIn K mainGlobals "PARTS") (some (some (.ref 16))) && He.eqO (nsIn K mainGlobals "STOP_WORDS") (some (some (.ref 113))) && He.eqO (nsIn K mainGlobals "PIECE_KINDS") (some (some (.ref 114))) && He.eqO (nsIn K mainGlobals "PLAIN_HATS") (some (some (.ref 115))) && He.eqO (nsIn K mainGlobals "NAMED_HATS") (some (some (.ref 116))) && He.eqO (nsIn K mainGlobals "DEEDS") (some (some (.ref 117)))
def as : List Addr := [15, 16, 17, 18, 19, 20, 21, 22, 23, 24, 25, 26, 27, 28, 29, 30, 31, 32, 33, 34, 35, 36, 37, 38, 39, 40, 41, 42, 43, 44, 45, 46, 47, 48, 49, 50, 51, 52, 53, 113, 114, 115, 116, 117, 118, 119, 120, 121, 122, 123, 124, 125, 126, 127, 128, 129, 130, 131, 132, 133, 134, 135, 136, 137, 138, 139, 140, 141]
def objs (w : World) : List Obj := ([tO 198 ["name", "list", "figure"]]) ++ (finObjs w pr 16 202 parts ("test", "meets", ["figure"])) ++ ([tO 408 ["run", "others", "all"]]) ++ ([tO 412 ["open", "closed"]]) ++ ([tO 415 ["flag", "touch", "born"]]) ++ ([tO 419 ["key", "news"]]) ++ (objsT w pr 117 422 tl32 tm32)
abbrev R : OpenRow := OpenLaw.row PySem.Challenge.rw_figuredeeds_k13_plays_at_the_bounds
abbrev q : Program := view R.prog [70]
def loose : List PySem.Str := (["__name__", "LEAST_VALUE", "MOST_VALUE", "LONGEST_NAME", "DEEPEST", "NAME_KINDS", "PARTS", "is_number", "is_value", "is_name", "is_look", "is_test", "is_part", "is_worded", "has_parts"] : List PySem.Str) ++ (["names_in", "MOST_DEEDS", "DEEPEST_BLOCK", "MOST_PARAMS", "WIDEST", "MOST_NAMES", "MOST_LISTS", "MOST_VALUES", "MOST_FIGURES", "MOST_PIECES", "MOST_SCRIPTS", "WAYS", "STOP_WORDS", "PIECE_KINDS", "PLAIN_HATS"] : List PySem.Str) ++ (["NAMED_HATS", "DEEDS", "is_row", "is_from_to", "are_unlike", "is_block", "is_inner_block", "is_deed", "is_deed_part", "is_play", "is_shaped", "is_size", "are_names", "are_lists", "are_values"] : List PySem.Str) ++ (["are_pairs", "are_unlike_names", "firsts", "is_figure", "is_spot", "is_piece", "is_script", "is_hat", "names_are_there", "scope_of", "all_there", "named_in", "named_by", "_law_begin", "_law_take"] : List PySem.Str) ++ (["_law_names", "_law_made", "_law_base", "_law_with", "_law_sizes_right", "_law_numbers_right", "_law_alike_right", "_law_hats_right"] : List PySem.Str)
theorem run : RunM D q loose (fun s => xlAt q [] s && recOk R.toRowW.records s) (obY fa fn ck as 357) (hookY fa fn ck as 357 objs).val := by
  intro w os ps hp
  match ps, hp with
  | [p0, p1], _ => kernel_rfl
end K13

end
set_option Elab.async false
set_option linter.all false
set_option maxRecDepth 100000
set_option maxHeartbeats 0
namespace K13
open PySem PySem.W PySem.Calls PyProof.Rows HandSHeadRun Fw
theorem D_ok : D.Ok := by
  refine ⟨by kernel_rfl, fun w x hx => ?_, by decide +kernel⟩
  have hx : x ∈ ([.seg ((pr.main.body.drop 0).take 6) 226, .big "PARTS" (np st6) (dk st6) (dv st6) (dp st6) (ap st6) parts ("test", "meets", ["figure"]) 60, .seg ((pr.main.body.drop 7).take 25) 938, .two "DEEDS" (np st32) (dk st32) (dv st32) (dp st32) (ap st32) tl32 tm32 60] : List Stg) := hx
  rcases List.mem_cons.mp hx with rfl | hx
  · exact trivial
  rcases List.mem_cons.mp hx with rfl | hx
  · exact big_ok (by rfl) (by kernel_rfl) (by rfl) (by decide +kernel)
  rcases List.mem_cons.mp hx with rfl | hx
  · exact trivial
  rcases List.mem_cons.mp hx with rfl | hx
  · exact two_ok (by rfl) (by kernel_rfl) (by rfl) (by decide +kernel) (by decide +kernel) (by decide +kernel)
  · exact nomatch hx
theorem op_ok : opening D.p = plainProg D.p.main.scope.names := by kernel_rfl
theorem fe_ok : ∀ s, fenceModules? D.p s = some s := fun s => by rfl
end K13

open PySem PySem.W PyProof.Rows
set_option Elab.async false
set_option linter.all false
set_option maxRecDepth 100000
set_option maxHeartbeats 8000000
namespace Fd
open PySem PySem.Spec PyProof.Rows L2
theorem law_mk {w : World} {h : Heap} {mg : Str → Option Value} {fa : Addr} (Y : (Fw.hookY K13.fa K13.fn K13.ck K13.as 357 K13.objs).says w h) (G : h.Ns mainGlobals mg) (hfa : mg "law" = some (.ref fa)) :
    ∃ (K : PySem.W.Frag) (fd : FuncData), K.In h ∧ Fun K "law" "law" sLaw fa fd ∧ (∀ (s : Shared) (v : Value), BindsTo s fd ⟨[v], []⟩ [("_law_script", v)]) ∧ ∀ base : Heap, K.In base → base.Ns mainGlobals mg → LawD PySem.Challenge.rw_figuredeeds_k13_plays_at_the_bounds.prog w K mg base 40 := by
  obtain ⟨K, X, c, hck, hob⟩ := Y
  obtain ⟨oc0, od0, osl0, kV0, dc0, pm0, an0, cd0, ct0, l0, e0⟩ := c.def_ 0
  have F_is_number := fun_mk (x := "is_number") (qual := "is_number") (st := sIsNumB) (f := He.ga K "is_number") l0 e0 (He.keep_ok (c.fact 1))
  have D_is_number : Df K mg "is_number" sIsNumB ["thing"] (He.ga K "is_number") _ := ⟨F_is_number, He.glo_ok X G (c.fact 0), F_is_number.binds fun _ _ _ _ _ _ us hl => match us, hl with | [_], _ => rfl⟩
  obtain ⟨oc1, od1, osl1, kV1, dc1, pm1, an1, cd1, ct1, l1, e1⟩ := c.def_ 1
  have F_is_value := fun_mk (x := "is_value") (qual := "is_value") (st := sIsValB) (f := He.ga K "is_value") l1 e1 (He.keep_ok (c.fact 3))
  have D_is_value : Df K mg "is_value" sIsValB ["thing"] (He.ga K "is_value") _ := ⟨F_is_value, He.glo_ok X G (c.fact 2), F_is_value.binds fun _ _ _ _ _ _ us hl => match us, hl with | [_], _ => rfl⟩
  obtain ⟨oc2, od2, osl2, kV2, dc2, pm2, an2, cd2, ct2, l2, e2⟩ := c.def_ 2
  have F_is_name := fun_mk (x := "is_name") (qual := "is_name") (st := sIsName) (f := He.ga K "is_name") l2 e2 (He.keep_ok (c.fact 5))
  have D_is_name : Df K mg "is_name" sIsName ["thing"] (He.ga K "is_name") _ := ⟨F_is_name, He.glo_ok X G (c.fact 4), F_is_name.binds fun _ _ _ _ _ _ us hl => match us, hl with | [_], _ => rfl⟩
  obtain ⟨oc3, od3, osl3, kV3, dc3, pm3, an3, cd3, ct3, l3, e3⟩ := c.def_ 3
  have F_is_look := fun_mk (x := "is_look") (qual := "is_look") (st := sIsLk) (f := He.ga K "is_look") l3 e3 (He.keep_ok (c.fact 7))
  have D_is_look : Df K mg "is_look" sIsLk ["thing"] (He.ga K "is_look") _ := ⟨F_is_look, He.glo_ok X G (c.fact 6), F_is_look.binds fun _ _ _ _ _ _ us hl => match us, hl with | [_], _ => rfl⟩
  obtain ⟨oc4, od4, osl4, kV4, dc4, pm4, an4, cd4, ct4, l4, e4⟩ := c.def_ 4
  have F_is_test := fun_mk (x := "is_test") (qual := "is_test") (st := sIsTs) (f := He.ga K "is_test") l4 e4 (He.keep_ok (c.fact 9))
  have D_is_test : Df K mg "is_test" sIsTs ["thing"] (He.ga K "is_test") _ := ⟨F_is_test, He.glo_ok X G (c.fact 8), F_is_test.binds fun _ _ _ _ _ _ us hl => match us, hl with | [_], _ => rfl⟩
  obtain ⟨oc5, od5, osl5, kV5, dc5, pm5, an5, cd5, ct5, l5, e5⟩ := c.def_ 5
  have F_is_part := fun_mk (x := "is_part") (qual := "is_part") (st := sPart) (f := He.ga K "is_part") l5 e5 (He.keep_ok (c.fact 11))
  have D_is_part : Df K mg "is_part" sPart ["thing", "kind", "deep"] (He.ga K "is_part") _ := ⟨F_is_part, He.glo_ok X G (c.fact 10), F_is_part.binds fun _ _ _ _ _ _ us hl => match us, hl with | [_, _, _], _ => rfl⟩
  obtain ⟨oc6, od6, osl6, kV6, dc6, pm6, an6, cd6, ct6, l6, e6⟩ := c.def_ 6
  have F_is_worded := fun_mk (x := "is_worded") (qual := "is_worded") (st := sIsWd) (f := He.ga K "is_worded") l6 e6 (He.keep_ok (c.fact 13))
  have D_is_worded : Df K mg "is_worded" sIsWd ["thing"] (He.ga K "is_worded") _ := ⟨F_is_worded, He.glo_ok X G (c.fact 12), F_is_worded.binds fun _ _ _ _ _ _ us hl => match us, hl with | [_], _ => rfl⟩
  obtain ⟨oc7, od7, osl7, kV7, dc7, pm7, an7, cd7, ct7, l7, e7⟩ := c.def_ 7
  have F_has_parts := fun_mk (x := "has_parts") (qual := "has_parts") (st := sHas) (f := He.ga K "has_parts") l7 e7 (He.keep_ok (c.fact 15))
  have D_has_parts : Df K mg "has_parts" sHas ["thing", "kind", "deep"] (He.ga K "has_parts") _ := ⟨F_has_parts, He.glo_ok X G (c.fact 14), F_has_parts.binds fun _ _ _ _ _ _ us hl => match us, hl with | [_, _, _], _ => rfl⟩
  obtain ⟨oc8, od8, osl8, kV8, dc8, pm8, an8, cd8, ct8, l8, e8⟩ := c.def_ 8
  have F_names_in := fun_mk (x := "names_in") (qual := "names_in") (st := sNI) (f := He.ga K "names_in") l8 e8 (He.keep_ok (c.fact 17))
  have D_names_in : Df K mg "names_in" sNI ["part", "kind"] (He.ga K "names_in") _ := ⟨F_names_in, He.glo_ok X G (c.fact 16), F_names_in.binds fun _ _ _ _ _ _ us hl => match us, hl with | [_, _], _ => rfl⟩
  obtain ⟨oc9, od9, osl9, kV9, dc9, pm9, an9, cd9, ct9, l9, e9⟩ := c.def_ 9
  have F_is_row := fun_mk (x := "is_row") (qual := "is_row") (st := sRow) (f := He.ga K "is_row") l9 e9 (He.keep_ok (c.fact 19))
  have D_is_row : Df K mg "is_row" sRow ["thing", "least", "most"] (He.ga K "is_row") _ := ⟨F_is_row, He.glo_ok X G (c.fact 18), F_is_row.binds fun _ _ _ _ _ _ us hl => match us, hl with | [_, _, _], _ => rfl⟩
  obtain ⟨oc10, od10, osl10, kV10, dc10, pm10, an10, cd10, ct10, l10, e10⟩ := c.def_ 10
  have F_is_from_to := fun_mk (x := "is_from_to") (qual := "is_from_to") (st := sFT) (f := He.ga K "is_from_to") l10 e10 (He.keep_ok (c.fact 21))
  have D_is_from_to : Df K mg "is_from_to" sFT ["thing", "least", "most"] (He.ga K "is_from_to") _ := ⟨F_is_from_to, He.glo_ok X G (c.fact 20), F_is_from_to.binds fun _ _ _ _ _ _ us hl => match us, hl with | [_, _, _], _ => rfl⟩
  obtain ⟨oc11, od11, osl11, kV11, dc11, pm11, an11, cd11, ct11, l11, e11⟩ := c.def_ 11
  have F_are_unlike := fun_mk (x := "are_unlike") (qual := "are_unlike") (st := sUn) (f := He.ga K "are_unlike") l11 e11 (He.keep_ok (c.fact 23))
  have D_are_unlike : Df K mg "are_unlike" sUn ["names"] (He.ga K "are_unlike") _ := ⟨F_are_unlike, He.glo_ok X G (c.fact 22), F_are_unlike.binds fun _ _ _ _ _ _ us hl => match us, hl with | [_], _ => rfl⟩
  obtain ⟨oc12, od12, osl12, kV12, dc12, pm12, an12, cd12, ct12, l12, e12⟩ := c.def_ 12
  have F_is_block := fun_mk (x := "is_block") (qual := "is_block") (st := sBlock) (f := He.ga K "is_block") l12 e12 (He.keep_ok (c.fact 25))
  have D_is_block : Df K mg "is_block" sBlock ["thing"] (He.ga K "is_block") _ := ⟨F_is_block, He.glo_ok X G (c.fact 24), F_is_block.binds fun _ _ _ _ _ _ us hl => match us, hl with | [_], _ => rfl⟩
  obtain ⟨oc13, od13, osl13, kV13, dc13, pm13, an13, cd13, ct13, l13, e13⟩ := c.def_ 13
  have F_is_inner_block := fun_mk (x := "is_inner_block") (qual := "is_inner_block") (st := sInner) (f := He.ga K "is_inner_block") l13 e13 (He.keep_ok (c.fact 27))
  have D_is_inner_block : Df K mg "is_inner_block" sInner ["thing", "deep"] (He.ga K "is_inner_block") _ := ⟨F_is_inner_block, He.glo_ok X G (c.fact 26), F_is_inner_block.binds fun _ _ _ _ _ _ us hl => match us, hl with | [_, _], _ => rfl⟩
  obtain ⟨oc14, od14, osl14, kV14, dc14, pm14, an14, cd14, ct14, l14, e14⟩ := c.def_ 14
  have F_is_deed := fun_mk (x := "is_deed") (qual := "is_deed") (st := sDeed) (f := He.ga K "is_deed") l14 e14 (He.keep_ok (c.fact 29))
  have D_is_deed : Df K mg "is_deed" sDeed ["thing", "deep"] (He.ga K "is_deed") _ := ⟨F_is_deed, He.glo_ok X G (c.fact 28), F_is_deed.binds fun _ _ _ _ _ _ us hl => match us, hl with | [_, _], _ => rfl⟩
  obtain ⟨oc15, od15, osl15, kV15, dc15, pm15, an15, cd15, ct15, l15, e15⟩ := c.def_ 15
  have F_is_deed_part := fun_mk (x := "is_deed_part") (qual := "is_deed_part") (st := sDP) (f := He.ga K "is_deed_part") l15 e15 (He.keep_ok (c.fact 31))
  have D_is_deed_part : Df K mg "is_deed_part" sDP ["part", "kind", "deep"] (He.ga K "is_deed_part") _ := ⟨F_is_deed_part, He.glo_ok X G (c.fact 30), F_is_deed_part.binds fun _ _ _ _ _ _ us hl => match us, hl with | [_, _, _], _ => rfl⟩
  obtain ⟨oc16, od16, osl16, kV16, dc16, pm16, an16, cd16, ct16, l16, e16⟩ := c.def_ 16
  have F_is_play := fun_mk (x := "is_play") (qual := "is_play") (st := sPl) (f := He.ga K "is_play") l16 e16 (He.keep_ok (c.fact 33))
  have D_is_play : Df K mg "is_play" sPl ["thing"] (He.ga K "is_play") _ := ⟨F_is_play, He.glo_ok X G (c.fact 32), F_is_play.binds fun _ _ _ _ _ _ us hl => match us, hl with | [_], _ => rfl⟩
  obtain ⟨oc17, od17, osl17, kV17, dc17, pm17, an17, cd17, ct17, l17, e17⟩ := c.def_ 17
  have F_is_shaped := fun_mk (x := "is_shaped") (qual := "is_shaped") (st := sShp) (f := He.ga K "is_shaped") l17 e17 (He.keep_ok (c.fact 35))
  have D_is_shaped : Df K mg "is_shaped" sShp ["thing"] (He.ga K "is_shaped") _ := ⟨F_is_shaped, He.glo_ok X G (c.fact 34), F_is_shaped.binds fun _ _ _ _ _ _ us hl => match us, hl with | [_], _ => rfl⟩
  obtain ⟨oc18, od18, osl18, kV18, dc18, pm18, an18, cd18, ct18, l18, e18⟩ := c.def_ 18
  have F_is_size := fun_mk (x := "is_size") (qual := "is_size") (st := sSz) (f := He.ga K "is_size") l18 e18 (He.keep_ok (c.fact 37))
  have D_is_size : Df K mg "is_size" sSz ["thing"] (He.ga K "is_size") _ := ⟨F_is_size, He.glo_ok X G (c.fact 36), F_is_size.binds fun _ _ _ _ _ _ us hl => match us, hl with | [_], _ => rfl⟩
  obtain ⟨oc19, od19, osl19, kV19, dc19, pm19, an19, cd19, ct19, l19, e19⟩ := c.def_ 19
  have F_are_names := fun_mk (x := "are_names") (qual := "are_names") (st := sNs) (f := He.ga K "are_names") l19 e19 (He.keep_ok (c.fact 39))
  have D_are_names : Df K mg "are_names" sNs ["thing"] (He.ga K "are_names") _ := ⟨F_are_names, He.glo_ok X G (c.fact 38), F_are_names.binds fun _ _ _ _ _ _ us hl => match us, hl with | [_], _ => rfl⟩
  obtain ⟨oc20, od20, osl20, kV20, dc20, pm20, an20, cd20, ct20, l20, e20⟩ := c.def_ 20
  have F_are_lists := fun_mk (x := "are_lists") (qual := "are_lists") (st := sLs) (f := He.ga K "are_lists") l20 e20 (He.keep_ok (c.fact 41))
  have D_are_lists : Df K mg "are_lists" sLs ["thing"] (He.ga K "are_lists") _ := ⟨F_are_lists, He.glo_ok X G (c.fact 40), F_are_lists.binds fun _ _ _ _ _ _ us hl => match us, hl with | [_], _ => rfl⟩
  obtain ⟨oc21, od21, osl21, kV21, dc21, pm21, an21, cd21, ct21, l21, e21⟩ := c.def_ 21
  have F_are_values := fun_mk (x := "are_values") (qual := "are_values") (st := sVs) (f := He.ga K "are_values") l21 e21 (He.keep_ok (c.fact 43))
  have D_are_values : Df K mg "are_values" sVs ["thing"] (He.ga K "are_values") _ := ⟨F_are_values, He.glo_ok X G (c.fact 42), F_are_values.binds fun _ _ _ _ _ _ us hl => match us, hl with | [_], _ => rfl⟩
  obtain ⟨oc22, od22, osl22, kV22, dc22, pm22, an22, cd22, ct22, l22, e22⟩ := c.def_ 22
  have F_are_pairs := fun_mk (x := "are_pairs") (qual := "are_pairs") (st := sPr) (f := He.ga K "are_pairs") l22 e22 (He.keep_ok (c.fact 45))
  have D_are_pairs : Df K mg "are_pairs" sPr ["thing", "most"] (He.ga K "are_pairs") _ := ⟨F_are_pairs, He.glo_ok X G (c.fact 44), F_are_pairs.binds fun _ _ _ _ _ _ us hl => match us, hl with | [_, _], _ => rfl⟩
  obtain ⟨oc23, od23, osl23, kV23, dc23, pm23, an23, cd23, ct23, l23, e23⟩ := c.def_ 23
  have F_are_unlike_names := fun_mk (x := "are_unlike_names") (qual := "are_unlike_names") (st := sUN) (f := He.ga K "are_unlike_names") l23 e23 (He.keep_ok (c.fact 47))
  have D_are_unlike_names : Df K mg "are_unlike_names" sUN ["names"] (He.ga K "are_unlike_names") _ := ⟨F_are_unlike_names, He.glo_ok X G (c.fact 46), F_are_unlike_names.binds fun _ _ _ _ _ _ us hl => match us, hl with | [_], _ => rfl⟩
  obtain ⟨oc24, od24, osl24, kV24, dc24, pm24, an24, cd24, ct24, l24, e24⟩ := c.def_ 24
  have F_firsts := fun_mk (x := "firsts") (qual := "firsts") (st := sFi) (f := He.ga K "firsts") l24 e24 (He.keep_ok (c.fact 49))
  have D_firsts : Df K mg "firsts" sFi ["rows"] (He.ga K "firsts") _ := ⟨F_firsts, He.glo_ok X G (c.fact 48), F_firsts.binds fun _ _ _ _ _ _ us hl => match us, hl with | [_], _ => rfl⟩
  obtain ⟨oc25, od25, osl25, kV25, dc25, pm25, an25, cd25, ct25, l25, e25⟩ := c.def_ 25
  have F_is_figure := fun_mk (x := "is_figure") (qual := "is_figure") (st := sFig) (f := He.ga K "is_figure") l25 e25 (He.keep_ok (c.fact 51))
  have D_is_figure : Df K mg "is_figure" sFig ["thing", "size"] (He.ga K "is_figure") _ := ⟨F_is_figure, He.glo_ok X G (c.fact 50), F_is_figure.binds fun _ _ _ _ _ _ us hl => match us, hl with | [_, _], _ => rfl⟩
  obtain ⟨oc26, od26, osl26, kV26, dc26, pm26, an26, cd26, ct26, l26, e26⟩ := c.def_ 26
  have F_is_spot := fun_mk (x := "is_spot") (qual := "is_spot") (st := sSp) (f := He.ga K "is_spot") l26 e26 (He.keep_ok (c.fact 53))
  have D_is_spot : Df K mg "is_spot" sSp ["thing", "size"] (He.ga K "is_spot") _ := ⟨F_is_spot, He.glo_ok X G (c.fact 52), F_is_spot.binds fun _ _ _ _ _ _ us hl => match us, hl with | [_, _], _ => rfl⟩
  obtain ⟨oc27, od27, osl27, kV27, dc27, pm27, an27, cd27, ct27, l27, e27⟩ := c.def_ 27
  have F_is_piece := fun_mk (x := "is_piece") (qual := "is_piece") (st := sPie) (f := He.ga K "is_piece") l27 e27 (He.keep_ok (c.fact 55))
  have D_is_piece : Df K mg "is_piece" sPie ["thing"] (He.ga K "is_piece") _ := ⟨F_is_piece, He.glo_ok X G (c.fact 54), F_is_piece.binds fun _ _ _ _ _ _ us hl => match us, hl with | [_], _ => rfl⟩
  obtain ⟨oc28, od28, osl28, kV28, dc28, pm28, an28, cd28, ct28, l28, e28⟩ := c.def_ 28
  have F_is_script := fun_mk (x := "is_script") (qual := "is_script") (st := sScr) (f := He.ga K "is_script") l28 e28 (He.keep_ok (c.fact 57))
  have D_is_script : Df K mg "is_script" sScr ["thing"] (He.ga K "is_script") _ := ⟨F_is_script, He.glo_ok X G (c.fact 56), F_is_script.binds fun _ _ _ _ _ _ us hl => match us, hl with | [_], _ => rfl⟩
  obtain ⟨oc29, od29, osl29, kV29, dc29, pm29, an29, cd29, ct29, l29, e29⟩ := c.def_ 29
  have F_is_hat := fun_mk (x := "is_hat") (qual := "is_hat") (st := sHat) (f := He.ga K "is_hat") l29 e29 (He.keep_ok (c.fact 59))
  have D_is_hat : Df K mg "is_hat" sHat ["thing"] (He.ga K "is_hat") _ := ⟨F_is_hat, He.glo_ok X G (c.fact 58), F_is_hat.binds fun _ _ _ _ _ _ us hl => match us, hl with | [_], _ => rfl⟩
  obtain ⟨oc30, od30, osl30, kV30, dc30, pm30, an30, cd30, ct30, l30, e30⟩ := c.def_ 30
  have F_names_are_there := fun_mk (x := "names_are_there") (qual := "names_are_there") (st := sNT) (f := He.ga K "names_are_there") l30 e30 (He.keep_ok (c.fact 61))
  have D_names_are_there : Df K mg "names_are_there" sNT ["play", "figure"] (He.ga K "names_are_there") _ := ⟨F_names_are_there, He.glo_ok X G (c.fact 60), F_names_are_there.binds fun _ _ _ _ _ _ us hl => match us, hl with | [_, _], _ => rfl⟩
  obtain ⟨oc31, od31, osl31, kV31, dc31, pm31, an31, cd31, ct31, l31, e31⟩ := c.def_ 31
  have F_scope_of := fun_mk (x := "scope_of") (qual := "scope_of") (st := sSc) (f := He.ga K "scope_of") l31 e31 (He.keep_ok (c.fact 63))
  have D_scope_of : Df K mg "scope_of" sSc ["play", "figure", "params"] (He.ga K "scope_of") _ := ⟨F_scope_of, He.glo_ok X G (c.fact 62), F_scope_of.binds fun _ _ _ _ _ _ us hl => match us, hl with | [_, _, _], _ => rfl⟩
  obtain ⟨oc32, od32, osl32, kV32, dc32, pm32, an32, cd32, ct32, l32, e32⟩ := c.def_ 32
  have F_all_there := fun_mk (x := "all_there") (qual := "all_there") (st := sAT) (f := He.ga K "all_there") l32 e32 (He.keep_ok (c.fact 65))
  have D_all_there : Df K mg "all_there" sAT ["block", "scope"] (He.ga K "all_there") _ := ⟨F_all_there, He.glo_ok X G (c.fact 64), F_all_there.binds fun _ _ _ _ _ _ us hl => match us, hl with | [_, _], _ => rfl⟩
  obtain ⟨oc33, od33, osl33, kV33, dc33, pm33, an33, cd33, ct33, l33, e33⟩ := c.def_ 33
  have F_named_in := fun_mk (x := "named_in") (qual := "named_in") (st := sNin) (f := He.ga K "named_in") l33 e33 (He.keep_ok (c.fact 67))
  have D_named_in : Df K mg "named_in" sNin ["block"] (He.ga K "named_in") _ := ⟨F_named_in, He.glo_ok X G (c.fact 66), F_named_in.binds fun _ _ _ _ _ _ us hl => match us, hl with | [_], _ => rfl⟩
  obtain ⟨oc34, od34, osl34, kV34, dc34, pm34, an34, cd34, ct34, l34, e34⟩ := c.def_ 34
  have F_named_by := fun_mk (x := "named_by") (qual := "named_by") (st := sNB) (f := He.ga K "named_by") l34 e34 (He.keep_ok (c.fact 69))
  have D_named_by : Df K mg "named_by" sNB ["part", "kind"] (He.ga K "named_by") _ := ⟨F_named_by, He.glo_ok X G (c.fact 68), F_named_by.binds fun _ _ _ _ _ _ us hl => match us, hl with | [_, _], _ => rfl⟩
  obtain ⟨oc35, od35, osl35, kV35, dc35, pm35, an35, cd35, ct35, l35, e35⟩ := c.def_ 35
  have F__law_begin := fun_mk (x := "_law_begin") (qual := "_law_begin") (st := sBegin) (f := He.ga K "_law_begin") l35 e35 (He.keep_ok (c.fact 71))
  have D__law_begin : Df K mg "_law_begin" sBegin ["_law_script"] (He.ga K "_law_begin") _ := ⟨F__law_begin, He.glo_ok X G (c.fact 70), F__law_begin.binds fun _ _ _ _ _ _ us hl => match us, hl with | [_], _ => rfl⟩
  obtain ⟨oc36, od36, osl36, kV36, dc36, pm36, an36, cd36, ct36, l36, e36⟩ := c.def_ 36
  have F__law_take := fun_mk (x := "_law_take") (qual := "_law_take") (st := sTake) (f := He.ga K "_law_take") l36 e36 (He.keep_ok (c.fact 73))
  have D__law_take : Df K mg "_law_take" sTake ["_law_state", "_law_below"] (He.ga K "_law_take") _ := ⟨F__law_take, He.glo_ok X G (c.fact 72), F__law_take.binds fun _ _ _ _ _ _ us hl => match us, hl with | [_, _], _ => rfl⟩
  obtain ⟨oc37, od37, osl37, kV37, dc37, pm37, an37, cd37, ct37, l37, e37⟩ := c.def_ 37
  have F__law_names := fun_mk (x := "_law_names") (qual := "_law_names") (st := sNames) (f := He.ga K "_law_names") l37 e37 (He.keep_ok (c.fact 75))
  have D__law_names : Df K mg "_law_names" sNames ["_law_state", "_law_many"] (He.ga K "_law_names") _ := ⟨F__law_names, He.glo_ok X G (c.fact 74), F__law_names.binds fun _ _ _ _ _ _ us hl => match us, hl with | [_, _], _ => rfl⟩
  obtain ⟨oc38, od38, osl38, kV38, dc38, pm38, an38, cd38, ct38, l38, e38⟩ := c.def_ 38
  have F__law_made := fun_mk (x := "_law_made") (qual := "_law_made") (st := sMade) (f := He.ga K "_law_made") l38 e38 (He.keep_ok (c.fact 77))
  have D__law_made : Df K mg "_law_made" sMade ["_law_w"] (He.ga K "_law_made") _ := ⟨F__law_made, He.glo_ok X G (c.fact 76), F__law_made.binds fun _ _ _ _ _ _ us hl => match us, hl with | [_], _ => rfl⟩
  obtain ⟨oc39, od39, osl39, kV39, dc39, pm39, an39, cd39, ct39, l39, e39⟩ := c.def_ 39
  have F__law_base := fun_mk (x := "_law_base") (qual := "_law_base") (st := sBase) (f := He.ga K "_law_base") l39 e39 (He.keep_ok (c.fact 79))
  have D__law_base : Df K mg "_law_base" sBase ["_law_n"] (He.ga K "_law_base") _ := ⟨F__law_base, He.glo_ok X G (c.fact 78), F__law_base.binds fun _ _ _ _ _ _ us hl => match us, hl with | [_], _ => rfl⟩
  obtain ⟨oc40, od40, osl40, kV40, dc40, pm40, an40, cd40, ct40, l40, e40⟩ := c.def_ 40
  have F__law_with := fun_mk (x := "_law_with") (qual := "_law_with") (st := sWith) (f := He.ga K "_law_with") l40 e40 (He.keep_ok (c.fact 81))
  have D__law_with : Df K mg "_law_with" sWith ["_law_n", "_law_changes"] (He.ga K "_law_with") _ := ⟨F__law_with, He.glo_ok X G (c.fact 80), F__law_with.binds fun _ _ _ _ _ _ us hl => match us, hl with | [_, _], _ => rfl⟩
  obtain ⟨oc41, od41, osl41, kV41, dc41, pm41, an41, cd41, ct41, l41, e41⟩ := c.def_ 41
  have F__law_sizes_right := fun_mk (x := "_law_sizes_right") (qual := "_law_sizes_right") (st := sZs) (f := He.ga K "_law_sizes_right") l41 e41 (He.keep_ok (c.fact 83))
  have D__law_sizes_right : Df K mg "_law_sizes_right" sZs ["_law_n"] (He.ga K "_law_sizes_right") _ := ⟨F__law_sizes_right, He.glo_ok X G (c.fact 82), F__law_sizes_right.binds fun _ _ _ _ _ _ us hl => match us, hl with | [_], _ => rfl⟩
  obtain ⟨oc42, od42, osl42, kV42, dc42, pm42, an42, cd42, ct42, l42, e42⟩ := c.def_ 42
  have F__law_numbers_right := fun_mk (x := "_law_numbers_right") (qual := "_law_numbers_right") (st := sZn) (f := He.ga K "_law_numbers_right") l42 e42 (He.keep_ok (c.fact 85))
  have D__law_numbers_right : Df K mg "_law_numbers_right" sZn ["_law_state", "_law_n"] (He.ga K "_law_numbers_right") _ := ⟨F__law_numbers_right, He.glo_ok X G (c.fact 84), F__law_numbers_right.binds fun _ _ _ _ _ _ us hl => match us, hl with | [_, _], _ => rfl⟩
  obtain ⟨oc43, od43, osl43, kV43, dc43, pm43, an43, cd43, ct43, l43, e43⟩ := c.def_ 43
  have F__law_alike_right := fun_mk (x := "_law_alike_right") (qual := "_law_alike_right") (st := sZl) (f := He.ga K "_law_alike_right") l43 e43 (He.keep_ok (c.fact 87))
  have D__law_alike_right : Df K mg "_law_alike_right" sZl ["_law_n"] (He.ga K "_law_alike_right") _ := ⟨F__law_alike_right, He.glo_ok X G (c.fact 86), F__law_alike_right.binds fun _ _ _ _ _ _ us hl => match us, hl with | [_], _ => rfl⟩
  obtain ⟨oc44, od44, osl44, kV44, dc44, pm44, an44, cd44, ct44, l44, e44⟩ := c.def_ 44
  have F__law_hats_right := fun_mk (x := "_law_hats_right") (qual := "_law_hats_right") (st := sHt) (f := He.ga K "_law_hats_right") l44 e44 (He.keep_ok (c.fact 89))
  have D__law_hats_right : Df K mg "_law_hats_right" sHt ["_law_n"] (He.ga K "_law_hats_right") _ := ⟨F__law_hats_right, He.glo_ok X G (c.fact 88), F__law_hats_right.binds fun _ _ _ _ _ _ us hl => match us, hl with | [_], _ => rfl⟩
  obtain ⟨oc45, od45, osl45, kV45, dc45, pm45, an45, cd45, ct45, l45, e45⟩ := c.def_ 45
  have F_law := fun_mk (x := "law") (qual := "law") (st := sLaw) (f := He.ga K "law") l45 e45 (He.keep_ok (c.fact 91))
  obtain rfl : fa = He.ga K "law" := Value.ref.inj (Option.some.inj (hfa.symm.trans (He.glo_ok X G (c.fact 90))))
  have m_len : mg "len" = none := He.free_ok X G (c.fact 92)
  have m_int : mg "int" = none := He.free_ok X G (c.fact 93)
  have m_divmod : mg "divmod" = none := He.free_ok X G (c.fact 94)
  have m_list : mg "list" = none := He.free_ok X G (c.fact 95)
  have m_isinstance : mg "isinstance" = none := He.free_ok X G (c.fact 96)
  have m_tuple : mg "tuple" = none := He.free_ok X G (c.fact 97)
  have m_all : mg "all" = none := He.free_ok X G (c.fact 98)
  have m_zip : mg "zip" = none := He.free_ok X G (c.fact 99)
  have m_str : mg "str" = none := He.free_ok X G (c.fact 100)
  have m_bool : mg "bool" = none := He.free_ok X G (c.fact 101)
  have m_range : mg "range" = none := He.free_ok X G (c.fact 102)
  have m_set : mg "set" = none := He.free_ok X G (c.fact 103)
  obtain ⟨t_LEAST_VALUE, m_LEAST_VALUE⟩ := He.int_ok X G (c.fact 104)
  obtain ⟨t_MOST_VALUE, m_MOST_VALUE⟩ := He.int_ok X G (c.fact 105)
  obtain ⟨t_LONGEST_NAME, m_LONGEST_NAME⟩ := He.int_ok X G (c.fact 106)
  obtain ⟨t_DEEPEST, m_DEEPEST⟩ := He.int_ok X G (c.fact 107)
  obtain ⟨t_MOST_DEEDS, m_MOST_DEEDS⟩ := He.int_ok X G (c.fact 108)
  obtain ⟨t_DEEPEST_BLOCK, m_DEEPEST_BLOCK⟩ := He.int_ok X G (c.fact 109)
  obtain ⟨t_MOST_PARAMS, m_MOST_PARAMS⟩ := He.int_ok X G (c.fact 110)
  obtain ⟨t_WIDEST, m_WIDEST⟩ := He.int_ok X G (c.fact 111)
  obtain ⟨t_MOST_NAMES, m_MOST_NAMES⟩ := He.int_ok X G (c.fact 112)
  obtain ⟨t_MOST_LISTS, m_MOST_LISTS⟩ := He.int_ok X G (c.fact 113)
  obtain ⟨t_MOST_VALUES, m_MOST_VALUES⟩ := He.int_ok X G (c.fact 114)
  obtain ⟨t_MOST_FIGURES, m_MOST_FIGURES⟩ := He.int_ok X G (c.fact 115)
  obtain ⟨t_MOST_PIECES, m_MOST_PIECES⟩ := He.int_ok X G (c.fact 116)
  obtain ⟨t_MOST_SCRIPTS, m_MOST_SCRIPTS⟩ := He.int_ok X G (c.fact 117)
  obtain ⟨t_WAYS, m_WAYS⟩ := He.int_ok X G (c.fact 118)
  unfold K13.ck at hck
  simp only [Bool.and_eq_true] at hck
  obtain ⟨⟨⟨⟨⟨⟨q0, q1⟩, q2⟩, q3⟩, q4⟩, q5⟩, q6⟩ := hck
  have m_NAME_KINDS : mg "NAME_KINDS" = some (.ref 15) := PySem.W.mg_of X G (He.eqO_ok q0)
  have m_PARTS : mg "PARTS" = some (.ref 16) := PySem.W.mg_of X G (He.eqO_ok q1)
  have m_STOP_WORDS : mg "STOP_WORDS" = some (.ref 113) := PySem.W.mg_of X G (He.eqO_ok q2)
  have m_PIECE_KINDS : mg "PIECE_KINDS" = some (.ref 114) := PySem.W.mg_of X G (He.eqO_ok q3)
  have m_PLAIN_HATS : mg "PLAIN_HATS" = some (.ref 115) := PySem.W.mg_of X G (He.eqO_ok q4)
  have m_NAMED_HATS : mg "NAMED_HATS" = some (.ref 116) := PySem.W.mg_of X G (He.eqO_ok q5)
  have m_DEEDS : mg "DEEDS" = some (.ref 117) := PySem.W.mg_of X G (He.eqO_ok q6)
  have seg0 : ∀ (i : Nat) (o : Obj), ([Fw.tO 198 ["name", "list", "figure"]])[i]? = some o → K.lookup (15 + i) = some o := Fw.seg_of (pre := []) (post := (Fw.finObjs w K13.pr 16 202 K13.parts ("test", "meets", ["figure"])) ++ ([Fw.tO 408 ["run", "others", "all"]]) ++ ([Fw.tO 412 ["open", "closed"]]) ++ ([Fw.tO 415 ["flag", "touch", "born"]]) ++ ([Fw.tO 419 ["key", "news"]]) ++ (Fw.objsT w K13.pr 117 422 K13.tl32 K13.tm32)) (k := 0) (n := 1) hob (by simp only [K13.objs, List.append_assoc, List.nil_append, List.append_nil, List.cons_append]) rfl rfl (by decide)
  have seg1 : ∀ (i : Nat) (o : Obj), (Fw.finObjs w K13.pr 16 202 K13.parts ("test", "meets", ["figure"]))[i]? = some o → K.lookup (16 + i) = some o := Fw.seg_of (pre := ([Fw.tO 198 ["name", "list", "figure"]])) (post := ([Fw.tO 408 ["run", "others", "all"]]) ++ ([Fw.tO 412 ["open", "closed"]]) ++ ([Fw.tO 415 ["flag", "touch", "born"]]) ++ ([Fw.tO 419 ["key", "news"]]) ++ (Fw.objsT w K13.pr 117 422 K13.tl32 K13.tm32)) (k := 1) (n := 38) hob (by simp only [K13.objs, List.append_assoc, List.nil_append, List.append_nil, List.cons_append]) rfl rfl (by decide)
  have seg2 : ∀ (i : Nat) (o : Obj), ([Fw.tO 408 ["run", "others", "all"]])[i]? = some o → K.lookup (113 + i) = some o := Fw.seg_of (pre := ([Fw.tO 198 ["name", "list", "figure"]]) ++ (Fw.finObjs w K13.pr 16 202 K13.parts ("test", "meets", ["figure"]))) (post := ([Fw.tO 412 ["open", "closed"]]) ++ ([Fw.tO 415 ["flag", "touch", "born"]]) ++ ([Fw.tO 419 ["key", "news"]]) ++ (Fw.objsT w K13.pr 117 422 K13.tl32 K13.tm32)) (k := 39) (n := 1) hob (by simp only [K13.objs, List.append_assoc, List.nil_append, List.append_nil, List.cons_append]) rfl rfl (by decide)
  have seg3 : ∀ (i : Nat) (o : Obj), ([Fw.tO 412 ["open", "closed"]])[i]? = some o → K.lookup (114 + i) = some o := Fw.seg_of (pre := ([Fw.tO 198 ["name", "list", "figure"]]) ++ (Fw.finObjs w K13.pr 16 202 K13.parts ("test", "meets", ["figure"])) ++ ([Fw.tO 408 ["run", "others", "all"]])) (post := ([Fw.tO 415 ["flag", "touch", "born"]]) ++ ([Fw.tO 419 ["key", "news"]]) ++ (Fw.objsT w K13.pr 117 422 K13.tl32 K13.tm32)) (k := 40) (n := 1) hob (by simp only [K13.objs, List.append_assoc, List.nil_append, List.append_nil, List.cons_append]) rfl rfl (by decide)
  have seg4 : ∀ (i : Nat) (o : Obj), ([Fw.tO 415 ["flag", "touch", "born"]])[i]? = some o → K.lookup (115 + i) = some o := Fw.seg_of (pre := ([Fw.tO 198 ["name", "list", "figure"]]) ++ (Fw.finObjs w K13.pr 16 202 K13.parts ("test", "meets", ["figure"])) ++ ([Fw.tO 408 ["run", "others", "all"]]) ++ ([Fw.tO 412 ["open", "closed"]])) (post := ([Fw.tO 419 ["key", "news"]]) ++ (Fw.objsT w K13.pr 117 422 K13.tl32 K13.tm32)) (k := 41) (n := 1) hob (by simp only [K13.objs, List.append_assoc, List.nil_append, List.append_nil, List.cons_append]) rfl rfl (by decide)
  have seg5 : ∀ (i : Nat) (o : Obj), ([Fw.tO 419 ["key", "news"]])[i]? = some o → K.lookup (116 + i) = some o := Fw.seg_of (pre := ([Fw.tO 198 ["name", "list", "figure"]]) ++ (Fw.finObjs w K13.pr 16 202 K13.parts ("test", "meets", ["figure"])) ++ ([Fw.tO 408 ["run", "others", "all"]]) ++ ([Fw.tO 412 ["open", "closed"]]) ++ ([Fw.tO 415 ["flag", "touch", "born"]])) (post := (Fw.objsT w K13.pr 117 422 K13.tl32 K13.tm32)) (k := 42) (n := 1) hob (by simp only [K13.objs, List.append_assoc, List.nil_append, List.append_nil, List.cons_append]) rfl rfl (by decide)
  have seg6 : ∀ (i : Nat) (o : Obj), (Fw.objsT w K13.pr 117 422 K13.tl32 K13.tm32)[i]? = some o → K.lookup (117 + i) = some o := Fw.seg_of (pre := ([Fw.tO 198 ["name", "list", "figure"]]) ++ (Fw.finObjs w K13.pr 16 202 K13.parts ("test", "meets", ["figure"])) ++ ([Fw.tO 408 ["run", "others", "all"]]) ++ ([Fw.tO 412 ["open", "closed"]]) ++ ([Fw.tO 415 ["flag", "touch", "born"]]) ++ ([Fw.tO 419 ["key", "news"]])) (post := []) (k := 43) (n := 25) hob (by simp only [K13.objs, List.append_assoc, List.nil_append, List.append_nil, List.cons_append]) rfl rfl (by decide)
  have hT15 : ∀ H, SqT K H 15 ((["name", "list", "figure"] : List Str).map V.str) := fun H => Fw.tO_sqT (t := 198) (seg0 0 _ rfl) (by decide)
  have hP : Fw.Parts PySem.Challenge.rw_figuredeeds_k13_plays_at_the_bounds.prog w K 16 gP := Fw.parts_of (t := 202) (L := K13.parts) (p := ("test", "meets", ["figure"])) seg1 (by decide) (by decide +kernel) (fun x hx => by
    have : ∀ x ∈ K13.parts ++ ([("test", "meets", ["figure"])] : List Fw.PK), x.2.2.length ≤ 2 := by decide +kernel
    exact Nat.le_trans (this x hx) (by decide))
  have hT113 : ∀ H, SqT K H 113 ((["run", "others", "all"] : List Str).map V.str) := fun H => Fw.tO_sqT (t := 408) (seg2 0 _ rfl) (by decide)
  have hT114 : ∀ H, SqT K H 114 ((["open", "closed"] : List Str).map V.str) := fun H => Fw.tO_sqT (t := 412) (seg3 0 _ rfl) (by decide)
  have hT115 : ∀ H, SqT K H 115 ((["flag", "touch", "born"] : List Str).map V.str) := fun H => Fw.tO_sqT (t := 415) (seg4 0 _ rfl) (by decide)
  have hT116 : ∀ H, SqT K H 116 ((["key", "news"] : List Str).map V.str) := fun H => Fw.tO_sqT (t := 419) (seg5 0 _ rfl) (by decide)
  have hD : Fw.Deeds PySem.Challenge.rw_figuredeeds_k13_plays_at_the_bounds.prog w K 117 gD := Fw.deeds_of (t := 422) (L := K13.tl32) (M := K13.tm32) seg6 (by decide) (by decide +kernel) (fun x hx => by
    have : ∀ x ∈ K13.tl32 ++ K13.tm32, x.2.length ≤ 3 := by decide +kernel
    exact Nat.le_trans (this x hx) (by decide))
  refine ⟨K, _, X, F_law, fun s v => .of_eq rfl, fun base _ _ => ?_⟩
  have gNB : FnG PySem.Challenge.rw_figuredeeds_k13_plays_at_the_bounds.prog w K mg base CX0 1 "is_number" ["thing"] (spB K (fun _ => True) isNum) := D_is_number.g (ok_isNumB D_is_number.F m_isinstance m_int m_bool)
  have gIB : FnG PySem.Challenge.rw_figuredeeds_k13_plays_at_the_bounds.prog w K mg base CX0 2 "is_value" ["thing"] (spB K (fun _ => True) isVal) := D_is_value.g (ok_isValB D_is_value.F gNB m_LEAST_VALUE m_MOST_VALUE)
  have gM : FnG PySem.Challenge.rw_figuredeeds_k13_plays_at_the_bounds.prog w K mg base CX0 1 "is_name" ["thing"] (spB K TxOk isNm) := D_is_name.g (ok_isName D_is_name.F m_isinstance m_str m_len m_all m_LONGEST_NAME)
  have gW : FnG PySem.Challenge.rw_figuredeeds_k13_plays_at_the_bounds.prog w K mg base CX0 1 "is_worded" ["thing"] (spB K (fun _ => True) isWd) := D_is_worded.g (ok_isWd D_is_worded.F m_isinstance m_tuple m_str m_len)
  have gPt := ok_parts (base := base) D_is_part D_has_parts (gM.mono (by decide)) (gIB.mono (by decide)) (gW.mono (by decide)) m_len m_all m_zip m_PARTS hP m_NAME_KINDS hT15 6
  have gLk : FnG PySem.Challenge.rw_figuredeeds_k13_plays_at_the_bounds.prog w K mg base CX0 17 "is_look" ["thing"] (spB K OkA (isPart 6 "look")) := D_is_look.g (ok_isLk D_is_look.F gPt m_DEEPEST)
  have gTs : FnG PySem.Challenge.rw_figuredeeds_k13_plays_at_the_bounds.prog w K mg base CX0 17 "is_test" ["thing"] (spB K OkA (isPart 6 "test")) := D_is_test.g (ok_isTs D_is_test.F gPt m_DEEPEST)
  have gRw : FnG PySem.Challenge.rw_figuredeeds_k13_plays_at_the_bounds.prog w K mg base CX0 1 "is_row" ["thing", "least", "most"] (spRow K) := D_is_row.g (ok_row D_is_row.F m_isinstance m_tuple m_len)
  have gIn := ok_inners (base := base) ⟨gM.mono (by decide), gLk.mono (by decide), gTs.mono (by decide), gW.mono (by decide), gRw.mono (by decide), D_is_inner_block, D_is_deed, D_is_deed_part, m_len, m_all, m_zip, ⟨_, m_MOST_DEEDS⟩, ⟨_, m_MOST_PARAMS⟩, m_STOP_WORDS, hT113, m_DEEDS, hD⟩ 4
  have gBk : FnG PySem.Challenge.rw_figuredeeds_k13_plays_at_the_bounds.prog w K mg base CX0 33 "is_block" ["thing"] (spB K OkA (innerB 4)) := D_is_block.g (ok_block D_is_block.F gIn m_DEEPEST_BLOCK)
  have gBe : FnG PySem.Challenge.rw_figuredeeds_k13_plays_at_the_bounds.prog w K mg base CX0 1 "_law_begin" ["_law_script"] (spBegin K) := D__law_begin.g (ok_begin D__law_begin.F m_list)
  have gT : FnG PySem.Challenge.rw_figuredeeds_k13_plays_at_the_bounds.prog w K mg base CX0 1 "_law_take" ["_law_state", "_law_below"] spTake := D__law_take.g (ok_take D__law_take.F m_divmod m_len)
  have gFT : FnG PySem.Challenge.rw_figuredeeds_k13_plays_at_the_bounds.prog w K mg base CX0 2 "is_from_to" ["thing", "least", "most"] (spFT K) := D_is_from_to.g (ok_ft D_is_from_to.F gNB)
  have gUn : FnG PySem.Challenge.rw_figuredeeds_k13_plays_at_the_bounds.prog w K mg base CX0 1 "are_unlike" ["names"] (spUn K) := D_are_unlike.g (ok_un D_are_unlike.F m_len m_set)
  have gFi : FnG PySem.Challenge.rw_figuredeeds_k13_plays_at_the_bounds.prog w K mg base CX0 1 "firsts" ["rows"] (spFi K) := D_firsts.g (ok_fi D_firsts.F)
  have gUN : FnG PySem.Challenge.rw_figuredeeds_k13_plays_at_the_bounds.prog w K mg base CX0 2 "are_unlike_names" ["names"] (spUN K) := D_are_unlike_names.g (ok_unn D_are_unlike_names.F gM gUn m_all)
  have gVs : FnG PySem.Challenge.rw_figuredeeds_k13_plays_at_the_bounds.prog w K mg base CX0 3 "are_values" ["thing"] (spB K OkA valsB) := D_are_values.g (ok_vs D_are_values.F (gRw.mono (by decide)) gIB m_all m_MOST_VALUES)
  have gSz : FnG PySem.Challenge.rw_figuredeeds_k13_plays_at_the_bounds.prog w K mg base CX0 3 "is_size" ["thing"] (spB K OkA sizeB) := D_is_size.g (ok_sz D_is_size.F (gRw.mono (by decide)) gFT m_all m_WIDEST)
  have gPr : FnG PySem.Challenge.rw_figuredeeds_k13_plays_at_the_bounds.prog w K mg base CX0 3 "are_pairs" ["thing", "most"] (spPr K) := D_are_pairs.g (ok_pr D_are_pairs.F (gRw.mono (by decide)) (gFi.mono (by decide)) gUN m_all)
  have gNs : FnG PySem.Challenge.rw_figuredeeds_k13_plays_at_the_bounds.prog w K mg base CX0 4 "are_names" ["thing"] (spB K OkA namesB) := D_are_names.g (ok_ns D_are_names.F gPr (gIB.mono (by decide)) m_all m_MOST_NAMES)
  have gLs : FnG PySem.Challenge.rw_figuredeeds_k13_plays_at_the_bounds.prog w K mg base CX0 4 "are_lists" ["thing"] (spB K OkA listsB) := D_are_lists.g (ok_ls D_are_lists.F gPr gVs m_all m_MOST_LISTS)
  have gSp : FnG PySem.Challenge.rw_figuredeeds_k13_plays_at_the_bounds.prog w K mg base CX0 3 "is_spot" ["thing", "size"] (spSp K) := D_is_spot.g (ok_sp D_is_spot.F (gRw.mono (by decide)) gFT m_len m_all m_zip m_WAYS)
  have gHat : FnG PySem.Challenge.rw_figuredeeds_k13_plays_at_the_bounds.prog w K mg base CX0 2 "is_hat" ["thing"] (spB K OkA hatB) := D_is_hat.g (ok_hat D_is_hat.F gW gM m_len m_NAMED_HATS m_PLAIN_HATS hT116 hT115)
  have gScr : FnG PySem.Challenge.rw_figuredeeds_k13_plays_at_the_bounds.prog w K mg base CX0 34 "is_script" ["thing"] (spB K OkA scriptB) := D_is_script.g (ok_scr D_is_script.F (gRw.mono (by decide)) (gHat.mono (by decide)) gBk)
  have gPie : FnG PySem.Challenge.rw_figuredeeds_k13_plays_at_the_bounds.prog w K mg base CX0 34 "is_piece" ["thing"] (spB K OkA pieceB) := D_is_piece.g (ok_pie D_is_piece.F (gRw.mono (by decide)) (gM.mono (by decide)) gBk (gUN.mono (by decide)) m_PIECE_KINDS m_MOST_PARAMS hT114)
  have gFg : FnG PySem.Challenge.rw_figuredeeds_k13_plays_at_the_bounds.prog w K mg base CX0 35 "is_figure" ["thing", "size"] (spFg K) := D_is_figure.g (ok_fig D_is_figure.F (gRw.mono (by decide)) (gM.mono (by decide)) (gSp.mono (by decide)) (gNs.mono (by decide)) (gLs.mono (by decide)) gPie gScr (gFi.mono (by decide)) (gUn.mono (by decide)) m_all m_MOST_PIECES m_MOST_SCRIPTS)
  have gSh : FnG PySem.Challenge.rw_figuredeeds_k13_plays_at_the_bounds.prog w K mg base CX0 36 "is_shaped" ["thing"] (spB K OkA shapedB) := D_is_shaped.g (ok_shp D_is_shaped.F (gRw.mono (by decide)) (gSz.mono (by decide)) (gNs.mono (by decide)) (gLs.mono (by decide)) gFg (gFi.mono (by decide)) (gUn.mono (by decide)) m_all m_MOST_FIGURES)
  have gNI := ok_nis (base := base) D_names_in gNB m_zip m_NAME_KINDS hT15 m_PARTS hP 6
  have gNin := ok_nins (base := base) D_named_in D_named_by gNI m_len m_zip m_DEEDS hD 4
  have gAT : FnG PySem.Challenge.rw_figuredeeds_k13_plays_at_the_bounds.prog w K mg base CX0 17 "all_there" ["block", "scope"] (spAT K) := D_all_there.g (ok_at D_all_there.F gNin m_all)
  have gSc : FnG PySem.Challenge.rw_figuredeeds_k13_plays_at_the_bounds.prog w K mg base CX0 2 "scope_of" ["play", "figure", "params"] (spSc K) := D_scope_of.g (ok_sc D_scope_of.F gFi m_len m_list)
  have gNT : FnG PySem.Challenge.rw_figuredeeds_k13_plays_at_the_bounds.prog w K mg base CX0 18 "names_are_there" ["play", "figure"] (spNT K) := D_names_are_there.g (ok_nt D_names_are_there.F gAT (gSc.mono (by decide)) m_all)
  have gPl : FnG PySem.Challenge.rw_figuredeeds_k13_plays_at_the_bounds.prog w K mg base CX0 37 "is_play" ["thing"] (spPl K) := D_is_play.g (ok_pl D_is_play.F gSh (gNT.mono (by decide)) m_all)
  have gNm : FnG PySem.Challenge.rw_figuredeeds_k13_plays_at_the_bounds.prog w K mg base CX0 2 "_law_names" ["_law_state", "_law_many"] spNames := D__law_names.g (ok_names D__law_names.F gT m_len m_range)
  have gBs : FnG PySem.Challenge.rw_figuredeeds_k13_plays_at_the_bounds.prog w K mg base CX0 1 "_law_base" ["_law_n"] (spBase K) := D__law_base.g (ok_base D__law_base.F)
  have gMd : FnG PySem.Challenge.rw_figuredeeds_k13_plays_at_the_bounds.prog w K mg base CX0 1 "_law_made" ["_law_w"] (spMade K) := D__law_made.g (ok_made D__law_made.F)
  have gWi : FnG PySem.Challenge.rw_figuredeeds_k13_plays_at_the_bounds.prog w K mg base CX0 38 "_law_with" ["_law_n", "_law_changes"] (spWith K) := D__law_with.g (ok_with D__law_with.F (gBs.mono (by decide)) (gMd.mono (by decide)) gPl)
  have gZs : FnG PySem.Challenge.rw_figuredeeds_k13_plays_at_the_bounds.prog w K mg base CX0 39 "_law_sizes_right" ["_law_n"] (spOf K) := D__law_sizes_right.g (ok_zs D__law_sizes_right.F gWi m_tuple m_range)
  have gZn : FnG PySem.Challenge.rw_figuredeeds_k13_plays_at_the_bounds.prog w K mg base CX0 39 "_law_numbers_right" ["_law_state", "_law_n"] (spNum K) := D__law_numbers_right.g (ok_Zn D__law_numbers_right.F gWi m_range (gT.mono (by decide)))
  have gZl : FnG PySem.Challenge.rw_figuredeeds_k13_plays_at_the_bounds.prog w K mg base CX0 39 "_law_alike_right" ["_law_n"] (spOf K) := D__law_alike_right.g (ok_Zl D__law_alike_right.F gWi m_range)
  have gHt : FnG PySem.Challenge.rw_figuredeeds_k13_plays_at_the_bounds.prog w K mg base CX0 39 "_law_hats_right" ["_law_n"] (spOf K) := D__law_hats_right.g (ok_ht D__law_hats_right.F gWi)
  exact ⟨gBe.mono (by decide), gNm.mono (by decide), gZs.mono (by decide), gZn.mono (by decide), gZl.mono (by decide), gHt.mono (by decide), gWi.mono (by decide), m_range⟩
end Fd

open PySem PySem.W PyProof.Rows
set_option Elab.async false
set_option linter.all false
set_option maxRecDepth 100000 in
set_option maxHeartbeats 0 in
theorem PySem.Challenge.cw_figuredeeds_k13_plays_at_the_bounds_holds : PySem.Challenge.rw_figuredeeds_k13_plays_at_the_bounds.Holds := by
  w_on; o_law
  refine Fw.head_many (r := K13.R) (D := K13.D) (q := K13.q) (loose := K13.loose) (H := Fw.hookY K13.fa K13.fn K13.ck K13.as 357 K13.objs) (ob := Fw.obY K13.fa K13.fn K13.ck K13.as 357) (d := HandSHeadRun.topDef K13.R.prog 70) (kwd := []) rfl K13.D_ok (fun s => Fw.obY_eq _ _ _ _ _ _ s) K13.op_ok K13.fe_ok K13.run
    (by kernel_rfl) (by kernel_rfl) (by kernel_rfl) (by rfl) (by first | assumption | decide +kernel) (by decide +kernel) ⟨rfl, rfl, rfl, rfl, rfl, by decide +kernel⟩ ?hw ?hc
  case hw => w_witness2
  case hc =>
    refine Fd.walk_ex (l := PySem.Challenge.rw_figuredeeds_k13_plays_at_the_bounds) (n := 63) rfl (by decide) (by kernel_rfl) (by kernel_rfl) ?F
    intro w mg fa h Y G hmg
    exact Fd.law_mk Y G hmg

