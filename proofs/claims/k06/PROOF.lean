import PyProof.Rows.All
import Wide.All
import OpenK.AllK
import Wide.FinOn
import PyProof.EqAt
import PyProof.EqKinds
import PyProof.TupleCall
import KE.KExcInit
import KE.KExcIs
import HandS.ForMost
import HandS.ForExc
import HandS.IsInst
import HandS.ExcValue
import HandS.ExcField
import HandS.Walk
import HandS.Wide
import HandS.Zip
import HandS.Codes
import HandS.Style
import HandS.CallLocal
import HandS.Strs
import HandS.More
import HandS.WordsList
import HandS.TupAny
import HandS.Ends
import HandS.ExcIs
import PySem.Challenge.RW_figuredeeds_k06_looks_by_likes
set_option Elab.async false
set_option linter.all false
set_option maxRecDepth 100000
set_option maxHeartbeats 2000000
namespace PySem
namespace FellX
open PySem.W PySem.Calls PyProof.Rows PySem.HandSPX Builtin Builtin.ObjectAttr
abbrev rtTail : List Value := [.type "RuntimeError", .type "Exception", .type "BaseException", .type "object"]
/-- a first field of a fresh error whose class stands straight under RuntimeError -/
theorem rt_osa {prog : Program} {w : World} {A : Around} {R : Result → Shared → Prop} {hp : Heap} {gs : Array GenState} {dr : Drawn} {n : Nat} {os : OsState}
    {K : W.Frag} {f : Str} {tk : Tok} {v : Value} {x C : Addr} {fv : Array Value} {cd : ClassData} (X : K.In hp)
    (hx : hp.get? x = some { cls := .ref C, data := .fields fv }) (hcd : W.clsIn K C = some cd) (hm : cd.mro = .ref C :: rtTail) (hh : cd.hasDict = true)
    (ha : W.findIn K (.ref C) f = some none)
    (hq : ∀ h' tk' dx, (∀ b o, b ≠ x → hp.get? b = some o → h'.get? b = some o) → hp.objs.size ≤ dx → dx ≠ x →
      h'.get? x = some { cls := .ref C, dict := some dx, data := .fields fv } → h'.Ns1 dx (fun y => if y = f then some v else none) →
      R (.ok (.ret .none)) ⟨h', gs, dr, tk', os⟩) :
    codeAny (model prog w) A (.call (.builtin "object.__setattr__") ⟨[.ref x, .str f tk, v], []⟩) R ⟨hp, gs, dr, n, os⟩ := by
  have J : W.InstAt hp x { cls := .ref C, data := .fields fv } C none := ⟨hx, rfl, rfl, trivial⟩
  have S := F.store_object
  have hob : cd.mro.contains (.type "object") = true := by
    rw [hm, List.contains_cons, show rtTail.contains (.type "object") = true by decide +kernel, Bool.or_true]
  have xs : x ≠ hp.objs.size := Nat.ne_of_lt (Heap.lt_size hx)
  have su : W.Looks (model prog w) hp (isInstance (.ref x) (.type "object")) true := J.type.andThen
    (W.looks_mroIn X (by unfold W.mroIn; rw [hcd, Option.bind_some, if_neg (by rw [hm]; intro z; cases z), hob]))
  refine codeAny_call_builtin S.slot.plain S.entry
    (@W.check_slot (model prog w) _ _ ⟨hp, gs, dr, n, os⟩ "object.__setattr__" "object" "__setattr__" (.ref x) [.str f tk, v] [] _ S.kind S.split su
      (S.args (.ref x) (.str f tk) v) ?_)
  have lm : W.Looks (model prog w) hp (mroOf (.ref C)) cd.mro := (W.looks_clsIn X hcd).andThen .now
  have lt : W.Looks (model prog w) hp (storeTaker? none) none := .now
  have lc : W.Looks (model prog w) hp (classData C) cd := W.looks_clsIn X hcd
  rw [W.osa_eq, refuse_eq]
  refine wpAny_bind (wpAny_bind (J.type.at (wpAny_bind (lm.at ?_))))
  rw [hm, refuseLoop_ref, show refuseLoop (Value.ref x) "__setattr__" rtTail = pure () from F.store_RuntimeError.passes _]
  refine wpAny_pure (wpAny_bind (J.type.at (wpAny_bind
    ((W.looks_findIn X ha).at (wpAny_bind (lt.at ?_))))))
  show wpAny _ _ (storeInOwnDict (.ref x) (.ref C) (.str f tk) f v false) _ _ _
  obtain ⟨_, _, mro, _, _, hd, _, _, _, _, _⟩ := cd
  dsimp only at hh
  subst hh
  unfold storeInOwnDict ownDictForStores
  repeat (first
    | with_reducible refine store_in_new ?_ ?_
    | with_reducible refine wpAny_loadPart_at hx ?_
    | with_reducible refine lc.at ?_
    | wp_step)
  · exact ⟨_, #[], _, (Heap.get?_update_ne _ _ _ _ xs.symm).trans (Heap.get?_push_at rfl rfl), rfl,
      fun e he => absurd he (by simp), fun _ => rfl⟩
  · intro h' tk' hn' hs
    have hx' : (hp.push { cls := .type "dict", data := .dict #[] }).get? x = some { cls := .ref C, data := .fields fv } :=
      Heap.get?_push_of_some _ hx
    refine hq h' tk' hp.objs.size (fun b o nb e => ?_) (Nat.le_refl _) xs.symm ?_ hn'
    · exact (hs.2 b (Nat.ne_of_lt (Heap.lt_size e))).trans
        ((Heap.get?_update_ne _ _ _ _ nb).trans (Heap.get?_push_of_some _ e))
    · exact (hs.2 x xs).trans (Heap.get?_update_self _ hx' rfl)
end FellX
end PySem
namespace PySem
namespace FellX
open PySem.W PySem.Calls PyProof.Rows PySem.HandSPX
/-! ### the text of __init__ -/
def iA (p1 p2 : Pos) : Arguments := { posonlyargs := [], args := [{ arg := "self", annotation := none, pos := p1 }, { arg := "word", annotation := none, pos := p2 }], vararg := none, kwonlyargs := [], kw_defaults := [], kwarg := none, defaults := [] }
def iB (q1 q2 q3 q4 : Pos) : List Stmt := [.Assign [.Attribute (.Name "self" q1) "word" q2] (.Name "word" q3) q4]
def iS : Scope := { kind := .function, names := [(PySem.Str.ofString "self", .local), (PySem.Str.ofString "word", .local)], isGenerator := false, isCoroutine := false, more := [] }
/-- what the written part says of Fell, at C, and of its __init__, at fI -/
structure FellTxt (K : Frag) (mg : Str → Option Value) (C fI : Addr) : Prop where
  gC : mg "Fell" = some (.ref C)
  cls : ∃ nm q N bs bm sn sub ab col dd k0 k1 k2 k3 k5, K.lookup C = some (excClassObj nm q C N bs bm true sn sub ab col dd k0 k1 k2 k3 k5 "RuntimeError.__new__") ∧ bm = rtTail
  sa : findIn K (.ref C) "__setattr__" = some (some (.builtin "object.__setattr__"))
  ga : findIn K (.ref C) "__getattribute__" = some (some (.builtin "BaseException.__getattribute__"))
  gg : findIn K (.ref C) "__getattr__" = some none
  noN : findIn K (.ref C) "word" = some none
  iC : findIn K (.ref C) "__init__" = some (some (.ref fI))
  tC : typeIn K (.ref fI) = some (.type "function")
  kC : keepIn K (.ref C) = true
  exC : subIn K (.ref C) (.type "BaseException") = some true
  tyC : typeIn K (.ref C) = some (.type "type")
  hdC : hasDictIn K C = true
  te : exmOne K (.ref C) (.ref C) = some true
  fn : ∃ (oc : Value) (od : Option Addr) (doc pm : Value) (an : Option Addr) (cdv ct : Value) (osl : Array (Option Value)) (p1 p2 q1 q2 q3 q4 : Pos),
    K.lookup fI = some ⟨oc, od, .func (fnOf "__init__" "Fell.__init__" (iA p1 p2) (iB q1 q2 q3 q4) iS .none .none doc pm an cdv ct), osl⟩ ∧ codeIn K cdv "Fell.__init__" = true
theorem one_size (v : Value) : [v].length ≤ sizeLine := by
  rw [sizeLine_eq]
  exact (by decide : 1 ≤ 16777216)
theorem kept_but {K : Frag} {h h' : Heap} {x : Addr} (X : K.In h) (hx : K.lookup x = none) (k : ∀ b o, b ≠ x → h.get? b = some o → h'.get? b = some o) : K.In h' := fun a o e =>
  k a o (fun z => by rw [z, hx] at e; cases e) (X a o e)
theorem ldC {M : Model} {s : Shared} {name : Str} {scope : Scope} {L a : Addr} {cd : Value} {m : Str → Option Value} {x : Str} {pos : Pos} {v : Value} {Q : Value → Shared → Prop} {A : Around} {E : Value → Shared → Prop} (hn : s.heap.Ns L m) (hv : m x = some v) (h : Q v s)
    (hk : scope.kind = .function := by rfl) (hl : (envOfC name scope L a cd).kindOf x = some .local := by rfl) (hd : (x == ("__debug__" : Str)) = false := by decide) :
    wpAny M A (eval (.Name x pos) (envOfC name scope L a cd)) Q E s := wpAny_Name (wpAny_loadName_local hk hl hn hv h) hd
/-- what __init__ leaves of a fresh exception at x -/
structure InitEnd (h h' : Heap) (x C dx t1 : Addr) (v : Value) : Prop where
  keep : ∀ b o, b ≠ x → h.get? b = some o → h'.get? b = some o
  obj : h'.get? x = some { cls := .ref C, dict := some dx, data := .fields #[.ref t1, .none, .none, .none, .bool false, .none] }
  dbig : h.objs.size ≤ dx
  dne : dx ≠ x
  ns : h'.Ns1 dx (fun y => if y = "word" then some v else none)
/-- a made Fell -/
structure OwnMade (h h' : Heap) (e C d : Addr) (v : Value) : Prop where
  keep : ∀ b o, h.get? b = some o → h'.get? b = some o
  new : h.objs.size ≤ e
  obj : ∃ oe vs, h'.get? e = some oe ∧ oe.cls = .ref C ∧ oe.dict = some d ∧ oe.data = .fields vs ∧ vs[1]? = some .none
  dbig : h.objs.size ≤ d
  dne : d ≠ e
  ns : h'.Ns1 d (fun y => if y = "word" then some v else none)
section
variable {prog : Program} {w : World} {A : Around} {E : Value → Shared → Prop} {R : Result → Shared → Prop} {s : Shared} {K : Frag} {mg : Str → Option Value} {C fI : Addr}
theorem fell_init (T : FellTxt K mg C fI) {x t0 : Addr} {v : Value} (X : K.In s.heap) (hlim : s.heap.NoLimit) (hx : s.heap.get? x = some (excO C t0)) (hnx : K.lookup x = none) (hroom : A.depth < recursionLimit)
    (hq : ∀ h' tk dx, InitEnd s.heap h' x C dx t0 v → R (.ok (.ret .none)) { s with heap := h', toks := tk }) :
    codeAny (model prog w) A (.call (.ref fI) ⟨[.ref x, v], []⟩) R s := by
  obtain ⟨oc, od, doc, pm, an, cdv, ct, osl, p1, p2, q1, q2, q3, q4, ho, hcd⟩ := T.fn
  obtain ⟨nm, q, N, bs, bm, sn, sub, ab, col, dd, k0, k1, k2, k3, k5, hC, hbm⟩ := T.cls
  have hcl : clsIn K C = some { name := nm, bases := bs, mro := .ref C :: bm, ns := N, qualname := q, hasDict := true, slotNames := sn, subclasses := sub, abstract := ab, collection := col, hasDel := false } := by unfold clsIn; rw [hC] <;> rfl
  refine Att.call_fn (binds := [("self", .ref x), ("word", v)]) X hlim ho hcd hroom (BindsTo.of_eq (by first | rfl | with_unfolding_all rfl)) (by first | rfl | decide | with_unfolding_all rfl) (fun s₁ IC => ?_) rfl rfl rfl
  obtain ⟨h₁, tk₁, rfl⟩ := IC.toInCall.same
  have k : ∀ b o, s.heap.get? b = some o → h₁.get? b = some o := IC.toInCall.keep
  have hn := IC.toInCall.ns
  have hxL : s.heap.objs.size ≠ x := Nat.ne_of_gt (Heap.lt_size hx)
  have X₁ : K.In h₁ := X.keeps k
  have hx₁ := k _ _ hx
  -- self.by = by
  show wpAny _ _ (execs _ _) _ _ _
  refine wpAny_execs_cons (plainObj_wpAny_Assign_Attribute ?_)
  refine ldC (v := v) hn (by first | rfl | with_unfolding_all rfl | kernel_rfl) (ldC (v := .ref x) hn (by first | rfl | with_unfolding_all rfl | kernel_rfl) ?_)
  refine set_plain X₁ (ox := excO C t0) (od := none) ⟨hx₁, rfl, rfl, trivial⟩ T.sa ?_
  refine rt_osa X₁ hx₁ hcl (show (Value.ref C :: bm) = .ref C :: rtTail by rw [hbm]) rfl T.noN (fun h₃ tk₃ dx k₃ dn dne hx₃ hn₃ => ?_)
  show wpAny _ _ (execs _ _) _ _ _
  have z : s.heap.objs.size < h₁.objs.size := hn.lt
  exact wpAny_execs_nil (hq h₃ tk₃ dx ⟨fun b o hb e => k₃ b o hb (k b o e), hx₃, Nat.le_of_lt (Nat.lt_of_lt_of_le z dn), dne, hn₃⟩)
theorem fell_made (T : FellTxt K mg C fI) {v : Value} (X : K.In s.heap) (hlim : s.heap.NoLimit) (hroom : A.depth + 1 < recursionLimit)
    (hq : ∀ h' tk e d, OwnMade s.heap h' e C d v → R (.ok (.ret (.ref e))) { s with heap := h', toks := tk }) :
    codeAny (model prog w) A (.call (.ref C) ⟨[v], []⟩) R s := by
  obtain ⟨nm, q, N, bs, bm, sn, sub, ab, col, dd, k0, k1, k2, k3, k5, hC, hbm⟩ := T.cls
  obtain ⟨hp, g, dr, tk, os⟩ := s
  have k : ∀ b o, hp.get? b = some o → ((hp.push (kdv_tup [v])).push (excO C hp.objs.size)).get? b = some o := fun b o e => Heap.get?_push_of_some _ (Heap.get?_push_of_some _ e)
  have hget : ((hp.push (kdv_tup [v])).push (excO C hp.objs.size)).get? (hp.objs.size + 1) = some (excO C hp.objs.size) := by heap_get
  have hnx : K.lookup (hp.objs.size + 1) = none := by
    cases e : K.lookup (hp.objs.size + 1) with
    | none => rfl
    | some o =>
      have z : hp.get? (hp.objs.size + 1) = some o := X _ _ e
      exact absurd (Nat.lt_of_succ_lt (Heap.lt_size z)) (Nat.lt_irrefl _)
  refine call_own F.excBase_RuntimeError (fun X => by rw [hbm]) (X _ _ hC) (looks_findIn X T.iC) (fun self => bind_fn X self T.tC) (one_size v) ?_
  refine fell_init (s := ⟨(hp.push (kdv_tup [v])).push (excO C hp.objs.size), g, dr, tk, os⟩) T (X.keeps k) (hlim.keeps k) hget hnx ?_ fun h' tk' dx ⟨k', hx, dn, dne, hns⟩ => ?_
  · show A.depth + 1 < recursionLimit
    exact hroom
  · have old : ∀ b o, hp.get? b = some o → h'.get? b = some o := fun b o e => k' b o (Nat.ne_of_lt (Nat.lt_succ_of_lt (Heap.lt_size e))) (k b o e)
    have z : hp.objs.size + 1 + 1 ≤ dx := by
      first
        | (simpa only [Heap.size_push] using dn)
        | exact dn
        | (have q := dn; rw [Heap.size_push, Heap.size_push] at q; exact q)
    exact ⟨rfl, hq h' tk' (hp.objs.size + 1) dx ⟨old, Nat.le_succ _, ⟨_, _, hx, rfl, rfl, rfl, rfl⟩, Nat.le_trans (Nat.le_trans (Nat.le_succ _) (Nat.le_succ _)) z, dne, hns⟩⟩
end
end FellX
end PySem
namespace L2
open PySem PySem.Spec PyProof.Rows
theorem relO_fell {v : V} {v' : Value} (r : RelV v v') (f : Str) : RelO (List.lookup f [(("word" : Str), v)]) (if f = "word" then some v' else none) := by
  by_cases hw : f = "word"
  · subst hw
    rw [if_pos rfl]
    have q : List.lookup ("word" : Str) [(("word" : Str), v)] = some v := by simp [List.lookup]
    rw [q]
    exact r
  · rw [if_neg hw]
    have qw : (f == ("word" : Str)) = false := by simpa using hw
    have q2 : List.lookup f [(("word" : Str), v)] = none := by simp [List.lookup, qw]
    rw [q2]
    trivial
section
variable {X : Cx} {C fI : Addr}
/-- Fell(e) -/
def tMkFell (C : Addr) (ta : TA) : St → Hp → XK → Prop := fun σ H Q => ta σ H fun vs H1 => ∃ v, vs = [v] ∧ ∀ d, H1 d = none → Q (.ref C) (some d) (upd H1 d (.xd [(("word" : Str), v)]))
theorem pmk_fell {a : Expr} {ta : TA} {p pos : Pos} {k : Nat} (T : PySem.FellX.FellTxt X.K X.mg C fI) (hr : Room k X.A) (ha : PA X [a] ta) (hg : Gl X "Fell" := by rfl)
    (he : starEach (a :: []) X.env = (false, eval a X.env) :: starEach [] X.env := by rfl) (hpl : (backTo pos (starEach [] X.env)).any (·.1) = false := by rfl) :
    PMk X (.Call (.Name "Fell" p) [a] [] pos) (tMkFell C ta) := by
  intro pins s σ H Q I h
  refine wpAny_Call_Name_kw (ld_glob I hg T.gC ?_)
  refine PySem.W.callWith_K (h₀ := X.base) I.ok.mod.kin T.kC (thn (ha.run pos pins s σ H _ I h) fun us s1 hh => ?_) he hpl
  obtain ⟨vs, H1, I1, r1, v, ev, q1⟩ := hh
  subst ev
  refine ⟨I1.kIn, ?_⟩
  cases r1 with
  | cons rv rn =>
    rename_i v' us'
    cases rn
    show wpAny _ _ (call (.ref C) [v']) _ _ _
    have hlim := I1.nolimit
    obtain ⟨hp, g, dr, tk, os⟩ := s1
    refine wpAny_call (PySem.FellX.fell_made T I1.kIn hlim (by have := hr.dp; omega) fun h' tk' e d M => ?_)
    show MkP X pins σ Q (.ref e) ⟨h', g, dr, tk', os⟩
    obtain ⟨oe, fv, hoe, hc, hd, hdat, h1⟩ := M.obj
    have hns := M.ns
    obtain ⟨G', g1, g2⟩ := restrict h' fun b => decide (b ≠ e)
    have gk : ∀ b, b ≠ e → G'.get? b = h'.get? b := fun b hb => g1 b (decide_eq_true hb)
    have ge : G'.get? e = none := g2 e (by simp)
    have old : ∀ b o, hp.get? b = some o → G'.get? b = some o := fun b o q => (gk b (Nat.ne_of_lt (Nat.lt_of_lt_of_le (Heap.lt_size q) M.new))).trans (M.keep b o q)
    have ob : ObjOk X.prog X.w (upd H1 d (.xd [(("word" : Str), v)])) G' d (.xd [(("word" : Str), v)]) :=
      ⟨_, hns.at (fun o q => (gk d M.dne).trans q), fun f => relO_fell rv f⟩
    have J : Inv X pins σ (upd H1 d (.xd [(("word" : Str), v)])) ⟨G', g, dr, tk', os⟩ := I1.laid (t' := tk') old M.dbig ob
    refine ⟨e, oe, fv, ⟨G', g, dr, tk', os⟩, _, .ref C, some d, rfl, J, fun b o q => ?_, ge, hoe, ⟨hc, hd⟩, hdat, h1, ?_, rfl, I1.bare, raises_own T.exC T.tyC, q1 d (I1.hok.fresh M.dbig)⟩
    · by_cases hb : b = e
      · have q' : G'.get? b = some o := q
        rw [hb, ge] at q'; cases q'
      · exact (gk b hb).symm.trans q
    · rw [upd_ne (Ne.symm M.dne)]
      exact I1.hok.fresh M.new
/-- raise Fell(e) -/
def tRaiseFell (C : Addr) (W : WX) (ta : TA) : TS := fun _ σ H => tMkFell C ta σ H fun cls d H' => W cls d σ H'
theorem ps_raiseFell {a : Expr} {ta : TA} {W : WX} {p pos pos2 : Pos} {k : Nat} (hc : X.calm = true) (T : PySem.FellX.FellTxt X.K X.mg C fI) (hr : Room k X.A) (tk : Takes X W) (ha : PA X [a] ta) (hg : Gl X "Fell" := by rfl)
    (he : starEach (a :: []) X.env = (false, eval a X.env) :: starEach [] X.env := by rfl) (hpl : (backTo pos (starEach [] X.env)).any (·.1) = false := by rfl) :
    PS X (.Raise (some (.Call (.Name "Fell" p) [a] [] pos)) none pos2) (tRaiseFell C W ta) := ps_raise hc tk (pmk_fell T hr ha hg he hpl)
/-- low.by, low the exception that the suite holds (at a; its class cls, its dict d) -/
def tWord (C : Addr) (a : Addr) (cls : Value) (d : Option Addr) (te : TE) : TE := fun σ H Q => te σ H fun x H1 => x = .ref a ∧ cls = .ref C ∧ ∃ (dd : Addr) (v : V), d = some dd ∧ H1 dd = some (.xd [(("word" : Str), v)]) ∧ Q v H1
theorem pe_word {a : Addr} {oe : Obj} {cls : Value} {d : Option Addr} {pn : List (Addr × Obj)} {e : Expr} {te : TE} {pos : Pos} (T : PySem.FellX.FellTxt X.K X.mg C fI) (hz : Zc cls d oe) (hf : ∃ vs, oe.data = .fields vs) (he : PE (X.suite a ((a, oe) :: pn)) e te)
    (hb : attributeBase e "word" X.env (eval e X.env) = eval e X.env := by rfl) :
    PE (X.suite a ((a, oe) :: pn)) (.Attribute e "word" pos) (tWord C a cls d te) := by
  refine ⟨fun pins s σ H Q I h => ?_⟩
  refine attr_of hb (thn (he.run pins s σ H _ I h) fun u s1 hh => ?_)
  obtain ⟨x, H1, I1, rx, ex, ec, dd, v, ed, ea, q⟩ := hh
  subst ex
  obtain rfl : u = Value.ref a := rx
  subst ec
  subst ed
  obtain ⟨ha, _⟩ := I1.pin (a, oe) (List.mem_append_left _ List.mem_cons_self)
  obtain ⟨vs, hd⟩ := hf
  have hx : ObjOk X.prog X.w H1 s1.heap dd (.xd [(("word" : Str), v)]) := I1.hok dd _ ea
  obtain ⟨mA, hns, hr⟩ := hx
  obtain ⟨od, ho, hl⟩ := lookIn_ns hns
  have l : List.lookup ("word" : Str) [(("word" : Str), v)] = some v := by simp [List.lookup]
  obtain ⟨u, hu, ru⟩ := RelO.some_of (v := v) (o := mA "word") (by rw [← l]; exact hr "word")
  have J : PySem.W.InstAt s1.heap a oe C (some od) := ⟨ha, hz.1, by unfold PySem.W.notCls; rw [hd] <;> rfl, by rw [hz.2]; exact ho⟩
  exact HandSPX.exc_get I1.kIn J T.ga T.gg T.exC (PySem.W.findObj_own T.hdC T.noN rfl (by rw [hl, hu])) (handed_of ru) ⟨v, H1, I1.tok _, ru, q⟩
end
end L2


set_option Elab.async false
set_option linter.all false
set_option maxRecDepth 100000
set_option maxHeartbeats 2000000
/-! A try whose suite keeps the error by another name: behind it the error is tracked, its class and its fields are read. -/
namespace L2
open PySem PySem.Spec PyProof.Rows
/-- a caught error at a: its class, its own dict -/
def ErrO (cls : Value) (d : Option Addr) (a : Addr) : HO :=
  .ext fun h => ∃ (oe : Obj) (vs : Array Value), h.get? a = some oe ∧ Zc cls d oe ∧ oe.data = .fields vs
theorem errO_at {P : Program} {w : World} {H : Hp} {h : Heap} {a : Addr} {cls : Value} {d : Option Addr}
    (hk : HOk P w H h) (e : H a = some (ErrO cls d a)) : ∃ (oe : Obj) (vs : Array Value), h.get? a = some oe ∧ Zc cls d oe ∧ oe.data = .fields vs :=
  (show ObjOk P w H h a (ErrO cls d a) from hk a _ e).1
section
variable {X : Cx} {pins : List (Addr × Obj)} {σ : St} {H : Hp} {s : Shared}
/-- what was pinned is tracked from here on -/
theorem Inv.track {a : Addr} {oe : Obj} {cls : Value} {d : Option Addr} (I : Inv X ((a, oe) :: pins) σ H s) (hz : Zc cls d oe) (hf : ∃ vs, oe.data = .fields vs)
    (h0 : ∀ o, X.s_0.heap.get? a = some o → a ∉ X.ex → False) (hp : ∀ p ∈ X.pn ++ pins, p.1 ≠ a) : Inv X pins σ (upd H a (ErrO cls d a)) s := by
  have mem : (a, oe) ∈ X.pn ++ (a, oe) :: pins := List.mem_append_right _ List.mem_cons_self
  obtain ⟨ga, na, nl, nf, nc⟩ := I.pin _ mem
  dsimp only at ga na nl nf nc
  obtain ⟨vs, hv⟩ := hf
  have ne : ∀ {b : Addr} {o : HO}, H b = some o → b ≠ a := fun q => ne_of_none q na
  refine ⟨I.ok, I.os, I.bare, ⟨I.base.keep, I.base.slot, fun b o e n hx => ?_, I.base.there, fun b xs q => ?_, fun b o u q => ?_, fun b ps q => ?_⟩,
    I.loc, I.cell, ?_, fun x c e => ?_, fun p hm => ?_, ?_, I.len⟩
  · by_cases hb : b = a
    · subst hb
      exact (h0 o e hx).elim
    · rw [upd_ne hb]
      exact I.base.free b o e n hx
  · have q' := I.base.tups b xs q
    rw [upd_ne (ne q')]
    exact q'
  · have q' := I.base.frzs b o u q
    rw [upd_ne (ne q')]
    exact q'
  · obtain ⟨more, q'⟩ := I.base.tbls b ps q
    exact ⟨more, by rw [upd_ne (ne q')]; exact q'⟩
  · rw [upd_ne nl.symm]
    exact I.free
  · have nca : c ≠ a := fun z => by
      obtain ⟨v, o, go, hd⟩ := I.cell x c e
      rw [z, ga] at go
      cases go
      exact nc _ hd
    rw [upd_ne nca]
    exact I.freeC x c e
  · have hm' : p ∈ X.pn ++ (a, oe) :: pins := by
      rcases List.mem_append.mp hm with z | z
      · exact List.mem_append_left _ z
      · exact List.mem_append_right _ (List.mem_cons_of_mem _ z)
    obtain ⟨g1, n1, r1⟩ := I.pin p hm'
    exact ⟨g1, by rw [upd_ne (hp p hm)]; exact n1, r1⟩
  · exact I.hok.laidN (fun _ _ q => q) na ⟨⟨oe, vs, ga, hz, hv⟩, ⟨oe, ga⟩, fun _ _ ⟨o, v, q, r⟩ k => ⟨o, v, k o q, r⟩⟩
end
/-- what «except x as n» wishes of an error of the body, the error being tracked behind the suite -/
def wKeep (K : PySem.W.Frag) (c : Value) (i : Nat) (ts : Addr → Value → Option Addr → TS) (Wout : WX) (D : Ends) : WX := fun cls d σ H =>
  ∃ b, PySem.W.exmOne K cls c = some b ∧ (b = false → Wout cls d σ H) ∧ (b = true → ∀ a, H a = none →
    ts a cls d ({ nx := fun σ' H' => H' a = none → D.nx (σ'.set i none) (upd H' a (ErrO cls d a)), rt := fun _ _ => False, bk := fun _ _ => False, ct := fun _ _ => False } : Ends) (σ.set i (some (.ref a))) H)
section
variable {X : Cx} {x n : Str} {c : Value} {i : Nat} {body suite : List Stmt} {b₀ : Stmt} {np pos pos' : Pos} {tb : WX → TS} {ts : Addr → Value → Option Addr → TS} {Wout : WX}
theorem ps_try_keep (hs : X.stack = X.env :: X.outer) (hf : X.env.frame = some X.env.locals) (hN : X.N.Nodup) (hi : X.N[i]? = some n)
    (hln : X.env.kindOf n = some .local) (hc : Names X x c) (tk : Takes X Wout)
    (hb : ∀ (W : WX) (pn : List (Addr × Obj)) (xe : Value → Shared → Prop), Takes (X.tr pn xe) W →
      PassesOwn (model X.prog X.w) X.A X.env xe → PSs (X.tr pn xe) body (tb W))
    (hsu : ∀ (a : Addr) (oe : Obj) (cls : Value) (d : Option Addr) (pn : List (Addr × Obj)), Zc cls d oe → (∃ vs, oe.data = .fields vs) →
      PSs (X.suite a ((a, oe) :: pn)) (b₀ :: suite) (ts a cls d)) :
    PS X (.Try body [.ExceptHandler (some (.Name x np)) (some n) (b₀ :: suite) pos'] [] [] pos) (fun D σ H => tb (wKeep X.K c i ts Wout D) D σ H) := by
  refine ⟨fun pins s σ H D I h => ?_⟩
  have fr : X.A.frames = some (X.env :: X.outer) := by rw [I.ok.frames, hs]
  refine wpAny_Try_except ?_
  refine wpAny_mono ((hb (wKeep X.K c i ts Wout D) (X.pn ++ pins)
    (fun e s₁ => wpAny (model X.prog X.w) X.A (noteFrame e X.env) (fun _ s₂ =>
      wpAny (model X.prog X.w) X.A (setFlight e none) (fun _ s₃ =>
        wpAny (model X.prog X.w) X.A (handleBy e X.env [.ExceptHandler (some (.Name x np)) (some n) (b₀ :: suite) pos'])
          (SP X pins D) X.xe s₃) X.xe s₂) X.xe s₁)
    (fun u s' xx => ?_) PassesOwn.looking).run [] s σ H D (I.toTry _) h) (fun f s1 end1 => ?_) (fun e s1 he => he)
  · obtain ⟨a, B, sI, pi', σ1, H1, cls, d, rfl, I1', nb, up, sky, na, os, ag, b, hb1, hno, hyes⟩ := xx
    have I1 : Inv X pins σ1 H1 sI := I1'.ofTry I.ok
    have sk : Sky B (X.env :: X.outer) a (Zc cls d) X.env.locals s'.heap := by rw [← hs]; exact sky
    show wpAny (model X.prog X.w) X.A (noteFrame (.ref a) X.env) _ _ _
    refine Sky.land Zc.steady fr hf sk fun h3 fl up3 => ?_
    have I3 : Inv X pins σ1 H1 { s' with heap := h3 } := I1.landed nb fl.1 (up.trans up3) os ag
    obtain ⟨o3, v3, g3, z3, d3⟩ := fl.there
    have nfr : a ∉ frs (X.env :: X.outer) := fun hm => by
      obtain ⟨_, o', e', hnf⟩ := fl.2.2.1.mem hm
      rw [g3] at e'
      cases e'
      exact hnf _ d3
    have nL : a ≠ X.env.locals := fun z => nfr (List.mem_filterMap.mpr ⟨X.env, List.mem_cons_self, by rw [hf, z]⟩)
    have nF : a ∉ X.fs := fun hm => by
      obtain ⟨e, he, q⟩ := List.mem_filterMap.mp hm
      exact nfr (List.mem_filterMap.mpr ⟨e, List.mem_cons_of_mem _ he, q⟩)
    have nB : B.get? a = none := by
      rcases sky with z | z | z
      · exact z.2.1
      · exact z.2.1
      · exact z.2.1
    have gone : ∀ {b : Addr} {o : Obj}, sI.heap.get? b = some o → b ∉ frs X.stack → b ≠ a := fun {b o} q hb z => by
      have q' := nb b o q hb
      rw [z, nB] at q'
      cases q'
    have h0 : ∀ o, X.s_0.heap.get? a = some o → a ∉ X.ex → False := fun o q hx => by
      obtain ⟨o', q'⟩ := I1.base.there a o q hx
      exact gone q' (by rw [hs]; exact nfr) rfl
    have hp : ∀ p ∈ X.pn ++ pins, p.1 ≠ a := fun p hm => by
      obtain ⟨g, _, nl, nf, _⟩ := I1.pin p hm
      refine gone g fun hq => ?_
      rcases List.mem_cons.mp (I1.stkSub _ hq) with z | z
      · exact nl z
      · exact nf z
    have S3 := I3.suite g3 d3 na nL nF
    refine wpAny_handleBy_cons (codeAny_handlers_test ?_) (by intro q; cases q)
    have LT : PySem.W.Looks (model X.prog X.w) h3 (typeOf (.ref a)) cls := fun _ _ _ _ k q =>
      wpAny_typeOf_ref (k _ _ g3) (by rw [z3.1]; exact q)
    have LM := PySem.W.exm_one (M := model X.prog X.w) I3.kIn LT hb1
    have nameIs : ∀ {Q : Value → Shared → Prop} {E : Value → Shared → Prop}, Q c { s' with heap := h3 } →
        wpAny (model X.prog X.w) (X.A.mark (some (.ref a))) (eval (.Name x np) X.env) Q E { s' with heap := h3 } := fun {Q E} q => by
      obtain ⟨hg, hdbg, hm | ⟨hm, hv, hnn⟩⟩ := hc
      · exact ld_glob (X := X.suite a ((a, o3) :: (X.pn ++ pins))) S3 hg hm q hdbg
      · exact ld_blt (X := X.suite a ((a, o3) :: (X.pn ++ pins))) S3 hg hm hv q hnn hdbg
    refine nameIs (LM.here ?_)
    cases b with
    | true =>
      refine codeAny_handlers_suite_as ?_
      refine HandSPX.lands_againZ fl fun h4 fl4 up4 => ?_
      have I4 : Inv X pins σ1 H1 { s' with heap := h4 } := I1.landed nb fl4.1 ((up.trans up3).trans up4) os ag
      obtain ⟨o4, v4, g4, z4, d4⟩ := fl4.there
      have S4 := I4.suite g4 d4 na nL nF
      refine store_ok (X := X.suite a ((a, o4) :: (X.pn ++ pins))) (v := .ref a) S4 hN hi (.inl hln) rfl (fun s5 S5 => ?_) (.inr hln)
      refine wpAny_mono ((hsu a o4 cls d (X.pn ++ pins) z4 ⟨_, d4⟩).run [] s5 _ H1 _ S5 (hyes rfl a na)) (fun f s6 e6 => ?_) (fun _ _ z => False.elim z)
      cases f with
      | next =>
        obtain ⟨σ6, H6, S6, q6⟩ := e6
        have K6 : Inv X ((a, o4) :: pins) σ6 H6 s6 := ⟨I.ok, S6.os, S6.bare, S6.base, S6.loc, S6.cell, S6.free, S6.freeC, fun p hm => S6.pin p (by
          rw [List.append_nil]
          rcases List.mem_append.mp hm with z | z
          · exact List.mem_cons_of_mem _ (List.mem_append_left _ z)
          · rcases List.mem_cons.mp z with z | z
            · rw [z]; exact List.mem_cons_self
            · exact List.mem_cons_of_mem _ (List.mem_append_right _ z)), S6.hok, S6.len⟩
        have n6 : H6 a = none := (S6.pin (a, o4) (List.mem_append_left _ List.mem_cons_self)).2.1
        exact gone_ok K6 hN hi hln fun s7 K7 => ⟨_, _, K7.track z4 ⟨_, d4⟩ h0 hp, q6 n6⟩
      | brk => obtain ⟨_, _, _, q6⟩ := e6; exact q6.elim
      | cont => obtain ⟨_, _, _, q6⟩ := e6; exact q6.elim
      | ret u => obtain ⟨_, _, _, _, _, q6⟩ := e6; exact q6.elim
    | false =>
      show wpAny _ X.A (handleBy (.ref a) X.env []) _ _ _
      refine wpAny_handleBy_nil ?_
      obtain ⟨k1, k2, k3, oe, vs, T, oT, ts', he, hz, hd, h1, hr⟩ := id fl
      unfold PySem.passOn
      refine wpAny_bind (wpAny_field he hd h1 ?_)
      rw [if_neg (show ¬ ((Value.ref T == Value.none) = true) from by simp)]
      have fin : wpAny (model X.prog X.w) X.A (setFlight (.ref a) X.env.frame) (fun _ s4 =>
          wpAny (model X.prog X.w) X.A (throw (.ref a) : Sem Flow) (SP X pins D) X.xe s4) X.xe { s' with heap := h3 } := by
        rw [hf]
        refine HandSPX.setFlight_upZ fl fun h4 hh4 up4 => wpAny_throw (tk _ _ ?_)
        exact ⟨a, B, sI, pins, σ1, H1, cls, d, rfl, I1, nb, (up.trans up3).trans up4,
          .inr (.inr (by rw [hs]; exact hh4)), na, os, ag, hno rfl⟩
      first
        | exact wpAny_bind (wpAny_pure (wpAny_bind fin))
        | exact wpAny_bind fin
  · cases f with
    | next => obtain ⟨σ', H', J', q⟩ := end1; exact wpAny_execs_nil ⟨σ', H', J'.ofTry I.ok, q⟩
    | brk => obtain ⟨σ', H', J', q⟩ := end1; exact ⟨σ', H', J'.ofTry I.ok, q⟩
    | cont => obtain ⟨σ', H', J', q⟩ := end1; exact ⟨σ', H', J'.ofTry I.ok, q⟩
    | ret u => obtain ⟨v, σ', H', J', r, q⟩ := end1; exact ⟨v, σ', H', J'.ofTry I.ok, r, q⟩
end
/-! ### what a tracked error tells -/
/-- what its class says -/
structure ErrC (K : PySem.W.Frag) (C : Addr) : Prop extends XfC K C where
  ac : PySem.W.findIn K (.ref C) "__class__" = some (some (.builtin "object.__class__"))
  sg : PySem.W.specialIn K (.builtin "object.__class__") "__get__" = some (some (.builtin "getset_descriptor.__get__"))
  tk : PySem.W.takesIn K (.builtin "object.__class__") = some true
  mo : PySem.W.mroIn K C (.type "object") = some true
section
variable {X : Cx} {pins : List (Addr × Obj)} {σ : St} {H : Hp} {s : Shared} {C a d : Addr} {fs : List (Str × V)}
theorem errO_inst (I : Inv X pins σ H s) (ea : H a = some (ErrO (.ref C) (some d) a)) (ed : H d = some (.xd fs)) :
    ∃ (oe : Obj) (od : Obj), PySem.W.InstAt s.heap a oe C (some od) ∧ ∃ mA : Str → Option Value, (∀ n, PySem.W.lookIn n od = some (mA n)) ∧ ∀ f, RelO (fs.lookup f) (mA f) := by
  obtain ⟨oe, vs, g, hz, hv⟩ := errO_at I.hok ea
  obtain ⟨mA, hns, hr⟩ := (show ObjOk X.prog X.w H s.heap d (.xd fs) from I.hok d _ ed)
  obtain ⟨od, ho, hl⟩ := lookIn_ns hns
  exact ⟨oe, od, ⟨g, hz.1, by unfold PySem.W.notCls; rw [hv] <;> rfl, by rw [hz.2]; exact ho⟩, mA, hl, hr⟩
/-- e.f of a tracked error -/
def tErrF (C : Addr) (f : Str) (te : TE) : TE := fun σ H Q => te σ H fun x H1 => ∃ (a d : Addr) (fs : List (Str × V)) (v : V),
  x = .ref a ∧ H1 a = some (ErrO (.ref C) (some d) a) ∧ H1 d = some (.xd fs) ∧ fs.lookup f = some v ∧ Q v H1
theorem pe_errF {e : Expr} {te : TE} {pos : Pos} {n : Str} (T : ErrC X.K C) (hno : PySem.W.findIn X.K (.ref C) n = some none) (he : PE X e te)
    (hb : attributeBase e n X.env (eval e X.env) = eval e X.env := by rfl) : PE X (.Attribute e n pos) (tErrF C n te) := by
  refine ⟨fun pins s σ H Q I h => attr_of hb (thn (he.run pins s σ H _ I h) fun u s1 hh => ?_)⟩
  obtain ⟨x, H1, I1, rx, a, d, fs, v, rfl, ea, ed, l, q⟩ := hh
  obtain rfl : u = Value.ref a := rx
  obtain ⟨oe, od, J, mA, hl, hr⟩ := errO_inst I1 ea ed
  obtain ⟨u, hu, ru⟩ := RelO.some_of (v := v) (o := mA n) (by rw [← l]; exact hr n)
  exact HandSPX.exc_get I1.kIn J T.ga T.gg T.exC (PySem.W.findObj_own T.hdC hno rfl (by rw [hl, hu])) (handed_of ru) ⟨v, H1, I1.tok _, ru, q⟩
/-- isinstance(e, T) of a tracked error, T a built-in class -/
def rIsErr (K : PySem.W.Frag) (C : Addr) : List V → Hp → VK → Prop := fun xs H Q => ∃ (a d : Addr) (fs : List (Str × V)) (n : String) (b : Bool),
  xs = [.ref a, .ty n] ∧ H a = some (ErrO (.ref C) (some d) a) ∧ H d = some (.xd fs) ∧ PySem.W.kitOne K (.ref C) (.type n) = some b ∧ Q (.bl b) H
theorem call_isErr (T : ErrC X.K C) : CallR X (.builtin "isinstance") (rIsErr X.K C) := by
  intro pins s σ H xs us Q I r h
  obtain ⟨a, d, fs, n, b, rfl, ea, ed, e, q⟩ := h
  obtain ⟨u1, u2, rfl, r1, r2⟩ := vals2 r
  cases (show u1 = Value.ref a from r1)
  cases (show u2 = Value.type n from r2)
  obtain ⟨oe, od, J, _⟩ := errO_inst I ea ed
  have hcl : (PySem.W.clsIn X.K C).isSome = true := by
    obtain ⟨cd, hc, _⟩ := PySem.W.any_some T.hdC
    rw [hc]
    rfl
  exact PySem.W.kia_one (PySem.W.kitx_exc hcl T.ga T.gg T.exC T.ac T.sg T.tk T.mo) I.kIn J e (fun z => nomatch z) fun tk => ⟨.bl b, H, I.tok tk, rfl, q⟩
end
end L2

set_option Elab.async false
set_option linter.all false
set_option maxRecDepth 100000
set_option maxHeartbeats 2000000
namespace Fd
open PySem PySem.Spec PyProof.Rows L2
def top (i : Nat) : Stmt := PySem.Challenge.pw_figuredeeds_k06_looks_by_likes.main.body.getD i (.Pass ⟨0, 0, 0, 0⟩)
/-! ### defs by their names -/
structure Df (K : PySem.W.Frag) (mg : Str → Option Value) (x : Str) (st : Stmt) (ps : List Str) (f : Addr) (fd : FuncData) : Prop where
  F : Fun K x x st f fd
  m : mg x = some (.ref f)
  b : Binds K fd ps []
/-- the def that the module's name x holds keeps sp -/
def FnG (P : Program) (w : World) (K : PySem.W.Frag) (mg : Str → Option Value) (base : Heap) (CX : CXT) (k : Nat) (x : Str) (ps : List Str) (sp : Sp) : Prop :=
  ∃ f fd, FnOk P w K mg base CX k f fd ps sp ∧ mg x = some (.ref f) ∧ PySem.W.keepIn K (.ref f) = true ∧ Binds K fd ps []
theorem Df.g {P : Program} {w : World} {K : PySem.W.Frag} {mg : Str → Option Value} {base : Heap} {CX : CXT} {k : Nat} {x : Str} {st : Stmt} {ps : List Str} {f : Addr} {fd : FuncData} {sp : Sp}
    (D : Df K mg x st ps f fd) (G : FnOk P w K mg base CX k f fd ps sp) : FnG P w K mg base CX k x ps sp := ⟨f, fd, G, D.m, D.F.kp, D.b⟩
/-! ### heaps -/
/-- all that was tracked stands, but for what is at a -/
def But (a : Addr) (H H' : Hp) : Prop := ∀ b o, b ≠ a → H b = some o → H' b = some o
theorem But.refl (a : Addr) (H : Hp) : But a H H := fun _ _ _ h => h
theorem But.trans {a : Addr} {H H1 H2 : Hp} (x : But a H H1) (y : But a H1 H2) : But a H H2 := fun b o n h => y b o n (x b o n h)
theorem But.of {a : Addr} {H H' : Hp} (s : Same H H') : But a H H' := fun b o _ h => s b o h
theorem But.upd {a : Addr} {H : Hp} {o : HO} : But a H (upd H a o) := fun b u n h => by rw [upd_ne n]; exact h
theorem same_upd {H : Hp} {p : Addr} {o : HO} (h : H p = none) : Same H (upd H p o) := fun b x e => by
  rw [upd_ne (ne_of_none e h)]
  exact e
theorem But.get {a b : Addr} {H H' : Hp} {o u : HO} (s : But a H H') (ha : H a = some u) (hb : H b = some o) (d : o ≠ u) : H' b = some o := s b o (ne_of hb ha d) hb
/-- an if whose both ways come to a value of which R holds, the heap as it was -/
theorem ifE {c : Prop} [Decidable c] {ta tb : TE} {σ : L2.St} {H : Hp} {Q : VK} (R : V → Prop) (h1 : c → ∃ v, R v ∧ ∀ Q' : VK, Q' v H → ta σ H Q') (h2 : ¬ c → ∃ v, R v ∧ ∀ Q' : VK, Q' v H → tb σ H Q')
    (h : ∀ v, R v → Q v H) : if c then ta σ H Q else tb σ H Q := by
  by_cases hc : c
  · rw [if_pos hc]
    obtain ⟨v, r, k⟩ := h1 hc
    exact k Q (h v r)
  · rw [if_neg hc]
    obtain ⟨v, r, k⟩ := h2 hc
    exact k Q (h v r)
/-- the drawer's box: its three numbers, drawn from at most n times -/
def Box (H : Hp) (a : Addr) (n : Nat) : Prop := ∃ b0 b1 b2 : Int, H a = some (.lst [.int b0, .int b1, .int b2]) ∧ 0 ≤ b0 ∧ 0 ≤ b1 ∧ b1 < 4611686018427387904 ∧ 0 ≤ b2 ∧ b2 ≤ n
theorem Box.same {H H' : Hp} {a : Addr} {n : Nat} (b : Box H a n) (s : Same H H') : Box H' a n := by
  obtain ⟨b0, b1, b2, h, r⟩ := b
  exact ⟨b0, b1, b2, s _ _ h, r⟩
theorem Box.le {H : Hp} {a : Addr} {n m : Nat} (b : Box H a n) (h : n ≤ m) : Box H a m := by
  obtain ⟨b0, b1, b2, e, h0, h1, h2, h3, h4⟩ := b
  exact ⟨b0, b1, b2, e, h0, h1, h2, h3, by omega⟩
section
variable {P : Program} {w : World} {K : PySem.W.Frag} {mg : Str → Option Value} {base : Heap} {f : Addr} {fd : FuncData}
/-! ### _law_take -/
abbrev sTake : Stmt := top 22
theorem scTake : FnScope ["_law_box", "_law_many", "_law_found", "_law_once", "_law_twice", "_law_wide"] ["_law_box", "_law_many"] (defScope sTake) := ⟨rfl, rfl, rfl, by decide +kernel, rfl, by decide +kernel, by decide +kernel⟩
def spTake : Sp := fun vs H Q _ => ∃ (a : Addr) (n : Nat) (m : Int), vs = [.ref a, .int m] ∧ Box H a n ∧ n ≤ 1000000 ∧ 0 < m ∧ m ≤ 100000 ∧
  ∀ r H', 0 ≤ r → r < m → But a H H' → Box H' a (n + 1) → Q (.int r) H'
theorem ok_take {k : Nat} (F : Fun K "_law_take" "_law_take" sTake f fd) (m_divmod : mg "divmod" = none) : FnOk P w K mg base CX0 (k + 1) f fd ["_law_box", "_law_many"] spTake := by
  have sc := scTake
  refine F.ok sc (fun vs H Q E h => ?_) (fun cdv A outer s H vs Q E hr h => ?_)
  · obtain ⟨a, n, m, rfl, _⟩ := h
    rfl
  obtain ⟨a, n, m, rfl, hB, hn, m0, m1, q⟩ := h
  refine ⟨_, (pss_cons (ps_if (pt_cmpR op_gt (pe_ix ix_list (pv 0) pe_int (fun _ _ => rfl)) pe_int (nomark _)) (pss_cons (ps_asg (pe_callB call_divmod (by rfl) m_divmod (by decide +kernel) (pa_cons (pe_ix ix_list (pv 0) pe_int (fun _ _ => rfl)) (pa_cons (pv 1) pa_nil))) (pg_tup (by rfl) (pgs_cons (pg_sub (pv 0) pe_int set_list) (pgs_cons (pg_name (i := 2) sc.nd rfl (.inl rfl)) pgs_nil))))
      (pss_one (ps_ret (pv 2)))) pss_nil)
      (pss_cons (ps_asg (pe_op op_add (pe_ix ix_list (pv 0) pe_int (fun _ _ => rfl)) pe_int) (pg_sub (pv 0) pe_int set_list))
      (pss_cons (ps_set (i := 3) sc.nd rfl (.inl rfl) (pe_op op_mod (pe_op op_pow (pe_op op_add (pe_ix ix_list (pv 0) pe_int (fun _ _ => rfl)) (pe_op op_mul pe_int (pe_ix ix_list (pv 0) pe_int (fun _ _ => rfl)))) pe_int) pe_int))
      (pss_cons (ps_set (i := 4) sc.nd rfl (.inl rfl) (pe_op op_mod (pe_op op_mul (pe_op op_add (pv 3) (pe_ix ix_list (pv 0) pe_int (fun _ _ => rfl))) (pe_op op_add (pe_op op_add (pe_op op_mod (pv 3) pe_int) pe_int) (pe_ix ix_list (pv 0) pe_int (fun _ _ => rfl)))) pe_int))
      (pss_cons (ps_set (i := 5) sc.nd rfl (.inl rfl) (pe_op op_mod (pe_op op_add (pe_op op_add (pe_op op_fdivW (pe_ix ix_list (pv 0) pe_int (fun _ _ => rfl)) pe_int) (pe_op op_mul (pv 4) pe_int)) (pe_ix ix_list (pv 0) pe_int (fun _ _ => rfl))) pe_int))
      (pss_one (ps_ret (pe_op op_mod (pe_op op_fdivW (pe_op op_mod (pe_op op_add (pe_op op_add (pe_op op_mul (pv 4) pe_int) (pe_op op_mul (pv 5) pe_int)) (pv 3)) pe_int) pe_int) (pv 1))))))))), ?_⟩
  obtain ⟨b0, b1, b2, e, h0, h1, h2, h3, h4⟩ := hB
  refine ⟨_, rfl, a, _, 0, .int b0, rfl, rfl, SqL.of e, rfl, b0, 0, rfl, rfl, _, rfl, ite2 (fun c => ?_) (fun c => ?_)⟩
  · have c' : (0 : Int) < b0 := of_decide_eq_true c
    refine ⟨_, rfl, a, _, 0, .int b0, rfl, rfl, SqL.of e, rfl, _, rfl, b0, m, rfl, ⟨m0, by omega⟩, fun p np => ?_⟩
    have e1 := same_upd (o := .tup [.int (b0 / m), .int (b0 % m)]) np a _ e
    have lt : b0 % m < m := Int.emod_lt_of_pos _ m0
    have ge : 0 ≤ b0 % m := Int.emod_nonneg _ (by omega)
    have dv : 0 ≤ b0 / m := Int.ediv_nonneg h0 (by omega)
    refine ⟨p, _, rfl, .inl (.inl upd_same), rfl, _, _, rfl, _, rfl, a, _, 0, 0, rfl, rfl, e1, rfl, _, _, rfl, rfl, _, rfl, ?_⟩
    refine q _ _ ge lt (fun b o nb ho => ?_) ⟨b0 / m, b1, b2, upd_same, dv, h1, h2, h3, by omega⟩
    rw [upd_ne nb]
    exact same_upd np b o ho
  · have eS := SqL.of (K := K) e
    refine ⟨_, rfl, a, _, 2, .int b2, rfl, rfl, eS, rfl, b2, 1, rfl, rfl, _, rfl, a, _, 2, 2, rfl, rfl, e, rfl, ?_⟩
    have e1 : (upd H a (.lst [.int b0, .int b1, .int (b2 + 1)])) a = some (.lst [.int b0, .int b1, .int (b2 + 1)]) := upd_same
    have eS := SqL.of (K := K) e1
    refine ⟨_, rfl, a, _, 1, .int b1, rfl, rfl, eS, rfl, _, rfl, a, _, 2, .int (b2 + 1), rfl, rfl, eS, rfl, 39373, b2 + 1, rfl, rfl, .inl ⟨by decide, by decide⟩,
      b1, _, rfl, rfl, b1 + 39373 * (b2 + 1), 3, rfl, rfl, ⟨by decide, by decide, by omega⟩, _, 2147483647, rfl, rfl, (show (0 : Int) < 2147483647 by decide), ?_⟩
    dsimp only
    generalize ho : (b1 + 39373 * (b2 + 1)) ^ (3 : Int).toNat % 2147483647 = once
    have o0 : 0 ≤ once := by rw [← ho]; exact Int.emod_nonneg _ (by decide)
    have o1 : once < 2147483647 := by rw [← ho]; exact Int.emod_lt_of_pos _ (by decide)
    have o2 : 0 ≤ once % 40009 := Int.emod_nonneg _ (by decide)
    have o3 : once % 40009 < 40009 := Int.emod_lt_of_pos _ (by decide)
    refine ⟨_, rfl, _, rfl, a, _, 2, .int (b2 + 1), rfl, rfl, eS, rfl, once, b2 + 1, rfl, rfl, _, rfl, once, 40009, rfl, rfl, (show (0 : Int) < 40009 by decide), once % 40009, 7, rfl, rfl,
      _, rfl, a, _, 2, .int (b2 + 1), rfl, rfl, eS, rfl, once % 40009 + 7, b2 + 1, rfl, rfl, _, _, rfl, rfl, .inl ⟨by omega, by omega⟩, _, 2147483629, rfl, rfl, (show (0 : Int) < 2147483629 by decide), ?_⟩
    dsimp only
    generalize ht : (once + (b2 + 1)) * (once % 40009 + 7 + (b2 + 1)) % 2147483629 = twice
    have t0 : 0 ≤ twice := by rw [← ht]; exact Int.emod_nonneg _ (by decide)
    have t1 : twice < 2147483629 := by rw [← ht]; exact Int.emod_lt_of_pos _ (by decide)
    refine ⟨_, rfl, a, _, 1, .int b1, rfl, rfl, eS, rfl, b1, 2147483647, rfl, rfl, wide_div (b := 31) (by decide) (by decide) (by decide) (by decide),
      _, rfl, twice, 40009, rfl, rfl, .inr ⟨by decide, by decide⟩, _, _, rfl, rfl, _, rfl, a, _, 2, .int (b2 + 1), rfl, rfl, eS, rfl, _, b2 + 1, rfl, rfl,
      _, 2305843009213693951, rfl, rfl, (show (0 : Int) < 2305843009213693951 by decide), ?_⟩
    dsimp only
    generalize hw : (b1 / 2147483647 + twice * 40009 + (b2 + 1)) % 2305843009213693951 = wide
    refine ⟨_, rfl, twice, 48271, rfl, rfl, .inr ⟨by decide, by decide⟩, _, rfl, wide, 39373, rfl, rfl, .inr ⟨by decide, by decide⟩, _, _, rfl, rfl,
      _, rfl, _, once, rfl, rfl, _, 2305843009213693921, rfl, rfl, (show (0 : Int) < 2305843009213693921 by decide), _, 64, rfl, rfl, wide_div (b := 7) (by decide) (by decide) (by decide) (by decide), _, rfl, _, m, rfl, rfl, m0, ?_⟩
    exact q _ _ (Int.emod_nonneg _ (by omega)) (Int.emod_lt_of_pos _ m0) But.upd ⟨b0, b1, b2 + 1, e1, h0, h1, h2, by omega, by omega⟩
end
end Fd

set_option Elab.async false
set_option linter.all false
set_option maxRecDepth 100000
set_option maxHeartbeats 2000000
namespace Fd
open PySem PySem.Spec PyProof.Rows L2
theorem bit_lo (b : Bool) : -(2 ^ 64) < (if b = true then (1 : Int) else 0) := by cases b <;> decide
theorem bit_hi (b : Bool) : (if b = true then (1 : Int) else 0) < 2 ^ 64 := by cases b <;> decide
theorem bit_nn (b : Bool) : 0 ≤ (if b = true then (1 : Int) else 0) := by cases b <;> decide
section
variable {P : Program} {w : World} {K : PySem.W.Frag} {mg : Str → Option Value} {base : Heap} {f : Addr} {fd : FuncData}
/-! ### _law_draws -/
abbrev sDraws : Stmt := top 21
theorem scDraws : FnScope ["_law_script", "_law_k", "_law_cell"] ["_law_script", "_law_k"] (defScope sDraws) := ⟨rfl, rfl, rfl, by decide +kernel, rfl, by decide +kernel, by decide +kernel⟩
def spDraws (K : PySem.W.Frag) : Sp := fun vs H Q _ => ∃ (a : Addr) (k : Nat) (ns : List Int), vs = [.ref a, .int k] ∧ SqL K H a (ns.map V.int) ∧ k < 100 ∧
  ∀ p H', Same H H' → H p = none → Box H' p 0 → Q (.ref p) H'
theorem ok_draws {k : Nat} (F : Fun K "_law_draws" "_law_draws" sDraws f fd) (m_len : mg "len" = none) (m_abs : mg "abs" = none) (m_int : mg "int" = none) :
    FnOk P w K mg base CX0 (k + 1) f fd ["_law_script", "_law_k"] (spDraws K) := by
  have sc := scDraws
  refine F.ok sc (fun vs H Q E h => ?_) (fun cdv A outer s H vs Q E hr h => ?_)
  · obtain ⟨a, n, m, rfl, _⟩ := h
    rfl
  obtain ⟨a, i, ns, rfl, hS, hi, q⟩ := h
  refine ⟨_, (pss_cons (ps_set (i := 2) sc.nd rfl (.inl rfl) (pe_ifExp (pt_cmpR op_lt (pv 1) (pe_callB call_len_seq (by rfl) m_len (by decide +kernel) (pa_cons (pv 0) pa_nil)) (nomark _)) (pe_ix ix_list (pv 0) (pv 1) (fun _ _ => rfl)) pe_int))
      (pss_one (ps_ret (pe_lst (pa_cons (pe_op op_mul (pe_callB call_abs (by rfl) m_abs (by decide +kernel) (pa_cons (pv 2) pa_nil)) (pe_callTy call_int1 (by rfl) m_int (by decide +kernel) (pa_cons (pe_cmpR op_ge (pe_callB call_abs (by rfl) m_abs (by decide +kernel) (pa_cons (pv 2) pa_nil)) (pe_op op_pow pe_int pe_int) (nomark _)) pa_nil))) (pa_cons (pe_op op_add (pe_op op_add (pe_op op_mod (pv 2) pe_int) (pe_op op_mul pe_int (pv 1))) pe_int) (pa_cons pe_int pa_nil))))))), ?_⟩
  refine ⟨_, rfl, _, rfl, a, _, rfl, .inl hS, i, _, rfl, rfl, _, rfl, ifE (fun v => ∃ cell : Int, v = .int cell) (fun c => ?_) (fun c => ⟨_, ⟨0, rfl⟩, fun Q' h => h⟩) ?_⟩
  · have c' : (i : Int) < ((ns.map V.int).length : Nat) := of_decide_eq_true c
    rw [List.length_map] at c'
    have hl : i < ns.length := by omega
    exact ⟨_, ⟨ns[i], rfl⟩, fun Q' h => ⟨_, rfl, _, rfl, a, _, i, .int ns[i], rfl, rfl, hS, atI_nat (by rw [List.getElem?_map, List.getElem?_eq_getElem hl]; rfl), h⟩⟩
  rintro _ ⟨cell, rfl⟩
  refine ⟨_, rfl, cell, rfl, _, rfl, cell, rfl, 10, 18, rfl, rfl, ⟨by decide, by decide, by decide⟩, _, _, rfl, rfl, .inr ⟨_, rfl, _, _, rfl, rfl, .inr ⟨bit_lo _, bit_hi _⟩, ?_⟩⟩
  refine ⟨_, rfl, cell, 2305843009213693951, rfl, rfl, (show (0 : Int) < 2305843009213693951 by decide), _, rfl, 1000003, i, rfl, rfl, .inl ⟨by decide, by decide⟩, _, _, rfl, rfl, _, 11, rfl, rfl, ?_⟩
  have z0 : 0 ≤ cell % 2305843009213693951 := Int.emod_nonneg _ (by decide)
  have z1 : cell % 2305843009213693951 < 2305843009213693951 := Int.emod_lt_of_pos _ (by decide)
  refine ⟨by show 3 ≤ sizeLine; decide, fun p np => q p _ (same_upd np) np ⟨_, _, _, upd_same, ?_, ?_, ?_, Int.le_refl 0, Int.le_refl 0⟩⟩
  · refine Int.mul_nonneg ?_ (bit_nn _)
    split <;> omega
  · show 0 ≤ cell % 2305843009213693951 + 1000003 * (i : Int) + 11
    omega
  · show cell % 2305843009213693951 + 1000003 * (i : Int) + 11 < 4611686018427387904
    omega
/-! ### _law_folded -/
abbrev sFolded : Stmt := top 20
theorem scFolded : FnScope ["_law_script", "_law_many", "_law_cells", "_law_k", "_law_cell"] ["_law_script", "_law_many"] (defScope sFolded) := ⟨rfl, rfl, rfl, by decide +kernel, rfl, by decide +kernel, by decide +kernel⟩
def spFolded (K : PySem.W.Frag) : Sp := fun vs H Q _ => ∃ (a : Addr) (m : Nat) (ns : List Int), vs = [.ref a, .int m] ∧ SqL K H a (ns.map V.int) ∧ ns.length ≤ 63 ∧ 0 < m ∧ m ≤ 10 ∧
  ∀ p ms H', Same H H' → H' p = some (.lst (ms.map V.int)) → ms ≠ [] → ms.length ≤ 10 → Q (.ref p) H'
theorem ixN_is {n j : Nat} (h : j < n) : ixN n (j : Int) = some j := by
  unfold ixN
  rw [if_pos (by omega), if_pos (by omega), Int.toNat_natCast]
theorem cut_to (xs : List V) (m : Nat) : cutV xs none (some (m : Int)) = xs.take m := by
  unfold cutV
  rw [HT.sIx_none, HT.sIx_nat, List.drop_zero, Nat.sub_zero]
  by_cases h : m ≤ xs.length
  · rw [Nat.min_eq_left h]
  · rw [Nat.min_eq_right (by omega), List.take_of_length_le (Nat.le_refl _), List.take_of_length_le (by omega)]
theorem cut_mid (xs : List V) (m n : Nat) : cutV xs (some (m : Int)) (some (n : Int)) = (xs.drop m).take (min n xs.length - min m xs.length) := by
  unfold cutV
  rw [HT.sIx_nat, HT.sIx_nat]
  by_cases h : m ≤ xs.length
  · rw [Nat.min_eq_left h]
  · rw [Nat.min_eq_right (by omega : xs.length ≤ m), List.drop_eq_nil_of_le (Nat.le_refl _), List.drop_eq_nil_of_le (by omega)]
theorem dpAll_ints {K : PySem.W.Frag} {H : Hp} : ∀ ms : List Int, DpAll K H (ms.map V.int) (ms.map PyData.int)
  | [] => .nil
  | m :: r => .cons (.int m) (dpAll_ints r)
theorem lay_ints : ∀ ms : List Int, PyData.canLayAll0 (ms.map PyData.int) = true
  | [] => rfl
  | m :: r => by show (true && PyData.canLayAll0 (r.map PyData.int)) = true; rw [lay_ints r]; rfl
theorem deep_ints : ∀ ms : List Int, PyData.depthAll (ms.map PyData.int) = 0
  | [] => rfl
  | m :: r => by show max 0 (PyData.depthAll (r.map PyData.int)) = 0; rw [deep_ints r]; rfl
theorem shaped_ints (ms : List Int) : SeqAt.shaped (.list (ms.map PyData.int)) = true := by
  unfold SeqAt.shaped
  rw [show (PyData.list (ms.map PyData.int)).canLay0 = PyData.canLayAll0 (ms.map PyData.int) from rfl, lay_ints,
    show (PyData.list (ms.map PyData.int)).depth = PyData.depthAll (ms.map PyData.int) + 1 from rfl, deep_ints]
  rfl
theorem ok_folded {k : Nat} (F : Fun K "_law_folded" "_law_folded" sFolded f fd) (m_list : mg "list" = none) (m_enumerate : mg "enumerate" = none) :
    FnOk P w K mg base CX0 (k + 1) f fd ["_law_script", "_law_many"] (spFolded K) := by
  have sc := scFolded
  refine F.ok sc (fun vs H Q E h => ?_) (fun cdv A outer s H vs Q E hr h => ?_)
  · obtain ⟨a, n, m, rfl, _⟩ := h
    rfl
  obtain ⟨a, m, ns, rfl, hS, hl, m0, m1, q⟩ := h
  refine ⟨_, (pss_cons (ps_set (i := 2) sc.nd rfl (.inl rfl) (pe_callTy call_list_of (by rfl) m_list (by decide +kernel) (pa_cons (pe_slice sl_list (pv 0) po_none (po_some (pv 1))) pa_nil)))
      (pss_cons (ps_for PassesOwn.never rfl (pi_enum (by rfl) m_enumerate (pa_cons (pe_slice sl_list (pv 0) (po_some (pv 1)) (po_some pe_int)) pa_nil)) (pg_tup (by rfl) (pgs_cons (pg_name (i := 3) sc.nd rfl (.inl rfl)) (pgs_cons (pg_name (i := 4) sc.nd rfl (.inl rfl)) pgs_nil))) (pss_one (ps_asg (pe_op op_add (pe_ix ix_list (pv 2) (pe_op op_mod (pv 3) (pv 1)) (fun _ _ => rfl)) (pe_op op_mul (pv 4) (pe_op op_add (pv 3) pe_int))) (pg_sub (pv 2) (pe_op op_mod (pv 3) (pv 1)) set_list))))
      (pss_one (ps_ret (pe_ifExp (pt_cmpR (op_neD hr.units) (pv 2) (pe_lst pa_nil) (nomark _)) (pv 2) (pe_lst (pa_cons pe_int pa_nil))))))), ?_⟩
  refine ⟨_, rfl, _, rfl, m, rfl, a, _, rfl, hS, fun c nc => ?_⟩
  rw [cut_to]
  refine ⟨c, _, rfl, .inl (SqL.of upd_same), fun p np => ?_⟩
  have s1 : Same H (upd H c (.lst ((ns.map V.int).take m))) := same_upd nc
  have s2 := s1.trans (same_upd (o := .lst ((ns.map V.int).take m)) np)
  refine ⟨_, rfl, _, rfl, m, rfl, 63, rfl, a, _, rfl, s2.seq hS, fun e ne => ?_⟩
  rw [show cutV (ns.map V.int) (some (m : Int)) (some 63) = _ from cut_mid _ m 63]
  generalize hy : ((ns.map V.int).drop m).take (min 63 (ns.map V.int).length - min m (ns.map V.int).length) = ys
  have yl : ys ≠ [] → m < ns.length := fun h => Nat.lt_of_not_le fun g => h (by rw [← hy, List.drop_eq_nil_of_le (by rw [List.length_map]; exact g), List.take_nil])
  have yv : ∀ (i : Nat) (v : V), ys[i]? = some v → ∃ z : Int, v = V.int z := fun i v h => by
    have hm : v ∈ ns.map V.int := by
      have h1 : v ∈ ys := List.mem_of_getElem? h
      rw [← hy] at h1
      exact List.mem_of_mem_drop (List.mem_of_mem_take h1)
    obtain ⟨z, _, e⟩ := List.mem_map.mp hm
    exact ⟨z, e.symm⟩
  have y63 : ys.length ≤ 63 := by
    rw [← hy, List.length_take]
    exact Nat.le_trans (Nat.min_le_left _ _) (by omega)
  have s3 := s2.trans (same_upd (o := .lst ys) ne)
  have np0 : H p = none := s1.free np
  have pe : p ≠ e := fun z => by rw [z] at ne; rw [upd_same] at ne; cases ne
  refine ⟨e, _, rfl, SqL.of upd_same, for_it (walk_enum (K := K) (a := e) (xs := ys)) (fun i σ H' => ∃ v3 v4, ∃ ms : List Int, σ = [some (.ref a), some (.int m), some (.ref p), v3, v4] ∧ Same H H' ∧
    H' e = some (.lst ys) ∧ H' p = some (.lst (ms.map V.int)) ∧ ms.length = min m ns.length) ?_ ?_ ?_ ?_⟩
  · refine ⟨none, none, ns.take m, rfl, s3, upd_same, ?_, List.length_take⟩
    rw [upd_ne pe, upd_same, List.map_take]
  · rintro i σ H' _ ⟨v3, v4, ms, rfl, sm, he, hp, hl⟩
    exact SqL.of he
  · rintro i v σ H1 H2 hi ⟨v3, v4, ms, rfl, sm, he, hp, hl⟩ ⟨T, x, y, rfl, nT, rfl, ex, ey⟩
    cases ex
    obtain ⟨z, rfl⟩ := yv i y ey
    have hm : m < ns.length := yl (fun h => by rw [h] at hi; exact absurd hi (Nat.not_lt_zero _))
    have im : i % m < ms.length := by rw [hl, Nat.min_eq_left (by omega)]; exact Nat.mod_lt _ m0
    have hpT : (upd H1 T (.tup [.int i, .int z])) p = some (.lst (ms.map V.int)) := same_upd nT _ _ hp
    have heT : (upd H1 T (.tup [.int i, .int z])) e = some (.lst ys) := same_upd nT _ _ he
    have at1 : atI (ms.map V.int) ((i : Int) % (m : Int)) = some (.int ms[i % m]) := atI_nat (j := i % m) (by rw [List.getElem?_map, List.getElem?_eq_getElem im]; rfl)
    have ix1 : ixN (ms.map V.int).length ((i : Int) % (m : Int)) = some (i % m) := ixN_is (j := i % m) (by rw [List.length_map]; exact im)
    refine ⟨T, _, rfl, .inl (.inl upd_same), rfl, _, _, rfl, _, _, rfl, rfl, ?_⟩
    refine ⟨_, rfl, _, rfl, _, rfl, i, m, rfl, rfl, (show (0 : Int) < m by omega), p, _, _, _, rfl, rfl, SqL.of hpT, at1, _, rfl, _, rfl, i, 2, rfl, rfl, z, _, rfl, rfl, .inr ⟨by show _ < (i : Int) + 2; omega, (by show (i : Int) + 2 < 2 ^ 64; omega)⟩, _, _, rfl, rfl, ?_⟩
    refine ⟨_, rfl, _, rfl, _, rfl, i, m, rfl, rfl, (show (0 : Int) < m by omega), p, _, _, _, rfl, rfl, hpT, ix1, ?_⟩
    refine ⟨_, _, ms.set (i % m) (ms[i % m] + z * ((i : Int) + 2)), rfl, fun b o h => ?_, ?_, ?_, by rw [List.length_set]; exact hl⟩
    · rw [upd_ne (ne_of_none h np0)]
      exact same_upd nT _ _ (sm _ _ h)
    · rw [upd_ne pe.symm]; exact heT
    · rw [upd_same, List.map_set]
  · rintro σ H' ⟨v3, v4, ms, rfl, sm, he, hp, hl⟩
    refine ⟨_, rfl, by show 0 ≤ sizeLine; decide, fun t nt => ?_⟩
    have ht := same_upd (o := .lst []) nt
    refine ⟨.list (ms.map PyData.int), .list [], .lst (SqL.of (ht _ _ hp)) (dpAll_ints ms), .lst (SqL.of upd_same) .nil, shaped_ints ms, by decide, _, rfl, ?_⟩
    cases ms with
    | nil =>
      refine iteF ⟨by show 1 ≤ sizeLine; decide, fun u nu => q u [0] _ (sm.trans (ht.trans (same_upd nu))) upd_same (by simp) (by decide)⟩
    | cons x r =>
      refine iteT ⟨_, rfl, q p _ _ (sm.trans ht) (ht _ _ hp) (by simp) ?_⟩
      rw [hl]
      omega
end
end Fd

set_option Elab.async false
set_option linter.all false
set_option maxRecDepth 100000
set_option maxHeartbeats 2000000
namespace Fd
open PySem PySem.Spec PyProof.Rows L2 RZ
theorem seqT {K : PySem.W.Frag} {H H' : Hp} {a : Addr} {xs : List V} (e : Same H H') (h : SqT K H a xs) : SqT K H' a xs := by
  rcases h with (h | ⟨o, h⟩) | h
  · exact .inl (.inl (e _ _ h))
  · exact .inl (.inr ⟨o, e _ _ h⟩)
  · exact .inr h
mutual
theorem dp_same {K : PySem.W.Frag} {H H' : Hp} (s : Same H H') : ∀ (d : PyData) (v : V), Dp K H v d → Dp K H' v d
  | .none, _, h => by cases h; exact .non
  | .bool b, _, h => by cases h; exact .bl b
  | .int i, _, h => by cases h; exact .int i
  | .str x, _, h => by cases h; exact .str x
  | .list ds, _, h => by cases h with | lst q r => exact .lst (s.seq q) (dpAll_same s ds _ r)
  | .tuple ds, _, h => by cases h with | tup q r => exact .tup (seqT s q) (dpAll_same s ds _ r)
  | .dict _, _, h => by cases h
theorem dpAll_same {K : PySem.W.Frag} {H H' : Hp} (s : Same H H') : ∀ (ds : List PyData) (vs : List V), DpAll K H vs ds → DpAll K H' vs ds
  | [], _, h => by cases h; exact .nil
  | d :: ds, _, h => by cases h with | cons q r => exact .cons (dp_same s d _ q) (dpAll_same s ds _ r)
end
theorem dpAll_len {K : PySem.W.Frag} {H : Hp} : ∀ {ds : List PyData} {vs : List V}, DpAll K H vs ds → vs.length = ds.length
  | [], _, h => by cases h; rfl
  | d :: ds, _, h => by cases h with | cons q r => rw [List.length_cons, List.length_cons, dpAll_len r]
theorem dpAll_at {K : PySem.W.Frag} {H : Hp} : ∀ {ds : List PyData} {vs : List V} {i : Nat} {v : V}, DpAll K H vs ds → vs[i]? = some v → ∃ d, ds[i]? = some d ∧ Dp K H v d
  | [], _, i, v, h, e => by cases h; simp at e
  | d :: ds, _, 0, v, h, e => by cases h with | cons q r => cases (Option.some.inj e); exact ⟨d, rfl, q⟩
  | d :: ds, _, i + 1, v, h, e => by cases h with | cons q r => exact dpAll_at (i := i) r e
/-- data without dicts, less than n deep, lists of at most 1000 -/
def OkD : Nat → PyData → Prop
  | 0, _ => False
  | _ + 1, .none => True
  | _ + 1, .bool _ => True
  | _ + 1, .int _ => True
  | _ + 1, .str _ => True
  | n + 1, .list ds => ds.length ≤ 1000 ∧ ∀ d ∈ ds, OkD n d
  | n + 1, .tuple ds => ds.length ≤ 1000 ∧ ∀ d ∈ ds, OkD n d
  | _ + 1, .dict _ => False
theorem qd {Q : VK} {H : Hp} {x : V} (h : Q (.bl true) H) : Q (.bl (decide (x = x))) H := by
  rw [decide_eq_true rfl]
  exact h
theorem all_rep : ∀ n : Nat, (List.replicate n true).all id = true
  | 0 => rfl
  | n + 1 => by rw [List.replicate_succ, List.all_cons, all_rep n]; rfl
theorem ty_lst {K : PySem.W.Frag} {H : Hp} {a : Addr} {xs : List V} (h : SqL K H a xs) : TyX K H (.ref a) (.type "list") := by
  rcases h with (h | ⟨o, h⟩) | ⟨o, _, _, h, c, _⟩
  · exact .base (.lst h)
  · exact .base (.frz h)
  · exact .kList h c
theorem ty_tup {K : PySem.W.Frag} {H : Hp} {a : Addr} {xs : List V} (h : SqT K H a xs) : TyX K H (.ref a) (.type "tuple") := by
  rcases h with (h | ⟨o, h⟩) | ⟨o, _, _, h, c, _⟩
  · exact .base (.tup h)
  · exact .fTuple h
  · exact .kTuple h c
theorem kitLT {K : PySem.W.Frag} {t : String} {b1 b2 : Bool} (h1 : kitB t "list" = some b1) (h2 : kitB t "tuple" = some b2) : PySem.W.kitAny K (.type t) [.type "list", .type "tuple"] = some (b1 || b2) := by
  cases b1 with
  | true => exact kitAny_cons (kit_ty h1) (fun z => nomatch z) (fun _ => rfl)
  | false =>
    refine kitAny_cons (kit_ty h1) (fun _ => ?_) (fun z => nomatch z)
    cases b2 with
    | true => exact kitAny_cons (kit_ty h2) (fun z => nomatch z) (fun _ => rfl)
    | false => exact kitAny_cons (kit_ty h2) (fun _ => rfl) (fun z => nomatch z)
theorem walk_zipT {K : PySem.W.Frag} {a b : Addr} {xs ys : List V} {n : Nat} (hn : n = min xs.length ys.length) : Walk (ItzT K a b) n (fun H => SqT K H a xs ∧ SqT K H b ys) (YPair (fun i => xs[i]?) (fun i => ys[i]?)) := by
  subst hn
  refine ⟨fun i _ hi q => ⟨xs, ys, xs[i]'(by omega), ys[i]'(by omega), q.1, q.2, List.getElem?_eq_getElem _, List.getElem?_eq_getElem _⟩, fun _ q => ⟨xs, ys, q.1, q.2, by omega⟩, fun i H v H' _ q y => ?_⟩
  obtain ⟨T, x, z, g1, g2, g3, g4, g5⟩ := y
  exact ⟨T, x, z, g1, g2, g3, g4 xs q.1, g5 ys q.2⟩
end Fd

set_option Elab.async false
set_option linter.all false
set_option maxRecDepth 100000
set_option maxHeartbeats 2000000
namespace Fd
open PySem PySem.Spec PyProof.Rows L2
section
variable {X : Cx}
/-- text * number -/
theorem op_mul_str : OpR X (binaryOp .Mult) (fun x y H Q => ∃ z n, x = .str z ∧ y = .int n ∧ MulOk z n ∧ Q (.str (Txt.mul z n)) H) := by
  intro pins s σ H x y v u Q I rx ry h
  obtain ⟨z, n, rfl, rfl, hz, q⟩ := h
  obtain ⟨t, rfl⟩ := rx
  obtain ⟨t', rfl⟩ := ry
  exact SB.mul hz fun t' tk => ⟨.str (Txt.mul z n), H, I.tok _, ⟨_, rfl⟩, q⟩
end
/-! ### words -/
/-- one to eight letters a to z -/
def IsNm (z : Str) : Prop := 1 ≤ z.cps.size ∧ z.cps.size ≤ 8 ∧ ∀ c ∈ z.cps.toList, 97 ≤ c ∧ c ≤ 122
abbrev ltrs : Str := Str.ofString "abcdefghijklmnoprstuvwxyz"
theorem ltrs_len : ltrs.cps.toList.length = 25 := by decide +kernel
theorem ltrs_all : ∀ c ∈ ltrs.cps.toList, 97 ≤ c ∧ c ≤ 122 := by decide +kernel
theorem ltrs_nodup : ltrs.cps.toList.Nodup := by decide +kernel
def ltr (i : Nat) : Nat := ltrs.cps.toList.getD i 0
theorem ltr_at {i : Nat} (h : i < 25) : ltrs.cps.toList[i]? = some (ltr i) := by
  have h' : i < ltrs.cps.toList.length := by rw [ltrs_len]; exact h
  unfold ltr
  rw [List.getD_eq_getElem?_getD, List.getElem?_eq_getElem h']
  rfl
theorem ltr_ok {i : Nat} (h : i < 25) : 97 ≤ ltr i ∧ ltr i ≤ 122 := ltrs_all _ (List.mem_of_getElem? (ltr_at h))
theorem ltr_inj {i j : Nat} (hi : i < 25) (hj : j < 25) (e : ltr i = ltr j) : i = j := nd_ix ltrs_nodup (ltr_at hi) (by rw [e]; exact ltr_at hj)
theorem ltr_atI {i : Int} (h0 : 0 ≤ i) (h : i < 25) : atI ltrs.cps.toList i = some (ltr i.toNat) := by
  have e : i = ((i.toNat : Nat) : Int) := by omega
  rw [e]
  exact atI_nat (by rw [Int.toNat_natCast]; exact ltr_at (by omega))
theorem ltrs_fit : ltrs.length ≤ sizeLine := by decide +kernel
theorem nodup_of {α : Type} {f : Nat → α} {m : Nat} (h : ∀ i j, i < j → j < m → f i ≠ f j) : ((List.range m).map f).Nodup := by
  refine List.pairwise_iff_getElem.mpr fun i j hi hj hij => ?_
  rw [List.length_map, List.length_range] at hi hj
  rw [List.getElem_map, List.getElem_map, List.getElem_range, List.getElem_range]
  exact h i j hij hj
/-- the k-th word of one letter told k + 1 times -/
def rep (c : Nat) (k : Nat) : Str := Txt.mul ⟨#[c]⟩ ((k : Int) + 1)
theorem fold_app (c : Nat) : ∀ (n : Nat) (acc : Array Nat), ((List.replicate n (#[c] : Array Nat)).foldl (· ++ ·) acc).toList = acc.toList ++ List.replicate n c
  | 0, acc => by simp
  | n + 1, acc => by
    rw [List.replicate_succ, List.foldl_cons, fold_app c n, Array.toList_append, List.replicate_succ, List.append_assoc]
    rfl
theorem rep_codes (c k : Nat) : (rep c k).cps.toList = List.replicate (k + 1) c := by
  unfold rep Txt.mul
  rw [if_neg (by omega)]
  by_cases h : k = 0
  · subst h
    rfl
  · have e : (((k : Int) + 1 == 1) || ((⟨#[c]⟩ : Str).length == 0)) = false := by
      rw [show ((k : Int) + 1 == 1) = false from beq_eq_false_iff_ne.mpr (by omega)]
      rfl
    rw [e, if_neg Bool.false_ne_true, show ((k : Int) + 1).toNat = k + 1 by omega]
    exact (fold_app c (k + 1) #[]).trans (List.nil_append _)
theorem rep_ok {c k : Nat} (hk : k < 7) : MulOk ⟨#[c]⟩ ((k : Int) + 1) := by
  refine ⟨?_, fun _ _ => ?_, fun _ _ => ?_⟩
  · rw [decide_eq_false (by omega), decide_eq_false (by omega)]
    rfl
  · show ¬ ((1 : Int) > (2 ^ 63 - 1) / ((k : Int) + 1))
    have : k = 0 ∨ k = 1 ∨ k = 2 ∨ k = 3 ∨ k = 4 ∨ k = 5 ∨ k = 6 := by omega
    rcases this with rfl | rfl | rfl | rfl | rfl | rfl | rfl <;> decide
  · rw [show (⟨#[c]⟩ : Str).length * ((k : Int) + 1).toNat = k + 1 by show 1 * _ = _; omega]
    have : k = 0 ∨ k = 1 ∨ k = 2 ∨ k = 3 ∨ k = 4 ∨ k = 5 ∨ k = 6 := by omega
    rcases this with rfl | rfl | rfl | rfl | rfl | rfl | rfl <;> decide +kernel
theorem rep_nm {c k : Nat} (hc : 97 ≤ c ∧ c ≤ 122) (hk : k < 7) : IsNm (rep c k) := by
  have l : (rep c k).cps.size = k + 1 := by rw [← Array.length_toList, rep_codes, List.length_replicate]
  refine ⟨by omega, by omega, fun x hx => ?_⟩
  rw [rep_codes] at hx
  rw [List.eq_of_mem_replicate hx]
  exact hc
theorem rep_ne {c i j : Nat} (h : i < j) : rep c i ≠ rep c j := fun e => by
  have := congrArg (fun z : Str => z.cps.toList.length) e
  simp only [rep_codes, List.length_replicate] at this
  omega
/-- a stem with one letter put in -/
def put1 (z : Str) (at_ : Int) (c : Nat) : Str := cutS z none (some at_) ++ ⟨#[c]⟩ ++ cutS z (some at_) none
theorem put1_codes {z : Str} {n : Nat} (h : n ≤ z.length) (c : Nat) : (put1 z (n : Int) c).cps.toList = z.cps.toList.take n ++ c :: z.cps.toList.drop n := by
  have l : z.cps.toList.length = z.length := Array.length_toList
  have e1 : (cutS z none (some (n : Int))).cps.toList = z.cps.toList.take n := by
    show ((z.cps.toList.drop (HT.sIx z.length 0 none)).take (HT.sIx z.length z.length (some (n : Int)) - HT.sIx z.length 0 none)) = _
    rw [HT.sIx_none, HT.sIx_nat, Nat.min_eq_left h]
    rfl
  have e2 : (cutS z (some (n : Int)) none).cps.toList = z.cps.toList.drop n := by
    show ((z.cps.toList.drop (HT.sIx z.length 0 (some (n : Int)))).take (HT.sIx z.length z.length none - HT.sIx z.length 0 (some (n : Int)))) = _
    rw [HT.sIx_none, HT.sIx_nat, Nat.min_eq_left h]
    exact List.take_of_length_le (by rw [List.length_drop, l]; exact Nat.le_refl _)
  show ((cutS z none (some (n : Int))).cps ++ #[c] ++ (cutS z (some (n : Int)) none).cps).toList = _
  rw [Array.toList_append, Array.toList_append, e1, e2, List.append_assoc]
  rfl
theorem put1_nm {z : Str} {n c : Nat} (h : n ≤ z.length) (hz : z.length ≤ 7) (hs : ∀ x ∈ z.cps.toList, 97 ≤ x ∧ x ≤ 122) (hc : 97 ≤ c ∧ c ≤ 122) : IsNm (put1 z (n : Int) c) := by
  have l0 : z.cps.toList.length = z.length := Array.length_toList
  have l : (put1 z (n : Int) c).cps.size = z.length + 1 := by
    rw [← Array.length_toList, put1_codes h, List.length_append, List.length_cons, List.length_take, List.length_drop, l0]
    omega
  refine ⟨by omega, by omega, fun x hx => ?_⟩
  rw [put1_codes h] at hx
  rcases List.mem_append.mp hx with q | q
  · exact hs _ (List.mem_of_mem_take q)
  · rcases List.mem_cons.mp q with q | q
    · rw [q]; exact hc
    · exact hs _ (List.mem_of_mem_drop q)
theorem put1_ne {z : Str} {n c c' : Nat} (h : n ≤ z.length) (hc : c ≠ c') : put1 z (n : Int) c ≠ put1 z (n : Int) c' := fun e => by
  have q := congrArg (fun z : Str => z.cps.toList) e
  simp only [put1_codes h] at q
  exact hc (List.cons.inj (List.append_cancel_left q)).1
abbrev one (c : Nat) : Str := ⟨#[c]⟩
theorem glue1 : ∀ (cs : List Nat) (acc : Array Nat), ((cs.map one).foldl (fun acc p => acc ++ (Str.ofString "").cps ++ p.cps) acc).toList = acc.toList ++ cs
  | [], acc => by simp
  | c :: cs, acc => by
    rw [List.map_cons, List.foldl_cons, glue1 cs, Array.toList_append, Array.toList_append, show (Str.ofString "").cps.toList = [] by decide +kernel, List.append_nil, List.append_assoc]
    rfl
theorem join1 : ∀ cs : List Nat, (Txt.join (Str.ofString "") (cs.map one)).cps.toList = cs
  | [] => rfl
  | c :: cs => glue1 cs #[c]
theorem But.free {a d : Addr} {H H' : Hp} {o : HO} (s : But a H H') (ha : H' a = some o) (h : H' d = none) : H d = none := by
  cases q : H d with
  | none => rfl
  | some u =>
    by_cases e : d = a
    · rw [e, ha] at h
      cases h
    · rw [s d u e q] at h
      cases h
theorem Box.is {H : Hp} {a : Addr} {n : Nat} (b : Box H a n) : ∃ o, H a = some o := by
  obtain ⟨b0, b1, b2, h, _⟩ := b
  exact ⟨_, h⟩
theorem Box.ne {H : Hp} {a d : Addr} {n : Nat} (b : Box H a n) (h : H d = none) : a ≠ d := by
  obtain ⟨o, e⟩ := b.is
  exact ne_of_none e h
theorem Box.upd {H : Hp} {a d : Addr} {n : Nat} {o : HO} (b : Box H a n) (h : a ≠ d) : Box (upd H d o) a n := by
  obtain ⟨b0, b1, b2, e, r⟩ := b
  exact ⟨b0, b1, b2, by rw [upd_ne h]; exact e, r⟩
theorem ifT {c : Prop} [Decidable c] {A B : Prop} (hc : c) (h : A) : if decide c = true then A else B := by
  rw [if_pos (decide_eq_true hc)]
  exact h
theorem ifF {c : Prop} [Decidable c] {A B : Prop} (hc : ¬ c) (h : B) : if decide c = true then A else B := by
  rw [decide_eq_false hc, if_neg Bool.false_ne_true]
  exact h
theorem ltr_noq : ∀ k, k < 25 → ltr k ≠ 113 := by decide +kernel
theorem put1_qq {z : Str} {n c : Nat} (h : n ≤ z.length) (hc : c ≠ 113) : put1 z (n : Int) c ≠ "qq" := fun e => by
  have m : c ∈ (put1 z (n : Int) c).cps.toList := by
    rw [put1_codes h]
    exact List.mem_append.mpr (.inr (List.mem_cons_self ..))
  rw [e, show (Str.ofString "qq").cps.toList = [113, 113] by decide +kernel] at m
  rcases List.mem_cons.mp m with q | q
  · exact hc q
  · exact hc (List.mem_singleton.mp q)
section
variable {P : Program} {w : World} {K : PySem.W.Frag} {mg : Str → Option Value} {base : Heap} {f : Addr} {fd : FuncData}
/-! ### _law_names -/
abbrev sNames : Stmt := top 24
theorem scNames : FnScope ["_law_box", "_law_many", "_law_letters", "_law_onset", "_law_way", "_law_stem", "_law_at", "_law_k"] ["_law_box", "_law_many"] (defScope sNames) := ⟨rfl, rfl, rfl, by decide +kernel, rfl, by decide +kernel, by decide +kernel⟩
def spNames : Sp := fun vs H Q _ => ∃ (a : Addr) (n m : Nat), vs = [.ref a, .int m] ∧ Box H a n ∧ n + 12 ≤ 1000000 ∧ 8 ≤ m ∧ m ≤ 25 ∧
  ∀ (p : Addr) (ws : List Str) (H' : Hp), But a H H' → Box H' a (n + 12) → H p = none → H' p = some (.lst (ws.map V.str)) → ws.length = m → ws.Nodup → (∀ z ∈ ws, z ≠ "qq") → Q (.ref p) H'
theorem ok_names {k : Nat} (F : Fun K "_law_names" "_law_names" sNames f fd) (G : FnG P w K mg base CX0 k "_law_take" ["_law_box", "_law_many"] spTake) (m_len : mg "len" = none) (m_range : mg "range" = none) :
    FnOk P w K mg base CX0 (k + 1) f fd ["_law_box", "_law_many"] spNames := by
  obtain ⟨_, _, G__law_take, m__law_take, k__law_take, b__law_take⟩ := G
  have sc := scNames
  refine F.ok sc (fun vs H Q E h => ?_) (fun cdv A outer s H vs Q E hr h => ?_)
  · obtain ⟨a, n, m, rfl, _⟩ := h
    rfl
  obtain ⟨a, n, m, rfl, hB, hn, hm, hm2, q⟩ := h
  refine ⟨_, (pss_cons (ps_asg (pe_tup (pa_cons pe_str (pa_cons (pe_call G__law_take (hr.mono (by omega)) (by rfl) m__law_take k__law_take b__law_take .nil pass0 (pa_cons (pv 0) (pa_cons pe_int pa_nil))) (pa_cons (pe_call G__law_take (hr.mono (by omega)) (by rfl) m__law_take k__law_take b__law_take .nil pass0 (pa_cons (pv 0) (pa_cons pe_int pa_nil))) pa_nil)))) (pg_tup (by rfl) (pgs_cons (pg_name (i := 2) sc.nd rfl (.inr rfl)) (pgs_cons (pg_name (i := 3) sc.nd rfl (.inr rfl)) (pgs_cons (pg_name (i := 4) sc.nd rfl (.inl rfl)) pgs_nil)))))
      (pss_cons (ps_set (i := 5) sc.nd rfl (.inr rfl) (pe_join pe_str (pe_lc (own := [("_law_k", 7)]) (by rfl) sc.nd  (pi_range1 (by rfl) m_range (pa_cons (pe_call G__law_take (hr.mono (by omega)) (by rfl) m__law_take k__law_take b__law_take .nil pass0 (pa_cons (pv 0) (pa_cons pe_int pa_nil))) pa_nil)) (blkOk_by (own := [("_law_k", 7)]) (N := ["_law_box", "_law_many", "_law_letters", "_law_onset", "_law_way", "_law_stem", "_law_at", "_law_k"]) (sc := defScope sNames) (by decide +kernel)) (fun _ _ _ _ _ => (pg_name (i := 7) sc.nd rfl (.inl rfl))) (fun _ _ _ _ _ => pts_nil) (fun _ _ _ _ _ => (pe_ix ix_str (pv 2) (pe_call G__law_take (hr.mono (by omega)) (by rfl) m__law_take k__law_take b__law_take .nil pass0 (pa_cons (pv 0) (pa_cons pe_int pa_nil))) (fun _ _ => rfl))))))
      (pss_cons (ps_if (PW.pt (pw_and (pt_cmpR op_lt (pv 1) pe_int (nomark _)) (pw_and1 (pt_cmpR op_eq (pv 4) pe_int (nomark _))))) (pss_one (ps_ret (pe_lc (own := [("_law_k", 7)]) (by rfl) sc.nd  (pi_range1 (by rfl) m_range (pa_cons (pv 1) pa_nil)) (blkOk_by (own := [("_law_k", 7)]) (N := ["_law_box", "_law_many", "_law_letters", "_law_onset", "_law_way", "_law_stem", "_law_at", "_law_k"]) (sc := defScope sNames) (by decide +kernel)) (fun _ _ _ _ _ => (pg_name (i := 7) sc.nd rfl (.inl rfl))) (fun _ _ _ _ _ => pts_nil) (fun _ _ _ _ _ => (pe_op op_mul_str (pe_ix ix_str (pv 2) (pv 3) (fun _ _ => rfl)) (pe_op op_add (pv 7) pe_int)))))) pss_nil)
      (pss_cons (ps_set (i := 6) sc.nd rfl (.inr rfl) (pe_ix ix_list (pe_lst (pa_cons pe_int (pa_cons (pe_call G__law_take (hr.mono (by omega)) (by rfl) m__law_take k__law_take b__law_take .nil pass0 (pa_cons (pv 0) (pa_cons (pe_op op_add (pe_callB call_len_str (by rfl) m_len (by decide +kernel) (pa_cons (pv 5) pa_nil)) pe_int) pa_nil))) (pa_cons (pe_callB call_len_str (by rfl) m_len (by decide +kernel) (pa_cons (pv 5) pa_nil)) pa_nil)))) (pv 4) (fun _ _ => rfl)))
      (pss_one (ps_ret (pe_lc (own := [("_law_k", 7)]) (by rfl) sc.nd  (pi_range1 (by rfl) m_range (pa_cons (pv 1) pa_nil)) (blkOk_by (own := [("_law_k", 7)]) (N := ["_law_box", "_law_many", "_law_letters", "_law_onset", "_law_way", "_law_stem", "_law_at", "_law_k"]) (sc := defScope sNames) (by decide +kernel)) (fun _ _ _ _ _ => (pg_name (i := 7) sc.nd rfl (.inl rfl))) (fun _ _ _ _ _ => pts_nil) (fun _ _ _ _ _ => (pe_op op_add_str (pe_op op_add_str (pe_slice sl_str (pv 5) po_none (po_some (pv 6))) (pe_ix ix_str (pv 2) (pe_op op_mod (pe_op op_add (pv 3) (pe_op op_mul pe_int (pv 7))) pe_int) (fun _ _ => rfl))) (pe_slice sl_str (pv 5) (po_some (pv 6)) po_none)))))))))), ?_⟩
  refine ⟨_, rfl, a, n, 25, rfl, hB, by omega, by decide, by decide, fun r1 H1 r10 r11 s1 B1 => ⟨_, rfl, a, n + 1, 3, rfl, B1, by omega, by decide, by decide, fun r2 H2 r20 r21 s2 B2 => ?_⟩⟩
  refine ⟨by show 3 ≤ sizeLine; decide, fun t nt => ⟨t, _, rfl, .inl (.inl upd_same), rfl, _, _, rfl, _, _, rfl, _, _, rfl, rfl, ?_⟩⟩
  have s3 := (s1.trans s2).trans (But.of (same_upd (o := .tup [.str ltrs, .int r1, .int r2]) nt))
  have B3 : Box (upd H2 t (.tup [.str ltrs, .int r1, .int r2])) a (n + 2) := B2.same (same_upd nt)
  refine ⟨⟨_, rfl⟩, _, rfl, a, n + 2, 8, rfl, B3, by omega, by decide, by decide, fun r3 H3 r30 r31 s4 B4 => ⟨r3, rfl, by omega, by omega, fun D nD => lc_it walk_range
    (fun i H' => But a H3 H' ∧ Box H' a (n + 3 + i) ∧ ∃ cs : List Nat, cs.length = i ∧ (∀ c ∈ cs, 97 ≤ c ∧ c ≤ 122) ∧ H' D = some (.lst ((cs.map one).map V.str))) ⟨But.of (same_upd nD), B4.same (same_upd nD), [], rfl, (by intro c hc; cases hc), upd_same⟩
    (fun _ _ _ _ => trivial) ?_ ?_⟩⟩
  · rintro i x H4 _ hi ⟨s5, B5, cs, hl, hc, hD⟩ ⟨rfl, rfl⟩
    refine ⟨rfl, ?_⟩
    unfold tYes
    refine iteT ⟨_, rfl, _, rfl, a, n + 3 + i, 25, rfl, B5, by omega, by decide, by decide, fun r4 H5 r40 r41 s6 B6 => ?_⟩
    have aD : D ≠ a := (B4.ne nD).symm
    have hD5 := s6 _ _ aD hD
    refine ⟨ltrs, r4, _, rfl, rfl, ltrs_fit, ltr_atI r40 r41, _, hD5, ?_, fun b o nb h => ?_, B6.upd aD.symm, cs ++ [ltr r4.toNat], by rw [List.length_append, hl]; rfl, fun c hc' => ?_, ?_⟩
    · rw [List.length_map, List.length_map, hl]
      exact small1000 (by omega)
    · by_cases hb : b = D
      · rw [hb, nD] at h
        cases h
      · rw [upd_ne hb]
        exact s6 _ _ nb (s5 _ _ nb h)
    · rcases List.mem_append.mp hc' with z | z
      · exact hc c z
      · rw [List.mem_singleton.mp z]
        exact ltr_ok (by omega)
    · rw [upd_same, List.map_append, List.map_append]
      rfl
  rintro H4 ⟨s5, B5, cs, hl, hc, hD⟩
  have r3l : r3.toNat ≤ 7 := by omega
  refine ⟨_, D, cs.map one, rfl, rfl, .inl (SqL.of hD), ?_, ?_⟩
  · have e1 : ((cs.map one).map (·.length)).sum = cs.length := by
      clear hl hc hD
      induction cs with
      | nil => rfl
      | cons c r ih => rw [List.map_cons, List.map_cons, List.sum_cons, ih, List.length_cons]; show 1 + _ = _; omega
    rw [e1, show (Str.ofString "").length = 0 by decide +kernel, Nat.mul_zero]
    omega
  generalize hst : Txt.join (Str.ofString "") (cs.map one) = stem
  have stc : stem.cps.toList = cs := by rw [← hst]; exact join1 cs
  have stl : stem.length = r3.toNat := by rw [show stem.length = stem.cps.toList.length from Array.length_toList.symm, stc, hl]
  have sta : ∀ x ∈ stem.cps.toList, 97 ≤ x ∧ x ≤ 122 := by rw [stc]; exact hc
  have B6 : Box H4 a (n + 10) := B5.le (by omega)
  have s6 := (s3.trans s4).trans s5
  obtain ⟨ob, hob⟩ := B6.is
  refine ⟨_, rfl, _, _, rfl, rfl, _, rfl, ifF (by omega) ?_⟩
  refine ⟨_, rfl, _, rfl, stem, rfl, Nat.le_of_lt (small1000 (by omega)), _, 1, rfl, rfl, a, n + 10, _, rfl, B6, by omega, by omega, by omega, fun r4 H5 r40 r41 s7 B7 => ?_⟩
  refine ⟨_, rfl, stem, rfl, Nat.le_of_lt (small1000 (by omega)), by show 3 ≤ sizeLine; decide, fun l nl => ?_⟩
  obtain ⟨na, hna, hat⟩ : ∃ na : Nat, na ≤ stem.length ∧ atI [V.int 0, V.int r4, V.int (stem.length : Nat)] r2 = some (.int (na : Int)) := by
    have : r2 = 0 ∨ r2 = 1 ∨ r2 = 2 := by omega
    rcases this with rfl | rfl | rfl
    · exact ⟨0, Nat.zero_le _, rfl⟩
    · exact ⟨r4.toNat, by omega, by rw [show ((r4.toNat : Nat) : Int) = r4 by omega]; rfl⟩
    · exact ⟨stem.length, Nat.le_refl _, rfl⟩
  refine ⟨_, rfl, l, _, r2, _, rfl, rfl, SqL.of upd_same, hat, ?_⟩
  have s8 : But a H4 (upd H5 l (.lst [.int 0, .int r4, .int (stem.length : Nat)])) := s7.trans (But.of (same_upd nl))
  have B8 : Box (upd H5 l (.lst [.int 0, .int r4, .int (stem.length : Nat)])) a (n + 11) := B7.same (same_upd nl)
  obtain ⟨ob8, hob8⟩ := B8.is
  refine ⟨_, rfl, m, rfl, by omega, by omega, fun D2 nD2 => lc_it walk_range
    (fun i H' => But a (upd H5 l (.lst [.int 0, .int r4, .int (stem.length : Nat)])) H' ∧ Box H' a (n + 11) ∧ H' D2 = some (.lst (((List.range i).map fun k => put1 stem (na : Int) (ltr ((r1.toNat + 7 * k) % 25))).map V.str)))
    ⟨But.of (same_upd nD2), B8.same (same_upd nD2), upd_same⟩ (fun _ _ _ _ => trivial) ?_ ?_⟩
  · rintro i x H6 _ hi ⟨s9, B9, hD2⟩ ⟨rfl, ex⟩
    obtain rfl : x = V.int i := ex.trans (congrArg V.int (Int.zero_add _))
    have hi' : i < m := by simpa using hi
    have ei : (r1 + 7 * (i : Int)) % 25 = (((r1.toNat + 7 * i) % 25 : Nat) : Int) := by omega
    refine ⟨rfl, ?_⟩
    unfold tYes
    refine iteT ⟨_, rfl, _, rfl, na, rfl, stem, rfl, Nat.le_of_lt (small1000 (by omega)), _, rfl, _, rfl, _, rfl, 7, i, rfl, rfl, .inl ⟨by decide, by decide⟩, r1, _, rfl, rfl, _, 25, rfl, rfl, (show (0 : Int) < 25 by decide),
      ltrs, _, _, rfl, rfl, ltrs_fit, ltr_atI (by omega) (by omega), _, _, rfl, rfl, ?_, _, rfl, _, rfl, na, rfl, stem, rfl, Nat.le_of_lt (small1000 (by omega)), _, _, rfl, rfl, ?_, _, hD2, ?_, fun b o nb h => ?_, B9.upd (B8.ne nD2), ?_⟩
    · have := cutS_length stem none (some (na : Int))
      exact Nat.le_of_lt (small1000 (by show (cutS stem none (some (na : Int))).length + 1 ≤ 1000; omega))
    · have h1 := cutS_length stem none (some (na : Int))
      have h2 := cutS_length stem (some (na : Int)) none
      have h3 : (cutS stem none (some (na : Int)) ++ one (ltr ((r1 + 7 * (i : Int)) % 25).toNat)).length = (cutS stem none (some (na : Int))).length + 1 := Array.size_append
      exact Nat.le_of_lt (small1000 (by show (cutS stem none (some (na : Int)) ++ one (ltr ((r1 + 7 * (i : Int)) % 25).toNat)).length + (cutS stem (some (na : Int)) none).length ≤ 1000; omega))
    · rw [List.length_map, List.length_map, List.length_range]
      exact small1000 (by omega)
    · rw [upd_ne (fun z => by rw [z, nD2] at h; cases h)]
      exact s9 _ _ nb h
    · rw [upd_same, List.range_succ, List.map_append, List.map_append]
      show some (HO.lst (_ ++ [V.str (put1 stem (na : Int) (ltr ((r1 + 7 * (i : Int)) % 25).toNat))])) = _
      rw [ei, Int.toNat_natCast]
      rfl
  · rintro H6 ⟨s9, B9, hD2⟩
    refine q D2 _ H6 ((s6.trans s8).trans s9) (B9.le (by omega)) ((s6.trans s8).free hob8 nD2) hD2 ?_ (nodup_of fun i j h1 h2 => put1_ne hna fun z => ?_) fun z hz => ?_
    · rw [List.length_map, List.length_range, Int.toNat_natCast]
    · have := ltr_inj (Nat.mod_lt _ (by decide)) (Nat.mod_lt _ (by decide)) z
      have h2' : j < m := by simpa using h2
      omega
    · obtain ⟨i, hi, rfl⟩ := List.mem_map.mp hz
      exact put1_qq hna (ltr_noq _ (Nat.mod_lt _ (by decide)))
end
end Fd

set_option Elab.async false
set_option linter.all false
set_option maxRecDepth 100000
set_option maxHeartbeats 2000000
namespace Fd
open PySem PySem.Spec PyProof.Rows L2
/-! ### more rules -/
def gOr (g g' : TG) : TG := fun v σ H Q => g v σ H Q ∨ g' v σ H Q
section
variable {X : Cx}
/-- of several defs that may raise, the one that the i-th slot holds -/
def HeldX (P : Program) (w : World) (K : PySem.W.Frag) (mg : Str → Option Value) (base : Heap) (k : Nat) (f : Addr) (sp : Sp) : Prop :=
  ∃ (fd : FuncData) (ps : List Str), FnOk P w K mg base (L2.CX P w) k f fd ps sp ∧ PySem.W.keepIn K (.ref f) = true ∧ Binds K fd ps []
def tCallX (P : Program) (w : World) (K : PySem.W.Frag) (mg : Str → Option Value) (base : Heap) (k i : Nat) (E : L2.St → XK) (t : TA) : TE := fun σ H Q =>
  ∃ f sp, σ[i]? = some (some (.ref f)) ∧ HeldX P w K mg base k f sp ∧ t σ H fun vs H1 => sp vs H1 Q (E σ)
theorem pe_callX {k i : Nat} {E : L2.St → XK} {x : Str} {p pos : Pos} {e : Expr} {es : List Expr} {t : TA} (hr : Room k X.A) (hN : X.N[i]? = some x) (hv : Vis X.env.scope x)
    (hx : ∀ σ, PassesAt (L2.CX X.prog X.w) X σ (E σ)) (ha : PA X (e :: es) t) (hdb : (x == ("__debug__" : Str)) = false := by decide) (hcd : (x == ("__classdict__" : Str)) = false := by decide)
    (he : starEach (e :: es) X.env = (false, eval e X.env) :: starEach es X.env := by rfl) (hpl : (backTo pos (starEach es X.env)).any (·.1) = false := by rfl) :
    PE X (.Call (.Name x p) (e :: es) [] pos) (tCallX X.prog X.w X.K X.mg X.base k i E t) := by
  refine ⟨fun pins s σ H Q I h => ?_⟩
  obtain ⟨f, sp, hs, ⟨fd, ps, F, hk, hb⟩, ht⟩ := h
  have ld := (pe_var (pos := p) hN hv hdb hcd).run pins s σ H (fun v H1 => v = .ref f ∧ H1 = H) I ⟨.ref f, hs, rfl, rfl⟩
  refine wpAny_Call_Name_kw (thn ld fun u s1 hh => ?_)
  obtain ⟨v, H1, I1, r1, rfl, rfl⟩ := hh
  cases r1
  refine PySem.W.callWith_K (h₀ := X.base) I.ok.mod.kin hk (thn (ha.run pos pins s1 σ _ _ I1 ht) fun us s2 hh => ?_) he hpl
  obtain ⟨vs, H2, I2, r2, q2⟩ := hh
  exact ⟨I2.kIn, run_fnS F hr hb (hx σ) I2 r2 q2⟩
/-- a target by either of two readings -/
theorem pg_or {tg : Expr} {g g' : TG} (h : PG X tg g) (h' : PG X tg g') : PG X tg (gOr g g') :=
  ⟨fun pins s σ H v u Q I r q => q.elim (h.run pins s σ H v u Q I r) (h'.run pins s σ H v u Q I r)⟩
/-- what is walked, by either of two readings -/
theorem pi_or {tg it : Expr} {w w' : TI} (h : PI X tg it w) (h' : PI X tg it w') : PI X tg it (fun σ H R => w σ H R ∨ w' σ H R) :=
  ⟨fun pins s σ H R I q => q.elim (h.run pins s σ H R I) (h'.run pins s σ H R I)⟩
end
/-! ### a list or a tuple -/
def Sq (K : PySem.W.Frag) (H : Hp) (a : Addr) (xs : List V) : Prop := SqT K H a xs ∨ SqL K H a xs
theorem Sq.same {K : PySem.W.Frag} {H H' : Hp} {a : Addr} {xs : List V} (h : Sq K H a xs) (s : Same H H') : Sq K H' a xs := h.elim (fun z => .inl (seqT s z)) fun z => .inr (s.seq z)
theorem Sq.tup {K : PySem.W.Frag} {H : Hp} {a : Addr} {xs : List V} (h : H a = some (.tup xs)) : Sq K H a xs := .inl (SqT.of h)
theorem Sq.lst {K : PySem.W.Frag} {H : Hp} {a : Addr} {xs : List V} (h : H a = some (.lst xs)) : Sq K H a xs := .inr (SqL.of h)
theorem Sq.ty {K : PySem.W.Frag} {H : Hp} {a : Addr} {xs : List V} (h : Sq K H a xs) : TyX K H (.ref a) (.type "tuple") ∨ TyX K H (.ref a) (.type "list") := h.elim (fun z => .inl (ty_tup z)) fun z => .inr (ty_lst z)
theorem ixq {K : PySem.W.Frag} {H : Hp} {a : Addr} {xs : List V} {i : Int} {v : V} {Q : VK} (h : Sq K H a xs) (e : atI xs i = some v) (q : Q v H) : rIxT K (.ref a) (.int i) H Q ∨ rIxL K (.ref a) (.int i) H Q :=
  h.elim (fun z => .inl ⟨a, xs, i, v, rfl, rfl, z, e, q⟩) fun z => .inr ⟨a, xs, i, v, rfl, rfl, z, e, q⟩
/-- a fall by the word w from the heap H -/
def Falls (C : Addr) (E : XK) (H : Hp) (w : Str) : Prop := ∀ d, H d = none → E (.ref C) (some d) (upd H d (.xd [(("word" : Str), .str w)]))
section
variable {P : Program} {w : World} {K : PySem.W.Frag} {mg : Str → Option Value} {base : Heap} {f C fI : Addr} {fd : FuncData}
/-! ### _law_a_value -/
abbrev sAValue : Stmt := top 25
theorem scAValue : FnScope ["_law_box", "_law_some"] ["_law_box"] (defScope sAValue) := ⟨rfl, rfl, rfl, by decide +kernel, rfl, by decide +kernel, by decide +kernel⟩
def spAValue : Sp := fun vs H Q _ => ∃ (a : Addr) (n : Nat), vs = [.ref a] ∧ Box H a n ∧ n + 5 ≤ 1000000 ∧ ∀ r H', -1000000 ≤ r → r ≤ 1000000 → But a H H' → Box H' a (n + 5) → Q (.int r) H'
theorem ok_aValue {k : Nat} (F : Fun K "_law_a_value" "_law_a_value" sAValue f fd) (G : FnG P w K mg base CX0 k "_law_take" ["_law_box", "_law_many"] spTake) : FnOk P w K mg base CX0 (k + 1) f fd ["_law_box"] spAValue := by
  obtain ⟨_, _, G__law_take, m__law_take, k__law_take, b__law_take⟩ := G
  have sc := scAValue
  refine F.ok sc (fun vs H Q E h => ?_) (fun cdv A outer s H vs Q E hr h => ?_)
  · obtain ⟨a, n, rfl, _⟩ := h
    rfl
  obtain ⟨a, n, rfl, hB, hn, q⟩ := h
  refine ⟨_, (pss_cons (ps_set (i := 1) sc.nd rfl (.inl rfl) (pe_lst (pa_cons (pe_op op_sub (pe_call G__law_take (hr.mono (by omega)) (by rfl) m__law_take k__law_take b__law_take .nil pass0 (pa_cons (pv 0) (pa_cons pe_int pa_nil))) pe_int) (pa_cons (pe_call G__law_take (hr.mono (by omega)) (by rfl) m__law_take k__law_take b__law_take .nil pass0 (pa_cons (pv 0) (pa_cons pe_int pa_nil))) (pa_cons (pe_op op_sub (pe_op op_pow pe_int pe_int) (pe_call G__law_take (hr.mono (by omega)) (by rfl) m__law_take k__law_take b__law_take .nil pass0 (pa_cons (pv 0) (pa_cons pe_int pa_nil)))) (pa_cons (pe_op op_sub (pe_call G__law_take (hr.mono (by omega)) (by rfl) m__law_take k__law_take b__law_take .nil pass0 (pa_cons (pv 0) (pa_cons pe_int pa_nil))) (pe_op op_pow pe_int pe_int)) pa_nil))))))
      (pss_one (ps_ret (pe_ix ix_list (pv 1) (pe_ix ix_list (pe_lst (pa_cons pe_int (pa_cons pe_int (pa_cons pe_int (pa_cons pe_int (pa_cons pe_int (pa_cons pe_int (pa_cons pe_int pa_nil)))))))) (pe_call G__law_take (hr.mono (by omega)) (by rfl) m__law_take k__law_take b__law_take .nil pass0 (pa_cons (pv 0) (pa_cons pe_int pa_nil))) (fun _ _ => rfl)) (fun _ _ => rfl))))), ?_⟩
  refine ⟨_, rfl, a, n, 9, rfl, hB, by omega, by decide, by decide, fun r1 H1 r10 r11 s1 B1 => ⟨_, 3, rfl, rfl, _, rfl, a, n + 1, 4, rfl, B1, by omega, by decide, by decide, fun r2 H2 r20 r21 s2 B2 => ?_⟩⟩
  refine ⟨10, 6, rfl, rfl, ⟨by decide, by decide, by decide⟩, _, rfl, a, n + 2, 2, rfl, B2, by omega, by decide, by decide, fun r3 H3 r30 r31 s3 B3 => ⟨_, _, rfl, rfl, _, rfl, a, n + 3, 2, rfl, B3, by omega, by decide, by decide, fun r4 H4 r40 r41 s4 B4 => ?_⟩⟩
  refine ⟨10, 6, rfl, rfl, ⟨by decide, by decide, by decide⟩, _, _, rfl, rfl, by show 4 ≤ sizeLine; decide, fun l nl => ?_⟩
  have B5 := B4.same (same_upd (o := .lst [.int (r1 - 3), .int r2, .int (10 ^ (6 : Int).toNat - r3), .int (r4 - 10 ^ (6 : Int).toNat)]) nl)
  refine ⟨_, rfl, by show 7 ≤ sizeLine; decide, fun t nt => ?_⟩
  have B6 := B5.same (same_upd (o := .lst [.int 0, .int 0, .int 0, .int 1, .int 1, .int 2, .int 3]) nt)
  refine ⟨_, rfl, a, n + 4, 7, rfl, B6, by omega, by decide, by decide, fun r5 H5 r50 r51 s5 B7 => ?_⟩
  have ta : t ≠ a := (B5.ne nt).symm
  have la : l ≠ a := (B4.ne nl).symm
  have lt := s5 _ _ ta upd_same
  have ll := s5 l _ la (by rw [upd_ne (fun z => by rw [z, upd_same] at nt; cases nt), upd_same])
  have sm : But a H H5 := (((s1.trans s2).trans (s3.trans s4)).trans (But.of (same_upd nl))).trans ((But.of (same_upd nt)).trans s5)
  have pw : (10 : Int) ^ (6 : Int).toNat = 1000000 := by decide
  have : r5 = 0 ∨ r5 = 1 ∨ r5 = 2 ∨ r5 = 3 ∨ r5 = 4 ∨ r5 = 5 ∨ r5 = 6 := by omega
  rcases this with rfl | rfl | rfl | rfl | rfl | rfl | rfl
  · exact ⟨t, _, 0, .int 0, rfl, rfl, SqL.of lt, rfl, l, _, 0, _, rfl, rfl, SqL.of ll, rfl, q _ _ (by omega) (by omega) sm B7⟩
  · exact ⟨t, _, 1, .int 0, rfl, rfl, SqL.of lt, rfl, l, _, 0, _, rfl, rfl, SqL.of ll, rfl, q _ _ (by omega) (by omega) sm B7⟩
  · exact ⟨t, _, 2, .int 0, rfl, rfl, SqL.of lt, rfl, l, _, 0, _, rfl, rfl, SqL.of ll, rfl, q _ _ (by omega) (by omega) sm B7⟩
  · exact ⟨t, _, 3, .int 1, rfl, rfl, SqL.of lt, rfl, l, _, 1, _, rfl, rfl, SqL.of ll, rfl, q _ _ (by omega) (by omega) sm B7⟩
  · exact ⟨t, _, 4, .int 1, rfl, rfl, SqL.of lt, rfl, l, _, 1, _, rfl, rfl, SqL.of ll, rfl, q _ _ (by omega) (by omega) sm B7⟩
  · exact ⟨t, _, 5, .int 2, rfl, rfl, SqL.of lt, rfl, l, _, 2, _, rfl, rfl, SqL.of ll, rfl, q _ _ (by omega) (by omega) sm B7⟩
  · exact ⟨t, _, 6, .int 3, rfl, rfl, SqL.of lt, rfl, l, _, 3, _, rfl, rfl, SqL.of ll, rfl, q _ _ (by omega) (by omega) sm B7⟩
/-! ### is_number, is_value -/
abbrev sIsNum : Stmt := top 6
theorem scIsNum : FnScope ["thing"] ["thing"] (defScope sIsNum) := ⟨rfl, rfl, rfl, by decide +kernel, rfl, by decide +kernel, by decide +kernel⟩
def spIsNum (K : PySem.W.Frag) : Sp := fun vs H Q _ => ∃ x, vs = [x] ∧ ((∃ i, x = .int i ∧ Q (.bl true) H) ∨ ∃ a xs, x = .ref a ∧ Sq K H a xs ∧ Q (.bl false) H)
theorem ok_isNum {k : Nat} (F : Fun K "is_number" "is_number" sIsNum f fd) (m_isinstance : mg "isinstance" = none) (m_int : mg "int" = none) (m_bool : mg "bool" = none) :
    FnOk P w K mg base CX0 (k + 1) f fd ["thing"] (spIsNum K) := by
  have sc := scIsNum
  refine F.ok sc (fun vs H Q E h => ?_) (fun cdv A outer s H vs Q E hr h => ?_)
  · obtain ⟨x, rfl, _⟩ := h
    rfl
  obtain ⟨x, rfl, h⟩ := h
  refine ⟨_, (pss_one (ps_ret (pe_and (pe_callB call_isi (by rfl) m_isinstance (by decide +kernel) (pa_cons (pv 0) (pa_cons (pe_bltn (v := .ty "int") (by rfl) m_int (by decide +kernel) rfl) pa_nil))) (pe_one (pe_not (pe_callB call_isi (by rfl) m_isinstance (by decide +kernel) (pa_cons (pv 0) (pa_cons (pe_bltn (v := .ty "bool") (by rfl) m_bool (by decide +kernel) rfl) pa_nil)))))))), ?_⟩
  rcases h with ⟨i, rfl, q⟩ | ⟨a, xs, rfl, h, q⟩
  · exact ⟨_, rfl, _, _, .type "int", _, true, rfl, .ty _, .base (.int i), kit_ty (by decide +kernel), _, rfl, iteT ⟨_, rfl, _, _, .type "int", _, false, rfl, .ty _, .base (.int i), kit_ty (by decide +kernel), _, rfl, q⟩⟩
  · rcases h.ty with t | t
    · exact ⟨_, rfl, _, _, .type "tuple", _, false, rfl, .ty _, t, kit_ty (by decide +kernel), _, rfl, iteF q⟩
    · exact ⟨_, rfl, _, _, .type "list", _, false, rfl, .ty _, t, kit_ty (by decide +kernel), _, rfl, iteF q⟩
abbrev sIsVal : Stmt := top 7
theorem scIsVal : FnScope ["thing"] ["thing"] (defScope sIsVal) := ⟨rfl, rfl, rfl, by decide +kernel, rfl, by decide +kernel, by decide +kernel⟩
def inB (i : Int) : Bool := decide (-1000000 ≤ i) && decide (i ≤ 1000000)
def spIsVal : Sp := fun vs H Q _ => ∃ i : Int, vs = [.int i] ∧ Q (.bl (inB i)) H
theorem ok_isVal {k : Nat} {t t' : Tok} (F : Fun K "is_value" "is_value" sIsVal f fd) (G : FnG P w K mg base CX0 k "is_number" ["thing"] (spIsNum K)) (m_LEAST : mg "LEAST_VALUE" = some (.int (-1000000) t)) (m_MOST : mg "MOST_VALUE" = some (.int 1000000 t')) :
    FnOk P w K mg base CX0 (k + 1) f fd ["thing"] spIsVal := by
  obtain ⟨_, _, G_is_number, m_is_number, k_is_number, b_is_number⟩ := G
  have sc := scIsVal
  refine F.ok sc (fun vs H Q E h => ?_) (fun cdv A outer s H vs Q E hr h => ?_)
  · obtain ⟨x, rfl, _⟩ := h
    rfl
  obtain ⟨i, rfl, q⟩ := h
  refine ⟨_, (pss_one (ps_ret (pe_and (pe_call G_is_number (hr.mono (by omega)) (by rfl) m_is_number k_is_number b_is_number .nil pass0 (pa_cons (pv 0) pa_nil)) (pe_one (pe_chain op_le op_le (pe_glob (v := .int (-1000000)) (by rfl) m_LEAST ⟨_, rfl⟩) (pv 0) (pe_glob (v := .int 1000000) (by rfl) m_MOST ⟨_, rfl⟩)))))), ?_⟩
  refine ⟨_, rfl, _, rfl, .inl ⟨i, rfl, _, rfl, iteT ⟨_, rfl, _, _, rfl, rfl, _, rfl, ite2 (fun c => ?_) (fun c => ?_)⟩⟩⟩
  · refine ⟨_, _, rfl, rfl, ?_⟩
    unfold inB at q
    rw [c] at q
    exact q
  · unfold inB at q
    rw [Bool.eq_false_iff.mpr c] at q
    exact q
/-! ### the five sums -/
inductive BOp where
  | plus | minus | by_ | over | rest
def BOp.word : BOp → Str
  | .plus => "plus" | .minus => "minus" | .by_ => "by" | .over => "over" | .rest => "rest"
def BOp.run : BOp → Int → Int → Except Str Int
  | .plus, a, b => .ok (a + b)
  | .minus, a, b => .ok (a - b)
  | .by_, a, b => .ok (a * b)
  | .over, a, b => if b = 0 then .error "nought" else .ok (a.fdiv b)
  | .rest, a, b => if b = 0 then .error "nought" else .ok (a.fmod b)
/-- what comes of r: a value, or a fall -/
def Comes (C : Addr) (H : Hp) (r : Except Str Int) (Q : VK) (E : XK) : Prop := match r with
  | .ok i => Q (.int i) H
  | .error w => Falls C E H w
def spSum (C : Addr) (o : BOp) : Sp := fun vs H Q E => ∃ a b : Int, vs = [.int a, .int b] ∧ inB a = true ∧ inB b = true ∧ Comes C H (o.run a b) Q E
theorem inB_lo {i : Int} (h : inB i = true) : -1000000 ≤ i := of_decide_eq_true (Bool.and_eq_true_iff.mp h).1
theorem inB_hi {i : Int} (h : inB i = true) : i ≤ 1000000 := of_decide_eq_true (Bool.and_eq_true_iff.mp h).2
abbrev sPlus : Stmt := top 8
theorem ok_plus {k : Nat} (F : Fun K "plus" "plus" sPlus f fd) : FnOk P w K mg base (L2.CX P w) (k + 1) f fd ["first", "second"] (spSum C .plus) := by
  have sc : FnScope ["first", "second"] ["first", "second"] (defScope sPlus) := ⟨rfl, rfl, rfl, by decide +kernel, rfl, by decide +kernel, by decide +kernel⟩
  refine F.okX sc (fun vs H Q E h => ?_) (fun cdv A outer s H vs Q E hr h => ?_)
  · obtain ⟨a, b, rfl, _⟩ := h
    rfl
  obtain ⟨a, b, rfl, ha, hb, q⟩ := h
  exact ⟨_, (pss_one (ps_ret (pe_op op_add (pv 0) (pv 1)))), _, rfl, _, rfl, _, _, rfl, rfl, q⟩
abbrev sMinus : Stmt := top 9
theorem ok_minus {k : Nat} (F : Fun K "minus" "minus" sMinus f fd) : FnOk P w K mg base (L2.CX P w) (k + 1) f fd ["first", "second"] (spSum C .minus) := by
  have sc : FnScope ["first", "second"] ["first", "second"] (defScope sMinus) := ⟨rfl, rfl, rfl, by decide +kernel, rfl, by decide +kernel, by decide +kernel⟩
  refine F.okX sc (fun vs H Q E h => ?_) (fun cdv A outer s H vs Q E hr h => ?_)
  · obtain ⟨a, b, rfl, _⟩ := h
    rfl
  obtain ⟨a, b, rfl, ha, hb, q⟩ := h
  exact ⟨_, (pss_one (ps_ret (pe_op op_sub (pv 0) (pv 1)))), _, rfl, _, rfl, _, _, rfl, rfl, q⟩
abbrev sBy : Stmt := top 10
theorem ok_by {k : Nat} (F : Fun K "by" "by" sBy f fd) : FnOk P w K mg base (L2.CX P w) (k + 1) f fd ["first", "second"] (spSum C .by_) := by
  have sc : FnScope ["first", "second"] ["first", "second"] (defScope sBy) := ⟨rfl, rfl, rfl, by decide +kernel, rfl, by decide +kernel, by decide +kernel⟩
  refine F.okX sc (fun vs H Q E h => ?_) (fun cdv A outer s H vs Q E hr h => ?_)
  · obtain ⟨a, b, rfl, _⟩ := h
    rfl
  obtain ⟨a, b, rfl, ha, hb, q⟩ := h
  have := inB_lo ha
  have := inB_hi ha
  exact ⟨_, (pss_one (ps_ret (pe_op op_mul (pv 0) (pv 1)))), _, rfl, _, rfl, _, _, rfl, rfl, .inl ⟨by omega, by omega⟩, q⟩
abbrev sOver : Stmt := top 11
theorem ok_over {k : Nat} (T : PySem.FellX.FellTxt K mg C fI) (F : Fun K "over" "over" sOver f fd) : FnOk P w K mg base (L2.CX P w) (k + 2) f fd ["first", "second"] (spSum C .over) := by
  have sc : FnScope ["first", "second"] ["first", "second"] (defScope sOver) := ⟨rfl, rfl, rfl, by decide +kernel, rfl, by decide +kernel, by decide +kernel⟩
  refine F.okX sc (fun vs H Q E h => ?_) (fun cdv A outer s H vs Q E hr h => ?_)
  · obtain ⟨a, b, rfl, _⟩ := h
    rfl
  obtain ⟨a, b, rfl, ha, hb, q⟩ := h
  refine ⟨_, (pss_cons (ps_if (pt_cmpR op_eq (pv 1) pe_int (nomark _)) (pss_one (ps_raiseFell rfl T hr (takes_of rfl rfl rfl rfl) (by exact (pa_cons pe_str pa_nil)))) pss_nil)
      (pss_one (ps_ret (pe_op op_fdivN (pv 0) (pv 1))))), _, rfl, rfl, _, rfl, ite2 (fun c => ?_) (fun c => ?_)⟩
  · have e : b = 0 := V.int.inj (of_decide_eq_true c)
    subst e
    exact ⟨_, rfl, fun d nd => q d nd⟩
  · have e : b ≠ 0 := fun z => c (decide_eq_true (by rw [z]))
    have := inB_lo hb
    have := inB_hi hb
    rw [show BOp.run .over a b = .ok (a.fdiv b) from if_neg e] at q
    exact ⟨_, rfl, _, rfl, _, _, rfl, rfl, ⟨e, by omega⟩, q⟩
abbrev sRest : Stmt := top 12
theorem ok_rest {k : Nat} (T : PySem.FellX.FellTxt K mg C fI) (F : Fun K "rest" "rest" sRest f fd) : FnOk P w K mg base (L2.CX P w) (k + 2) f fd ["first", "second"] (spSum C .rest) := by
  have sc : FnScope ["first", "second"] ["first", "second"] (defScope sRest) := ⟨rfl, rfl, rfl, by decide +kernel, rfl, by decide +kernel, by decide +kernel⟩
  refine F.okX sc (fun vs H Q E h => ?_) (fun cdv A outer s H vs Q E hr h => ?_)
  · obtain ⟨a, b, rfl, _⟩ := h
    rfl
  obtain ⟨a, b, rfl, ha, hb, q⟩ := h
  refine ⟨_, (pss_cons (ps_if (pt_cmpR op_eq (pv 1) pe_int (nomark _)) (pss_one (ps_raiseFell rfl T hr (takes_of rfl rfl rfl rfl) (by exact (pa_cons pe_str pa_nil)))) pss_nil)
      (pss_one (ps_ret (pe_op op_modN (pv 0) (pv 1))))), _, rfl, rfl, _, rfl, ite2 (fun c => ?_) (fun c => ?_)⟩
  · have e : b = 0 := V.int.inj (of_decide_eq_true c)
    subst e
    exact ⟨_, rfl, fun d nd => q d nd⟩
  · have e : b ≠ 0 := fun z => c (decide_eq_true (by rw [z]))
    rw [show BOp.run .rest a b = .ok (a.fmod b) from if_neg e] at q
    exact ⟨_, rfl, _, rfl, _, _, rfl, rfl, e, q⟩
/-! ### place_in, first_of -/
abbrev sPlace : Stmt := top 17
def spPlace (K : PySem.W.Frag) (C : Addr) : Sp := fun vs H Q E => ∃ (a : Addr) (xs : List V) (i : Int), vs = [.ref a, .int i] ∧ Sq K H a xs ∧ (0 ≤ i ∧ i < xs.length → Q (.int i) H) ∧ (¬ (0 ≤ i ∧ i < xs.length) → Falls C E H "none")
theorem ok_place {k : Nat} (T : PySem.FellX.FellTxt K mg C fI) (F : Fun K "place_in" "place_in" sPlace f fd) (m_len : mg "len" = none) : FnOk P w K mg base (L2.CX P w) (k + 2) f fd ["row", "place"] (spPlace K C) := by
  have sc : FnScope ["row", "place"] ["row", "place"] (defScope sPlace) := ⟨rfl, rfl, rfl, by decide +kernel, rfl, by decide +kernel, by decide +kernel⟩
  refine F.okX sc (fun vs H Q E h => ?_) (fun cdv A outer s H vs Q E hr h => ?_)
  · obtain ⟨a, b, i, rfl, _⟩ := h
    rfl
  obtain ⟨a, xs, i, rfl, hs, q1, q2⟩ := h
  refine ⟨_, (pss_cons (ps_if (pt_not (pt_chain op_le op_lt pe_int (pv 1) (pe_callB call_len_seq (by rfl) m_len (by decide +kernel) (pa_cons (pv 0) pa_nil)))) (pss_one (ps_raiseFell rfl T hr (takes_of rfl rfl rfl rfl) (by exact (pa_cons pe_str pa_nil)))) pss_nil)
      (pss_one (ps_ret (pv 1)))), ?_⟩
  refine ⟨_, rfl, _, _, rfl, rfl, _, rfl, ite2 (fun c => ?_) (fun c => ?_)⟩
  · have c' : 0 ≤ i := of_decide_eq_true c
    refine ⟨_, rfl, a, xs, rfl, hs.symm, _, _, rfl, rfl, _, rfl, ?_⟩
    by_cases h : i < xs.length
    · rw [decide_eq_true h]
      exact iteF ⟨_, rfl, q1 ⟨c', h⟩⟩
    · rw [decide_eq_false h]
      exact iteT ⟨_, rfl, fun d nd => q2 (fun z => h z.2) d nd⟩
  · exact ⟨_, rfl, iteT ⟨_, rfl, fun d nd => q2 (fun z => c (decide_eq_true z.1)) d nd⟩⟩
/-- pairs of a text and something, each a tuple or a list -/
def Prs (K : PySem.W.Frag) (H : Hp) (ps : List V) (kvs : List (Str × V)) : Prop := Paired (fun v (kv : Str × V) => ∃ a, v = .ref a ∧ Sq K H a [.str kv.1, kv.2]) ps kvs
abbrev sFirst : Stmt := top 16
def spFirst (K : PySem.W.Frag) (C : Addr) : Sp := fun vs H Q E => ∃ (a : Addr) (ps : List V) (kvs : List (Str × V)) (x : Str), vs = [.ref a, .str x] ∧ Sq K H a ps ∧ Prs K H ps kvs ∧
  (∀ u, kvs.lookup x = some u → Q u H) ∧ (kvs.lookup x = none → Falls C E H "none")
theorem prs_at {K : PySem.W.Frag} {H : Hp} : ∀ {ps : List V} {kvs : List (Str × V)} {i : Nat} {v : V}, Prs K H ps kvs → ps[i]? = some v → ∃ kv, kvs[i]? = some kv ∧ ∃ a, v = .ref a ∧ Sq K H a [.str kv.1, kv.2]
  | _, _, i, v, .nil, e => by simp at e
  | _, _, 0, v, .cons r t, e => by cases (Option.some.inj e); exact ⟨_, rfl, r⟩
  | _, _, i + 1, v, .cons r t, e => prs_at (i := i) t e
theorem look_skip : ∀ {kvs : List (Str × V)} {i : Nat} {kv : Str × V} {x : Str}, (kvs.take i).lookup x = none → kvs[i]? = some kv → kv.1 ≠ x → (kvs.take (i + 1)).lookup x = none
  | [], i, kv, x, _, e, _ => by simp at e
  | p :: r, 0, kv, x, _, e, n => by
    obtain ⟨k, v⟩ := p
    cases (Option.some.inj e)
    show List.lookup x [(k, v)] = none
    rw [List.lookup_cons, show (x == k) = false from beq_eq_false_iff_ne.mpr (Ne.symm n)]
    rfl
  | p :: r, i + 1, kv, x, h, e, n => by
    obtain ⟨k, v⟩ := p
    rw [List.take_succ_cons, List.lookup_cons] at h ⊢
    by_cases q : (x == k) = true
    · rw [q] at h
      cases h
    · rw [Bool.eq_false_iff.mpr q] at h ⊢
      exact look_skip (i := i) h e n
theorem look_hit : ∀ {kvs : List (Str × V)} {i : Nat} {kv : Str × V} {x : Str}, (kvs.take i).lookup x = none → kvs[i]? = some kv → kv.1 = x → kvs.lookup x = some kv.2
  | [], i, kv, x, _, e, _ => by simp at e
  | p :: r, 0, kv, x, _, e, n => by
    obtain ⟨k, v⟩ := p
    cases (Option.some.inj e)
    rw [List.lookup_cons, show (x == k) = true from beq_iff_eq.mpr n.symm]
  | p :: r, i + 1, kv, x, h, e, n => by
    obtain ⟨k, v⟩ := p
    rw [List.take_succ_cons, List.lookup_cons] at h
    rw [List.lookup_cons]
    by_cases q : (x == k) = true
    · rw [q] at h
      cases h
    · rw [Bool.eq_false_iff.mpr q] at h ⊢
      exact look_hit (i := i) h e n
theorem prs_len {K : PySem.W.Frag} {H : Hp} : ∀ {ps : List V} {kvs : List (Str × V)}, Prs K H ps kvs → ps.length = kvs.length
  | _, _, .nil => rfl
  | _, _, .cons _ t => by rw [List.length_cons, List.length_cons, prs_len t]
theorem ok_first {k : Nat} (T : PySem.FellX.FellTxt K mg C fI) (F : Fun K "first_of" "first_of" sFirst f fd) : FnOk P w K mg base (L2.CX P w) (k + 2) f fd ["pairs", "name"] (spFirst K C) := by
  have sc : FnScope ["pairs", "name", "other", "held"] ["pairs", "name"] (defScope sFirst) := ⟨rfl, rfl, rfl, by decide +kernel, rfl, by decide +kernel, by decide +kernel⟩
  refine F.okX sc (fun vs H Q E h => ?_) (fun cdv A outer s H vs Q E hr h => ?_)
  · obtain ⟨a, b, c, i, rfl, _⟩ := h
    rfl
  obtain ⟨a, ps, kvs, x, rfl, hs, hp, q1, q2⟩ := h
  refine ⟨_, (pss_cons (ps_for (passes_of rfl) rfl (pi_or (pi_tup (pv 0)) (pi_list (pv 0))) (pg_or (pg_tup (by rfl) (pgs_cons (pg_name (i := 2) sc.nd rfl (.inl rfl)) (pgs_cons (pg_name (i := 3) sc.nd rfl (.inl rfl)) pgs_nil))) (pg_lst (by rfl) (pgs_cons (pg_name (i := 2) sc.nd rfl (.inl rfl)) (pgs_cons (pg_name (i := 3) sc.nd rfl (.inl rfl)) pgs_nil)))) (pss_one (ps_if (pt_cmpR op_eq (pv 2) (pv 1) (nomark _)) (pss_one (ps_ret (pv 3))) pss_nil)))
      (pss_one (ps_raiseFell rfl T hr (takes_of rfl rfl rfl rfl) (by exact (pa_cons pe_str pa_nil))))), ?_⟩
  have e0 : (kvs.take ps.length).lookup x = none → kvs.lookup x = none := fun h => by rw [prs_len hp, List.take_length] at h; exact h
  have key : ∀ (D : Ends) (v2 v3 : Option V) (b : Addr) (kv : Str × V), Sq K H b [.str kv.1, kv.2] → (kv.1 = x → D.rt kv.2 H) → (kv.1 ≠ x → D.nx [some (.ref a), some (.str x), some (.str kv.1), some kv.2] H) →
      gOr (gTup K 2 (gCons (gName 2) (gCons (gName 3) gNil))) (gLst K 2 (gCons (gName 2) (gCons (gName 3) gNil))) (.ref b) [some (.ref a), some (.str x), v2, v3] H
        fun σ2 H2 => tIfS (tTest (tOp rEq (tVar 2) (tVar 1))) (tRet (tVar 3)) tNext D σ2 H2 := fun D v2 v3 b kv hb h1 h2 => by
    have fin : tIfS (tTest (tOp rEq (tVar 2) (tVar 1))) (tRet (tVar 3)) tNext D [some (.ref a), some (.str x), some (.str kv.1), some kv.2] H := by
      refine ⟨_, rfl, _, rfl, rfl, _, rfl, ite2 (fun c => ?_) (fun c => ?_)⟩
      · exact ⟨_, rfl, h1 (V.str.inj (of_decide_eq_true c))⟩
      · exact h2 fun z => c (decide_eq_true (by rw [z]))
    rcases hb with hb | hb
    · exact .inl ⟨b, _, rfl, hb, rfl, _, _, rfl, _, _, rfl, rfl, fin⟩
    · exact .inr ⟨b, _, rfl, hb, rfl, _, _, rfl, _, _, rfl, rfl, fin⟩
  rcases hs with hs | hs
  · refine .inl ⟨_, rfl, a, rfl, ⟨_, hs⟩, for_it (walk_tup (K := K) (a := a) (xs := ps)) (fun i σ H' => H' = H ∧ (kvs.take i).lookup x = none ∧ ∃ v2 v3, σ = [some (.ref a), some (.str x), v2, v3]) ⟨rfl, rfl, none, none, rfl⟩
      (fun i σ H' _ h => by rw [h.1]; exact hs) ?_ ?_⟩
    · rintro i v σ H1 H2 hi ⟨e1, hn, v2, v3, rfl⟩ ⟨e2, ev⟩
      obtain ⟨kv, ek, b, rfl, hb⟩ := prs_at hp ev
      rw [e2, e1]
      exact key _ _ _ b kv hb (fun z => q1 _ (look_hit hn ek z)) (fun z => ⟨rfl, look_skip hn ek z, _, _, rfl⟩)
    · rintro σ H1 ⟨rfl, hn, v2, v3, rfl⟩
      exact ⟨_, rfl, fun d nd => q2 (e0 hn) d nd⟩
  · refine .inr ⟨_, rfl, a, rfl, ⟨_, hs⟩, for_it (walk_list (K := K) (a := a) (xs := ps)) (fun i σ H' => H' = H ∧ (kvs.take i).lookup x = none ∧ ∃ v2 v3, σ = [some (.ref a), some (.str x), v2, v3]) ⟨rfl, rfl, none, none, rfl⟩
      (fun i σ H' _ h => by rw [h.1]; exact hs) ?_ ?_⟩
    · rintro i v σ H1 H2 hi ⟨e1, hn, v2, v3, rfl⟩ ⟨e2, ev⟩
      obtain ⟨kv, ek, b, rfl, hb⟩ := prs_at hp ev
      rw [e2, e1]
      exact key _ _ _ b kv hb (fun z => q1 _ (look_hit hn ek z)) (fun z => ⟨rfl, look_skip hn ek z, _, _, rfl⟩)
    · rintro σ H1 ⟨rfl, hn, v2, v3, rfl⟩
      exact ⟨_, rfl, fun d nd => q2 (e0 hn) d nd⟩
end
end Fd

set_option Elab.async false
set_option linter.all false
set_option maxRecDepth 100000
set_option maxHeartbeats 2000000
namespace Fd
open PySem PySem.Spec PyProof.Rows L2
/-! ### looks and eyes, as data -/
inductive Lk where
  | num (i : Int) | name (x : Str) | many (x : Str) | item (x : Str) (a : Lk) | spot (k : Nat) | bin (o : BOp) (a b : Lk)
structure Ey where
  names : List (Str × Int)
  lists : List (Str × List Int)
  spot : List Int
  met : List Str
def far (r : Except Str Int) : Except Str Int := match r with
  | .ok i => if inB i = true then .ok i else .error "far"
  | .error w => .error w
def some_of {α : Type} (o : Option α) (f : α → Except Str Int) : Except Str Int := match o with
  | some x => f x
  | none => .error "none"
def then_ (r : Except Str Int) (f : Int → Except Str Int) : Except Str Int := match r with
  | .ok i => f i
  | .error w => .error w
def itemOf (l : List Int) (i : Int) : Except Str Int := if 0 ≤ i ∧ i < l.length then .ok (l.getD i.toNat 0) else .error "none"
def val (E : Ey) : Lk → Except Str Int
  | .num i => far (.ok i)
  | .name x => far (some_of (E.names.lookup x) .ok)
  | .many x => far (some_of (E.lists.lookup x) fun l => .ok l.length)
  | .item x a => far (some_of (E.lists.lookup x) fun l => then_ (val E a) (itemOf l))
  | .spot k => far (.ok (E.spot.getD k 0))
  | .bin o a b => far (then_ (val E a) fun i => then_ (val E b) fun j => o.run i j)
def raw (E : Ey) : Lk → Except Str Int
  | .num i => .ok i
  | .name x => some_of (E.names.lookup x) .ok
  | .many x => some_of (E.lists.lookup x) fun l => .ok l.length
  | .item x a => some_of (E.lists.lookup x) fun l => then_ (val E a) (itemOf l)
  | .spot k => .ok (E.spot.getD k 0)
  | .bin o a b => then_ (val E a) fun i => then_ (val E b) fun j => o.run i j
theorem val_raw (E : Ey) (L : Lk) : val E L = far (raw E L) := by cases L <;> rfl
theorem val_in {E : Ey} {L : Lk} {i : Int} (h : val E L = .ok i) : inB i = true := by
  rw [val_raw] at h
  unfold far at h
  split at h
  · split at h
    · rename_i q
      cases h
      exact q
    · cases h
  · cases h
def Lk.deep : Lk → Nat
  | .item _ a => a.deep + 1
  | .bin _ a b => max a.deep b.deep + 1
  | _ => 1
def spotWords : List Str := ["x", "y", "way", "number"]
inductive LkAt (K : PySem.W.Frag) (H : Hp) : V → Lk → Prop where
  | num (i : Int) : LkAt K H (.int i) (.num i)
  | name {a : Addr} {x : Str} (h : Sq K H a [.str "name", .str x]) : LkAt K H (.ref a) (.name x)
  | many {a : Addr} {x : Str} (h : Sq K H a [.str "many", .str x]) : LkAt K H (.ref a) (.many x)
  | item {a : Addr} {x : Str} {u : V} {L : Lk} (h : Sq K H a [.str "item", .str x, u]) (hu : LkAt K H u L) : LkAt K H (.ref a) (.item x L)
  | spot {a : Addr} {k : Nat} {z : Str} (hk : spotWords[k]? = some z) (h : Sq K H a [.str z]) : LkAt K H (.ref a) (.spot k)
  | bin {a : Addr} {o : BOp} {u v : V} {L M : Lk} (h : Sq K H a [.str o.word, u, v]) (hu : LkAt K H u L) (hv : LkAt K H v M) : LkAt K H (.ref a) (.bin o L M)
theorem LkAt.same {K : PySem.W.Frag} {H H' : Hp} (s : Same H H') {v : V} {L : Lk} (h : LkAt K H v L) : LkAt K H' v L := by
  induction h with
  | num i => exact .num i
  | name h => exact .name (h.same s)
  | many h => exact .many (h.same s)
  | item h _ ih => exact .item (h.same s) ih
  | spot hk h => exact .spot hk (h.same s)
  | bin h _ _ i1 i2 => exact .bin (h.same s) i1 i2
theorem LkAt.sq {K : PySem.W.Frag} {H : Hp} {v : V} {L : Lk} (h : LkAt K H v L) : (∃ i, v = .int i ∧ L = .num i) ∨ ∃ a xs, v = .ref a ∧ Sq K H a xs := by
  cases h with
  | num i => exact .inl ⟨i, rfl, rfl⟩
  | name h => exact .inr ⟨_, _, rfl, h⟩
  | many h => exact .inr ⟨_, _, rfl, h⟩
  | item h _ => exact .inr ⟨_, _, rfl, h⟩
  | spot _ h => exact .inr ⟨_, _, rfl, h⟩
  | bin h _ _ => exact .inr ⟨_, _, rfl, h⟩
def Rows (K : PySem.W.Frag) (H : Hp) (rs : List (Str × V)) (ls : List (Str × List Int)) : Prop := Paired (fun (kv : Str × V) (xl : Str × List Int) => kv.1 = xl.1 ∧ ∃ a, kv.2 = .ref a ∧ Sq K H a (xl.2.map V.int)) rs ls
structure EyAt (K : PySem.W.Frag) (H : Hp) (E : Ey) (n l s m : Addr) : Prop where
  nm : ∃ ps, Sq K H n ps ∧ Prs K H ps (E.names.map fun p => (p.1, V.int p.2))
  ls : ∃ ps rs, Sq K H l ps ∧ Prs K H ps rs ∧ Rows K H rs E.lists
  sp : Sq K H s (E.spot.map V.int)
  s4 : E.spot.length = 4
  mt : Sq K H m (E.met.map V.str)
def Eyes (K : PySem.W.Frag) (H : Hp) (e : Addr) (E : Ey) : Prop := ∃ n l s m, Sq K H e [.ref n, .ref l, .ref s, .ref m] ∧ EyAt K H E n l s m
theorem Prs.same {K : PySem.W.Frag} {H H' : Hp} (s : Same H H') {ps : List V} {kvs : List (Str × V)} (h : Prs K H ps kvs) : Prs K H' ps kvs := Paired.mapP h fun _ _ ⟨a, e, q⟩ => ⟨a, e, q.same s⟩
theorem Rows.same {K : PySem.W.Frag} {H H' : Hp} (s : Same H H') {rs : List (Str × V)} {ls : List (Str × List Int)} (h : Rows K H rs ls) : Rows K H' rs ls := Paired.mapP h fun _ _ ⟨e, a, q, z⟩ => ⟨e, a, q, z.same s⟩
theorem Eyes.same {K : PySem.W.Frag} {H H' : Hp} (s : Same H H') {e : Addr} {E : Ey} (h : Eyes K H e E) : Eyes K H' e E := by
  obtain ⟨n, l, s', m, h1, ⟨ps, h2, h3⟩, ⟨ps', rs, h4, h5, h6⟩, h7, h8, h9⟩ := h
  exact ⟨n, l, s', m, h1.same s, ⟨ps, h2.same s, h3.same s⟩, ⟨ps', rs, h4.same s, h5.same s, h6.same s⟩, h7.same s, h8, h9.same s⟩
theorem names_look (x : Str) : ∀ ns : List (Str × Int), (ns.map fun p => (p.1, V.int p.2)).lookup x = (ns.lookup x).map V.int
  | [] => rfl
  | (k, v) :: r => by
    rw [List.map_cons, List.lookup_cons, List.lookup_cons]
    by_cases h : (x == k) = true
    · rw [h]; rfl
    · rw [Bool.eq_false_iff.mpr h]
      exact names_look x r
theorem rows_look {K : PySem.W.Frag} {H : Hp} (x : Str) : ∀ {rs : List (Str × V)} {ls : List (Str × List Int)}, Rows K H rs ls → (rs.lookup x = none ∧ ls.lookup x = none) ∨ ∃ a l, rs.lookup x = some (.ref a) ∧ ls.lookup x = some l ∧ Sq K H a (l.map V.int)
  | _, _, .nil => .inl ⟨rfl, rfl⟩
  | (k, v) :: rs, (k', l) :: ls, .cons r t => by
    obtain ⟨e, a, ea, q⟩ := r
    dsimp only at e ea q
    subst e ea
    rw [List.lookup_cons, List.lookup_cons]
    by_cases h : (x == k) = true
    · rw [h]; exact .inr ⟨a, l, rfl, rfl, q⟩
    · rw [Bool.eq_false_iff.mpr h]
      exact rows_look x t
/-- what the top has written besides defs -/
structure Wr (K : PySem.W.Frag) (w : World) (mg : Str → Option Value) (sp sm : Addr) (fs : BOp → Addr) : Prop where
  mP : mg "SPOT_WORDS" = some (.ref sp)
  mS : mg "SUMS" = some (.ref sm)
  kP : ∃ its n sl, K.lookup sp = some ⟨.type "tuple", none, .seq its n, sl⟩ ∧ Vals (spotWords.map V.str) its.toList ∧ its.size ≤ sizeLine
  kS : ∀ o : BOp, KDct K w sm o.word (.ref (fs o))
theorem Wr.sqP {K : PySem.W.Frag} {w : World} {mg : Str → Option Value} {sp sm : Addr} {fs : BOp → Addr} (W : Wr K w mg sp sm fs) (H : Hp) : SqT K H sp (spotWords.map V.str) := by
  obtain ⟨its, n, sl, h1, h2, h3⟩ := W.kP
  exact .inr ⟨_, its, n, h1, rfl, rfl, h3, h2⟩
theorem gq {K : PySem.W.Frag} {H : Hp} {a : Addr} {xs : List V} {σ : L2.St} {n : Nat} {g : TGs} {Q : L2.St → Hp → Prop} (h : Sq K H a xs) (hl : xs.length = n) (q : g xs σ H Q) : gOr (gTup K n g) (gLst K n g) (.ref a) σ H Q :=
  h.elim (fun z => .inl ⟨a, xs, rfl, z, hl, q⟩) fun z => .inr ⟨a, xs, rfl, z, hl, q⟩
theorem comes_ok {C : Addr} {H : Hp} {r : Except Str Int} {Q : VK} {E : XK} {i : Int} (h : Comes C H r Q E) (e : r = .ok i) : Q (.int i) H := by subst e; exact h
theorem comes_err {C : Addr} {H : Hp} {r : Except Str Int} {Q : VK} {E : XK} {w : Str} (h : Comes C H r Q E) (e : r = .error w) : Falls C E H w := by subst e; exact h
theorem spot_in {k : Nat} {z : Str} (h : spotWords[k]? = some z) : inV (.str z) (spotWords.map V.str) = true ∧ (∀ m, m < k → spotWords[m]? ≠ some z) ∧ k < 4 ∧ z ≠ "name" ∧ z ≠ "many" ∧ z ≠ "item" := by
  have hk : k < 4 := by
    obtain ⟨h', _⟩ := List.getElem?_eq_some_iff.mp h
    exact h'
  have : k = 0 ∨ k = 1 ∨ k = 2 ∨ k = 3 := by omega
  rcases this with rfl | rfl | rfl | rfl
  · cases (Option.some.inj h); exact ⟨by decide +kernel, fun m hm => absurd hm (by omega), hk, by decide +kernel, by decide +kernel, by decide +kernel⟩
  · cases (Option.some.inj h)
    refine ⟨by decide +kernel, fun m hm => ?_, hk, by decide +kernel, by decide +kernel, by decide +kernel⟩
    have : m = 0 := by omega
    subst this; decide +kernel
  · cases (Option.some.inj h)
    refine ⟨by decide +kernel, fun m hm => ?_, hk, by decide +kernel, by decide +kernel, by decide +kernel⟩
    have : m = 0 ∨ m = 1 := by omega
    rcases this with rfl | rfl <;> decide +kernel
  · cases (Option.some.inj h)
    refine ⟨by decide +kernel, fun m hm => ?_, hk, by decide +kernel, by decide +kernel, by decide +kernel⟩
    have : m = 0 ∨ m = 1 ∨ m = 2 := by omega
    rcases this with rfl | rfl | rfl <;> decide +kernel
theorem bop_words (o : BOp) : inV (.str o.word) (spotWords.map V.str) = false ∧ o.word ≠ "name" ∧ o.word ≠ "many" ∧ o.word ≠ "item" := by
  cases o <;> exact ⟨by decide +kernel, by decide +kernel, by decide +kernel, by decide +kernel⟩
theorem iteB {b : Bool} {A B : Prop} (h : b = true) (a : A) : if b = true then A else B := by subst h; exact iteT a
theorem iteBF {b : Bool} {A B : Prop} (h : b = false) (a : B) : if b = true then A else B := by subst h; exact iteF a
theorem neS {a b : Str} (h : a ≠ b) : ¬ (V.str a = V.str b) := fun z => h (V.str.inj z)
section
variable {P : Program} {w : World} {K : PySem.W.Frag} {mg : Str → Option Value} {base : Heap} {f C fI sp sm : Addr} {fs : BOp → Addr} {fd : FuncData}
abbrev sOut : Stmt := top 15
theorem scOut : FnScope ["look", "eyes", "names", "lists", "spot", "met", "word", "row", "first", "second", "action"] ["look", "eyes"] (defScope sOut) := ⟨rfl, rfl, rfl, by decide +kernel, rfl, by decide +kernel, by decide +kernel⟩
def spOut (K : PySem.W.Frag) (C : Addr) (n : Nat) : Sp := fun vs H Q E => ∃ (v : V) (e : Addr) (L : Lk) (Y : Ey), vs = [v, .ref e] ∧ LkAt K H v L ∧ L.deep ≤ n ∧ Eyes K H e Y ∧ Comes C H (raw Y L) Q E
def spVal (K : PySem.W.Frag) (C : Addr) (n : Nat) : Sp := fun vs H Q E => ∃ (v : V) (e : Addr) (L : Lk) (Y : Ey), vs = [v, .ref e] ∧ LkAt K H v L ∧ L.deep ≤ n ∧ Eyes K H e Y ∧ Comes C H (val Y L) Q E
theorem ok_out {k n : Nat} (W : Wr K w mg sp sm fs) (T : PySem.FellX.FellTxt K mg C fI) (F : Fun K "outcome" "outcome" sOut f fd) (GN : FnG P w K mg base CX0 k "is_number" ["thing"] (spIsNum K))
    (GF : FnG P w K mg base (L2.CX P w) k "first_of" ["pairs", "name"] (spFirst K C)) (GP : FnG P w K mg base (L2.CX P w) k "place_in" ["row", "place"] (spPlace K C)) (GV : FnG P w K mg base (L2.CX P w) k "value_of" ["look", "eyes"] (spVal K C n))
    (GS : ∀ o : BOp, HeldX P w K mg base k (fs o) (spSum C o)) (m_len : mg "len" = none) : FnOk P w K mg base (L2.CX P w) (k + 1) f fd ["look", "eyes"] (spOut K C (n + 1)) := by
  obtain ⟨_, _, G_is_number, m_is_number, k_is_number, b_is_number⟩ := GN
  obtain ⟨_, _, G_first_of, m_first_of, k_first_of, b_first_of⟩ := GF
  obtain ⟨_, _, G_place_in, m_place_in, k_place_in, b_place_in⟩ := GP
  obtain ⟨_, _, G_value_of, m_value_of, k_value_of, b_value_of⟩ := GV
  have sc := scOut
  refine F.okX sc (fun vs H Q E h => ?_) (fun cdv A outer s H vs Q E hr h => ?_)
  · obtain ⟨v, e, L, Y, rfl, _⟩ := h
    rfl
  obtain ⟨v, e, L, Y, rfl, hL, hd, hE, q⟩ := h
  refine ⟨_, (pss_cons (ps_if (pt_val (pe_call G_is_number (hr.mono (by omega)) (by rfl) m_is_number k_is_number b_is_number .nil pass0 (pa_cons (pv 0) pa_nil))) (pss_one (ps_ret (pv 0))) pss_nil)
      (pss_cons (ps_asg (pv 1) (pg_or (pg_tup (by rfl) (pgs_cons (pg_name (i := 2) sc.nd rfl (.inl rfl)) (pgs_cons (pg_name (i := 3) sc.nd rfl (.inl rfl)) (pgs_cons (pg_name (i := 4) sc.nd rfl (.inl rfl)) (pgs_cons (pg_name (i := 5) sc.nd rfl (.inl rfl)) pgs_nil))))) (pg_lst (by rfl) (pgs_cons (pg_name (i := 2) sc.nd rfl (.inl rfl)) (pgs_cons (pg_name (i := 3) sc.nd rfl (.inl rfl)) (pgs_cons (pg_name (i := 4) sc.nd rfl (.inl rfl)) (pgs_cons (pg_name (i := 5) sc.nd rfl (.inl rfl)) pgs_nil)))))))
      (pss_cons (ps_set (i := 6) sc.nd rfl (.inl rfl) (pe_ix (IxR.or ix_tup ix_list) (pv 0) pe_int (fun _ _ => rfl)))
      (pss_cons (ps_if (pt_cmpR op_eq (pv 6) pe_str (nomark _)) (pss_one (ps_ret (pe_callS G_first_of (hr.mono (by omega)) (by rfl) m_first_of k_first_of b_first_of (fun σ => passAt (takes_of rfl rfl rfl rfl) σ) (pa_cons (pv 2) (pa_cons (pe_ix (IxR.or ix_tup ix_list) (pv 0) pe_int (fun _ _ => rfl)) pa_nil))))) pss_nil)
      (pss_cons (ps_if (pt_cmpR op_eq (pv 6) pe_str (nomark _)) (pss_one (ps_ret (pe_callB call_len_seq (by rfl) m_len (by decide +kernel) (pa_cons (pe_callS G_first_of (hr.mono (by omega)) (by rfl) m_first_of k_first_of b_first_of (fun σ => passAt (takes_of rfl rfl rfl rfl) σ) (pa_cons (pv 3) (pa_cons (pe_ix (IxR.or ix_tup ix_list) (pv 0) pe_int (fun _ _ => rfl)) pa_nil))) pa_nil)))) pss_nil)
      (pss_cons (ps_if (pt_cmpR op_eq (pv 6) pe_str (nomark _)) (pss_cons (ps_set (i := 7) sc.nd rfl (.inl rfl) (pe_callS G_first_of (hr.mono (by omega)) (by rfl) m_first_of k_first_of b_first_of (fun σ => passAt (takes_of rfl rfl rfl rfl) σ) (pa_cons (pv 3) (pa_cons (pe_ix (IxR.or ix_tup ix_list) (pv 0) pe_int (fun _ _ => rfl)) pa_nil))))
      (pss_one (ps_ret (pe_ix (IxR.or ix_tup ix_list) (pv 7) (pe_callS G_place_in (hr.mono (by omega)) (by rfl) m_place_in k_place_in b_place_in (fun σ => passAt (takes_of rfl rfl rfl rfl) σ) (pa_cons (pv 7) (pa_cons (pe_callS G_value_of (hr.mono (by omega)) (by rfl) m_value_of k_value_of b_value_of (fun σ => passAt (takes_of rfl rfl rfl rfl) σ) (pa_cons (pe_ix (IxR.or ix_tup ix_list) (pv 0) pe_int (fun _ _ => rfl)) (pa_cons (pv 1) pa_nil))) pa_nil))) (fun _ _ => rfl))))) pss_nil)
      (pss_cons (ps_if (pt_cmpR op_in_seq (pv 6) (pe_glob (v := .ref sp) (by rfl) W.mP rfl) (by rfl)) (pss_one (ps_ret (pe_ix (IxR.or ix_tup ix_list) (pv 4) (pe_bm PySem.F.plainAttrs_tuple PySem.F.slot_tuple_index PySem.F.type_tuple_index mt_tup_index (pe_glob (v := .ref sp) (by rfl) W.mP rfl) (pa_cons (pv 6) pa_nil)) (fun _ _ => rfl)))) pss_nil)
      (pss_cons (ps_set (i := 8) sc.nd rfl (.inl rfl) (pe_callS G_value_of (hr.mono (by omega)) (by rfl) m_value_of k_value_of b_value_of (fun σ => passAt (takes_of rfl rfl rfl rfl) σ) (pa_cons (pe_ix (IxR.or ix_tup ix_list) (pv 0) pe_int (fun _ _ => rfl)) (pa_cons (pv 1) pa_nil))))
      (pss_cons (ps_set (i := 9) sc.nd rfl (.inl rfl) (pe_callS G_value_of (hr.mono (by omega)) (by rfl) m_value_of k_value_of b_value_of (fun σ => passAt (takes_of rfl rfl rfl rfl) σ) (pa_cons (pe_ix (IxR.or ix_tup ix_list) (pv 0) pe_int (fun _ _ => rfl)) (pa_cons (pv 1) pa_nil))))
      (pss_cons (ps_set (i := 10) sc.nd rfl (.inl rfl) (pe_ix ix_kdict (pe_glob (v := .ref sm) (by rfl) W.mS rfl) (pv 6) (fun _ _ => rfl)))
      (pss_one (ps_ret (pe_callX (k := k) (i := 10) (hr.mono (by omega)) rfl (.inl rfl) (fun σ => passAt (takes_of rfl rfl rfl rfl) σ) (by exact (pa_cons (pv 8) (pa_cons (pv 9) pa_nil)))))))))))))))), ?_⟩
  obtain ⟨en, el, es, em, he, hY⟩ := id hE
  cases hL with
  | num i => exact ⟨_, rfl, _, rfl, .inl ⟨i, rfl, _, rfl, iteT ⟨_, rfl, q⟩⟩⟩
  | @name a x hs =>
    refine ⟨_, rfl, _, rfl, .inr ⟨a, _, rfl, hs, _, rfl, iteF ⟨_, rfl, gq he rfl ⟨_, _, rfl, _, _, rfl, _, _, rfl, _, _, rfl, rfl, _, rfl, ixq hs rfl ?_⟩⟩⟩⟩
    obtain ⟨ps, h1, h2⟩ := hY.nm
    refine ⟨_, rfl, rfl, _, rfl, ifT rfl ⟨_, rfl, _, rfl, ixq hs rfl ⟨en, ps, _, x, rfl, h1, h2, fun u hu => ?_, fun hn => ?_⟩⟩⟩
    · rw [names_look] at hu
      cases e : Y.names.lookup x with
      | none => rw [e] at hu; cases hu
      | some i => rw [e] at hu; cases hu; exact comes_ok q (show some_of (Y.names.lookup x) .ok = .ok i by rw [e]; rfl)
    · rw [names_look] at hn
      cases e : Y.names.lookup x with
      | some i => rw [e] at hn; cases hn
      | none => exact comes_err q (show some_of (Y.names.lookup x) .ok = .error "none" by rw [e]; rfl)
  | @many a x hs =>
    refine ⟨_, rfl, _, rfl, .inr ⟨a, _, rfl, hs, _, rfl, iteF ⟨_, rfl, gq he rfl ⟨_, _, rfl, _, _, rfl, _, _, rfl, _, _, rfl, rfl, _, rfl, ixq hs rfl ?_⟩⟩⟩⟩
    obtain ⟨ps, rs, h1, h2, h3⟩ := hY.ls
    refine ⟨_, rfl, rfl, _, rfl, ifF (neS (by decide +kernel)) ⟨_, rfl, rfl, _, rfl, ifT rfl ⟨_, rfl, _, rfl, ixq hs rfl ⟨el, ps, rs, x, rfl, h1, h2, fun u hu => ?_, fun hn => ?_⟩⟩⟩⟩
    · rcases rows_look x h3 with ⟨z, _⟩ | ⟨b, l, z, zl, zs⟩
      · rw [z] at hu; cases hu
      · rw [z] at hu
        cases hu
        refine ⟨b, _, rfl, zs.symm, ?_⟩
        rw [List.length_map]
        exact comes_ok q (show some_of (Y.lists.lookup x) (fun l => .ok l.length) = _ by rw [zl]; rfl)
    · rcases rows_look x h3 with ⟨_, z⟩ | ⟨b, l, z, zl, zs⟩
      · exact comes_err q (show some_of (Y.lists.lookup x) (fun l => .ok l.length) = .error "none" by rw [z]; rfl)
      · rw [z] at hn; cases hn
  | @item a x u L hs hu =>
    refine ⟨_, rfl, _, rfl, .inr ⟨a, _, rfl, hs, _, rfl, iteF ⟨_, rfl, gq he rfl ⟨_, _, rfl, _, _, rfl, _, _, rfl, _, _, rfl, rfl, _, rfl, ixq hs rfl ?_⟩⟩⟩⟩
    obtain ⟨ps, rs, h1, h2, h3⟩ := hY.ls
    refine ⟨_, rfl, rfl, _, rfl, ifF (neS (by decide +kernel)) ⟨_, rfl, rfl, _, rfl, ifF (neS (by decide +kernel)) ⟨_, rfl, rfl, _, rfl, ifT rfl ⟨_, rfl, _, rfl, ixq hs rfl ⟨el, ps, rs, x, rfl, h1, h2, fun u' hu' => ?_, fun hn => ?_⟩⟩⟩⟩⟩
    · rcases rows_look x h3 with ⟨z, _⟩ | ⟨b, l, z, zl, zs⟩
      · rw [z] at hu'; cases hu'
      · rw [z] at hu'
        cases hu'
        have q1 : Comes C H (then_ (val Y L) (itemOf l)) Q E := by
          have q0 : Comes C H (some_of (Y.lists.lookup x) fun l => then_ (val Y L) (itemOf l)) Q E := q
          rw [zl] at q0
          exact q0
        refine ⟨_, rfl, _, rfl, _, rfl, ixq hs rfl ⟨_, rfl, u, e, L, Y, rfl, hu, Nat.le_of_succ_le_succ hd, hE, ?_⟩⟩
        cases ev : val Y L with
        | error z => exact comes_err q1 (by rw [ev]; rfl)
        | ok i =>
          rw [ev] at q1
          refine ⟨b, _, i, rfl, zs, fun hi => ?_, fun hi => ?_⟩
          · rw [List.length_map] at hi
            have hl : i.toNat < l.length := by omega
            refine ixq zs (v := .int (l.getD i.toNat 0)) ?_ (comes_ok q1 (if_pos hi))
            have ei : i = ((i.toNat : Nat) : Int) := by omega
            rw [ei]
            exact atI_nat (by rw [Int.toNat_natCast, List.getElem?_map, List.getD_eq_getElem?_getD, List.getElem?_eq_getElem hl]; rfl)
          · rw [List.length_map] at hi
            exact comes_err q1 (if_neg hi)
    · rcases rows_look x h3 with ⟨_, z⟩ | ⟨b, l, z, zl, zs⟩
      · exact comes_err q (show some_of (Y.lists.lookup x) (fun l => then_ (val Y L) (itemOf l)) = .error "none" by rw [z]; rfl)
      · rw [z] at hn; cases hn
  | @spot a j z hk hs =>
    obtain ⟨w1, w2, w3, w4, w5, w6⟩ := spot_in hk
    obtain ⟨its, nn, sl, p1, p2, p3⟩ := W.kP
    refine ⟨_, rfl, _, rfl, .inr ⟨a, _, rfl, hs, _, rfl, iteF ⟨_, rfl, gq he rfl ⟨_, _, rfl, _, _, rfl, _, _, rfl, _, _, rfl, rfl, _, rfl, ixq hs rfl ?_⟩⟩⟩⟩
    refine ⟨_, rfl, rfl, _, rfl, ifF (neS w4) ⟨_, rfl, rfl, _, rfl, ifF (neS w5) ⟨_, rfl, rfl, _, rfl, ifF (neS w6) ⟨_, rfl, sp, _, rfl, .inr (W.sqP H), rfl, by decide +kernel, _, rfl, iteB w1 ?_⟩⟩⟩⟩
    refine ⟨_, rfl, .inr (.inl ⟨rfl, _, p1, rfl, rfl⟩), _, rfl, sp, spotWords, z, j, rfl, rfl, W.sqP H, hk, w2, ixq hY.sp (v := .int (Y.spot.getD j 0)) (atI_nat ?_) q⟩
    have h4 : j < Y.spot.length := by rw [hY.s4]; exact w3
    rw [List.getElem?_map, List.getD_eq_getElem?_getD, List.getElem?_eq_getElem h4]
    rfl
  | @bin a o u v L M hs hu hv =>
    obtain ⟨w1, w2, w3, w4⟩ := bop_words o
    refine ⟨_, rfl, _, rfl, .inr ⟨a, _, rfl, hs, _, rfl, iteF ⟨_, rfl, gq he rfl ⟨_, _, rfl, _, _, rfl, _, _, rfl, _, _, rfl, rfl, _, rfl, ixq hs rfl ?_⟩⟩⟩⟩
    refine ⟨_, rfl, rfl, _, rfl, ifF (neS w2) ⟨_, rfl, rfl, _, rfl, ifF (neS w3) ⟨_, rfl, rfl, _, rfl, ifF (neS w4) ⟨_, rfl, sp, _, rfl, .inr (W.sqP H), rfl, by decide +kernel, _, rfl, iteBF w1 ?_⟩⟩⟩⟩
    have hd' : max L.deep M.deep ≤ n := Nat.le_of_succ_le_succ hd
    have q1 : Comes C H (then_ (val Y L) fun i => then_ (val Y M) fun j => o.run i j) Q E := q
    refine ⟨_, rfl, ixq hs rfl ⟨_, rfl, u, e, L, Y, rfl, hu, by omega, hE, ?_⟩⟩
    cases ev : val Y L with
    | error z => exact comes_err q1 (by rw [ev]; rfl)
    | ok i =>
      rw [ev] at q1
      refine ⟨_, rfl, ixq hs rfl ⟨_, rfl, v, e, M, Y, rfl, hv, by omega, hE, ?_⟩⟩
      cases ew : val Y M with
      | error z => exact comes_err q1 (by show then_ (val Y M) _ = _; rw [ew]; rfl)
      | ok j =>
        have q2 : Comes C H (o.run i j) Q E := by
          have q0 : Comes C H (then_ (val Y M) fun j => o.run i j) Q E := q1
          rw [ew] at q0
          exact q0
        exact ⟨_, rfl, sm, o.word, _, rfl, rfl, W.kS o, fs o, spSum C o, rfl, GS o, _, rfl, _, rfl, i, j, rfl, val_in ev, val_in ew, q2⟩
end
end Fd

set_option Elab.async false
set_option linter.all false
set_option maxRecDepth 100000
set_option maxHeartbeats 2000000
namespace Fd
open PySem PySem.Spec PyProof.Rows L2
section
variable {P : Program} {w : World} {K : PySem.W.Frag} {mg : Str → Option Value} {base : Heap} {f C fI sp sm : Addr} {fs : BOp → Addr} {fd : FuncData}
abbrev sVal : Stmt := top 14
theorem ok_val {k n : Nat} (T : PySem.FellX.FellTxt K mg C fI) (F : Fun K "value_of" "value_of" sVal f fd) (GI : FnG P w K mg base CX0 k "is_value" ["thing"] spIsVal)
    (GO : FnG P w K mg base (L2.CX P w) k "outcome" ["look", "eyes"] (spOut K C n)) : FnOk P w K mg base (L2.CX P w) (k + 1) f fd ["look", "eyes"] (spVal K C n) := by
  obtain ⟨_, _, G_is_value, m_is_value, k_is_value, b_is_value⟩ := GI
  obtain ⟨_, _, G_outcome, m_outcome, k_outcome, b_outcome⟩ := GO
  have sc : FnScope ["look", "eyes", "value"] ["look", "eyes"] (defScope sVal) := ⟨rfl, rfl, rfl, by decide +kernel, rfl, by decide +kernel, by decide +kernel⟩
  refine F.okX sc (fun vs H Q E h => ?_) (fun cdv A outer s H vs Q E hr h => ?_)
  · obtain ⟨v, e, L, Y, rfl, _⟩ := h
    rfl
  obtain ⟨v, e, L, Y, rfl, hL, hd, hE, q⟩ := h
  refine ⟨_, (pss_cons (ps_set (i := 2) sc.nd rfl (.inl rfl) (pe_callS G_outcome (hr.mono (by omega)) (by rfl) m_outcome k_outcome b_outcome (fun σ => passAt (takes_of rfl rfl rfl rfl) σ) (pa_cons (pv 0) (pa_cons (pv 1) pa_nil))))
      (pss_cons (ps_if (pt_not (pt_val (pe_call G_is_value (hr.mono (by omega)) (by rfl) m_is_value k_is_value b_is_value .nil pass0 (pa_cons (pv 2) pa_nil)))) (pss_one (ps_raiseFell rfl T hr (takes_of rfl rfl rfl rfl) (by exact (pa_cons pe_str pa_nil)))) pss_nil)
      (pss_one (ps_ret (pv 2))))), ?_⟩
  rw [val_raw] at q
  refine ⟨_, rfl, _, rfl, v, e, L, Y, rfl, hL, hd, hE, ?_⟩
  cases er : raw Y L with
  | error z => exact comes_err q (by rw [er]; rfl)
  | ok i =>
    rw [er] at q
    refine ⟨_, rfl, i, rfl, _, rfl, ?_⟩
    by_cases hi : inB i = true
    · rw [hi]
      exact iteF ⟨_, rfl, comes_ok q (if_pos hi)⟩
    · rw [Bool.eq_false_iff.mpr hi]
      exact iteT ⟨_, rfl, fun d nd => comes_err q (if_neg hi) d nd⟩
/-- the defs of looks.py that the two call -/
structure Looks5 (P : Program) (w : World) (K : PySem.W.Frag) (mg : Str → Option Value) (base : Heap) (C fI sp sm : Addr) (fs : BOp → Addr) : Prop where
  T : PySem.FellX.FellTxt K mg C fI
  W : Wr K w mg sp sm fs
  N : FnG P w K mg base CX0 3 "is_number" ["thing"] (spIsNum K)
  I : FnG P w K mg base CX0 3 "is_value" ["thing"] spIsVal
  F : FnG P w K mg base (L2.CX P w) 3 "first_of" ["pairs", "name"] (spFirst K C)
  L : FnG P w K mg base (L2.CX P w) 3 "place_in" ["row", "place"] (spPlace K C)
  S : ∀ o : BOp, HeldX P w K mg base 3 (fs o) (spSum C o)
theorem FnG.mono {P : Program} {w : World} {K : PySem.W.Frag} {mg : Str → Option Value} {base : Heap} {CX : CXT} {j k : Nat} {x : Str} {ps : List Str} {sp : Sp} (G : FnG P w K mg base CX j x ps sp) (h : j ≤ k) : FnG P w K mg base CX k x ps sp := by
  obtain ⟨f, fd, F, r⟩ := G
  exact ⟨f, fd, F.mono h, r⟩
theorem HeldX.mono {P : Program} {w : World} {K : PySem.W.Frag} {mg : Str → Option Value} {base : Heap} {j k : Nat} {f : Addr} {sp : Sp} (G : HeldX P w K mg base j f sp) (h : j ≤ k) : HeldX P w K mg base k f sp := by
  obtain ⟨fd, ps, F, r⟩ := G
  exact ⟨fd, ps, F.mono h, r⟩
theorem ok_values {fo : Addr} {fod : FuncData} (L : Looks5 P w K mg base C fI sp sm fs) (m_len : mg "len" = none) (DV : Df K mg "value_of" sVal ["look", "eyes"] f fd) (DO : Df K mg "outcome" sOut ["look", "eyes"] fo fod) :
    ∀ n, FnG P w K mg base (L2.CX P w) (2 * n + 4) "value_of" ["look", "eyes"] (spVal K C n)
  | 0 => ⟨f, fd, ⟨fun vs H Q E h => by
      obtain ⟨v, e, L, Y, rfl, _⟩ := h
      rfl, fun A outer s H args us vs Q E _ _ _ _ h => by
      obtain ⟨v, e, L, Y, _, _, hd, _⟩ := h
      exact absurd hd (by cases L <;> simp [Lk.deep])⟩, DV.m, DV.F.kp, DV.b⟩
  | n + 1 => by
    have G := ok_values L m_len DV DO n
    have O : FnG P w K mg base (L2.CX P w) (2 * n + 5) "outcome" ["look", "eyes"] (spOut K C (n + 1)) :=
      DO.g (ok_out (k := 2 * n + 4) L.W L.T DO.F (L.N.mono (by omega)) (L.F.mono (by omega)) (L.L.mono (by omega)) G (fun o => (L.S o).mono (by omega)) m_len)
    exact DV.g (ok_val (k := 2 * n + 5) L.T DV.F (L.I.mono (by omega)) O)
/-! ### tests -/
end
inductive Ts where
  | like (a b : Lk) | less (a b : Lk) | not_ (t : Ts) | both (t u : Ts) | any_ (t u : Ts) | meets (x : Str)
def thenB {α β : Type} (r : Except Str α) (f : α → Except Str β) : Except Str β := match r with
  | .ok i => f i
  | .error w => .error w
def hold (Y : Ey) : Ts → Except Str Bool
  | .like a b => thenB (val Y a) fun i => thenB (val Y b) fun j => .ok (decide (i = j))
  | .less a b => thenB (val Y a) fun i => thenB (val Y b) fun j => .ok (decide (i < j))
  | .not_ t => thenB (hold Y t) fun b => .ok (!b)
  | .both t u => thenB (hold Y t) fun b => if b = true then hold Y u else .ok false
  | .any_ t u => thenB (hold Y t) fun b => if b = true then .ok true else hold Y u
  | .meets x => .ok (decide (x ∈ Y.met))
def Ts.deep : Ts → Nat
  | .like a b => max a.deep b.deep + 1
  | .less a b => max a.deep b.deep + 1
  | .not_ t => t.deep + 1
  | .both t u => max t.deep u.deep + 1
  | .any_ t u => max t.deep u.deep + 1
  | .meets _ => 1
inductive TsAt (K : PySem.W.Frag) (H : Hp) : V → Ts → Prop where
  | like {a : Addr} {u v : V} {L M : Lk} (h : Sq K H a [.str "like", u, v]) (hu : LkAt K H u L) (hv : LkAt K H v M) : TsAt K H (.ref a) (.like L M)
  | less {a : Addr} {u v : V} {L M : Lk} (h : Sq K H a [.str "below", u, v]) (hu : LkAt K H u L) (hv : LkAt K H v M) : TsAt K H (.ref a) (.less L M)
  | not_ {a : Addr} {u : V} {t : Ts} (h : Sq K H a [.str "not", u]) (hu : TsAt K H u t) : TsAt K H (.ref a) (.not_ t)
  | both {a : Addr} {u v : V} {t t' : Ts} (h : Sq K H a [.str "both", u, v]) (hu : TsAt K H u t) (hv : TsAt K H v t') : TsAt K H (.ref a) (.both t t')
  | any_ {a : Addr} {u v : V} {t t' : Ts} (h : Sq K H a [.str "any", u, v]) (hu : TsAt K H u t) (hv : TsAt K H v t') : TsAt K H (.ref a) (.any_ t t')
  | meets {a : Addr} {x : Str} (h : Sq K H a [.str "meets", .str x]) : TsAt K H (.ref a) (.meets x)
theorem TsAt.same {K : PySem.W.Frag} {H H' : Hp} (s : Same H H') {v : V} {t : Ts} (h : TsAt K H v t) : TsAt K H' v t := by
  induction h with
  | like h hu hv => exact .like (h.same s) (hu.same s) (hv.same s)
  | less h hu hv => exact .less (h.same s) (hu.same s) (hv.same s)
  | not_ h _ ih => exact .not_ (h.same s) ih
  | both h _ _ i1 i2 => exact .both (h.same s) i1 i2
  | any_ h _ _ i1 i2 => exact .any_ (h.same s) i1 i2
  | meets h => exact .meets (h.same s)
def ComesB (C : Addr) (H : Hp) (r : Except Str Bool) (Q : VK) (E : XK) : Prop := match r with
  | .ok b => Q (.bl b) H
  | .error w => Falls C E H w
theorem comesB_ok {C : Addr} {H : Hp} {r : Except Str Bool} {Q : VK} {E : XK} {i : Bool} (h : ComesB C H r Q E) (e : r = .ok i) : Q (.bl i) H := by subst e; exact h
theorem comesB_err {C : Addr} {H : Hp} {r : Except Str Bool} {Q : VK} {E : XK} {w : Str} (h : ComesB C H r Q E) (e : r = .error w) : Falls C E H w := by subst e; exact h
theorem in_met (x : Str) : ∀ m : List Str, inV (.str x) (m.map V.str) = decide (x ∈ m)
  | [] => by rw [decide_eq_false (by simp)]; rfl
  | y :: r => by
    show (y == x || inV (.str x) (r.map V.str)) = _
    rw [in_met x r]
    by_cases h : y = x
    · subst h
      rw [decide_eq_true (List.mem_cons_self), beq_self_eq_true]
      rfl
    · rw [beq_eq_false_iff_ne.mpr h, Bool.false_or]
      by_cases g : x ∈ r
      · rw [decide_eq_true g, decide_eq_true (List.mem_cons_of_mem _ g)]
      · rw [decide_eq_false g, decide_eq_false (fun z => (List.mem_cons.mp z).elim (fun e => h e.symm) g)]
theorem flat_met : ∀ m : List Str, (m.map V.str).all flatV = true
  | [] => rfl
  | _ :: r => by rw [List.map_cons, List.all_cons, flat_met r]; rfl
section
variable {P : Program} {w : World} {K : PySem.W.Frag} {mg : Str → Option Value} {base : Heap} {f C fI sp sm : Addr} {fs : BOp → Addr} {fd : FuncData}
abbrev sHolds : Stmt := top 18
def spHold (K : PySem.W.Frag) (C : Addr) (n : Nat) : Sp := fun vs H Q E => ∃ (v : V) (e : Addr) (t : Ts) (Y : Ey), vs = [v, .ref e] ∧ TsAt K H v t ∧ t.deep ≤ n ∧ Eyes K H e Y ∧ ComesB C H (hold Y t) Q E
theorem ok_hold {k n : Nat} (T : PySem.FellX.FellTxt K mg C fI) (F : Fun K "holds" "holds" sHolds f fd) (GV : FnG P w K mg base (L2.CX P w) k "value_of" ["look", "eyes"] (spVal K C n))
    (GH : FnG P w K mg base (L2.CX P w) k "holds" ["test", "eyes"] (spHold K C n)) : FnOk P w K mg base (L2.CX P w) (k + 1) f fd ["test", "eyes"] (spHold K C (n + 1)) := by
  obtain ⟨_, _, G_value_of, m_value_of, k_value_of, b_value_of⟩ := GV
  obtain ⟨_, _, G_holds, m_holds, k_holds, b_holds⟩ := GH
  have sc : FnScope ["test", "eyes", "word", "first", "second"] ["test", "eyes"] (defScope sHolds) := ⟨rfl, rfl, rfl, by decide +kernel, rfl, by decide +kernel, by decide +kernel⟩
  refine F.okX sc (fun vs H Q E h => ?_) (fun cdv A outer s H vs Q E hr h => ?_)
  · obtain ⟨v, e, L, Y, rfl, _⟩ := h
    rfl
  obtain ⟨v, e, t, Y, rfl, hT, hd, hE, q⟩ := h
  refine ⟨_, (pss_cons (ps_set (i := 2) sc.nd rfl (.inl rfl) (pe_ix (IxR.or ix_tup ix_list) (pv 0) pe_int (fun _ _ => rfl)))
      (pss_cons (ps_if (pt_cmpR op_eq (pv 2) pe_str (nomark _)) (pss_one (ps_ret (pe_cmpR op_in_seq (pe_ix (IxR.or ix_tup ix_list) (pv 0) pe_int (fun _ _ => rfl)) (pe_ix (IxR.or ix_tup ix_list) (pv 1) pe_int (fun _ _ => rfl)) (by rfl)))) pss_nil)
      (pss_cons (ps_if (pt_cmpR op_eq (pv 2) pe_str (nomark _)) (pss_one (ps_ret (pe_not (pe_callS G_holds (hr.mono (by omega)) (by rfl) m_holds k_holds b_holds (fun σ => passAt (takes_of rfl rfl rfl rfl) σ) (pa_cons (pe_ix (IxR.or ix_tup ix_list) (pv 0) pe_int (fun _ _ => rfl)) (pa_cons (pv 1) pa_nil)))))) pss_nil)
      (pss_cons (ps_if (pt_cmpR op_eq (pv 2) pe_str (nomark _)) (pss_one (ps_ret (pe_and (pe_callS G_holds (hr.mono (by omega)) (by rfl) m_holds k_holds b_holds (fun σ => passAt (takes_of rfl rfl rfl rfl) σ) (pa_cons (pe_ix (IxR.or ix_tup ix_list) (pv 0) pe_int (fun _ _ => rfl)) (pa_cons (pv 1) pa_nil))) (pe_one (pe_callS G_holds (hr.mono (by omega)) (by rfl) m_holds k_holds b_holds (fun σ => passAt (takes_of rfl rfl rfl rfl) σ) (pa_cons (pe_ix (IxR.or ix_tup ix_list) (pv 0) pe_int (fun _ _ => rfl)) (pa_cons (pv 1) pa_nil))))))) pss_nil)
      (pss_cons (ps_if (pt_cmpR op_eq (pv 2) pe_str (nomark _)) (pss_one (ps_ret (pe_or (pe_callS G_holds (hr.mono (by omega)) (by rfl) m_holds k_holds b_holds (fun σ => passAt (takes_of rfl rfl rfl rfl) σ) (pa_cons (pe_ix (IxR.or ix_tup ix_list) (pv 0) pe_int (fun _ _ => rfl)) (pa_cons (pv 1) pa_nil))) (pe_one (pe_callS G_holds (hr.mono (by omega)) (by rfl) m_holds k_holds b_holds (fun σ => passAt (takes_of rfl rfl rfl rfl) σ) (pa_cons (pe_ix (IxR.or ix_tup ix_list) (pv 0) pe_int (fun _ _ => rfl)) (pa_cons (pv 1) pa_nil))))))) pss_nil)
      (pss_cons (ps_set (i := 3) sc.nd rfl (.inl rfl) (pe_callS G_value_of (hr.mono (by omega)) (by rfl) m_value_of k_value_of b_value_of (fun σ => passAt (takes_of rfl rfl rfl rfl) σ) (pa_cons (pe_ix (IxR.or ix_tup ix_list) (pv 0) pe_int (fun _ _ => rfl)) (pa_cons (pv 1) pa_nil))))
      (pss_cons (ps_set (i := 4) sc.nd rfl (.inl rfl) (pe_callS G_value_of (hr.mono (by omega)) (by rfl) m_value_of k_value_of b_value_of (fun σ => passAt (takes_of rfl rfl rfl rfl) σ) (pa_cons (pe_ix (IxR.or ix_tup ix_list) (pv 0) pe_int (fun _ _ => rfl)) (pa_cons (pv 1) pa_nil))))
      (pss_one (ps_ret (pe_ifExp (pt_cmpR op_eq (pv 2) pe_str (nomark _)) (pe_cmpR op_eq (pv 3) (pv 4) (nomark _)) (pe_cmpR op_lt (pv 3) (pv 4) (nomark _)))))))))))), ?_⟩
  obtain ⟨en, el, es, em, he, hY⟩ := id hE
  cases hT with
  | @meets a x hs =>
    refine ⟨_, rfl, ixq hs rfl ⟨_, rfl, rfl, _, rfl, ifT rfl ⟨_, rfl, ixq hs rfl ⟨_, rfl, ixq he rfl ⟨em, _, rfl, hY.mt.symm, rfl, flat_met _, ?_⟩⟩⟩⟩⟩
    show Q (.bl (inV (.str x) (Y.met.map V.str))) H
    rw [in_met]
    exact q
  | @not_ a u t hs hu =>
    refine ⟨_, rfl, ixq hs rfl ⟨_, rfl, rfl, _, rfl, ifF (neS (by decide +kernel)) ⟨_, rfl, rfl, _, rfl, ifT rfl ⟨_, rfl, ixq hs rfl ⟨_, rfl, u, e, t, Y, rfl, hu, Nat.le_of_succ_le_succ hd, hE, ?_⟩⟩⟩⟩⟩
    have q1 : ComesB C H (thenB (hold Y t) fun b => .ok (!b)) Q E := q
    cases ev : hold Y t with
    | error z => exact comesB_err q1 (by rw [ev]; rfl)
    | ok b => exact ⟨_, rfl, comesB_ok q1 (by rw [ev]; rfl)⟩
  | @both a u v t t' hs hu hv =>
    have hd' : max t.deep t'.deep ≤ n := Nat.le_of_succ_le_succ hd
    refine ⟨_, rfl, ixq hs rfl ⟨_, rfl, rfl, _, rfl, ifF (neS (by decide +kernel)) ⟨_, rfl, rfl, _, rfl, ifF (neS (by decide +kernel)) ⟨_, rfl, rfl, _, rfl, ifT rfl ⟨_, rfl, ixq hs rfl ⟨_, rfl, u, e, t, Y, rfl, hu, by omega, hE, ?_⟩⟩⟩⟩⟩⟩
    have q1 : ComesB C H (thenB (hold Y t) fun b => if b = true then hold Y t' else .ok false) Q E := q
    cases ev : hold Y t with
    | error z => exact comesB_err q1 (by rw [ev]; rfl)
    | ok b =>
      rw [ev] at q1
      cases b with
      | true => exact ⟨_, rfl, iteT ⟨_, rfl, ixq hs rfl ⟨_, rfl, v, e, t', Y, rfl, hv, by omega, hE, q1⟩⟩⟩
      | false => exact ⟨_, rfl, iteF q1⟩
  | @any_ a u v t t' hs hu hv =>
    have hd' : max t.deep t'.deep ≤ n := Nat.le_of_succ_le_succ hd
    refine ⟨_, rfl, ixq hs rfl ⟨_, rfl, rfl, _, rfl, ifF (neS (by decide +kernel)) ⟨_, rfl, rfl, _, rfl, ifF (neS (by decide +kernel)) ⟨_, rfl, rfl, _, rfl, ifF (neS (by decide +kernel)) ⟨_, rfl, rfl, _, rfl, ifT rfl
      ⟨_, rfl, ixq hs rfl ⟨_, rfl, u, e, t, Y, rfl, hu, by omega, hE, ?_⟩⟩⟩⟩⟩⟩⟩
    have q1 : ComesB C H (thenB (hold Y t) fun b => if b = true then .ok true else hold Y t') Q E := q
    cases ev : hold Y t with
    | error z => exact comesB_err q1 (by rw [ev]; rfl)
    | ok b =>
      rw [ev] at q1
      cases b with
      | true => exact ⟨_, rfl, iteT q1⟩
      | false => exact ⟨_, rfl, iteF ⟨_, rfl, ixq hs rfl ⟨_, rfl, v, e, t', Y, rfl, hv, by omega, hE, q1⟩⟩⟩
  | @like a u v L M hs hu hv =>
    have hd' : max L.deep M.deep ≤ n := Nat.le_of_succ_le_succ hd
    have q1 : ComesB C H (thenB (val Y L) fun i => thenB (val Y M) fun j => .ok (decide (i = j))) Q E := q
    refine ⟨_, rfl, ixq hs rfl ⟨_, rfl, rfl, _, rfl, ifF (neS (by decide +kernel)) ⟨_, rfl, rfl, _, rfl, ifF (neS (by decide +kernel)) ⟨_, rfl, rfl, _, rfl, ifF (neS (by decide +kernel)) ⟨_, rfl, rfl, _, rfl, ifF (neS (by decide +kernel))
      ⟨_, rfl, ixq hs rfl ⟨_, rfl, u, e, L, Y, rfl, hu, by omega, hE, ?_⟩⟩⟩⟩⟩⟩⟩
    cases ev : val Y L with
    | error z => exact comesB_err q1 (by rw [ev]; rfl)
    | ok i =>
      refine ⟨_, rfl, ixq hs rfl ⟨_, rfl, v, e, M, Y, rfl, hv, by omega, hE, ?_⟩⟩
      cases ew : val Y M with
      | error z => exact comesB_err q1 (by rw [ev]; show thenB (val Y M) _ = _; rw [ew]; rfl)
      | ok j =>
        refine ⟨_, rfl, rfl, _, rfl, ifT rfl ⟨_, rfl, _, rfl, rfl, ?_⟩⟩
        have q2 := comesB_ok q1 (i := decide (i = j)) (by rw [ev]; show thenB (val Y M) _ = _; rw [ew]; rfl)
        by_cases h : i = j
        · subst h
          exact qd (by rw [decide_eq_true rfl] at q2; exact q2)
        · rw [decide_eq_false h] at q2
          show Q (.bl (decide (V.int i = V.int j))) H
          rw [decide_eq_false (fun z => h (V.int.inj z))]
          exact q2
  | @less a u v L M hs hu hv =>
    have hd' : max L.deep M.deep ≤ n := Nat.le_of_succ_le_succ hd
    have q1 : ComesB C H (thenB (val Y L) fun i => thenB (val Y M) fun j => .ok (decide (i < j))) Q E := q
    refine ⟨_, rfl, ixq hs rfl ⟨_, rfl, rfl, _, rfl, ifF (neS (by decide +kernel)) ⟨_, rfl, rfl, _, rfl, ifF (neS (by decide +kernel)) ⟨_, rfl, rfl, _, rfl, ifF (neS (by decide +kernel)) ⟨_, rfl, rfl, _, rfl, ifF (neS (by decide +kernel))
      ⟨_, rfl, ixq hs rfl ⟨_, rfl, u, e, L, Y, rfl, hu, by omega, hE, ?_⟩⟩⟩⟩⟩⟩⟩
    cases ev : val Y L with
    | error z => exact comesB_err q1 (by rw [ev]; rfl)
    | ok i =>
      refine ⟨_, rfl, ixq hs rfl ⟨_, rfl, v, e, M, Y, rfl, hv, by omega, hE, ?_⟩⟩
      cases ew : val Y M with
      | error z => exact comesB_err q1 (by rw [ev]; show thenB (val Y M) _ = _; rw [ew]; rfl)
      | ok j =>
        exact ⟨_, rfl, rfl, _, rfl, ifF (neS (by decide +kernel)) ⟨_, rfl, _, rfl, _, _, rfl, rfl, comesB_ok q1 (i := decide (i < j)) (by rw [ev]; show thenB (val Y M) _ = _; rw [ew]; rfl)⟩⟩
theorem ok_holds (T : PySem.FellX.FellTxt K mg C fI) (D : Df K mg "holds" sHolds ["test", "eyes"] f fd) (G : ∀ n, FnG P w K mg base (L2.CX P w) (2 * n + 4) "value_of" ["look", "eyes"] (spVal K C n)) :
    ∀ n, FnG P w K mg base (L2.CX P w) (2 * n + 4) "holds" ["test", "eyes"] (spHold K C n)
  | 0 => ⟨f, fd, ⟨fun vs H Q E h => by
      obtain ⟨v, e, L, Y, rfl, _⟩ := h
      rfl, fun A outer s H args us vs Q E _ _ _ _ h => by
      obtain ⟨v, e, L, Y, _, _, hd, _⟩ := h
      exact absurd hd (by cases L <;> simp [Ts.deep])⟩, D.m, D.F.kp, D.b⟩
  | n + 1 => FnG.mono (D.g (ok_hold (k := 2 * n + 4) T D.F (G n) (ok_holds T D G n))) (by omega)
end
end Fd

set_option Elab.async false
set_option linter.all false
set_option maxRecDepth 100000
set_option maxHeartbeats 2000000
namespace Fd
open PySem PySem.Spec PyProof.Rows L2
section
variable {P : Program} {w : World} {K : PySem.W.Frag} {mg : Str → Option Value} {base : Heap} {f C fI sp sm : Addr} {fs : BOp → Addr} {fd : FuncData}
abbrev sTold : Stmt := top 29
theorem scTold : FnScope ["_law_asked", "_law_thing", "_law_eyes", "_law_caught", "_law_told", "error"] ["_law_asked", "_law_thing", "_law_eyes"] (defScope sTold) := ⟨rfl, rfl, rfl, by decide +kernel, rfl, by decide +kernel, by decide +kernel⟩
def OkK (Q : VK) : VK := fun u H1 => ∀ p H2, Same H1 H2 → H2 p = some (.tup [u, .non]) → Q (.ref p) H2
def ErrK (C : Addr) (Q : VK) : XK := fun cls d H1 => cls = .ref C ∧ ∃ dd z, d = some dd ∧ H1 dd = some (.xd [(("word" : Str), .str z)]) ∧ ∀ p H2, Same H1 H2 → H2 p = some (.tup [.non, .str z]) → Q (.ref p) H2
def spTold (P : Program) (w : World) (K : PySem.W.Frag) (mg : Str → Option Value) (base : Heap) (C : Addr) (k : Nat) : Sp := fun vs H Q _ => ∃ (f : Addr) (v : V) (e : Addr) (sp : Sp), vs = [.ref f, v, .ref e] ∧ HeldX P w K mg base k f sp ∧
  ∀ (H0 : Hp) (Q' : VK) (E' : XK), Same H H0 → (∀ u H1, OkK Q u H1 → Q' u H1) → (∀ cls d H1, ErrK C Q cls d H1 → E' cls d H1) → sp [v, .ref e] H0 Q' E'
-- slots ["_law_asked", "_law_thing", "_law_eyes", "_law_caught", "_law_told", "error"]
theorem ok_told {k : Nat} (T : PySem.FellX.FellTxt K mg C fI) (EC : ErrC K C) (kr : PySem.W.kitOne K (.ref C) (.type "RuntimeError") = some true) (F : Fun K "_law_told_of" "_law_told_of" sTold f fd)
    (m_isinstance : mg "isinstance" = none) (m_RuntimeError : mg "RuntimeError" = none) : FnOk P w K mg base CX0 (k + 1) f fd ["_law_asked", "_law_thing", "_law_eyes"] (spTold P w K mg base C k) := by
  have sc := scTold
  refine F.ok sc (fun vs H Q E h => ?_) (fun cdv A outer s H vs Q E hr h => ?_)
  · obtain ⟨f, v, e, sp, rfl, _⟩ := h
    rfl
  obtain ⟨g, v, e, sp, rfl, hG, q⟩ := h
  refine ⟨_, (pss_cons (ps_asg (pe_tup (pa_cons pe_non (pa_cons pe_non pa_nil))) (pg_tup (by rfl) (pgs_cons (pg_name (i := 3) sc.nd rfl (.inl rfl)) (pgs_cons (pg_name (i := 4) sc.nd rfl (.inl rfl)) pgs_nil))))
      (pss_cons (ps_try_keep (i := 5) (tb := fun W => tAsg (tCallX P w K mg base k 0 (WE W) (tCons (tVar 1) (tCons (tVar 2) tNil))) (gName 4)) (ts := fun a cls d => tAsg (tVar 5) (gName 3)) (Wout := fun _ _ _ _ => False) rfl rfl sc.nd rfl rfl ⟨rfl, by decide, .inl T.gC⟩ takes0 (fun W pn xe tk _ => pss_one (ps_set (i := 4) sc.nd rfl (.inl rfl) (by exact (pe_callX (k := k) (i := 0) (hr.mono (by omega)) rfl (.inl rfl) (fun σ => passAt tk σ) (by exact (pa_cons (pv 1) (pa_cons (pv 2) pa_nil))))))) (fun a oe cls d pn hz hf => pss_one (ps_set (i := 3) sc.nd rfl (.inl rfl) (by exact (pv 5)))))
      (pss_cons (ps_if (pt_cmpR op_isN (pv 3) pe_non (nomark _)) (pss_one (ps_ret (pe_tup (pa_cons (pv 4) (pa_cons pe_non pa_nil))))) pss_nil)
      (pss_one (ps_ret (pe_ifExp (pt_val (pe_callB (call_isErr EC) (by rfl) m_isinstance (by decide +kernel) (pa_cons (pv 3) (pa_cons (pe_bltn (v := .ty "RuntimeError") (by rfl) m_RuntimeError (by decide +kernel) rfl) pa_nil)))) (pe_tup (pa_cons pe_non (pa_cons (pe_errF EC T.noN (pv 3)) pa_nil))) (pe_tup (pa_cons pe_non (pa_cons pe_str pa_nil))))))))), ?_⟩
  refine ⟨by show 2 ≤ sizeLine; decide, fun t nt => ⟨t, _, rfl, .inl (.inl upd_same), rfl, _, _, rfl, _, _, rfl, rfl, ?_⟩⟩
  refine ⟨g, sp, rfl, hG, _, rfl, _, rfl, q _ _ _ (same_upd nt) (fun u H1 ok => ?_) (fun cls d H1 er => ?_)⟩
  · exact ⟨_, rfl, rfl, _, rfl, iteT ⟨_, rfl, by show 2 ≤ sizeLine; decide, fun p np => ok p _ (same_upd np) upd_same⟩⟩
  · obtain ⟨rfl, dd, z, rfl, hd, er⟩ := er
    refine ⟨true, T.te, (by intro z; cases z), fun _ a na => ⟨_, rfl, fun na' => ?_⟩⟩
    have nda : dd ≠ a := ne_of_none hd na
    have s1 : Same H1 (upd H1 a (ErrO (.ref C) (some dd) a)) := same_upd na
    refine ⟨_, rfl, rfl, _, rfl, iteF ⟨_, rfl, a, dd, _, "RuntimeError", true, rfl, upd_same, s1 _ _ hd, kr, _, rfl, iteT ⟨_, rfl, a, dd, _, _, rfl, upd_same, s1 _ _ hd, rfl, by show 2 ≤ sizeLine; decide, fun p np => er p _ (s1.trans (same_upd np)) upd_same⟩⟩⟩
end
end Fd

set_option Elab.async false
set_option linter.all false
set_option maxRecDepth 100000
set_option maxHeartbeats 2000000
namespace Fd
open PySem PySem.Spec PyProof.Rows L2
theorem inB_of {i : Int} (h1 : -1000000 ≤ i) (h2 : i ≤ 1000000) : inB i = true := by
  unfold inB
  rw [decide_eq_true h1, decide_eq_true h2]
  rfl
/-! ### the heap without the box -/
def rm (a : Addr) (H : Hp) : Hp := fun b => if b = a then none else H b
theorem rm_at {a b : Addr} {H : Hp} (h : b ≠ a) : rm a H b = H b := if_neg h
theorem rm_self {a : Addr} {H : Hp} : rm a H a = none := if_pos rfl
theorem rm_sub {a : Addr} {H : Hp} : Same (rm a H) H := fun b o h => by
  by_cases e : b = a
  · rw [e, rm_self] at h; cases h
  · rw [rm_at e] at h; exact h
theorem rm_but {a : Addr} {H H' : Hp} (s : But a H H') : Same (rm a H) (rm a H') := fun b o h => by
  by_cases e : b = a
  · rw [e, rm_self] at h; cases h
  · rw [rm_at e] at h ⊢; exact s b o e h
theorem rm_same {a : Addr} {H H' : Hp} (s : Same H H') : Same (rm a H) (rm a H') := rm_but (But.of s)
theorem rm_new {a p : Addr} {H : Hp} {o u : HO} (ha : H a = some u) (h : H p = none) : rm a (upd H p o) p = some o := by
  rw [rm_at (fun e => by rw [e, ha] at h; cases h)]
  exact upd_same
theorem Box.get {H : Hp} {a : Addr} {n : Nat} (b : Box H a n) : ∃ u, H a = some u := b.is
/-! ### looks as plain data -/
def lkD : Lk → PyData
  | .num i => .int i
  | .name x => .tuple [.str "name", .str x]
  | .many x => .tuple [.str "many", .str x]
  | .item x a => .tuple [.str "item", .str x, lkD a]
  | .spot k => .tuple [.str (spotWords.getD k "")]
  | .bin o a b => .tuple [.str o.word, lkD a, lkD b]
/-- the words it may name, its values in their bounds -/
def LkOk (ws : List Str) : Lk → Prop
  | .num i => inB i = true
  | .name x => x ∈ ws
  | .many x => x ∈ ws
  | .item x a => x ∈ ws ∧ LkOk ws a
  | .spot k => k < 4
  | .bin _ a b => LkOk ws a ∧ LkOk ws b
section
variable {P : Program} {w : World} {K : PySem.W.Frag} {mg : Str → Option Value} {base : Heap} {f : Addr} {fd : FuncData}
/-! ### _law_pick -/
abbrev sPick : Stmt := top 23
def spPick (K : PySem.W.Frag) : Sp := fun vs H Q _ => ∃ (a l : Addr) (n : Nat) (xs : List V), vs = [.ref a, .ref l] ∧ Box H a n ∧ n + 1 ≤ 1000000 ∧ rm a H l = some (.lst xs) ∧ 0 < xs.length ∧ xs.length ≤ 1000 ∧
  ∀ (j : Nat) (v : V) (H' : Hp), xs[j]? = some v → But a H H' → Box H' a (n + 1) → Q v H'
theorem ok_pick {k : Nat} (F : Fun K "_law_pick" "_law_pick" sPick f fd) (G : FnG P w K mg base CX0 k "_law_take" ["_law_box", "_law_many"] spTake) (m_len : mg "len" = none) : FnOk P w K mg base CX0 (k + 1) f fd ["_law_box", "_law_some"] (spPick K) := by
  obtain ⟨_, _, G__law_take, m__law_take, k__law_take, b__law_take⟩ := G
  have sc : FnScope ["_law_box", "_law_some"] ["_law_box", "_law_some"] (defScope sPick) := ⟨rfl, rfl, rfl, by decide +kernel, rfl, by decide +kernel, by decide +kernel⟩
  refine F.ok sc (fun vs H Q E h => ?_) (fun cdv A outer s H vs Q E hr h => ?_)
  · obtain ⟨a, l, n, xs, rfl, _⟩ := h
    rfl
  obtain ⟨a, l, n, xs, rfl, hB, hn, hl, h0, h1, q⟩ := h
  refine ⟨_, (pss_one (ps_ret (pe_ix ix_list (pv 1) (pe_call G__law_take (hr.mono (by omega)) (by rfl) m__law_take k__law_take b__law_take .nil pass0 (pa_cons (pv 0) (pa_cons (pe_callB call_len_seq (by rfl) m_len (by decide +kernel) (pa_cons (pv 1) pa_nil)) pa_nil))) (fun _ _ => rfl)))), ?_⟩
  refine ⟨_, rfl, _, rfl, _, rfl, l, xs, rfl, .inl (SqL.of (rm_sub _ _ hl)), a, n, _, rfl, hB, by omega, by omega, by omega, fun r H1 r0 r1 s1 B1 => ?_⟩
  have hr : r.toNat < xs.length := by omega
  exact ⟨l, xs, r, xs[r.toNat], rfl, rfl, SqL.of (rm_sub _ _ (rm_but s1 _ _ hl)), at_of (j := r.toNat) (by omega) (List.getElem?_eq_getElem hr), q r.toNat _ H1 (List.getElem?_eq_getElem hr) s1 B1⟩
/-! ### _law_a_look -/
abbrev sALook : Stmt := top 26
theorem scALook : FnScope ["_law_box", "_law_words", "_law_deep", "_law_way", "_law_word"] ["_law_box", "_law_words", "_law_deep"] (defScope sALook) := ⟨rfl, rfl, rfl, by decide +kernel, rfl, by decide +kernel, by decide +kernel⟩
/-- at most so many draws for a look so deep -/
def cost (d : Nat) : Nat := 10 * 2 ^ d - 2
def spALook (K : PySem.W.Frag) (d : Nat) : Sp := fun vs H Q _ => ∃ (a p : Addr) (n : Nat) (deep : Int) (ws : List Str), vs = [.ref a, .ref p, .int deep] ∧ Box H a n ∧ n + cost d ≤ 1000000 ∧ 1 ≤ deep ∧ deep ≤ d ∧ rm a H p = some (.lst (ws.map V.str)) ∧ 5 ≤ ws.length ∧
  ∀ (v : V) (L : Lk) (H' : Hp), But a H H' → Box H' a (n + cost d) → Dp K (rm a H') v (lkD L) → LkOk ws L → L.deep ≤ d → Q v H'
theorem cost_succ (d : Nat) : cost (d + 1) = 2 * cost d + 2 := by unfold cost; rw [Nat.pow_succ]; have := Nat.one_le_two_pow (n := d); omega
theorem cost_ge (d : Nat) : 8 ≤ cost d := by unfold cost; have := Nat.one_le_two_pow (n := d); omega
theorem at_words {ws : List Str} {i : Int} (h0 : 0 ≤ i) (h : i.toNat < ws.length) : ∃ x, x ∈ ws ∧ atI (ws.map V.str) i = some (.str x) :=
  ⟨ws[i.toNat], List.getElem_mem _, at_of (j := i.toNat) (by omega) (by rw [List.getElem?_map, List.getElem?_eq_getElem h]; rfl)⟩
theorem bop_at : ∀ {j : Nat} {v : V}, [V.str "plus", .str "minus", .str "by", .str "over", .str "rest"][j]? = some v → ∃ o : BOp, v = .str o.word
  | 0, _, h => ⟨.plus, (Option.some.inj h).symm⟩
  | 1, _, h => ⟨.minus, (Option.some.inj h).symm⟩
  | 2, _, h => ⟨.by_, (Option.some.inj h).symm⟩
  | 3, _, h => ⟨.over, (Option.some.inj h).symm⟩
  | 4, _, h => ⟨.rest, (Option.some.inj h).symm⟩
  | j + 5, _, h => by simp at h
theorem spot_at : ∀ {j : Nat} {v : V}, [V.str "x", .str "y", .str "way", .str "number"][j]? = some v → j < 4 ∧ v = .str (spotWords.getD j "")
  | 0, _, h => ⟨by decide, (Option.some.inj h).symm⟩
  | 1, _, h => ⟨by decide, (Option.some.inj h).symm⟩
  | 2, _, h => ⟨by decide, (Option.some.inj h).symm⟩
  | 3, _, h => ⟨by decide, (Option.some.inj h).symm⟩
  | j + 4, _, h => by simp at h
theorem ok_aLook {k d : Nat} (F : Fun K "_law_a_look" "_law_a_look" sALook f fd) (GT : FnG P w K mg base CX0 k "_law_take" ["_law_box", "_law_many"] spTake) (GP : FnG P w K mg base CX0 k "_law_pick" ["_law_box", "_law_some"] (spPick K))
    (GA : FnG P w K mg base CX0 k "_law_a_value" ["_law_box"] spAValue) (GL : FnG P w K mg base CX0 k "_law_a_look" ["_law_box", "_law_words", "_law_deep"] (spALook K d)) : FnOk P w K mg base CX0 (k + 1) f fd ["_law_box", "_law_words", "_law_deep"] (spALook K (d + 1)) := by
  obtain ⟨_, _, G__law_take, m__law_take, k__law_take, b__law_take⟩ := GT
  obtain ⟨_, _, G__law_pick, m__law_pick, k__law_pick, b__law_pick⟩ := GP
  obtain ⟨_, _, G__law_a_value, m__law_a_value, k__law_a_value, b__law_a_value⟩ := GA
  obtain ⟨_, _, G__law_a_look, m__law_a_look, k__law_a_look, b__law_a_look⟩ := GL
  have sc := scALook
  refine F.ok sc (fun vs H Q E h => ?_) (fun cdv A outer s H vs Q E hr h => ?_)
  · obtain ⟨a, p, n, deep, ws, rfl, _⟩ := h
    rfl
  obtain ⟨a, p, n, deep, ws, rfl, hB, hn, d0, d1, hp, hw, q⟩ := h
  refine ⟨_, (pss_cons (ps_set (i := 3) sc.nd rfl (.inl rfl) (pe_call G__law_take (hr.mono (by omega)) (by rfl) m__law_take k__law_take b__law_take .nil pass0 (pa_cons (pv 0) (pa_cons pe_int pa_nil))))
      (pss_cons (ps_if (PW.pt (pw_or (pt_cmpR op_lt (pv 2) pe_int (nomark _)) (pw_or1 (pt_cmpR op_lt (pv 3) pe_int (nomark _))))) (pss_one (ps_ret (pe_call G__law_a_value (hr.mono (by omega)) (by rfl) m__law_a_value k__law_a_value b__law_a_value .nil pass0 (pa_cons (pv 0) pa_nil)))) pss_nil)
      (pss_cons (ps_if (pt_cmpR op_lt (pv 3) pe_int (nomark _)) (pss_one (ps_ret (pe_tup (pa_cons pe_str (pa_cons (pe_ix ix_list (pv 1) (pe_call G__law_take (hr.mono (by omega)) (by rfl) m__law_take k__law_take b__law_take .nil pass0 (pa_cons (pv 0) (pa_cons pe_int pa_nil))) (fun _ _ => rfl)) pa_nil))))) pss_nil)
      (pss_cons (ps_if (pt_cmpR op_lt (pv 3) pe_int (nomark _)) (pss_cons (ps_set (i := 4) sc.nd rfl (.inl rfl) (pe_call G__law_pick (hr.mono (by omega)) (by rfl) m__law_pick k__law_pick b__law_pick .nil pass0 (pa_cons (pv 0) (pa_cons (pe_lst (pa_cons pe_str (pa_cons pe_str (pa_cons pe_str (pa_cons pe_str (pa_cons pe_str pa_nil)))))) pa_nil))))
      (pss_one (ps_ret (pe_tup (pa_cons (pv 4) (pa_cons (pe_call G__law_a_look (hr.mono (by omega)) (by rfl) m__law_a_look k__law_a_look b__law_a_look .nil pass0 (pa_cons (pv 0) (pa_cons (pv 1) (pa_cons (pe_op op_sub (pv 2) pe_int) pa_nil)))) (pa_cons (pe_call G__law_a_look (hr.mono (by omega)) (by rfl) m__law_a_look k__law_a_look b__law_a_look .nil pass0 (pa_cons (pv 0) (pa_cons (pv 1) (pa_cons (pe_op op_sub (pv 2) pe_int) pa_nil)))) pa_nil))))))) pss_nil)
      (pss_cons (ps_if (pt_cmpR op_eq (pv 3) pe_int (nomark _)) (pss_one (ps_ret (pe_tup (pa_cons pe_str (pa_cons (pe_ix ix_list (pv 1) (pe_op op_add pe_int (pe_call G__law_take (hr.mono (by omega)) (by rfl) m__law_take k__law_take b__law_take .nil pass0 (pa_cons (pv 0) (pa_cons pe_int pa_nil)))) (fun _ _ => rfl)) (pa_cons (pe_call G__law_a_look (hr.mono (by omega)) (by rfl) m__law_a_look k__law_a_look b__law_a_look .nil pass0 (pa_cons (pv 0) (pa_cons (pv 1) (pa_cons (pe_op op_sub (pv 2) pe_int) pa_nil)))) pa_nil)))))) pss_nil)
      (pss_one (ps_ret (pe_ifExp (pt_cmpR op_eq (pv 3) pe_int (nomark _)) (pe_tup (pa_cons pe_str (pa_cons (pe_ix ix_list (pv 1) (pe_op op_add pe_int (pe_call G__law_take (hr.mono (by omega)) (by rfl) m__law_take k__law_take b__law_take .nil pass0 (pa_cons (pv 0) (pa_cons pe_int pa_nil)))) (fun _ _ => rfl)) pa_nil))) (pe_tup (pa_cons (pe_call G__law_pick (hr.mono (by omega)) (by rfl) m__law_pick k__law_pick b__law_pick .nil pass0 (pa_cons (pv 0) (pa_cons (pe_lst (pa_cons pe_str (pa_cons pe_str (pa_cons pe_str (pa_cons pe_str pa_nil))))) pa_nil))) pa_nil)))))))))), ?_⟩
  have c8 := cost_ge d
  have c2 := cost_succ d
  refine ⟨_, rfl, a, n, 12, rfl, hB, by omega, by decide, by decide, fun way H1 w0 w1 s1 B1 => ?_⟩
  have hp1 := rm_but s1 _ _ hp
  have z1 : 1 ≤ sizeLine := by decide
  have z2 : 2 ≤ sizeLine := by decide
  have z3 : 3 ≤ sizeLine := by decide
  have z4 : 4 ≤ sizeLine := by decide
  have z5 : 5 ≤ sizeLine := by decide
  refine ⟨_, rfl, _, _, rfl, rfl, _, rfl, ite2 (fun c1 => ?_) (fun c1 => ⟨_, rfl, _, _, rfl, rfl, _, rfl, ite2 (fun c2 => ?_) (fun c2 => ?_)⟩)⟩
  · refine iteT ?_
    exact ⟨_, rfl, a, n + 1, rfl, B1, by omega, fun r H2 r0 r1 s2 B2 => q _ (.num r) H2 (s1.trans s2) (B2.le (by omega)) (.int r) (inB_of r0 r1) (Nat.succ_le_succ (Nat.zero_le _))⟩
  · exact ⟨_, rfl, a, n + 1, rfl, B1, by omega, fun r H2 r0 r1 s2 B2 => q _ (.num r) H2 (s1.trans s2) (B2.le (by omega)) (.int r) (inB_of r0 r1) (Nat.succ_le_succ (Nat.zero_le _))⟩
  have dp2 : 2 ≤ deep := by
    have : ¬ deep < 2 := fun z => c1 (decide_eq_true z)
    omega
  refine ⟨_, rfl, _, _, rfl, rfl, _, rfl, ite2 (fun c3 => ?_) (fun c3 => ?_)⟩
  · refine ⟨_, rfl, _, rfl, a, n + 1, 3, rfl, B1, by omega, by decide, by decide, fun r H2 r0 r1 s2 B2 => ?_⟩
    obtain ⟨x, hx, ex⟩ := at_words (ws := ws) r0 (by omega)
    refine ⟨p, _, r, _, rfl, rfl, SqL.of (rm_sub _ _ (rm_but s2 _ _ hp1)), ex, z2, fun t nt => ?_⟩
    obtain ⟨u, hu⟩ := B2.get
    exact q _ (.name x) _ ((s1.trans s2).trans (But.of (same_upd nt))) ((B2.same (same_upd nt)).le (by omega)) (.tup (SqT.of (rm_new hu nt)) (.cons (.str _) (.cons (.str _) .nil))) hx (Nat.succ_le_succ (Nat.zero_le _))
  refine ⟨_, rfl, _, _, rfl, rfl, _, rfl, ite2 (fun c4 => ?_) (fun c4 => ?_)⟩
  · refine ⟨_, rfl, z5, fun l nl => ?_⟩
    obtain ⟨u1, hu1⟩ := B1.get
    refine ⟨a, l, n + 1, _, rfl, B1.same (same_upd nl), by omega, rm_new hu1 nl, by decide, by decide, fun j v H2 hj s2 B2 => ?_⟩
    obtain ⟨o, rfl⟩ := bop_at hj
    have hp2 := rm_but ((But.of (same_upd nl)).trans s2) _ _ hp1
    refine ⟨_, rfl, _, rfl, _, rfl, _, rfl, _, _, rfl, rfl, a, p, n + 2, deep - 1, ws, rfl, B2, by omega, by omega, by omega, hp2, hw, fun v1 L1 H3 s3 B3 k1 o1 e1 => ?_⟩
    refine ⟨_, rfl, _, rfl, _, rfl, _, _, rfl, rfl, a, p, n + 2 + cost d, deep - 1, ws, rfl, B3, by omega, by omega, by omega, rm_but s3 _ _ hp2, hw, fun v2 L2 H4 s4 B4 k2 o2 e2 => ⟨z3, fun t nt => ?_⟩⟩
    obtain ⟨u, hu⟩ := B4.get
    have sn := rm_same (a := a) (same_upd (o := .tup [.str o.word, v1, v2]) nt)
    exact q _ (.bin o L1 L2) _ (((s1.trans (But.of (same_upd nl))).trans s2).trans ((s3.trans s4).trans (But.of (same_upd nt)))) ((B4.same (same_upd nt)).le (by omega))
      (.tup (SqT.of (rm_new hu nt)) (.cons (.str _) (.cons (dp_same ((rm_but s4).trans sn) _ _ k1) (.cons (dp_same sn _ _ k2) .nil)))) ⟨o1, o2⟩ (Nat.succ_le_succ (Nat.max_le.mpr ⟨e1, e2⟩))
  refine ⟨_, rfl, rfl, _, rfl, ite2 (fun c5 => ?_) (fun c5 => ?_)⟩
  · refine ⟨_, rfl, _, rfl, a, n + 1, 2, rfl, B1, by omega, by decide, by decide, fun r H2 r0 r1 s2 B2 => ⟨_, _, rfl, rfl, ?_⟩⟩
    obtain ⟨x, hx, ex⟩ := at_words (ws := ws) (i := 3 + r) (by omega) (by omega)
    have hp2 := rm_but s2 _ _ hp1
    refine ⟨p, _, 3 + r, _, rfl, rfl, SqL.of (rm_sub _ _ hp2), ex, _, rfl, _, rfl, _, rfl, _, _, rfl, rfl, a, p, n + 2, deep - 1, ws, rfl, B2, by omega, by omega, by omega, hp2, hw, fun v1 L1 H3 s3 B3 k1 o1 e1 => ⟨z3, fun t nt => ?_⟩⟩
    obtain ⟨u, hu⟩ := B3.get
    have sn := rm_same (a := a) (same_upd (o := .tup [.str "item", .str x, v1]) nt)
    exact q _ (.item x L1) _ ((s1.trans s2).trans (s3.trans (But.of (same_upd nt)))) ((B3.same (same_upd nt)).le (by omega)) (.tup (SqT.of (rm_new hu nt)) (.cons (.str _) (.cons (.str _) (.cons (dp_same sn _ _ k1) .nil)))) ⟨hx, o1⟩ (Nat.succ_le_succ e1)
  refine ⟨_, rfl, rfl, _, rfl, ite2 (fun c6 => ?_) (fun c6 => ?_)⟩
  · refine ⟨_, rfl, _, rfl, a, n + 1, 2, rfl, B1, by omega, by decide, by decide, fun r H2 r0 r1 s2 B2 => ⟨_, _, rfl, rfl, ?_⟩⟩
    obtain ⟨x, hx, ex⟩ := at_words (ws := ws) (i := 3 + r) (by omega) (by omega)
    refine ⟨p, _, 3 + r, _, rfl, rfl, SqL.of (rm_sub _ _ (rm_but s2 _ _ hp1)), ex, z2, fun t nt => ?_⟩
    obtain ⟨u, hu⟩ := B2.get
    exact q _ (.many x) _ ((s1.trans s2).trans (But.of (same_upd nt))) ((B2.same (same_upd nt)).le (by omega)) (.tup (SqT.of (rm_new hu nt)) (.cons (.str _) (.cons (.str _) .nil))) hx (Nat.succ_le_succ (Nat.zero_le _))
  · refine ⟨_, rfl, z4, fun l nl => ?_⟩
    obtain ⟨u1, hu1⟩ := B1.get
    refine ⟨a, l, n + 1, _, rfl, B1.same (same_upd nl), by omega, rm_new hu1 nl, by decide, by decide, fun j v H2 hj s2 B2 => ⟨z1, fun t nt => ?_⟩⟩
    obtain ⟨j4, rfl⟩ := spot_at hj
    obtain ⟨u, hu⟩ := B2.get
    exact q _ (.spot j) _ ((s1.trans (But.of (same_upd nl))).trans (s2.trans (But.of (same_upd nt)))) ((B2.same (same_upd nt)).le (by omega)) (.tup (SqT.of (rm_new hu nt)) (.cons (.str _) .nil)) j4 (Nat.succ_le_succ (Nat.zero_le _))
theorem ok_aLooks (D : Df K mg "_law_a_look" sALook ["_law_box", "_law_words", "_law_deep"] f fd) (GT : FnG P w K mg base CX0 3 "_law_take" ["_law_box", "_law_many"] spTake) (GP : FnG P w K mg base CX0 3 "_law_pick" ["_law_box", "_law_some"] (spPick K))
    (GA : FnG P w K mg base CX0 3 "_law_a_value" ["_law_box"] spAValue) : ∀ d, FnG P w K mg base CX0 (d + 3) "_law_a_look" ["_law_box", "_law_words", "_law_deep"] (spALook K d)
  | 0 => ⟨f, fd, ⟨fun vs H Q E h => by
      obtain ⟨a, p, n, deep, ws, rfl, _⟩ := h
      rfl, fun A outer s H args us vs Q E _ _ _ _ h => by
      obtain ⟨a, p, n, deep, ws, _, _, _, h1, h2, _⟩ := h
      omega⟩, D.m, D.F.kp, D.b⟩
  | d + 1 => D.g (ok_aLook (k := d + 3) D.F (GT.mono (by omega)) (GP.mono (by omega)) (GA.mono (by omega)) (ok_aLooks D GT GP GA d))
end
end Fd

set_option Elab.async false
set_option linter.all false
set_option maxRecDepth 100000
set_option maxHeartbeats 2000000
namespace Fd
open PySem PySem.Spec PyProof.Rows L2
/-! ### the heap without some -/
def rmL (as : List Addr) (H : Hp) : Hp := fun b => if b ∈ as then none else H b
theorem rmL_at {as : List Addr} {b : Addr} {H : Hp} (h : b ∉ as) : rmL as H b = H b := if_neg h
theorem rmL_in {as : List Addr} {b : Addr} {H : Hp} (h : b ∈ as) : rmL as H b = none := if_pos h
theorem rmL_one {a : Addr} {H : Hp} : rmL [a] H = rm a H := funext fun b => by
  unfold rmL rm
  by_cases e : b = a
  · rw [if_pos e, if_pos (by rw [e]; exact List.mem_singleton.mpr rfl)]
  · rw [if_neg e, if_neg (fun q => e (List.mem_singleton.mp q))]
theorem rmL_less {as bs : List Addr} {H : Hp} (h : ∀ b ∈ as, b ∈ bs) : Same (rmL bs H) (rmL as H) := fun b o q => by
  by_cases e : b ∈ bs
  · rw [rmL_in e] at q; cases q
  · rw [rmL_at e] at q
    rw [rmL_at (fun z => e (h b z))]
    exact q
theorem rmL_upd {as : List Addr} {D : Addr} {o : HO} {H : Hp} (h : D ∈ as) : rmL as (upd H D o) = rmL as H := funext fun b => by
  by_cases e : b ∈ as
  · rw [rmL_in e, rmL_in e]
  · rw [rmL_at e, rmL_at e, upd_ne (fun z => e (by rw [z]; exact h))]
/-- all that was tracked stands, but for some -/
def ButL (as : List Addr) (H H' : Hp) : Prop := ∀ b o, b ∉ as → H b = some o → H' b = some o
theorem ButL.trans {as : List Addr} {H H1 H2 : Hp} (x : ButL as H H1) (y : ButL as H1 H2) : ButL as H H2 := fun b o n h => y b o n (x b o n h)
theorem ButL.of {a : Addr} {as : List Addr} {H H' : Hp} (s : But a H H') (h : a ∈ as) : ButL as H H' := fun b o n q => s b o (fun z => n (by rw [z]; exact h)) q
theorem ButL.same {as : List Addr} {H H' : Hp} (s : Same H H') : ButL as H H' := fun b o _ q => s b o q
theorem ButL.more {as bs : List Addr} {H H' : Hp} (s : ButL as H H') (h : ∀ b ∈ as, b ∈ bs) : ButL bs H H' := fun b o n q => s b o (fun z => n (h b z)) q
theorem ButL.one {a : Addr} {H H' : Hp} (s : ButL [a] H H') : But a H H' := fun b o n q => s b o (fun z => n (List.mem_singleton.mp z)) q
theorem rmL_but {as : List Addr} {H H' : Hp} (s : ButL as H H') : Same (rmL as H) (rmL as H') := fun b o q => by
  by_cases e : b ∈ as
  · rw [rmL_in e] at q; cases q
  · rw [rmL_at e] at q ⊢
    exact s b o e q
theorem dpAll_snoc {K : PySem.W.Frag} {H : Hp} {y : V} {d : PyData} (hy : Dp K H y d) : ∀ {vs : List V} {ds : List PyData}, DpAll K H vs ds → DpAll K H (vs ++ [y]) (ds ++ [d])
  | _, _, .nil => .cons hy .nil
  | _, _, .cons h t => .cons h (dpAll_snoc hy t)
theorem dpAll_app {K : PySem.W.Frag} {H : Hp} {ys : List V} {es : List PyData} (hy : DpAll K H ys es) : ∀ {vs : List V} {ds : List PyData}, DpAll K H vs ds → DpAll K H (vs ++ ys) (ds ++ es)
  | _, _, .nil => hy
  | _, _, .cons h t => .cons h (dpAll_app hy t)
theorem dpAll_drop {K : PySem.W.Frag} {H : Hp} : ∀ (n : Nat) {vs : List V} {ds : List PyData}, DpAll K H vs ds → DpAll K H (vs.drop n) (ds.drop n)
  | 0, _, _, h => h
  | _ + 1, _, _, .nil => .nil
  | n + 1, _, _, .cons _ t => dpAll_drop n t
/-- a list at D, built since H, of what is told -/
def Bld (K : PySem.W.Frag) (as : List Addr) (D : Addr) (H : Hp) (ds : List PyData) (H' : Hp) : Prop := ButL as H H' ∧ ∃ vs, H' D = some (.lst vs) ∧ DpAll K (rmL (D :: as) H') vs ds
theorem Bld.start {K : PySem.W.Frag} {as : List Addr} {D : Addr} {H : Hp} (nD : H D = none) : Bld K as D H [] (upd H D (.lst [])) := ⟨.same (same_upd nD), [], upd_same, .nil⟩
theorem Bld.move {K : PySem.W.Frag} {as : List Addr} {D : Addr} {H H1 H2 : Hp} {ds : List PyData} (B : Bld K as D H ds H1) (dD : D ∉ as) (s : ButL as H1 H2) : Bld K as D H ds H2 := by
  obtain ⟨s1, vs, hD, hv⟩ := B
  exact ⟨s1.trans s, vs, s _ _ dD hD, dpAll_same (rmL_but (s.more fun b => List.mem_cons_of_mem _)) _ _ hv⟩
theorem Bld.push {K : PySem.W.Frag} {as : List Addr} {D : Addr} {H H1 : Hp} {ds : List PyData} {y : V} {d : PyData} (B : Bld K as D H ds H1) (nD : H D = none) (hy : Dp K (rmL (D :: as) H1) y d) (hl : ds.length ≤ 999) :
    ∃ acc, H1 D = some (.lst acc) ∧ acc.length < sizeLine ∧ Bld K as D H (ds ++ [d]) (upd H1 D (.lst (acc ++ [y]))) := by
  obtain ⟨s1, vs, hD, hv⟩ := B
  refine ⟨vs, hD, small1000 (by rw [dpAll_len hv]; omega), fun b o n q => ?_, vs ++ [y], upd_same, ?_⟩
  · rw [upd_ne (fun z => by rw [z, nD] at q; cases q)]
    exact s1 b o n q
  · rw [rmL_upd (List.mem_cons_self ..)]
    exact dpAll_snoc hy hv
theorem Bld.done {K : PySem.W.Frag} {as : List Addr} {D : Addr} {H H1 : Hp} {ds : List PyData} (B : Bld K as D H ds H1) (dD : D ∉ as) : Dp K (rmL as H1) (.ref D) (.list ds) := by
  obtain ⟨s1, vs, hD, hv⟩ := B
  exact .lst (SqL.of (by rw [rmL_at dD]; exact hD)) (dpAll_same (rmL_less fun b => List.mem_cons_of_mem _) _ _ hv)
/-! ### eyes as plain data -/
def prD (p : Str × Int) : PyData := .tuple [.str p.1, .int p.2]
def rwD (p : Str × List Int) : PyData := .tuple [.str p.1, .list (p.2.map .int)]
def eyD (Y : Ey) : PyData := .tuple [.list (Y.names.map prD), .list (Y.lists.map rwD), .tuple (Y.spot.map .int), .list (Y.met.map .str)]
structure EyOk (ws : List Str) (Y : Ey) : Prop where
  n5 : Y.names.length ≤ 5
  nm : ∀ p ∈ Y.names, p.1 ∈ ws ∧ inB p.2 = true
  l3 : Y.lists.length ≤ 3
  ls : ∀ p ∈ Y.lists, p.1 ∈ ws ∧ p.2.length ≤ 8 ∧ ∀ i ∈ p.2, inB i = true
  s4 : Y.spot.length = 4
  sp : ∀ i ∈ Y.spot, inB i = true
  m7 : Y.met.length ≤ 7
  mt : ∀ z ∈ Y.met, z ∈ ws
/-- a list of things told, beside some -/
def LD (K : PySem.W.Frag) (as : List Addr) (H : Hp) (l : Addr) (ds : List PyData) : Prop := ∃ vs, rmL as H l = some (.lst vs) ∧ DpAll K (rmL as H) vs ds
theorem LD.same {K : PySem.W.Frag} {as bs : List Addr} {l : Addr} {H H' : Hp} {ds : List PyData} (h : LD K as H l ds) (s : Same (rmL as H) (rmL bs H')) : LD K bs H' l ds := by
  obtain ⟨vs, h1, h2⟩ := h
  exact ⟨vs, s _ _ h1, dpAll_same s _ _ h2⟩
theorem LD.but {K : PySem.W.Frag} {as : List Addr} {l : Addr} {H H' : Hp} {ds : List PyData} (h : LD K as H l ds) (s : ButL as H H') : LD K as H' l ds := h.same (rmL_but s)
theorem LD.dp {K : PySem.W.Frag} {as : List Addr} {l : Addr} {H : Hp} {ds : List PyData} (h : LD K as H l ds) : Dp K (rmL as H) (.ref l) (.list ds) := by
  obtain ⟨vs, h1, h2⟩ := h
  exact .lst (SqL.of h1) h2
theorem Bld.ld {K : PySem.W.Frag} {as : List Addr} {D : Addr} {H H1 : Hp} {ds : List PyData} (B : Bld K as D H ds H1) (dD : D ∉ as) : LD K as H1 D ds := by
  obtain ⟨s1, vs, hD, hv⟩ := B
  exact ⟨vs, by rw [rmL_at dD]; exact hD, dpAll_same (rmL_less fun b => List.mem_cons_of_mem _) _ _ hv⟩
theorem rmL_sub {as : List Addr} {H : Hp} : Same (rmL as H) H := fun b o h => by
  by_cases e : b ∈ as
  · rw [rmL_in e] at h; cases h
  · rw [rmL_at e] at h; exact h
theorem rmL_fresh {as : List Addr} {D : Addr} {o : HO} {H : Hp} (nD : H D = none) : Same (rmL as H) (rmL (D :: as) (upd H D o)) := fun b u h => by
  have h' := rmL_sub b u h
  have e : b ≠ D := ne_of_none h' nD
  have e2 : b ∉ as := fun z => by rw [rmL_in z] at h; cases h
  rw [rmL_at (fun z => (List.mem_cons.mp z).elim e e2), upd_ne e]
  exact h'
theorem rmL_new {as : List Addr} {p : Addr} {o : HO} {H : Hp} (h : ∀ b ∈ as, ∃ u, H b = some u) (np : H p = none) : rmL as (upd H p o) p = some o := by
  rw [rmL_at (fun z => by obtain ⟨u, hu⟩ := h p z; rw [np] at hu; cases hu)]
  exact upd_same
theorem Bld.on {K : PySem.W.Frag} {as : List Addr} {D : Addr} {H H1 : Hp} (s : ButL as H H1) (nD : H1 D = none) : Bld K as D H [] (upd H1 D (.lst [])) := ⟨s.trans (.same (same_upd nD)), [], upd_same, .nil⟩
theorem yesI {σ : L2.St} {H : Hp} {Q : Bool → Hp → Prop} (h : Q true H) : tYes σ H Q := h
theorem two_in {H : Hp} {D a : Addr} (h1 : ∃ u, H D = some u) (h2 : ∃ u, H a = some u) : ∀ b ∈ [D, a], ∃ u, H b = some u := fun b hb => by
  rcases List.mem_cons.mp hb with z | z
  · rw [z]; exact h1
  · rw [List.mem_singleton.mp z]; exact h2
theorem one_in {H : Hp} {a : Addr} (h2 : ∃ u, H a = some u) : ∀ b ∈ [a], ∃ u, H b = some u := fun b hb => by
  rw [List.mem_singleton.mp hb]; exact h2
theorem cut_drop (xs : List V) (n : Nat) : cutV xs (some (n : Int)) none = xs.drop n := by
  unfold cutV
  rw [HT.sIx_none, HT.sIx_nat]
  by_cases h : n ≤ xs.length
  · rw [Nat.min_eq_left h]
    exact List.take_of_length_le (by rw [List.length_drop]; exact Nat.le_refl _)
  · rw [Nat.min_eq_right (by omega), List.drop_length, List.drop_eq_nil_of_le (by omega), List.take_nil]
theorem LD.cut {K : PySem.W.Frag} {as : List Addr} {l p : Addr} {H : Hp} {ds : List PyData} (h : LD K as H l ds) (ha : ∀ b ∈ as, ∃ u, H b = some u) (np : H p = none) {i : Int} (n : Nat) (e : i = (n : Int)) {vs : List V} (hv : rmL as H l = some (.lst vs)) :
    LD K as (upd H p (.lst (cutV vs (some i) none))) p (ds.drop n) := by
  obtain ⟨vs', h1, h2⟩ := h
  rw [hv] at h1
  cases h1
  subst e
  exact ⟨_, rmL_new ha np, by rw [cut_drop]; exact dpAll_same (rmL_but (.same (same_upd np))) _ _ (dpAll_drop n h2)⟩
/-- eyes whose lists are tracked, beside the box -/
def EyT (K : PySem.W.Frag) (a : Addr) (H : Hp) (v : V) (Y : Ey) : Prop := ∃ e n l s m, v = .ref e ∧ rmL [a] H e = some (.tup [.ref n, .ref l, .ref s, .ref m]) ∧ LD K [a] H n (Y.names.map prD) ∧ LD K [a] H l (Y.lists.map rwD) ∧ rmL [a] H s = some (.tup (Y.spot.map V.int)) ∧ LD K [a] H m (Y.met.map .str)
theorem dpA_of_ints {K : PySem.W.Frag} {H : Hp} : ∀ is : List Int, DpAll K H (is.map V.int) (is.map .int)
  | [] => .nil
  | i :: r => .cons (.int i) (dpA_of_ints r)
theorem EyT.dp {K : PySem.W.Frag} {a : Addr} {H : Hp} {v : V} {Y : Ey} (h : EyT K a H v Y) : Dp K (rm a H) v (eyD Y) := by
  obtain ⟨e, n, l, s, m, rfl, he, hn, hl, hs, hm⟩ := h
  rw [← rmL_one]
  exact .tup (SqT.of he) (.cons hn.dp (.cons hl.dp (.cons (.tup (SqT.of hs) (dpA_of_ints _)) (.cons hm.dp .nil))))
theorem EyT.but {K : PySem.W.Frag} {a : Addr} {H H' : Hp} {v : V} {Y : Ey} (h : EyT K a H v Y) (s' : ButL [a] H H') : EyT K a H' v Y := by
  obtain ⟨e, n, l, s, m, rfl, he, hn, hl, hs, hm⟩ := h
  exact ⟨e, n, l, s, m, rfl, rmL_but s' _ _ he, hn.but s', hl.but s', rmL_but s' _ _ hs, hm.but s'⟩
section
variable {P : Program} {w : World} {K : PySem.W.Frag} {mg : Str → Option Value} {base : Heap} {f : Addr} {fd : FuncData}
/-! ### _law_some_eyes -/
abbrev sEyes : Stmt := top 28
theorem scEyes : FnScope ["_law_box", "_law_words", "_law_pairs", "_law_rows", "_law_spot", "_law_k", "_law_turn", "_law_word"] ["_law_box", "_law_words"] (defScope sEyes) := ⟨rfl, rfl, rfl, by decide +kernel, rfl, by decide +kernel, by decide +kernel⟩
def spEyes (K : PySem.W.Frag) : Sp := fun vs H Q _ => ∃ (a p : Addr) (n : Nat) (ws : List Str), vs = [.ref a, .ref p] ∧ Box H a n ∧ n + 112 ≤ 1000000 ∧ rm a H p = some (.lst (ws.map V.str)) ∧ ws.length = 7 ∧
  ∀ (v : V) (Y : Ey) (H' : Hp), But a H H' → Box H' a (n + 112) → EyT K a H' v Y → EyOk ws Y → Q v H'
theorem ok_eyes {k : Nat} (F : Fun K "_law_some_eyes" "_law_some_eyes" sEyes f fd) (GT : FnG P w K mg base CX0 k "_law_take" ["_law_box", "_law_many"] spTake)
    (GA : FnG P w K mg base CX0 k "_law_a_value" ["_law_box"] spAValue) (m_range : mg "range" = none) (m_tuple : mg "tuple" = none) : FnOk P w K mg base CX0 (k + 1) f fd ["_law_box", "_law_words"] (spEyes K) := by
  obtain ⟨_, _, G__law_take, m__law_take, k__law_take, b__law_take⟩ := GT
  obtain ⟨_, _, G__law_a_value, m__law_a_value, k__law_a_value, b__law_a_value⟩ := GA
  have sc := scEyes
  refine F.ok sc (fun vs H Q E h => ?_) (fun cdv A outer s H vs Q E hr h => ?_)
  · obtain ⟨a, p, n, ws, rfl, _⟩ := h
    rfl
  obtain ⟨a, p, n, ws, rfl, hB, hn, hp, hw, q⟩ := h
  refine ⟨_, (pss_cons (ps_set (i := 2) sc.nd rfl (.inl rfl) (pe_slice sl_list (pe_lc (own := [("_law_k", 5)]) (by rfl) sc.nd  (pi_range1 (by rfl) m_range (pa_cons pe_int pa_nil)) (blkOk_by (own := [("_law_k", 5)]) (N := ["_law_box", "_law_words", "_law_pairs", "_law_rows", "_law_spot", "_law_k", "_law_turn", "_law_word"]) (sc := defScope sEyes) (by decide +kernel)) (fun _ _ _ _ _ => (pg_name (i := 5) sc.nd rfl (.inl rfl))) (fun _ _ _ _ _ => pts_nil) (fun _ _ _ _ _ => (pe_tup (pa_cons (pe_ix (show IxR _ (rIxL K) from ix_list) (pv 1) (pv 5) (fun _ _ => rfl)) (pa_cons (pe_call G__law_a_value (hr.mono (by omega)) (by rfl) m__law_a_value k__law_a_value b__law_a_value .nil pass0 (pa_cons (pv 0) pa_nil)) pa_nil))))) (po_some (pe_op op_fdiv (pe_call G__law_take (hr.mono (by omega)) (by rfl) m__law_take k__law_take b__law_take .nil pass0 (pa_cons (pv 0) (pa_cons pe_int pa_nil))) pe_int)) po_none))
      (pss_cons (ps_if (pt_cmpR op_eq (pe_call G__law_take (hr.mono (by omega)) (by rfl) m__law_take k__law_take b__law_take .nil pass0 (pa_cons (pv 0) (pa_cons pe_int pa_nil))) pe_int (nomark _)) (pss_one (ps_set (i := 2) sc.nd rfl (.inl rfl) (pe_op op_cat (pv 2) (pe_lst (pa_cons (pe_tup (pa_cons (pe_ix (show IxR _ (rIxL K) from ix_list) (pv 1) pe_int (fun _ _ => rfl)) (pa_cons pe_int pa_nil))) (pa_cons (pe_tup (pa_cons (pe_ix (show IxR _ (rIxL K) from ix_list) (pv 1) pe_int (fun _ _ => rfl)) (pa_cons pe_int pa_nil))) pa_nil)))))) pss_nil)
      (pss_cons (ps_setLc (i := 3) (own := [("_law_k", 5)]) (by rfl) sc.nd rfl rfl (sw_true rfl rfl rfl (by decide +kernel)) (pi_tup (pe_tup (pa_cons pe_int (pa_cons pe_int pa_nil)))) (blkOk_by (own := [("_law_k", 5)]) (N := ["_law_box", "_law_words", "_law_pairs", "_law_rows", "_law_spot", "_law_k", "_law_turn", "_law_word"]) (sc := defScope sEyes) (by decide +kernel)) (fun _ _ _ _ _ => (pg_name (i := 5) sc.nd rfl (.inl rfl))) (fun _ _ _ _ _ => pts_nil) (fun _ _ _ _ _ => (pe_tup (pa_cons (pe_ix (show IxR _ (rIxL K) from ix_list) (pv 1) (pv 5) (fun _ _ => rfl)) (pa_cons (pe_lc (own := [("_law_turn", 6)]) (by rfl) sc.nd  (pi_range1 (by rfl) m_range (pa_cons (pe_call G__law_take (hr.mono (by omega)) (by rfl) m__law_take k__law_take b__law_take .nil pass0 (pa_cons (pv 0) (pa_cons pe_int pa_nil))) pa_nil)) (blkOk_by (own := [("_law_turn", 6)]) (N := ["_law_box", "_law_words", "_law_pairs", "_law_rows", "_law_spot", "_law_k", "_law_turn", "_law_word"]) (sc := _) (by kernel_rfl)) (fun _ _ _ _ _ => (pg_name (i := 6) sc.nd rfl (.inl rfl))) (fun _ _ _ _ _ => pts_nil) (fun _ _ _ _ _ => (pe_call G__law_a_value (hr.mono (by omega)) (by rfl) m__law_a_value k__law_a_value b__law_a_value .nil pass0 (pa_cons (pv 0) pa_nil)))) pa_nil)))))
      (pss_cons (ps_set (i := 3) sc.nd rfl (.inl rfl) (pe_slice sl_list (pv 3) (po_some (pe_op op_fdiv (pe_call G__law_take (hr.mono (by omega)) (by rfl) m__law_take k__law_take b__law_take .nil pass0 (pa_cons (pv 0) (pa_cons pe_int pa_nil))) pe_int)) po_none))
      (pss_cons (ps_if (pt_cmpR op_eq (pe_call G__law_take (hr.mono (by omega)) (by rfl) m__law_take k__law_take b__law_take .nil pass0 (pa_cons (pv 0) (pa_cons pe_int pa_nil))) pe_int (nomark _)) (pss_one (ps_set (i := 3) sc.nd rfl (.inl rfl) (pe_op op_cat (pv 3) (pe_lst (pa_cons (pe_tup (pa_cons (pe_ix (show IxR _ (rIxL K) from ix_list) (pv 1) pe_int (fun _ _ => rfl)) (pa_cons (pe_lst (pa_cons pe_int pa_nil)) pa_nil))) pa_nil))))) pss_nil)
      (pss_cons (ps_set (i := 4) sc.nd rfl (.inl rfl) (pe_callTy call_tuple_of (by rfl) m_tuple (by decide +kernel) (pa_cons (pe_lst (pa_cons (pe_call G__law_take (hr.mono (by omega)) (by rfl) m__law_take k__law_take b__law_take .nil pass0 (pa_cons (pv 0) (pa_cons pe_int pa_nil))) (pa_cons (pe_call G__law_take (hr.mono (by omega)) (by rfl) m__law_take k__law_take b__law_take .nil pass0 (pa_cons (pv 0) (pa_cons pe_int pa_nil))) (pa_cons (pe_call G__law_take (hr.mono (by omega)) (by rfl) m__law_take k__law_take b__law_take .nil pass0 (pa_cons (pv 0) (pa_cons pe_int pa_nil))) (pa_cons (pe_call G__law_take (hr.mono (by omega)) (by rfl) m__law_take k__law_take b__law_take .nil pass0 (pa_cons (pv 0) (pa_cons pe_int pa_nil))) pa_nil))))) pa_nil)))
      (pss_one (ps_ret (pe_tup (pa_cons (pv 2) (pa_cons (pv 3) (pa_cons (pv 4) (pa_cons (pe_lc (own := [("_law_word", 7)]) (by rfl) sc.nd  (pi_list (pv 1)) (blkOk_by (own := [("_law_word", 7)]) (N := ["_law_box", "_law_words", "_law_pairs", "_law_rows", "_law_spot", "_law_k", "_law_turn", "_law_word"]) (sc := defScope sEyes) (by decide +kernel)) (fun _ _ _ _ _ => (pg_name (i := 7) sc.nd rfl (.inl rfl))) (fun _ _ _ _ _ => (pts_one (pt_cmpR op_eq (pe_call G__law_take (hr.mono (by omega)) (by rfl) m__law_take k__law_take b__law_take .nil pass0 (pa_cons (pv 0) (pa_cons pe_int pa_nil))) pe_int (nomark _)))) (fun _ _ _ _ _ => (pv 7))) pa_nil))))))))))))), ?_⟩
  have z1 : 1 ≤ sizeLine := by decide
  have z2 : 2 ≤ sizeLine := by decide
  have z4 : 4 ≤ sizeLine := by decide
  rw [← rmL_one] at hp
  refine ⟨3, rfl, by decide, by decide, fun D nD => lc_it walk_range
    (fun i H' => Box H' a (n + 5 * i) ∧ ∃ ns : List (Str × Int), Bld K [a] D H (ns.map prD) H' ∧ ns.length = i ∧ ∀ p ∈ ns, p.1 ∈ ws ∧ inB p.2 = true) ⟨hB.same (same_upd nD), [], .start nD, rfl, (by intro c hc; cases hc)⟩ (fun _ _ _ _ => trivial) ?_ ?_⟩
  · rintro i x _ H1 hi ⟨B1, ns, L1, hl, hk⟩ ⟨rfl, ex⟩
    obtain rfl : x = V.int i := ex.trans (congrArg V.int (Int.zero_add _))
    have hi' : i < 3 := hi
    refine ⟨rfl, ?_⟩
    unfold tYes
    refine iteT ?_
    have aD : D ≠ a := (hB.ne nD).symm
    have dD : D ∉ [a] := fun z => aD (List.mem_singleton.mp z)
    obtain ⟨x, hx, ex⟩ := at_words (ws := ws) (i := (i : Int)) (by omega) (by omega)
    refine ⟨_, rfl, _, rfl, p, _, i, _, rfl, rfl, SqL.of (rmL_sub _ _ (rmL_but L1.1 _ _ hp)), ex, _, rfl, a, n + 5 * i, rfl, B1, by omega, fun r H2 r0 r1 s2 B2 => ⟨z2, fun t nt => ?_⟩⟩
    have L2 := L1.move dD (ButL.of s2 (List.mem_singleton.mpr rfl))
    obtain ⟨_, vs2, hD2, _⟩ := id L2
    have L3 := L2.move dD (.same (same_upd (o := .tup [.str x, .int r]) nt))
    obtain ⟨acc, h1, h2, h3⟩ := L3.push nD (d := prD (x, r)) (y := .ref t) (.tup (SqT.of (rmL_new (two_in ⟨_, hD2⟩ B2.get) nt)) (.cons (.str _) (.cons (.int _) .nil))) (by rw [List.length_map]; omega)
    refine ⟨acc, h1, h2, ((B2.same (same_upd nt)).upd aD.symm).le (by omega), ns ++ [(x, r)], by rw [List.map_append]; exact h3, by rw [List.length_append, hl]; rfl, fun p hp => ?_⟩
    rcases List.mem_append.mp hp with z | z
    · exact hk p z
    · rw [List.mem_singleton.mp z]
      exact ⟨hx, inB_of r0 r1⟩
  rintro H1 ⟨B1, ns, L1, hl, hk⟩
  have aD : D ∉ [a] := fun z => hB.ne nD (List.mem_singleton.mp z).symm
  refine ⟨_, rfl, a, n + 15, 4, rfl, B1, by omega, by decide, by decide, fun r H2 r0 r1 s2 B2 => ?_⟩
  have L2 := (L1.move aD (ButL.of s2 (List.mem_singleton.mpr rfl))).ld aD
  have b2 := (ButL.of (as := [a]) s2 (List.mem_singleton.mpr rfl))
  obtain ⟨vs, v1, v2⟩ := id L2
  refine ⟨r, 3, rfl, rfl, ⟨by decide, by decide⟩, _, rfl, D, vs, rfl, SqL.of (rmL_sub _ _ v1), fun l nl => ?_⟩
  have L3 := L2.cut (one_in B2.get) nl (i := r / 3) (r.toNat / 3) (by omega) v1
  have s3 := (L1.1.trans b2).trans (.same (same_upd (o := .lst (cutV vs (some (r / 3)) none)) nl))
  have B3 := B2.same (same_upd (o := .lst (cutV vs (some (r / 3)) none)) nl)
  refine ⟨_, rfl, a, n + 16, 3, rfl, B3, by omega, by decide, by decide, fun r4 H4 r40 r41 s4 B4 => ?_⟩
  have b4 := (ButL.of (as := [a]) s4 (List.mem_singleton.mpr rfl))
  have L4 := L3.but b4
  have s5 := s3.trans b4
  clear s3 b4 L3 b2
  rw [← List.map_drop] at L4
  have k4 : ∀ p ∈ ns.drop (r.toNat / 3), p.1 ∈ ws ∧ inB p.2 = true := fun p hp => hk p (List.mem_of_mem_drop hp)
  have n4 : (ns.drop (r.toNat / 3)).length ≤ 3 := by rw [List.length_drop, hl]; exact Nat.sub_le _ _
  generalize ns.drop (r.toNat / 3) = ms at L4 k4 n4
  refine ⟨rfl, _, rfl, ite2 (fun c => ?yes) (fun c => ?no)⟩
  case' yes =>
    obtain ⟨x1, hx1, ex1⟩ := at_words (ws := ws) (i := 1) (by decide) (by rw [hw]; decide)
    obtain ⟨x2, hx2, ex2⟩ := at_words (ws := ws) (i := 2) (by decide) (by rw [hw]; decide)
    have hp4 := rmL_but s5 _ _ hp
    have g4 := one_in B4.get
    refine ⟨_, rfl, _, rfl, p, _, 1, _, rfl, rfl, SqL.of (rmL_sub _ _ hp4), ex1, z2, fun t1 nt1 => ?_⟩
    have e1 : ButL [a] _ _ := .same (same_upd (o := .tup [.str x1, .int 77]) nt1)
    have B5 := B4.same (same_upd (o := .tup [.str x1, .int 77]) nt1)
    have g5 := one_in B5.get
    refine ⟨_, rfl, p, _, 2, _, rfl, rfl, SqL.of (rmL_sub _ _ (rmL_but e1 _ _ hp4)), ex2, z2, fun t2 nt2 => ⟨z2, fun l2 nl2 => ?_⟩⟩
    have e2 : ButL [a] _ _ := .same (same_upd (o := .tup [.str x2, .int 78]) nt2)
    have e3 : ButL [a] _ _ := .same (same_upd (o := .lst [.ref t1, .ref t2]) nl2)
    have B6 := B5.same (same_upd (o := .tup [.str x2, .int 78]) nt2)
    have B7 := B6.same (same_upd (o := .lst [.ref t1, .ref t2]) nl2)
    have L7 := L4.but ((e1.trans e2).trans e3)
    have D7 : LD K [a] _ l2 [prD (x1, 77), prD (x2, 78)] := ⟨_, rmL_new (one_in B6.get) nl2, .cons (.tup (SqT.of (rmL_but (e2.trans e3) _ _ (rmL_new g4 nt1))) (.cons (.str _) (.cons (.int _) .nil))) (.cons (.tup (SqT.of (rmL_but e3 _ _ (rmL_new g5 nt2))) (.cons (.str _) (.cons (.int _) .nil))) .nil)⟩
    obtain ⟨vs7, v7, w7⟩ := L7
    obtain ⟨us7, u7, y7⟩ := D7
    refine ⟨l, l2, vs7, us7, rfl, rfl, rmL_sub _ _ v7, rmL_sub _ _ u7, Nat.le_of_lt (small1000 ?_), fun l nl => ?_⟩
    · rw [dpAll_len w7, dpAll_len y7, List.length_map]
      exact Nat.le_trans (Nat.add_le_add_right n4 2) (by decide)
    have e4 : ButL [a] _ _ := .same (same_upd (o := .lst (vs7 ++ us7)) nl)
    have BB := B7.same (same_upd (o := .lst (vs7 ++ us7)) nl)
    have LL : LD K [a] _ l ((ms ++ [(x1, 77), (x2, 78)]).map prD) := ⟨_, rmL_new (one_in B7.get) nl, by rw [List.map_append]; exact dpAll_same (rmL_but e4) _ _ (dpAll_app y7 w7)⟩
    have SS := (s5.trans ((e1.trans e2).trans e3)).trans e4
    have kk : ∀ p ∈ ms ++ [(x1, (77 : Int)), (x2, 78)], p.1 ∈ ws ∧ inB p.2 = true := fun p hp => by
      rcases List.mem_append.mp hp with z | z
      · exact k4 p z
      · rcases List.mem_cons.mp z with z | z
        · rw [z]; exact ⟨hx1, (rfl : inB 77 = true)⟩
        · rw [List.mem_singleton.mp z]; exact ⟨hx2, (rfl : inB 78 = true)⟩
    have nn : (ms ++ [(x1, (77 : Int)), (x2, 78)]).length ≤ 5 := by rw [List.length_append]; exact Nat.add_le_add_right n4 2
    generalize ms ++ [(x1, (77 : Int)), (x2, 78)] = ns at LL kk nn
    clear hp4 g4 g5 e1 B5 e2 e3 B6 B7 v7 w7 u7 y7 e4
  case' no =>
    have BB := B4
    have LL := L4
    have SS := s5
    have kk := k4
    have nn : ms.length ≤ 5 := Nat.le_trans n4 (by decide)
    generalize ms = ns at LL kk nn
  all_goals
    refine ⟨z2, fun tt ntt => ⟨tt, rfl, ⟨_, SqT.of upd_same⟩, fun D2 nD2 => ?_⟩⟩
    have e1 : ButL [a] _ _ := .same (same_upd (o := .tup [.int 3, .int 4]) ntt)
    have B5 := BB.same (same_upd (o := .tup [.int 3, .int 4]) ntt)
    have aD2 : D2 ∉ [a] := fun z => B5.ne nD2 (List.mem_singleton.mp z).symm
    have hD2 : H D2 = none := by
      obtain ⟨ob, hob⟩ := B5.get
      exact (SS.trans e1).one.free hob nD2
    refine lc_it (walk_tup (xs := [.int 3, .int 4]))
      (fun i H' => Box H' a (n + 17 + 41 * i) ∧ rmL [D2, a] H' tt = some (.tup [.int 3, .int 4]) ∧ LD K [D2, a] H' l (ns.map prD) ∧ ∃ rs : List (Str × List Int), Bld K [a] D2 H (rs.map rwD) H' ∧ rs.length = i ∧ ∀ p ∈ rs, p.1 ∈ ws ∧ p.2.length ≤ 8 ∧ ∀ i ∈ p.2, inB i = true)
      ⟨B5.same (same_upd nD2), rmL_fresh nD2 _ _ (rmL_new (one_in BB.get) ntt), (LL.but e1).same (rmL_fresh nD2), [], .on (SS.trans e1) nD2, rfl, (by intro c hc; cases hc)⟩ (fun _ H' _ h => SqT.of (rmL_sub _ _ h.2.1)) ?_ ?_
    · rintro i x _ H1 hi ⟨B1, ht, hL, rs, L1, hl, hk⟩ ⟨rfl, ex⟩
      have hi' : i < 2 := hi
      obtain rfl : x = V.int ((3 + i : Nat) : Int) := by
        have : i = 0 ∨ i = 1 := by omega
        rcases this with rfl | rfl <;> exact (Option.some.inj ex).symm
      refine ⟨rfl, yesI ?_⟩
      refine iteT ?_
      obtain ⟨x, hx, ex⟩ := at_words (ws := ws) (i := ((3 + i : Nat) : Int)) (by omega) (by omega)
      refine ⟨_, rfl, _, rfl, p, _, _, _, rfl, rfl, SqL.of (rmL_sub _ _ (rmL_but L1.1 _ _ hp)), ex, _, rfl, a, n + 17 + 41 * i, 9, rfl, B1, by omega, by decide, by decide, fun r6 H6 r60 r61 s6 B6 => ⟨r6, rfl, by omega, by omega, fun D3 nD3 => ?_⟩⟩
      have e6 : ButL [a] _ _ := .of s6 (List.mem_singleton.mpr rfl)
      have hD3 : H1 D3 = none := by
        obtain ⟨ob, hob⟩ := B6.get
        exact s6.free hob nD3
      have aD3 : D3 ≠ a := (B6.ne nD3).symm
      have dD3 : D3 ∉ [D2, a] := fun z => by
        obtain ⟨u, hu⟩ := two_in (D := D2) (by obtain ⟨_, vs, h, _⟩ := L1; exact ⟨_, h⟩) B1.get _ z
        rw [hD3] at hu
        cases hu
      refine lc_it walk_range (fun j H' => Box H' a (n + 18 + 41 * i + 5 * j) ∧ ButL [a] H1 H' ∧ ∃ is : List Int, Bld K [D2, a] D3 H1 (is.map .int) H' ∧ is.length = j ∧ ∀ i ∈ is, inB i = true)
        ⟨(B6.same (same_upd nD3)).le (by omega), e6.trans (.same (same_upd nD3)), [], .on (e6.more fun b => List.mem_cons_of_mem _) nD3, rfl, (by intro c hc; cases hc)⟩ (fun _ _ _ _ => trivial) ?_ ?_
      · rintro j x' _ H7 hj ⟨B7, e7, is, L7, hl7, hk7⟩ ⟨rfl, _⟩
        have hj' : j < 9 := Nat.lt_of_lt_of_le hj (by omega)
        refine ⟨rfl, ?_⟩
        unfold tYes
        refine iteT ⟨_, rfl, a, _, rfl, B7, by omega, fun r8 H8 r80 r81 s8 B8 => ?_⟩
        obtain ⟨acc, h1, h2, h3⟩ := (L7.move dD3 (.of s8 (List.mem_cons_of_mem _ (List.mem_singleton.mpr rfl)))).push hD3 (y := .int r8) (d := .int r8) (.int _) (by rw [List.length_map]; omega)
        refine ⟨acc, h1, h2, (B8.upd aD3.symm).le (by omega), fun b o nb h => ?_, is ++ [r8], by rw [List.map_append]; exact h3, by rw [List.length_append, hl7]; rfl, fun p hp => ?_⟩
        · rw [upd_ne (fun z => by rw [z, hD3] at h; cases h)]
          exact s8 _ _ (fun z => nb (List.mem_singleton.mpr z)) (e7 _ _ nb h)
        · rcases List.mem_append.mp hp with z | z
          · exact hk7 p z
          · rw [List.mem_singleton.mp z]
            exact inB_of r80 r81
      rintro H7 ⟨B7, e7, is, L7, hl7, hk7⟩
      have B7' : Box H7 a (n + 17 + 41 * (i + 1)) := B7.le (by omega)
      refine ⟨z2, fun t nt => ?_⟩
      have eT : Same H7 (upd H7 t (.tup [.str x, .ref D3])) := same_upd nt
      have LO := L1.move aD2 e7
      obtain ⟨_, vsO, hO, _⟩ := id LO
      have g7 := two_in ⟨_, hO⟩ B7.get
      obtain ⟨acc, h1, h2, h3⟩ := (LO.move aD2 (.same eT)).push hD2 (d := rwD (x, is)) (y := .ref t) (.tup (SqT.of (rmL_new g7 nt)) (.cons (.str _) (.cons (dp_same (rmL_but (.same eT)) _ _ (L7.done dD3)) .nil))) (by rw [List.length_map]; omega)
      have eA : ButL [D2, a] H1 (upd H7 t (.tup [.str x, .ref D3])) := (e7.more fun b => List.mem_cons_of_mem _).trans (.same eT)
      refine ⟨acc, h1, h2, (B7'.same eT).upd (fun z => aD2 (by rw [z]; exact List.mem_singleton.mpr rfl)), ?_, ?_, rs ++ [(x, is)], by rw [List.map_append]; exact h3, by rw [List.length_append, hl]; rfl, fun p hp => ?_⟩
      · rw [rmL_upd (List.mem_cons_self ..)]
        exact rmL_but eA _ _ ht
      · exact (hL.but eA).same (by rw [rmL_upd (List.mem_cons_self ..)]; exact fun _ _ h => h)
      · rcases List.mem_append.mp hp with z | z
        · exact hk p z
        · rw [List.mem_singleton.mp z]
          exact ⟨hx, by rw [hl7]; omega, hk7⟩
    rintro H1 ⟨B1, ht, hL, rs, L1, hl, hk⟩
    have hl2 : rs.length = 2 := hl
    have B1' : Box H1 a (n + 99) := B1
    have L8 := L1.ld aD2
    have S8 := L1.1
    have P8 : LD K [a] H1 l (ns.map prD) := hL.same (rmL_less fun b => List.mem_cons_of_mem _)
    clear ht hL L1 B1 hl e1 B5 BB LL SS
    refine ⟨_, rfl, _, rfl, a, n + 99, 4, rfl, B1', by omega, by decide, by decide, fun r5 H5 r50 r51 s5' B5 => ?_⟩
    have b5 := (ButL.of (as := [a]) s5' (List.mem_singleton.mpr rfl))
    have L5 := L8.but b5
    obtain ⟨vs5, v5, w5⟩ := id L5
    refine ⟨r5, 3, rfl, rfl, ⟨by decide, by decide⟩, _, rfl, D2, vs5, rfl, SqL.of (rmL_sub _ _ v5), fun m nm => ?_⟩
    have L6 := L5.cut (one_in B5.get) nm (i := r5 / 3) (r5.toNat / 3) (by omega) v5
    have e6 : ButL [a] _ _ := .same (same_upd (o := .lst (cutV vs5 (some (r5 / 3)) none)) nm)
    have B6 := B5.same (same_upd (o := .lst (cutV vs5 (some (r5 / 3)) none)) nm)
    have S6 := (S8.trans b5).trans e6
    have P6 := (P8.but b5).but e6
    refine ⟨_, rfl, a, n + 100, 3, rfl, B6, by omega, by decide, by decide, fun r7 H7 r70 r71 s7 B7 => ?_⟩
    have b7 := (ButL.of (as := [a]) s7 (List.mem_singleton.mpr rfl))
    have L7 := L6.but b7
    have S7 := S6.trans b7
    have P7 := P6.but b7
    clear b5 L5 v5 w5 L6 e6 B6 S6 P6 b7 P8 S8 L8
    rw [← List.map_drop] at L7
    have k7 : ∀ p ∈ rs.drop (r5.toNat / 3), p.1 ∈ ws ∧ p.2.length ≤ 8 ∧ ∀ i ∈ p.2, inB i = true := fun p hp => hk p (List.mem_of_mem_drop hp)
    have n7 : (rs.drop (r5.toNat / 3)).length ≤ 2 := by rw [List.length_drop, hl2]; exact Nat.sub_le _ _
    generalize rs.drop (r5.toNat / 3) = us at L7 k7 n7
    refine ⟨rfl, _, rfl, ?_⟩
    apply ite2
    case' h1 =>
      intro c
      obtain ⟨x4, hx4, ex4⟩ := at_words (ws := ws) (i := 4) (by decide) (by rw [hw]; decide)
      refine ⟨_, rfl, _, rfl, p, _, 4, _, rfl, rfl, SqL.of (rmL_sub _ _ (rmL_but S7 _ _ hp)), ex4, z1, fun t1 nt1 => ?_⟩
      have e1 : ButL [a] _ _ := .same (same_upd (o := .lst [.int 55]) nt1)
      have C1 := B7.same (same_upd (o := .lst [.int 55]) nt1)
      refine ⟨z2, fun t2 nt2 => ⟨z1, fun l2 nl2 => ?_⟩⟩
      have e2 : ButL [a] _ _ := .same (same_upd (o := .tup [.str x4, .ref t1]) nt2)
      have e3 : ButL [a] _ _ := .same (same_upd (o := .lst [.ref t2]) nl2)
      have C2 := C1.same (same_upd (o := .tup [.str x4, .ref t1]) nt2)
      have C3 := C2.same (same_upd (o := .lst [.ref t2]) nl2)
      have M7 := L7.but ((e1.trans e2).trans e3)
      have D7 : LD K [a] _ l2 [rwD (x4, [55])] := ⟨_, rmL_new (one_in C2.get) nl2, .cons (.tup (SqT.of (rmL_but e3 _ _ (rmL_new (one_in C1.get) nt2))) (.cons (.str _) (.cons (.lst (SqL.of (rmL_but (e2.trans e3) _ _ (rmL_new (one_in B7.get) nt1))) (.cons (.int _) .nil)) .nil))) .nil⟩
      obtain ⟨vs7, v7, w7⟩ := M7
      obtain ⟨us7, u7, y7⟩ := D7
      refine ⟨m, l2, vs7, us7, rfl, rfl, rmL_sub _ _ v7, rmL_sub _ _ u7, Nat.le_of_lt (small1000 ?_), fun m nm => ?_⟩
      · rw [dpAll_len w7, dpAll_len y7, List.length_map]
        exact Nat.le_trans (Nat.add_le_add_right n7 1) (by decide)
      have e4 : ButL [a] _ _ := .same (same_upd (o := .lst (vs7 ++ us7)) nm)
      have BB := C3.same (same_upd (o := .lst (vs7 ++ us7)) nm)
      have LL : LD K [a] _ m ((us ++ [(x4, [55])]).map rwD) := ⟨_, rmL_new (one_in C3.get) nm, by rw [List.map_append]; exact dpAll_same (rmL_but e4) _ _ (dpAll_app y7 w7)⟩
      have SS := (S7.trans ((e1.trans e2).trans e3)).trans e4
      have PP := (P7.but ((e1.trans e2).trans e3)).but e4
      have kk' : ∀ p ∈ us ++ [(x4, [(55 : Int)])], p.1 ∈ ws ∧ p.2.length ≤ 8 ∧ ∀ i ∈ p.2, inB i = true := fun p hp => by
        rcases List.mem_append.mp hp with z | z
        · exact k7 p z
        · rw [List.mem_singleton.mp z]
          exact ⟨hx4, (by decide : 1 ≤ 8), fun i hi => by rw [List.mem_singleton.mp hi]; rfl⟩
      have nn' : (us ++ [(x4, [(55 : Int)])]).length ≤ 3 := by rw [List.length_append]; exact Nat.add_le_add_right n7 1
      generalize us ++ [(x4, [(55 : Int)])] = rs at LL kk' nn'
      clear e1 e2 e3 C1 C2 C3 v7 w7 u7 y7 e4
    case' h2 =>
      intro c
      have BB := B7
      have LL := L7
      have SS := S7
      have PP := P7
      have kk' := k7
      have nn' : us.length ≤ 3 := Nat.le_trans n7 (by decide)
      generalize us = rs at LL kk' nn'
    all_goals
      clear L7 S7 P7
      refine ⟨_, rfl, a, n + 101, 20, rfl, BB, by omega, by decide, by decide, fun y1 G1 y10 y11 t1 C1 => ⟨_, rfl, a, n + 102, 20, rfl, C1, by omega, by decide, by decide, fun y2 G2 y20 y21 t2 C2 => ⟨_, rfl, a, n + 103, 4, rfl, C2, by omega, by decide, by decide, fun y3 G3 y30 y31 t3 C3 =>
        ⟨_, rfl, a, n + 104, 13, rfl, C3, by omega, by decide, by decide, fun y4 G4 y40 y41 t4 C4 => ⟨z4, fun l4 nl4 => ⟨l4, _, rfl, .inl ⟨SqL.of upd_same, fun s4 ns4 => ?_⟩⟩⟩⟩⟩⟩⟩
      have e1 : ButL [a] _ G4 := .of (((t1.trans t2).trans t3).trans t4) (List.mem_singleton.mpr rfl)
      have e2 : ButL [a] _ _ := .same (same_upd (o := .lst [.int y1, .int y2, .int y3, .int y4]) nl4)
      have C5 := C4.same (same_upd (o := .lst [.int y1, .int y2, .int y3, .int y4]) nl4)
      have e3 : ButL [a] _ _ := .same (same_upd (o := .tup [.int y1, .int y2, .int y3, .int y4]) ns4)
      have C6 := C5.same (same_upd (o := .tup [.int y1, .int y2, .int y3, .int y4]) ns4)
      have hS := rmL_new (o := .tup [.int y1, .int y2, .int y3, .int y4]) (one_in C5.get) ns4
      have S9 := SS.trans ((e1.trans e2).trans e3)
      have L9 := LL.but ((e1.trans e2).trans e3)
      have P9 := PP.but ((e1.trans e2).trans e3)
      clear e1 e2 C5 e3 SS LL PP
      refine ⟨_, rfl, _, rfl, _, rfl, _, rfl, p, rfl, ⟨_, SqL.of (rmL_sub _ _ (rmL_but S9 _ _ hp))⟩, fun D5 nD5 => ?_⟩
      have aD5 : D5 ∉ [a] := fun z => C6.ne nD5 (List.mem_singleton.mp z).symm
      have hD5 : H D5 = none := by
        obtain ⟨ob, hob⟩ := C6.get
        exact S9.one.free hob nD5
      refine lc_it (walk_list (xs := ws.map V.str))
        (fun i H' => Box H' a (n + 105 + i) ∧ rmL [D5, a] H' s4 = some (.tup [.int y1, .int y2, .int y3, .int y4]) ∧ LD K [D5, a] H' l (ns.map prD) ∧ LD K [D5, a] H' m (rs.map rwD) ∧ ∃ zs : List Str, Bld K [a] D5 H (zs.map .str) H' ∧ zs.length ≤ i ∧ ∀ z ∈ zs, z ∈ ws)
        ⟨C6.same (same_upd nD5), rmL_fresh nD5 _ _ hS, P9.same (rmL_fresh nD5), L9.same (rmL_fresh nD5), [], .on S9 nD5, Nat.le_refl _, (by intro c hc; cases hc)⟩
        (fun _ H' _ ⟨_, _, _, _, zs, h, _⟩ => SqL.of (rmL_sub _ _ (rmL_but h.1 _ _ hp))) ?_ ?_
      · rintro i x _ H1 hi ⟨B1, hs, hl', hm, zs, LZ, hz, hk''⟩ ⟨rfl, ex⟩
        have hi' : i < 7 := by rw [List.length_map, hw] at hi; exact hi
        obtain ⟨z, hzw, rfl⟩ : ∃ z, z ∈ ws ∧ V.str z = x := List.mem_map.mp (List.mem_of_getElem? ex)
        refine ⟨rfl, _, rfl, a, _, 3, rfl, B1, by omega, by decide, by decide, fun r H2 r0 r1 s2 B2 => ⟨rfl, _, rfl, ?_⟩⟩
        have e2 : ButL [a] _ _ := .of s2 (List.mem_singleton.mpr rfl)
        have e2' : ButL [D5, a] _ _ := .of s2 (List.mem_cons_of_mem _ (List.mem_singleton.mpr rfl))
        refine ite2 (fun c => ⟨_, rfl, ?_⟩) (fun c => ⟨B2, rmL_but e2' _ _ hs, hl'.but e2', hm.but e2', zs, LZ.move aD5 e2, by omega, hk''⟩)
        obtain ⟨acc, h1, h2, h3⟩ := (LZ.move aD5 e2).push hD5 (y := .str z) (d := .str z) (.str _) (by rw [List.length_map]; omega)
        have u5 : rmL [D5, a] (upd H2 D5 (.lst (acc ++ [.str z]))) = rmL [D5, a] H2 := rmL_upd (List.mem_cons_self ..)
        refine ⟨acc, h1, h2, B2.upd (fun z => aD5 (by rw [z]; exact List.mem_singleton.mpr rfl)), ?_, ?_, ?_, zs ++ [z], by rw [List.map_append]; exact h3, ?_, fun y hy => ?_⟩
        · rw [u5]; exact rmL_but e2' _ _ hs
        · exact (hl'.but e2').same (by rw [u5]; exact fun _ _ h => h)
        · exact (hm.but e2').same (by rw [u5]; exact fun _ _ h => h)
        · rw [List.length_append]; exact Nat.succ_le_succ hz
        · rcases List.mem_append.mp hy with q | q
          · exact hk'' y q
          · rw [List.mem_singleton.mp q]; exact hzw
      rintro H1 ⟨B1, hs, hl', hm, zs, LZ, hz, hk''⟩
      rw [List.length_map, hw] at B1 hz
      have dz := LZ.done aD5
      refine ⟨z4, fun t nt => ?_⟩
      have eT : ButL [a] H1 (upd H1 t (.tup [.ref l, .ref m, .ref s4, .ref D5])) := .same (same_upd nt)
      have lz : Same (rmL [D5, a] H1) (rmL [a] (upd H1 t (.tup [.ref l, .ref m, .ref s4, .ref D5]))) := (rmL_less fun b => List.mem_cons_of_mem _).trans (rmL_but eT)
      refine q _ ⟨ns, rs, [y1, y2, y3, y4], zs⟩ _ ((LZ.1.trans eT).one) ((B1.same (same_upd nt)).le (by omega)) ?_ ⟨nn, kk, nn', kk', rfl, ?_, hz, hk''⟩
      · exact ⟨t, l, m, s4, D5, rfl, rmL_new (one_in B1.get) nt, hl'.same lz, hm.same lz, lz _ _ hs, (LZ.ld aD5).but eT⟩
      · intro i hi
        rcases List.mem_cons.mp hi with z | hi
        · rw [z]; exact inB_of (by omega) (by omega)
        rcases List.mem_cons.mp hi with z | hi
        · rw [z]; exact inB_of (by omega) (by omega)
        rcases List.mem_cons.mp hi with z | hi
        · rw [z]; exact inB_of (by omega) (by omega)
        · rw [List.mem_singleton.mp hi]; exact inB_of (by omega) (by omega)
end
end Fd

set_option Elab.async false
set_option linter.all false
set_option maxRecDepth 100000
set_option maxHeartbeats 2000000
namespace Fd
open PySem PySem.Spec PyProof.Rows L2
/-- what a law's own reading tells, as a pair -/
def outV : Except Str Int → List V
  | .ok i => [.int i, .non]
  | .error w => [.non, .str w]
theorem dp_list {K : PySem.W.Frag} {H : Hp} {v : V} {ds : List PyData} (h : Dp K H v (.list ds)) : ∃ a xs, v = .ref a ∧ SqL K H a xs ∧ DpAll K H xs ds := by
  cases h with | lst q r => exact ⟨_, _, rfl, q, r⟩
theorem dp_tup {K : PySem.W.Frag} {H : Hp} {v : V} {ds : List PyData} (h : Dp K H v (.tuple ds)) : ∃ a xs, v = .ref a ∧ SqT K H a xs ∧ DpAll K H xs ds := by
  cases h with | tup q r => exact ⟨_, _, rfl, q, r⟩
theorem dp_int {K : PySem.W.Frag} {H : Hp} {v : V} {i : Int} (h : Dp K H v (.int i)) : v = .int i := by cases h; rfl
theorem dp_str {K : PySem.W.Frag} {H : Hp} {v : V} {i : Str} (h : Dp K H v (.str i)) : v = .str i := by cases h; rfl
theorem dpA_cons {K : PySem.W.Frag} {H : Hp} {vs : List V} {d : PyData} {ds : List PyData} (h : DpAll K H vs (d :: ds)) : ∃ v r, vs = v :: r ∧ Dp K H v d ∧ DpAll K H r ds := by
  cases h with | cons q r => exact ⟨_, _, rfl, q, r⟩
theorem dpA_nil {K : PySem.W.Frag} {H : Hp} {vs : List V} (h : DpAll K H vs []) : vs = [] := by cases h; rfl
theorem dpA_ints {K : PySem.W.Frag} {H : Hp} : ∀ {is : List Int} {vs : List V}, DpAll K H vs (is.map .int) → vs = is.map V.int
  | [], _, h => dpA_nil h
  | i :: r, _, h => by
    obtain ⟨v, t, rfl, h1, h2⟩ := dpA_cons h
    rw [dp_int h1, dpA_ints h2]
    rfl
theorem dpA_strs {K : PySem.W.Frag} {H : Hp} : ∀ {is : List Str} {vs : List V}, DpAll K H vs (is.map .str) → vs = is.map V.str
  | [], _, h => dpA_nil h
  | i :: r, _, h => by
    obtain ⟨v, t, rfl, h1, h2⟩ := dpA_cons h
    rw [dp_str h1, dpA_strs h2]
    rfl
theorem dp_pair {K : PySem.W.Frag} {H : Hp} {v : V} {d e : PyData} (h : Dp K H v (.tuple [d, e])) : ∃ a x y, v = .ref a ∧ SqT K H a [x, y] ∧ Dp K H x d ∧ Dp K H y e := by
  obtain ⟨a, xs, rfl, h1, h2⟩ := dp_tup h
  obtain ⟨x, r, rfl, hx, h2⟩ := dpA_cons h2
  obtain ⟨y, r, rfl, hy, h2⟩ := dpA_cons h2
  rw [dpA_nil h2] at h1
  exact ⟨a, x, y, rfl, h1, hx, hy⟩
theorem dp_tri {K : PySem.W.Frag} {H : Hp} {v : V} {d e g : PyData} (h : Dp K H v (.tuple [d, e, g])) : ∃ a x y z, v = .ref a ∧ SqT K H a [x, y, z] ∧ Dp K H x d ∧ Dp K H y e ∧ Dp K H z g := by
  obtain ⟨a, xs, rfl, h1, h2⟩ := dp_tup h
  obtain ⟨x, r, rfl, hx, h2⟩ := dpA_cons h2
  obtain ⟨y, r, rfl, hy, h2⟩ := dpA_cons h2
  obtain ⟨z, r, rfl, hz, h2⟩ := dpA_cons h2
  rw [dpA_nil h2] at h1
  exact ⟨a, x, y, z, rfl, h1, hx, hy, hz⟩
theorem paired_at {α β : Type} {F : α → β → Prop} : ∀ {l : List α} {m : List β}, Paired F l m → ∀ {i : Nat} {x : α}, l[i]? = some x → ∃ y, m[i]? = some y ∧ F x y
  | _, _, .nil, i, x, h => by simp at h
  | _, _, .cons f r, 0, x, h => ⟨_, rfl, by cases (Option.some.inj h); exact f⟩
  | _, _, .cons f r, i + 1, x, h => paired_at r (i := i) h
theorem paired_len {α β : Type} {F : α → β → Prop} : ∀ {l : List α} {m : List β}, Paired F l m → l.length = m.length
  | _, _, .nil => rfl
  | _, _, .cons _ r => congrArg (· + 1) (paired_len r)
/-! ### things, lists and tuples alike -/
mutual
inductive Sd (K : PySem.W.Frag) (H : Hp) : V → PyData → Prop
  | non : Sd K H .non .none
  | bl (b : Bool) : Sd K H (.bl b) (.bool b)
  | int (i : Int) : Sd K H (.int i) (.int i)
  | str (x : Str) : Sd K H (.str x) (.str x)
  | lst {a : Addr} {xs : List V} {ds : List PyData} : Sq K H a xs → SdAll K H xs ds → Sd K H (.ref a) (.list ds)
  | tup {a : Addr} {xs : List V} {ds : List PyData} : Sq K H a xs → SdAll K H xs ds → Sd K H (.ref a) (.tuple ds)
inductive SdAll (K : PySem.W.Frag) (H : Hp) : List V → List PyData → Prop
  | nil : SdAll K H [] []
  | cons {v : V} {vs : List V} {d : PyData} {ds : List PyData} : Sd K H v d → SdAll K H vs ds → SdAll K H (v :: vs) (d :: ds)
end
mutual
theorem sd_same {K : PySem.W.Frag} {H H' : Hp} (s : Same H H') : ∀ (d : PyData) (v : V), Sd K H v d → Sd K H' v d
  | .none, _, h => by cases h; exact .non
  | .bool b, _, h => by cases h; exact .bl b
  | .int i, _, h => by cases h; exact .int i
  | .str x, _, h => by cases h; exact .str x
  | .list ds, _, h => by cases h with | lst q r => exact .lst (q.same s) (sdAll_same s ds _ r)
  | .tuple ds, _, h => by cases h with | tup q r => exact .tup (q.same s) (sdAll_same s ds _ r)
  | .dict _, _, h => by cases h
theorem sdAll_same {K : PySem.W.Frag} {H H' : Hp} (s : Same H H') : ∀ (ds : List PyData) (vs : List V), SdAll K H vs ds → SdAll K H' vs ds
  | [], _, h => by cases h; exact .nil
  | d :: ds, _, h => by cases h with | cons q r => exact .cons (sd_same s d _ q) (sdAll_same s ds _ r)
end
mutual
theorem sd_dp {K : PySem.W.Frag} {H : Hp} : ∀ (d : PyData) (v : V), Dp K H v d → Sd K H v d
  | .none, _, h => by cases h; exact .non
  | .bool b, _, h => by cases h; exact .bl b
  | .int i, _, h => by cases h; exact .int i
  | .str x, _, h => by cases h; exact .str x
  | .list ds, _, h => by cases h with | lst q r => exact .lst (.inr q) (sdAll_dp ds _ r)
  | .tuple ds, _, h => by cases h with | tup q r => exact .tup (.inl q) (sdAll_dp ds _ r)
  | .dict _, _, h => by cases h
theorem sdAll_dp {K : PySem.W.Frag} {H : Hp} : ∀ (ds : List PyData) (vs : List V), DpAll K H vs ds → SdAll K H vs ds
  | [], _, h => by cases h; exact .nil
  | d :: ds, _, h => by cases h with | cons q r => exact .cons (sd_dp d _ q) (sdAll_dp ds _ r)
end
theorem sdAll_at {K : PySem.W.Frag} {H : Hp} : ∀ {ds : List PyData} {vs : List V} {i : Nat} {v : V}, SdAll K H vs ds → vs[i]? = some v → ∃ d, ds[i]? = some d ∧ Sd K H v d
  | [], _, i, v, h, e => by cases h; simp at e
  | d :: ds, _, 0, v, h, e => by cases h with | cons q r => cases (Option.some.inj e); exact ⟨d, rfl, q⟩
  | d :: ds, _, i + 1, v, h, e => by cases h with | cons q r => exact sdAll_at (i := i) r e
theorem sdAll_len {K : PySem.W.Frag} {H : Hp} : ∀ {ds : List PyData} {vs : List V}, SdAll K H vs ds → vs.length = ds.length
  | [], _, h => by cases h; rfl
  | d :: ds, _, h => by cases h with | cons q r => exact congrArg (· + 1) (sdAll_len r)
theorem sdAll_snoc {K : PySem.W.Frag} {H : Hp} {y : V} {d : PyData} (hy : Sd K H y d) : ∀ {ds : List PyData} {vs : List V}, SdAll K H vs ds → SdAll K H (vs ++ [y]) (ds ++ [d])
  | [], _, h => by cases h; exact .cons hy .nil
  | e :: ds, _, h => by cases h with | cons q r => exact .cons q (sdAll_snoc hy r)
/-- a list at D, built since H, of things told -/
def BldS (K : PySem.W.Frag) (as : List Addr) (D : Addr) (H : Hp) (ds : List PyData) (H' : Hp) : Prop := Same H H' ∧ ∃ vs, H' D = some (.lst vs) ∧ SdAll K (rmL (D :: as) H') vs ds
theorem BldS.push {K : PySem.W.Frag} {as : List Addr} {D : Addr} {H H1 H2 : Hp} {ds : List PyData} {y : V} {d : PyData} (B : BldS K as D H ds H1) (nD : H D = none) (s : Same H1 H2) (hy : Sd K (rmL (D :: as) H2) y d) (hl : ds.length ≤ 999) :
    ∃ acc, H2 D = some (.lst acc) ∧ acc.length < sizeLine ∧ BldS K as D H (ds ++ [d]) (upd H2 D (.lst (acc ++ [y]))) := by
  obtain ⟨s1, vs, hD, hv⟩ := B
  refine ⟨vs, s _ _ hD, small1000 (by rw [sdAll_len hv]; omega), fun b o q => ?_, vs ++ [y], upd_same, ?_⟩
  · rw [upd_ne (fun z => by rw [z, nD] at q; cases q)]
    exact s b o (s1 b o q)
  · rw [rmL_upd (List.mem_cons_self ..)]
    exact sdAll_snoc hy (sdAll_same (rmL_but (.same s)) _ _ hv)
theorem rmL_later {as : List Addr} {D : Addr} {H H' : Hp} (nD : H D = none) (s : Same H H') : Same (rmL as H) (rmL (D :: as) H') := fun b u h => by
  have h' := rmL_sub b u h
  have e : b ≠ D := ne_of_none h' nD
  have e2 : b ∉ as := fun z => by rw [rmL_in z] at h; cases h
  rw [rmL_at (fun z => (List.mem_cons.mp z).elim e e2)]
  exact s _ _ h'
theorem sd_split {K : PySem.W.Frag} {H : Hp} {v : V} {d : PyData} {n : Nat} (hv : Sd K H v d) (ok : OkD (n + 1) d) : (v = .non ∨ (∃ b, v = .bl b) ∨ (∃ i, v = .int i) ∨ ∃ x, v = .str x) ∨
    ∃ a xs ds, v = .ref a ∧ Sq K H a xs ∧ SdAll K H xs ds ∧ ds.length ≤ 1000 ∧ (∀ d ∈ ds, OkD n d) ∧ (d = .list ds ∨ d = .tuple ds) := by
  cases hv with
  | non => exact .inl (.inl rfl)
  | bl b => exact .inl (.inr (.inl ⟨b, rfl⟩))
  | int i => exact .inl (.inr (.inr (.inl ⟨i, rfl⟩)))
  | str x => exact .inl (.inr (.inr (.inr ⟨x, rfl⟩)))
  | lst q r => exact .inr ⟨_, _, _, rfl, q, r, ok.1, ok.2, .inl rfl⟩
  | tup q r => exact .inr ⟨_, _, _, rfl, q, r, ok.1, ok.2, .inr rfl⟩
theorem sd_mk {K : PySem.W.Frag} {H : Hp} {a : Addr} {xs : List V} {d : PyData} {ds : List PyData} (h : d = .list ds ∨ d = .tuple ds) (q : Sq K H a xs) (r : SdAll K H xs ds) : Sd K H (.ref a) d := by
  rcases h with rfl | rfl
  · exact .lst q r
  · exact .tup q r
end Fd

set_option Elab.async false
set_option linter.all false
set_option maxRecDepth 100000
set_option maxHeartbeats 2000000
namespace Fd
open PySem PySem.Spec PyProof.Rows L2
/-! ### tests as plain data -/
def tsD : Ts → PyData
  | .like a b => .tuple [.str "like", lkD a, lkD b]
  | .less a b => .tuple [.str "below", lkD a, lkD b]
  | .not_ t => .tuple [.str "not", tsD t]
  | .both t u => .tuple [.str "both", tsD t, tsD u]
  | .any_ t u => .tuple [.str "any", tsD t, tsD u]
  | .meets x => .tuple [.str "meets", .str x]
def TsOk (ws : List Str) : Ts → Prop
  | .like a b => LkOk ws a ∧ LkOk ws b
  | .less a b => LkOk ws a ∧ LkOk ws b
  | .not_ t => TsOk ws t
  | .both t u => TsOk ws t ∧ TsOk ws u
  | .any_ t u => TsOk ws t ∧ TsOk ws u
  | .meets x => x ∈ ws
section
variable {P : Program} {w : World} {K : PySem.W.Frag} {mg : Str → Option Value} {base : Heap} {f : Addr} {fd : FuncData}
/-! ### _law_a_test -/
abbrev sATest : Stmt := top 27
theorem scATest : FnScope ["_law_box", "_law_words", "_law_deep", "_law_way", "_law_word"] ["_law_box", "_law_words", "_law_deep"] (defScope sATest) := ⟨rfl, rfl, rfl, by decide +kernel, rfl, by decide +kernel, by decide +kernel⟩
def spATest (K : PySem.W.Frag) (d : Nat) : Sp := fun vs H Q _ => ∃ (a p : Addr) (n : Nat) (deep : Int) (ws : List Str), vs = [.ref a, .ref p, .int deep] ∧ Box H a n ∧ n + cost d ≤ 1000000 ∧ 1 ≤ deep ∧ deep ≤ d ∧ rm a H p = some (.lst (ws.map V.str)) ∧ 7 ≤ ws.length ∧
  ∀ (v : V) (t : Ts) (H' : Hp), But a H H' → Box H' a (n + cost d) → Dp K (rm a H') v (tsD t) → TsOk ws t → t.deep ≤ d → Q v H'
theorem two_at : ∀ {j : Nat} {v : V}, [V.str "like", .str "below"][j]? = some v → v = .str "like" ∨ v = .str "below"
  | 0, _, h => .inl (Option.some.inj h).symm
  | 1, _, h => .inr (Option.some.inj h).symm
  | j + 2, _, h => by simp at h
theorem ok_aTest {k d : Nat} (F : Fun K "_law_a_test" "_law_a_test" sATest f fd) (GT : FnG P w K mg base CX0 k "_law_take" ["_law_box", "_law_many"] spTake) (GP : FnG P w K mg base CX0 k "_law_pick" ["_law_box", "_law_some"] (spPick K))
    (GL : FnG P w K mg base CX0 k "_law_a_look" ["_law_box", "_law_words", "_law_deep"] (spALook K d)) (GA : FnG P w K mg base CX0 k "_law_a_test" ["_law_box", "_law_words", "_law_deep"] (spATest K d)) : FnOk P w K mg base CX0 (k + 1) f fd ["_law_box", "_law_words", "_law_deep"] (spATest K (d + 1)) := by
  obtain ⟨_, _, G__law_take, m__law_take, k__law_take, b__law_take⟩ := GT
  obtain ⟨_, _, G__law_pick, m__law_pick, k__law_pick, b__law_pick⟩ := GP
  obtain ⟨_, _, G__law_a_look, m__law_a_look, k__law_a_look, b__law_a_look⟩ := GL
  obtain ⟨_, _, G__law_a_test, m__law_a_test, k__law_a_test, b__law_a_test⟩ := GA
  have sc := scATest
  refine F.ok sc (fun vs H Q E h => ?_) (fun cdv A outer s H vs Q E hr h => ?_)
  · obtain ⟨a, p, n, deep, ws, rfl, _⟩ := h
    rfl
  obtain ⟨a, p, n, deep, ws, rfl, hB, hn, d0, d1, hp, hw, q⟩ := h
  refine ⟨_, (pss_cons (ps_set (i := 3) sc.nd rfl (.inl rfl) (pe_call G__law_take (hr.mono (by omega)) (by rfl) m__law_take k__law_take b__law_take .nil pass0 (pa_cons (pv 0) (pa_cons pe_int pa_nil))))
      (pss_cons (ps_if (PW.pt (pw_or (pt_cmpR op_lt (pv 2) pe_int (nomark _)) (pw_or1 (pt_cmpR op_eq (pv 3) pe_int (nomark _))))) (pss_one (ps_ret (pe_tup (pa_cons pe_str (pa_cons (pe_ix ix_list (pv 1) (pe_call G__law_take (hr.mono (by omega)) (by rfl) m__law_take k__law_take b__law_take .nil pass0 (pa_cons (pv 0) (pa_cons pe_int pa_nil))) (fun _ _ => rfl)) pa_nil))))) pss_nil)
      (pss_cons (ps_if (PW.pt (pw_or (pt_cmpR op_lt (pv 2) pe_int (nomark _)) (pw_or1 (pt_cmpR op_lt (pv 3) pe_int (nomark _))))) (pss_cons (ps_set (i := 4) sc.nd rfl (.inl rfl) (pe_call G__law_pick (hr.mono (by omega)) (by rfl) m__law_pick k__law_pick b__law_pick .nil pass0 (pa_cons (pv 0) (pa_cons (pe_lst (pa_cons pe_str (pa_cons pe_str pa_nil))) pa_nil))))
      (pss_one (ps_ret (pe_tup (pa_cons (pv 4) (pa_cons (pe_call G__law_a_look (hr.mono (by omega)) (by rfl) m__law_a_look k__law_a_look b__law_a_look .nil pass0 (pa_cons (pv 0) (pa_cons (pv 1) (pa_cons (pe_op op_sub (pv 2) pe_int) pa_nil)))) (pa_cons (pe_call G__law_a_look (hr.mono (by omega)) (by rfl) m__law_a_look k__law_a_look b__law_a_look .nil pass0 (pa_cons (pv 0) (pa_cons (pv 1) (pa_cons (pe_op op_sub (pv 2) pe_int) pa_nil)))) pa_nil))))))) pss_nil)
      (pss_cons (ps_if (pt_cmpR op_eq (pv 3) pe_int (nomark _)) (pss_one (ps_ret (pe_tup (pa_cons pe_str (pa_cons (pe_call G__law_a_test (hr.mono (by omega)) (by rfl) m__law_a_test k__law_a_test b__law_a_test .nil pass0 (pa_cons (pv 0) (pa_cons (pv 1) (pa_cons (pe_op op_sub (pv 2) pe_int) pa_nil)))) pa_nil))))) pss_nil)
      (pss_one (ps_ret (pe_tup (pa_cons (pe_ix ix_list (pe_lst (pa_cons pe_str (pa_cons pe_str pa_nil))) (pe_op op_mod (pv 3) pe_int) (fun _ _ => rfl)) (pa_cons (pe_call G__law_a_test (hr.mono (by omega)) (by rfl) m__law_a_test k__law_a_test b__law_a_test .nil pass0 (pa_cons (pv 0) (pa_cons (pv 1) (pa_cons (pe_op op_sub (pv 2) pe_int) pa_nil)))) (pa_cons (pe_call G__law_a_test (hr.mono (by omega)) (by rfl) m__law_a_test k__law_a_test b__law_a_test .nil pass0 (pa_cons (pv 0) (pa_cons (pv 1) (pa_cons (pe_op op_sub (pv 2) pe_int) pa_nil)))) pa_nil)))))))))), ?_⟩
  have c8 := cost_ge d
  have c2 := cost_succ d
  refine ⟨_, rfl, a, n, 8, rfl, hB, by omega, by decide, by decide, fun way H1 w0 w1 s1 B1 => ?_⟩
  have hp1 := rm_but s1 _ _ hp
  have z2 : 2 ≤ sizeLine := by decide
  have z3 : 3 ≤ sizeLine := by decide
  have meets : ∀ (r : Int) (H2 : Hp), 0 ≤ r → r < 7 → But a H1 H2 → Box H2 a (n + 2) → ∃ x, atI (ws.map V.str) r = some (.str x) ∧ ∀ t, H2 t = none → Q (.ref t) (upd H2 t (.tup [.str "meets", .str x])) := fun r H2 r0 r1 s2 B2 => by
    obtain ⟨x, hx, ex⟩ := at_words (ws := ws) r0 (by omega)
    refine ⟨x, ex, fun t nt => ?_⟩
    obtain ⟨u, hu⟩ := B2.get
    exact q _ (.meets x) _ ((s1.trans s2).trans (But.of (same_upd nt))) ((B2.same (same_upd nt)).le (by omega)) (.tup (SqT.of (rm_new hu nt)) (.cons (.str _) (.cons (.str _) .nil))) hx (Nat.succ_le_succ (Nat.zero_le _))
  refine ⟨_, rfl, _, _, rfl, rfl, _, rfl, ite2 (fun c1 => ?_) (fun c1 => ⟨_, rfl, rfl, _, rfl, ite2 (fun c2 => ?_) (fun c2 => ?_)⟩)⟩
  · refine iteT ?_
    refine ⟨_, rfl, _, rfl, a, n + 1, 7, rfl, B1, by omega, by decide, by decide, fun r H2 r0 r1 s2 B2 => ?_⟩
    obtain ⟨x, ex, hq⟩ := meets r H2 r0 r1 s2 B2
    exact ⟨p, _, r, _, rfl, rfl, SqL.of (rm_sub _ _ (rm_but s2 _ _ hp1)), ex, z2, hq⟩
  · refine ⟨_, rfl, _, rfl, a, n + 1, 7, rfl, B1, by omega, by decide, by decide, fun r H2 r0 r1 s2 B2 => ?_⟩
    obtain ⟨x, ex, hq⟩ := meets r H2 r0 r1 s2 B2
    exact ⟨p, _, r, _, rfl, rfl, SqL.of (rm_sub _ _ (rm_but s2 _ _ hp1)), ex, z2, hq⟩
  have dp2 : 2 ≤ deep := by
    have : ¬ deep < 2 := fun z => c1 (decide_eq_true z)
    omega
  refine ⟨_, rfl, _, _, rfl, rfl, _, rfl, ite2 (fun c3 => ?b1) (fun c3 => ⟨_, rfl, _, _, rfl, rfl, _, rfl, ite2 (fun c4 => ?b2) (fun c4 => ?rest)⟩)⟩
  case rest =>
    have dp3 : 3 ≤ deep := by
      have : ¬ deep < 3 := fun z => c3 (decide_eq_true z)
      omega
    have w4 : 4 ≤ way := by
      have : ¬ way < 4 := fun z => c4 (decide_eq_true z)
      omega
    refine ⟨_, rfl, rfl, _, rfl, ite2 (fun c5 => ?_) (fun c5 => ?_)⟩
    · refine ⟨_, rfl, _, rfl, _, rfl, _, _, rfl, rfl, a, p, n + 1, deep - 1, ws, rfl, B1, by omega, by omega, by omega, hp1, hw, fun v1 t1 H3 s3 B3 k1 o1 e1 => ⟨z2, fun t nt => ?_⟩⟩
      obtain ⟨u, hu⟩ := B3.get
      have sn := rm_same (a := a) (same_upd (o := .tup [.str "not", v1]) nt)
      exact q _ (.not_ t1) _ ((s1.trans s3).trans (But.of (same_upd nt))) ((B3.same (same_upd nt)).le (by omega)) (.tup (SqT.of (rm_new hu nt)) (.cons (.str _) (.cons (dp_same sn _ _ k1) .nil))) o1 (Nat.succ_le_succ e1)
    · have w5 : way ≠ 4 := fun z => c5 (decide_eq_true (by rw [z]))
      refine ⟨z2, fun l nl => ⟨_, rfl, way, 2, rfl, rfl, (show (0 : Int) < 2 by decide), ?_⟩⟩
      have sl : Same H1 (upd H1 l (.lst [.str "both", .str "any"])) := same_upd nl
      obtain ⟨b, hb⟩ : ∃ b : Bool, atI [V.str "both", V.str "any"] (way % 2) = some (.str (if b = true then "any" else "both")) := by
        have : way % 2 = 0 ∨ way % 2 = 1 := by omega
        rcases this with z | z
        · rw [z]; exact ⟨false, rfl⟩
        · rw [z]; exact ⟨true, rfl⟩
      have B2 := B1.same sl
      have hp2 := rm_same sl _ _ hp1
      refine ⟨l, _, _, _, rfl, rfl, SqL.of upd_same, hb, _, rfl, _, rfl, _, rfl, _, _, rfl, rfl, a, p, n + 1, deep - 1, ws, rfl, B2, by omega, by omega, by omega, hp2, hw, fun v1 t1 H3 s3 B3 k1 o1 e1 => ?_⟩
      refine ⟨_, rfl, _, rfl, _, rfl, _, _, rfl, rfl, a, p, n + 1 + cost d, deep - 1, ws, rfl, B3, by omega, by omega, by omega, rm_but s3 _ _ hp2, hw, fun v2 t2 H4 s4 B4 k2 o2 e2 => ⟨z3, fun t nt => ?_⟩⟩
      obtain ⟨u, hu⟩ := B4.get
      have sA := ((s1.trans (But.of sl)).trans (s3.trans s4)).trans (But.of (same_upd (o := .tup [.str (if b = true then "any" else "both"), v1, v2]) nt))
      have sn := rm_same (a := a) (same_upd (o := .tup [.str (if b = true then "any" else "both"), v1, v2]) nt)
      have dD := DpAll.cons (K := K) (dp_same ((rm_but s4).trans sn) _ _ k1) (.cons (dp_same sn _ _ k2) .nil)
      cases b with
      | true => exact q _ (.any_ t1 t2) _ sA ((B4.same (same_upd nt)).le (by omega)) (.tup (SqT.of (rm_new hu nt)) (.cons (.str _) dD)) ⟨o1, o2⟩ (Nat.succ_le_succ (Nat.max_le.mpr ⟨e1, e2⟩))
      | false => exact q _ (.both t1 t2) _ sA ((B4.same (same_upd nt)).le (by omega)) (.tup (SqT.of (rm_new hu nt)) (.cons (.str _) dD)) ⟨o1, o2⟩ (Nat.succ_le_succ (Nat.max_le.mpr ⟨e1, e2⟩))
  case' b1 => refine iteT ?_
  all_goals
    refine ⟨_, rfl, z2, fun l nl => ?_⟩
    obtain ⟨u1, hu1⟩ := B1.get
    refine ⟨a, l, n + 1, _, rfl, B1.same (same_upd nl), by omega, rm_new hu1 nl, by decide, by decide, fun j v H2 hj s2 B2 => ?_⟩
    have hp2 := rm_but ((But.of (same_upd nl)).trans s2) _ _ hp1
    refine ⟨_, rfl, _, rfl, _, rfl, _, rfl, _, _, rfl, rfl, a, p, n + 2, deep - 1, ws, rfl, B2, by omega, by omega, by omega, hp2, by omega, fun v1 L1 H3 s3 B3 k1 o1 e1 => ?_⟩
    refine ⟨_, rfl, _, rfl, _, rfl, _, _, rfl, rfl, a, p, n + 2 + cost d, deep - 1, ws, rfl, B3, by omega, by omega, by omega, rm_but s3 _ _ hp2, by omega, fun v2 L2 H4 s4 B4 k2 o2 e2 => ⟨z3, fun t nt => ?_⟩⟩
    obtain ⟨u, hu⟩ := B4.get
    have sA := ((s1.trans (But.of (same_upd nl))).trans s2).trans ((s3.trans s4).trans (But.of (same_upd (o := .tup [v, v1, v2]) nt)))
    have sn := rm_same (a := a) (same_upd (o := .tup [v, v1, v2]) nt)
    have dD := DpAll.cons (K := K) (dp_same ((rm_but s4).trans sn) _ _ k1) (.cons (dp_same sn _ _ k2) .nil)
    rcases two_at hj with rfl | rfl
    · exact q _ (.like L1 L2) _ sA ((B4.same (same_upd nt)).le (by omega)) (.tup (SqT.of (rm_new hu nt)) (.cons (.str _) dD)) ⟨o1, o2⟩ (Nat.succ_le_succ (Nat.max_le.mpr ⟨e1, e2⟩))
    · exact q _ (.less L1 L2) _ sA ((B4.same (same_upd nt)).le (by omega)) (.tup (SqT.of (rm_new hu nt)) (.cons (.str _) dD)) ⟨o1, o2⟩ (Nat.succ_le_succ (Nat.max_le.mpr ⟨e1, e2⟩))
theorem ok_aTests (D : Df K mg "_law_a_test" sATest ["_law_box", "_law_words", "_law_deep"] f fd) (GT : FnG P w K mg base CX0 3 "_law_take" ["_law_box", "_law_many"] spTake) (GP : FnG P w K mg base CX0 3 "_law_pick" ["_law_box", "_law_some"] (spPick K))
    (GL : ∀ d, FnG P w K mg base CX0 (d + 3) "_law_a_look" ["_law_box", "_law_words", "_law_deep"] (spALook K d)) : ∀ d, FnG P w K mg base CX0 (d + 3) "_law_a_test" ["_law_box", "_law_words", "_law_deep"] (spATest K d)
  | 0 => ⟨f, fd, ⟨fun vs H Q E h => by
      obtain ⟨a, p, n, deep, ws, rfl, _⟩ := h
      rfl, fun A outer s H args us vs Q E _ _ _ _ h => by
      obtain ⟨a, p, n, deep, ws, _, _, _, h1, h2, _⟩ := h
      omega⟩, D.m, D.F.kp, D.b⟩
  | d + 1 => D.g (ok_aTest (k := d + 3) D.F (GT.mono (by omega)) (GP.mono (by omega)) (GL d) (ok_aTests D GT GP GL d))
end
end Fd

set_option Elab.async false
set_option linter.all false
set_option maxRecDepth 100000
set_option maxHeartbeats 2000000
namespace Fd
open PySem PySem.Spec PyProof.Rows L2
/-! ### names called otherwise -/
def rnS : List Str → List Str → Str → Str
  | w :: ws, o :: os, x => if w = x then o else rnS ws os x
  | _, _, x => x
theorem rn_at : ∀ {ws os : List Str} {x : Str}, x ∈ ws → ws.length = os.length → ∃ j, ws[j]? = some x ∧ (∀ (m : Nat) (z : Str), m < j → ws[m]? = some z → z ≠ x) ∧ os[j]? = some (rnS ws os x)
  | [], _, x, h, _ => by cases h
  | w :: ws, [], x, _, h => by simp at h
  | w :: ws, o :: os, x, h, hl => by
    by_cases e : w = x
    · exact ⟨0, by rw [e]; rfl, fun m z hm => absurd hm (Nat.not_lt_zero _), by show some o = some (if w = x then o else rnS ws os x); rw [if_pos e]⟩
    · have hx : x ∈ ws := (List.mem_cons.mp h).elim (fun z => absurd z.symm e) id
      obtain ⟨j, h1, h2, h3⟩ := rn_at (os := os) hx (by simpa using hl)
      refine ⟨j + 1, h1, fun m z hm hz => ?_, by show os[j]? = some (if w = x then o else rnS ws os x); rw [if_neg e]; exact h3⟩
      cases m with
      | zero =>
        have : w = z := Option.some.inj hz
        exact this ▸ e
      | succ m => exact h2 m z (Nat.lt_of_succ_lt_succ hm) hz
theorem rn_out : ∀ {ws os : List Str} {x : Str}, x ∉ ws → rnS ws os x = x
  | [], _, x, _ => by unfold rnS; rfl
  | w :: ws, [], x, _ => by unfold rnS; rfl
  | w :: ws, o :: os, x, h => by
    show (if w = x then o else rnS ws os x) = x
    rw [if_neg (fun e => h (by rw [e]; exact List.mem_cons_self ..))]
    exact rn_out fun z => h (List.mem_cons_of_mem _ z)
theorem rn_mem {ws os : List Str} {x : Str} (h : x ∈ ws) (hl : ws.length = os.length) : rnS ws os x ∈ os := by
  obtain ⟨j, _, _, h3⟩ := rn_at h hl
  exact List.mem_of_getElem? h3
theorem nodup_at {l : List Str} (h : l.Nodup) {i j : Nat} {x : Str} (h1 : l[i]? = some x) (h2 : l[j]? = some x) : i = j := by
  obtain ⟨hi, e1⟩ := List.getElem?_eq_some_iff.mp h1
  obtain ⟨hj, e2⟩ := List.getElem?_eq_some_iff.mp h2
  exact (List.getElem_inj h).mp (e1.trans e2.symm)
theorem rn_inj {ws os : List Str} (hn : os.Nodup) (hl : ws.length = os.length) {x y : Str} (hx : x ∈ ws) (hy : y ∈ ws) (e : rnS ws os x = rnS ws os y) : x = y := by
  obtain ⟨i, a1, _, a3⟩ := rn_at hx hl
  obtain ⟨j, b1, _, b3⟩ := rn_at hy hl
  rw [e] at a3
  rw [nodup_at hn a3 b3, b1] at a1
  exact (Option.some.inj a1).symm
mutual
def calD (r : Str → Str) : PyData → PyData
  | .str x => .str (r x)
  | .list ds => .list (calA r ds)
  | .tuple ds => .tuple (calA r ds)
  | d => d
def calA (r : Str → Str) : List PyData → List PyData
  | [] => []
  | d :: ds => calD r d :: calA r ds
end
theorem calA_map (r : Str → Str) : ∀ ds : List PyData, calA r ds = ds.map (calD r)
  | [] => rfl
  | d :: ds => by show calD r d :: calA r ds = _; rw [calA_map r ds]; rfl
theorem dp_split {K : PySem.W.Frag} {H : Hp} {v : V} {d : PyData} {n : Nat} (hv : Dp K H v d) (ok : OkD (n + 1) d) : (v = .non ∧ d = .none) ∨ (∃ b, v = .bl b ∧ d = .bool b) ∨ (∃ i, v = .int i ∧ d = .int i) ∨ (∃ x, v = .str x ∧ d = .str x) ∨
    (∃ a xs ds, v = .ref a ∧ SqL K H a xs ∧ DpAll K H xs ds ∧ ds.length ≤ 1000 ∧ (∀ d ∈ ds, OkD n d) ∧ d = .list ds) ∨ ∃ a xs ds, v = .ref a ∧ SqT K H a xs ∧ DpAll K H xs ds ∧ ds.length ≤ 1000 ∧ (∀ d ∈ ds, OkD n d) ∧ d = .tuple ds := by
  cases hv with
  | non => exact .inl ⟨rfl, rfl⟩
  | bl b => exact .inr (.inl ⟨b, rfl, rfl⟩)
  | int i => exact .inr (.inr (.inl ⟨i, rfl, rfl⟩))
  | str x => exact .inr (.inr (.inr (.inl ⟨x, rfl, rfl⟩)))
  | lst q r => exact .inr (.inr (.inr (.inr (.inl ⟨_, _, _, rfl, q, r, ok.1, ok.2, rfl⟩))))
  | tup q r => exact .inr (.inr (.inr (.inr (.inr ⟨_, _, _, rfl, q, r, ok.1, ok.2, rfl⟩))))
/-- a list at D, built since H, of data -/
def BldD (K : PySem.W.Frag) (as : List Addr) (D : Addr) (H : Hp) (ds : List PyData) (H' : Hp) : Prop := Same H H' ∧ ∃ vs, H' D = some (.lst vs) ∧ DpAll K (rmL (D :: as) H') vs ds
theorem BldD.push {K : PySem.W.Frag} {as : List Addr} {D : Addr} {H H1 H2 : Hp} {ds : List PyData} {y : V} {d : PyData} (B : BldD K as D H ds H1) (nD : H D = none) (s : Same H1 H2) (hy : Dp K (rmL (D :: as) H2) y d) (hl : ds.length ≤ 999) :
    ∃ acc, H2 D = some (.lst acc) ∧ acc.length < sizeLine ∧ BldD K as D H (ds ++ [d]) (upd H2 D (.lst (acc ++ [y]))) := by
  obtain ⟨s1, vs, hD, hv⟩ := B
  refine ⟨vs, s _ _ hD, small1000 (by rw [dpAll_len hv]; omega), fun b o q => ?_, vs ++ [y], upd_same, ?_⟩
  · rw [upd_ne (fun z => by rw [z, nD] at q; cases q)]
    exact s b o (s1 b o q)
  · rw [rmL_upd (List.mem_cons_self ..)]
    exact dpAll_snoc hy (dpAll_same (rmL_but (.same s)) _ _ hv)
theorem BldD.in_ {K : PySem.W.Frag} {as : List Addr} {D : Addr} {H H0 H1 : Hp} {ds : List PyData} (B : BldD K as D H ds H1) (s : Same H0 H) (ha : ∀ b ∈ as, ∃ u, H0 b = some u) : ∀ b ∈ D :: as, ∃ u, H1 b = some u := fun b hb => by
  rcases List.mem_cons.mp hb with z | z
  · obtain ⟨_, vs, h, _⟩ := B
    rw [z]; exact ⟨_, h⟩
  · obtain ⟨u, hu⟩ := ha b z
    exact ⟨u, B.1 _ _ (s _ _ hu)⟩
theorem BldD.end_ {K : PySem.W.Frag} {as : List Addr} {D : Addr} {H H0 H1 : Hp} {ds : List PyData} (B : BldD K as D H ds H1) (nD : H D = none) (s : Same H0 H) (ha : ∀ b ∈ as, ∃ u, H0 b = some u) : ∃ vs, H1 D = some (.lst vs) ∧ rmL as H1 D = some (.lst vs) ∧ DpAll K (rmL as H1) vs ds := by
  obtain ⟨sB, vs, hD, hv'⟩ := B
  have nDa : D ∉ as := fun z => by
    obtain ⟨u, hu⟩ := ha D z
    rw [s _ _ hu] at nD
    cases nD
  exact ⟨vs, hD, by rw [rmL_at nDa]; exact hD, dpAll_same (rmL_less fun b => List.mem_cons_of_mem _) _ _ hv'⟩
theorem not_in (x : V) (h : ∀ w : Str, eqV (.str w) x = false) : ∀ ws : List Str, inV x (ws.map V.str) = false
  | [] => rfl
  | w :: ws => by
    show (eqV (.str w) x || inV x (ws.map V.str)) = false
    rw [h w, not_in x h ws]
    rfl
theorem eq_str (a b : Str) : eqV (.str a) (.str b) = decide (a = b) := by
  have := in_met b [a]
  have e : inV (.str b) ([a].map V.str) = (eqV (.str a) (.str b) || false) := rfl
  rw [e, Bool.or_false] at this
  rw [this]
  exact decide_eq_decide.mpr ⟨fun h => (List.mem_singleton.mp h).symm, fun h => List.mem_singleton.mpr h.symm⟩
/-- the place of a word among words -/
theorem ix_facts {ws os : List Str} {x : Str} (h : x ∈ ws) (hl : ws.length = os.length) : ∃ j : Nat, (ws.map V.str)[j]? = some (.str x) ∧ eqV (.str x) (.str x) = true ∧ (∀ (m : Nat) (z' : V), m < j → (ws.map V.str)[m]? = some z' → eqV z' (.str x) = false) ∧ (os.map V.str)[j]? = some (.str (rnS ws os x)) := by
  obtain ⟨j, h1, h2, h3⟩ := rn_at h hl
  refine ⟨j, by rw [List.getElem?_map, h1]; rfl, by rw [eq_str]; exact decide_eq_true rfl, fun m z' hm hz => ?_, by rw [List.getElem?_map, h3]; rfl⟩
  rw [List.getElem?_map] at hz
  obtain ⟨z, e1, rfl⟩ := Option.map_eq_some_iff.mp hz
  rw [eq_str]
  exact decide_eq_false (h2 m z hm e1)
section
variable {P : Program} {w : World} {K : PySem.W.Frag} {mg : Str → Option Value} {base : Heap} {f : Addr} {fd : FuncData}
/-! ### _law_called -/
abbrev sCalled : Stmt := top 30
theorem scCalled : FnScope ["_law_thing", "_law_words", "_law_others", "_law_some", "_law_part"] ["_law_thing", "_law_words", "_law_others"] (defScope sCalled) := ⟨rfl, rfl, rfl, by decide +kernel, rfl, by decide +kernel, by decide +kernel⟩
def spCalled (K : PySem.W.Frag) (n : Nat) : Sp := fun vs H Q _ => ∃ (v : V) (d : PyData) (as : List Addr) (p1 p2 : Addr) (ws os : List Str), vs = [v, .ref p1, .ref p2] ∧ (∀ b ∈ as, ∃ u, H b = some u) ∧ Dp K (rmL as H) v d ∧ OkD n d ∧ H p1 = some (.lst (ws.map V.str)) ∧ H p2 = some (.lst (os.map V.str)) ∧ ws.length = os.length ∧
  ∀ v' H', Same H H' → Dp K (rmL as H') v' (calD (rnS ws os) d) → Q v' H'
theorem ok_called {k n : Nat} (F : Fun K "_law_called" "_law_called" sCalled f fd) (G : FnG P w K mg base CX0 k "_law_called" ["_law_thing", "_law_words", "_law_others"] (spCalled K n)) (m_isinstance : mg "isinstance" = none) (m_list : mg "list" = none) (m_tuple : mg "tuple" = none) :
    FnOk P w K mg base CX0 (k + 1) f fd ["_law_thing", "_law_words", "_law_others"] (spCalled K (n + 1)) := by
  obtain ⟨_, _, G__law_called, m__law_called, k__law_called, b__law_called⟩ := G
  have sc := scCalled
  refine F.ok sc (fun vs H Q E h => ?_) (fun cdv A outer s H vs Q E hr h => ?_)
  · obtain ⟨v, d, as, p1, p2, ws, os, rfl, _⟩ := h
    rfl
  obtain ⟨v, d, as, p1, p2, ws, os, rfl, ha, hv, ok, h1, h2, hl, q⟩ := h
  refine ⟨_, (pss_cons (ps_if (pt_val (pe_callB call_isiT (by rfl) m_isinstance (by decide +kernel) (pa_cons (pv 0) (pa_cons (pe_tup (pa_cons (pe_bltn (v := .ty "list") (by rfl) m_list (by decide +kernel) rfl) (pa_cons (pe_bltn (v := .ty "tuple") (by rfl) m_tuple (by decide +kernel) rfl) pa_nil))) pa_nil)))) (pss_cons (ps_setLc (i := 3) (own := [("_law_part", 4)]) (by rfl) sc.nd rfl rfl (sw_true rfl rfl rfl (by decide +kernel)) (pi_or (pi_tup (pv 0)) (pi_list (pv 0))) (blkOk_by (own := [("_law_part", 4)]) (N := ["_law_thing", "_law_words", "_law_others", "_law_some", "_law_part"]) (sc := defScope sCalled) (by decide +kernel)) (fun _ _ _ _ _ => (pg_name (i := 4) sc.nd rfl (.inl rfl))) (fun _ _ _ _ _ => pts_nil) (fun _ _ _ _ _ => (pe_call G__law_called (hr.mono (by omega)) (by rfl) m__law_called k__law_called b__law_called .nil pass0 (pa_cons (pv 4) (pa_cons (pv 1) (pa_cons (pv 2) pa_nil))))))
      (pss_one (ps_ret (pe_ifExp (pt_val (pe_callB call_isi (by rfl) m_isinstance (by decide +kernel) (pa_cons (pv 0) (pa_cons (pe_bltn (v := .ty "tuple") (by rfl) m_tuple (by decide +kernel) rfl) pa_nil)))) (pe_callTy call_tuple_of (by rfl) m_tuple (by decide +kernel) (pa_cons (pv 3) pa_nil)) (pv 3))))) pss_nil)
      (pss_one (ps_ret (pe_ifExp (pt_cmpR op_in_seq (pv 0) (pv 1) (by rfl)) (pe_ix ix_list (pv 2) (pe_bm PySem.F.plainAttrs_list PySem.F.slot_list_index PySem.F.type_list_index mt_index (pv 1) (pa_cons (pv 0) pa_nil)) (fun _ _ => rfl)) (pv 0))))), ?_⟩
  refine ⟨_, rfl, by show 2 ≤ sizeLine; decide, fun p np => ?_⟩
  have s1 : Same H (upd H p (.tup [.ty "list", .ty "tuple"])) := same_upd np
  have w1 := SqL.of (K := K) (s1 _ _ h1)
  have w2 := SqL.of (K := K) (s1 _ _ h2)
  rcases dp_split hv ok with ⟨rfl, rfl⟩ | ⟨b, rfl, rfl⟩ | ⟨i, rfl, rfl⟩ | ⟨x, rfl, rfl⟩ | ⟨a, xs, ds, rfl, hq, hxs, hlen, hok, rfl⟩ | ⟨a, xs, ds, rfl, hq, hxs, hlen, hok, rfl⟩
  · exact ⟨_, p, _, .type "NoneType", _, false, rfl, upd_same, .cons (.ty _) (.cons (.ty _) .nil), .base .non, kitLT (b1 := false) (b2 := false) (by decide +kernel) (by decide +kernel), _, rfl, iteF ⟨_, rfl, _, rfl, p1, _, rfl, .inl w1, rfl, flat_met _, _, rfl, iteBF (not_in _ (fun _ => rfl) _) ⟨_, rfl, q _ _ s1 .non⟩⟩⟩
  · exact ⟨_, p, _, .type "bool", _, false, rfl, upd_same, .cons (.ty _) (.cons (.ty _) .nil), .base (.bl b), kitLT (b1 := false) (b2 := false) (by decide +kernel) (by decide +kernel), _, rfl, iteF ⟨_, rfl, _, rfl, p1, _, rfl, .inl w1, rfl, flat_met _, _, rfl, iteBF (not_in _ (fun _ => rfl) _) ⟨_, rfl, q _ _ s1 (.bl b)⟩⟩⟩
  · exact ⟨_, p, _, .type "int", _, false, rfl, upd_same, .cons (.ty _) (.cons (.ty _) .nil), .base (.int i), kitLT (b1 := false) (b2 := false) (by decide +kernel) (by decide +kernel), _, rfl, iteF ⟨_, rfl, _, rfl, p1, _, rfl, .inl w1, rfl, flat_met _, _, rfl, iteBF (not_in _ (fun _ => rfl) _) ⟨_, rfl, q _ _ s1 (.int i)⟩⟩⟩
  · refine ⟨_, p, _, .type "str", _, false, rfl, upd_same, .cons (.ty _) (.cons (.ty _) .nil), .base (.str x), kitLT (b1 := false) (b2 := false) (by decide +kernel) (by decide +kernel), _, rfl, iteF ⟨_, rfl, _, rfl, p1, _, rfl, .inl w1, rfl, flat_met _, _, rfl, ?_⟩⟩
    by_cases hx : x ∈ ws
    · obtain ⟨j, f1, f2, f3, f4⟩ := ix_facts hx hl
      refine iteB ((in_met x ws).trans (decide_eq_true hx)) ⟨_, rfl, _, rfl, .inl ⟨rfl, _, w1⟩, _, rfl, p1, _, _, j, _, rfl, rfl, w1, rfl, flat_met _, f1, f2, f3, p2, _, _, _, rfl, rfl, w2, atI_nat f4, q _ _ s1 (.str _)⟩
    · refine iteBF ((in_met x ws).trans (decide_eq_false hx)) ⟨_, rfl, q _ _ s1 ?_⟩
      show Dp K _ _ (.str (rnS ws os x))
      rw [rn_out hx]
      exact .str x
  · have sE : Same (rmL as H) (upd H p (.tup [.ty "list", .ty "tuple"])) := rmL_sub.trans s1
    refine ⟨_, p, _, .type "list", _, true, rfl, upd_same, .cons (.ty _) (.cons (.ty _) .nil), ty_lst (sE.seq hq), kitLT (b1 := true) (b2 := false) (by decide +kernel) (by decide +kernel), _, rfl, iteT (.inr ⟨_, rfl, a, rfl, ⟨_, sE.seq hq⟩, fun D nD => ?_⟩)⟩
    refine lc_it (walk_list (xs := xs)) (fun i H' => BldD K as D (upd H p (.tup [.ty "list", .ty "tuple"])) ((ds.map (calD (rnS ws os))).take i) H') ⟨same_upd nD, [], upd_same, .nil⟩ (fun _ H2 _ B => (sE.trans B.1).seq hq) ?_ ?_
    · rintro i x _ H2 hi B ⟨rfl, ex⟩
      obtain ⟨d', ed, hd'⟩ := dpAll_at hxs ex
      have tk : (ds.map (calD (rnS ws os))).take (i + 1) = (ds.map (calD (rnS ws os))).take i ++ [calD (rnS ws os) d'] := by rw [List.take_succ, List.getElem?_map, ed]; rfl
      refine ⟨rfl, ?_⟩
      unfold tYes
      refine iteT ⟨_, rfl, _, rfl, _, rfl, x, d', D :: as, p1, p2, ws, os, rfl, B.in_ s1 ha, dp_same ((rmL_but (.same s1)).trans (rmL_later nD B.1)) _ _ hd', hok d' (List.mem_of_getElem? ed), B.1 _ _ (s1 _ _ h1), B.1 _ _ (s1 _ _ h2), hl, fun v' H3 s3 hv' => ?_⟩
      rw [tk]
      exact B.push nD s3 hv' (by rw [List.length_take, List.length_map]; have := (List.getElem?_eq_some_iff.mp ed).1; omega)
    rintro H2 B
    rw [List.take_of_length_le (by rw [List.length_map]; exact Nat.le_of_eq (dpAll_len hxs).symm)] at B
    obtain ⟨vs, hD, hD', hv2⟩ := B.end_ nD s1 ha
    refine ⟨_, rfl, _, _, .type "list", _, false, rfl, .ty _, ty_lst ((sE.trans B.1).seq hq), kit_ty (by decide +kernel), _, rfl, iteF ⟨_, rfl, q _ _ (s1.trans B.1) ?_⟩⟩
    show Dp K _ _ (.list (calA (rnS ws os) ds))
    rw [calA_map]
    exact .lst (SqL.of hD') hv2
  · have sE : Same (rmL as H) (upd H p (.tup [.ty "list", .ty "tuple"])) := rmL_sub.trans s1
    refine ⟨_, p, _, .type "tuple", _, true, rfl, upd_same, .cons (.ty _) (.cons (.ty _) .nil), ty_tup (seqT sE hq), kitLT (b1 := false) (b2 := true) (by decide +kernel) (by decide +kernel), _, rfl, iteT (.inl ⟨_, rfl, a, rfl, ⟨_, seqT sE hq⟩, fun D nD => ?_⟩)⟩
    refine lc_it (walk_tup (xs := xs)) (fun i H' => BldD K as D (upd H p (.tup [.ty "list", .ty "tuple"])) ((ds.map (calD (rnS ws os))).take i) H') ⟨same_upd nD, [], upd_same, .nil⟩ (fun _ H2 _ B => seqT (sE.trans B.1) hq) ?_ ?_
    · rintro i x _ H2 hi B ⟨rfl, ex⟩
      obtain ⟨d', ed, hd'⟩ := dpAll_at hxs ex
      have tk : (ds.map (calD (rnS ws os))).take (i + 1) = (ds.map (calD (rnS ws os))).take i ++ [calD (rnS ws os) d'] := by rw [List.take_succ, List.getElem?_map, ed]; rfl
      refine ⟨rfl, ?_⟩
      unfold tYes
      refine iteT ⟨_, rfl, _, rfl, _, rfl, x, d', D :: as, p1, p2, ws, os, rfl, B.in_ s1 ha, dp_same ((rmL_but (.same s1)).trans (rmL_later nD B.1)) _ _ hd', hok d' (List.mem_of_getElem? ed), B.1 _ _ (s1 _ _ h1), B.1 _ _ (s1 _ _ h2), hl, fun v' H3 s3 hv' => ?_⟩
      rw [tk]
      exact B.push nD s3 hv' (by rw [List.length_take, List.length_map]; have := (List.getElem?_eq_some_iff.mp ed).1; omega)
    rintro H2 B
    rw [List.take_of_length_le (by rw [List.length_map]; exact Nat.le_of_eq (dpAll_len hxs).symm)] at B
    obtain ⟨vs, hD, hD', hv2⟩ := B.end_ nD s1 ha
    refine ⟨_, rfl, _, _, .type "tuple", _, true, rfl, .ty _, ty_tup (seqT (sE.trans B.1) hq), kit_ty (by decide +kernel), _, rfl, iteT ⟨_, rfl, D, _, rfl, .inl ⟨SqL.of hD, fun t nt => ?_⟩⟩⟩
    have sN := s1.trans B.1
    refine q _ _ (sN.trans (same_upd nt)) ?_
    show Dp K _ _ (.tuple (calA (rnS ws os) ds))
    rw [calA_map]
    exact .tup (SqT.of (rmL_new (fun b hb => by obtain ⟨u, hu⟩ := ha b hb; exact ⟨u, sN _ _ hu⟩) nt)) (dpAll_same (rmL_but (.same (same_upd nt))) _ _ hv2)
theorem ok_calleds (D : Df K mg "_law_called" sCalled ["_law_thing", "_law_words", "_law_others"] f fd) (m_isinstance : mg "isinstance" = none) (m_list : mg "list" = none) (m_tuple : mg "tuple" = none) : ∀ n, FnG P w K mg base CX0 n "_law_called" ["_law_thing", "_law_words", "_law_others"] (spCalled K n)
  | 0 => D.g ⟨fun vs H Q E h => by
      obtain ⟨v, d, as, p1, p2, ws, os, rfl, _⟩ := h
      rfl, fun A outer s H args us vs Q E _ _ _ _ h => by
      obtain ⟨v, d, as, p1, p2, ws, os, _, _, _, ok, _⟩ := h
      exact ok.elim⟩
  | n + 1 => D.g (ok_called D.F (ok_calleds D m_isinstance m_list m_tuple n) m_isinstance m_list m_tuple)
end
end Fd

set_option Elab.async false
set_option linter.all false
set_option maxRecDepth 100000
set_option maxHeartbeats 2000000
namespace Fd
open PySem PySem.Spec PyProof.Rows L2
def rnL (r : Str → Str) : Lk → Lk
  | .num i => .num i
  | .name x => .name (r x)
  | .many x => .many (r x)
  | .item x a => .item (r x) (rnL r a)
  | .spot k => .spot k
  | .bin o a b => .bin o (rnL r a) (rnL r b)
def rnT (r : Str → Str) : Ts → Ts
  | .like a b => .like (rnL r a) (rnL r b)
  | .less a b => .less (rnL r a) (rnL r b)
  | .not_ t => .not_ (rnT r t)
  | .both t u => .both (rnT r t) (rnT r u)
  | .any_ t u => .any_ (rnT r t) (rnT r u)
  | .meets x => .meets (r x)
def RnOk (ws os : List Str) (n : Nat) (d d' : PyData) : Prop := (∃ L, d = lkD L ∧ LkOk ws L ∧ L.deep ≤ n ∧ d' = lkD (rnL (rnS ws os) L)) ∨ ∃ t, d = tsD t ∧ TsOk ws t ∧ t.deep ≤ n ∧ d' = tsD (rnT (rnS ws os) t)
abbrev nmWs : List V := [.str "name", .str "many", .str "meets"]
inductive RnCase (K : PySem.W.Frag) (H : Hp) (ws os : List Str) (n : Nat) (v : V) (d' : PyData) : Prop where
  | num (i : Int) (h1 : v = .int i) (h2 : d' = .int i)
  | nm (a : Addr) (wd x : Str) (h1 : v = .ref a) (h2 : SqT K H a [.str wd, .str x]) (h3 : inV (.str wd) nmWs = true) (h4 : x ∈ ws) (h5 : d' = .tuple [.str wd, .str (rnS ws os x)])
  | item (a : Addr) (x : Str) (y : V) (e e' : PyData) (h1 : v = .ref a) (h2 : SqT K H a [.str "item", .str x, y]) (h4 : x ∈ ws) (h3 : Dp K H y e) (h6 : RnOk ws os n e e') (h5 : d' = .tuple [.str "item", .str (rnS ws os x), e'])
  | all (a : Addr) (wd : Str) (xs : List V) (ds ds' : List PyData) (h1 : v = .ref a) (h2 : SqT K H a (.str wd :: xs)) (h3 : inV (.str wd) nmWs = false) (h4 : wd ≠ "item") (h6 : DpAll K H xs ds) (h7 : Paired (RnOk ws os n) ds ds') (h8 : ds.length ≤ 2) (h5 : d' = .tuple (.str wd :: ds'))
theorem bop_nm (o : BOp) : inV (.str o.word) nmWs = false := by cases o <;> decide +kernel
theorem bop_it (o : BOp) : o.word ≠ "item" := by cases o <;> decide +kernel
theorem spot_nm : ∀ k, k < 4 → inV (.str (spotWords.getD k "")) nmWs = false ∧ spotWords.getD k "" ≠ "item"
  | 0, _ => ⟨by decide +kernel, by decide +kernel⟩
  | 1, _ => ⟨by decide +kernel, by decide +kernel⟩
  | 2, _ => ⟨by decide +kernel, by decide +kernel⟩
  | 3, _ => ⟨by decide +kernel, by decide +kernel⟩
  | k + 4, h => by omega
theorem rn_two {K : PySem.W.Frag} {H : Hp} {ws os : List Str} {n : Nat} {v : V} {d' d1 d2 e1 e2 : PyData} {wd : Str} (hv : Dp K H v (.tuple [.str wd, d1, d2])) (h3 : inV (.str wd) nmWs = false) (h4 : wd ≠ "item") (r1 : RnOk ws os n d1 e1) (r2 : RnOk ws os n d2 e2) (h5 : d' = .tuple [.str wd, e1, e2]) : RnCase K H ws os n v d' := by
  obtain ⟨a, x, y, z, rfl, h, hx, hy, hz⟩ := dp_tri hv
  rw [dp_str hx] at h
  exact .all a wd [y, z] _ _ rfl h h3 h4 (.cons hy (.cons hz .nil)) (.cons r1 (.cons r2 .nil)) (Nat.le_refl _) h5
theorem rn_split {K : PySem.W.Frag} {H : Hp} {ws os : List Str} {n : Nat} {v : V} {d d' : PyData} (hv : Dp K H v d) (h : RnOk ws os (n + 1) d d') : RnCase K H ws os n v d' := by
  rcases h with ⟨L, rfl, ok, dp, rfl⟩ | ⟨t, rfl, ok, dp, rfl⟩
  · cases L with
    | num i => exact .num i (dp_int hv) rfl
    | name x =>
      obtain ⟨a, u, y, rfl, h, hx, hy⟩ := dp_pair hv
      rw [dp_str hx, dp_str hy] at h
      exact .nm a "name" x rfl h (by decide +kernel) ok rfl
    | many x =>
      obtain ⟨a, u, y, rfl, h, hx, hy⟩ := dp_pair hv
      rw [dp_str hx, dp_str hy] at h
      exact .nm a "many" x rfl h (by decide +kernel) ok rfl
    | item x M =>
      obtain ⟨a, u, y, z, rfl, h, hx, hy, hz⟩ := dp_tri hv
      rw [dp_str hx, dp_str hy] at h
      exact .item a x z _ _ rfl h ok.1 hz (.inl ⟨M, rfl, ok.2, Nat.le_of_succ_le_succ dp, rfl⟩) rfl
    | spot k =>
      obtain ⟨a, xs, rfl, h, h2⟩ := dp_tup hv
      obtain ⟨x, r, rfl, hx, h2⟩ := dpA_cons h2
      rw [dpA_nil h2, dp_str hx] at h
      exact .all a _ [] [] [] rfl h (spot_nm k ok).1 (spot_nm k ok).2 .nil .nil (Nat.zero_le _) rfl
    | bin o M N =>
      have dp' : max M.deep N.deep ≤ n := Nat.le_of_succ_le_succ dp
      exact rn_two hv (bop_nm o) (bop_it o) (.inl ⟨M, rfl, ok.1, by omega, rfl⟩) (.inl ⟨N, rfl, ok.2, by omega, rfl⟩) rfl
  · cases t with
    | meets x =>
      obtain ⟨a, u, y, rfl, h, hx, hy⟩ := dp_pair hv
      rw [dp_str hx, dp_str hy] at h
      exact .nm a "meets" x rfl h (by decide +kernel) ok rfl
    | not_ t =>
      obtain ⟨a, u, y, rfl, h, hx, hy⟩ := dp_pair hv
      rw [dp_str hx] at h
      exact .all a _ [y] _ _ rfl h (by decide +kernel) (by decide +kernel) (.cons hy .nil) (.cons (.inr ⟨t, rfl, ok, Nat.le_of_succ_le_succ dp, rfl⟩) .nil) (show 1 ≤ 2 by decide) rfl
    | both t u =>
      have dp' : max t.deep u.deep ≤ n := Nat.le_of_succ_le_succ dp
      exact rn_two hv (by decide +kernel) (by decide +kernel) (.inr ⟨t, rfl, ok.1, by omega, rfl⟩) (.inr ⟨u, rfl, ok.2, by omega, rfl⟩) rfl
    | any_ t u =>
      have dp' : max t.deep u.deep ≤ n := Nat.le_of_succ_le_succ dp
      exact rn_two hv (by decide +kernel) (by decide +kernel) (.inr ⟨t, rfl, ok.1, by omega, rfl⟩) (.inr ⟨u, rfl, ok.2, by omega, rfl⟩) rfl
    | like M N =>
      have dp' : max M.deep N.deep ≤ n := Nat.le_of_succ_le_succ dp
      exact rn_two hv (by decide +kernel) (by decide +kernel) (.inl ⟨M, rfl, ok.1, by omega, rfl⟩) (.inl ⟨N, rfl, ok.2, by omega, rfl⟩) rfl
    | less M N =>
      have dp' : max M.deep N.deep ≤ n := Nat.le_of_succ_le_succ dp
      exact rn_two hv (by decide +kernel) (by decide +kernel) (.inl ⟨M, rfl, ok.1, by omega, rfl⟩) (.inl ⟨N, rfl, ok.2, by omega, rfl⟩) rfl
theorem sIx_1 (n : Nat) (h : 1 ≤ n) (d : Nat) : HT.sIx n d (some (1 : Int)) = 1 := by
  rw [show (1 : Int) = ((1 : Nat) : Int) from rfl, HT.sIx_nat]
  exact Nat.min_eq_left h
theorem cut_1 (x : V) (xs : List V) : cutV (x :: xs) none (some 1) = [x] := by
  unfold cutV
  rw [HT.sIx_none, sIx_1 _ (by simp)]
  rfl
theorem at0 (x : V) (xs : List V) : atI (x :: xs) 0 = some x := atI_nat (j := 0) rfl
theorem slA_first {K : PySem.W.Frag} {as : List Addr} {H : Hp} {a : Addr} {x : V} {xs : List V} {Q : VK} (ha : ∀ b ∈ as, ∃ u, H b = some u) (hs : SqT K (rmL as H) a (x :: xs)) (h : ∀ a1 H2, Same H H2 → SqT K (rmL as H2) a1 [x] → Q (.ref a1) H2) : rSlA K (.ref a) none (some 1) H Q := by
  refine ⟨a, _, rfl, seqT rmL_sub hs, fun wh => h a H (Same.refl _) ?_, fun _ p np => ?_⟩
  · have e := wh.2
    rw [sIx_1 _ (by simp)] at e
    have : xs = [] := List.eq_nil_of_length_eq_zero (by rw [List.length_cons] at e; omega)
    rw [this] at hs
    exact hs
  · rw [cut_1]
    exact h p _ (same_upd np) (SqT.of (rmL_new ha np))
theorem slA_rest {K : PySem.W.Frag} {H : Hp} {a : Addr} {x : V} {xs : List V} {Q : VK} (hs : SqT K H a (x :: xs)) (h : ∀ p, H p = none → Q (.ref p) (upd H p (.tup xs))) : rSlA K (.ref a) (some 1) none H Q := by
  refine ⟨a, _, rfl, hs, fun wh => ?_, fun _ p np => ?_⟩
  · have e := wh.1
    rw [sIx_1 _ (by simp)] at e
    cases e
  · rw [show cutV (x :: xs) (some 1) none = xs from cut_drop (x :: xs) 1]
    exact h p np
theorem catA_one {K : PySem.W.Frag} {as : List Addr} {H : Hp} {a b : Addr} {x : V} {ys : List V} {Q : VK} (hin : ∀ b ∈ as, ∃ u, H b = some u) (ha : SqT K (rmL as H) a [x]) (hb : SqT K H b ys) (hl : ys.length ≤ 999) (h : ∀ p H2, Same H H2 → SqT K (rmL as H2) p (x :: ys) → Q (.ref p) H2) : rCatA K (.ref a) (.ref b) H Q := by
  refine ⟨a, b, [x], ys, rfl, rfl, seqT rmL_sub ha, hb, Nat.le_of_lt (small1000 (by show 1 + _ ≤ 1000; omega)), fun z => (by cases z), fun _ z => ?_, fun _ _ p np => h p _ (same_upd np) (SqT.of (rmL_new hin np))⟩
  rw [z] at h
  exact h a H (Same.refl _) ha
theorem paired_snoc_take {α β : Type} {F : α → β → Prop} {l : List α} {m : List β} (h : Paired F l m) {i : Nat} {x : α} (hx : l[i]? = some x) : ∃ y, m[i]? = some y ∧ F x y ∧ m.take (i + 1) = m.take i ++ [y] := by
  obtain ⟨y, h1, h2⟩ := paired_at h hx
  exact ⟨y, h1, h2, by rw [List.take_succ, h1]; rfl⟩
section
variable {P : Program} {w : World} {K : PySem.W.Frag} {mg : Str → Option Value} {base : Heap} {f : Addr} {fd : FuncData}
/-! ### _law_renamed -/
abbrev sRenamed : Stmt := top 32
theorem scRenamed : FnScope ["_law_thing", "_law_words", "_law_others", "_law_part"] ["_law_thing", "_law_words", "_law_others"] (defScope sRenamed) := ⟨rfl, rfl, rfl, by decide +kernel, rfl, by decide +kernel, by decide +kernel⟩
def spRenamed (K : PySem.W.Frag) (n : Nat) : Sp := fun vs H Q _ => ∃ (v : V) (d d' : PyData) (as : List Addr) (p1 p2 : Addr) (ws os : List Str), vs = [v, .ref p1, .ref p2] ∧ (∀ b ∈ as, ∃ u, H b = some u) ∧ Dp K (rmL as H) v d ∧ RnOk ws os n d d' ∧ H p1 = some (.lst (ws.map V.str)) ∧ H p2 = some (.lst (os.map V.str)) ∧ ws.length = os.length ∧
  ∀ v' H', Same H H' → Dp K (rmL as H') v' d' → Q v' H'
theorem ok_renamed {k n : Nat} (F : Fun K "_law_renamed" "_law_renamed" sRenamed f fd) (G : FnG P w K mg base CX0 k "_law_renamed" ["_law_thing", "_law_words", "_law_others"] (spRenamed K n)) (m_isinstance : mg "isinstance" = none) (m_tuple : mg "tuple" = none) :
    FnOk P w K mg base CX0 (k + 1) f fd ["_law_thing", "_law_words", "_law_others"] (spRenamed K (n + 1)) := by
  obtain ⟨_, _, G__law_renamed, m__law_renamed, k__law_renamed, b__law_renamed⟩ := G
  have sc := scRenamed
  refine F.ok sc (fun vs H Q E h => ?_) (fun cdv A outer s H vs Q E hr h => ?_)
  · obtain ⟨v, d, d', as, p1, p2, ws, os, rfl, _⟩ := h
    rfl
  obtain ⟨v, d, d', as, p1, p2, ws, os, rfl, ha, hv, rn, h1, h2, hl, q⟩ := h
  refine ⟨_, (pss_cons (ps_if (pt_not (pt_val (pe_callB call_isi (by rfl) m_isinstance (by decide +kernel) (pa_cons (pv 0) (pa_cons (pe_bltn (v := .ty "tuple") (by rfl) m_tuple (by decide +kernel) rfl) pa_nil))))) (pss_one (ps_ret (pv 0))) pss_nil)
      (pss_cons (ps_if (pt_cmpR op_in_seq (pe_ix ix_tup (pv 0) pe_int (fun _ _ => rfl)) (pe_tup (pa_cons pe_str (pa_cons pe_str (pa_cons pe_str pa_nil)))) (by rfl)) (pss_one (ps_ret (pe_tup (pa_cons (pe_ix ix_tup (pv 0) pe_int (fun _ _ => rfl)) (pa_cons (pe_ix ix_list (pv 2) (pe_bm PySem.F.plainAttrs_list PySem.F.slot_list_index PySem.F.type_list_index mt_index (pv 1) (pa_cons (pe_ix ix_tup (pv 0) pe_int (fun _ _ => rfl)) pa_nil)) (fun _ _ => rfl)) pa_nil))))) pss_nil)
      (pss_cons (ps_if (pt_cmpR op_eq (pe_ix ix_tup (pv 0) pe_int (fun _ _ => rfl)) pe_str (nomark _)) (pss_one (ps_ret (pe_tup (pa_cons (pe_ix ix_tup (pv 0) pe_int (fun _ _ => rfl)) (pa_cons (pe_ix ix_list (pv 2) (pe_bm PySem.F.plainAttrs_list PySem.F.slot_list_index PySem.F.type_list_index mt_index (pv 1) (pa_cons (pe_ix ix_tup (pv 0) pe_int (fun _ _ => rfl)) pa_nil)) (fun _ _ => rfl)) (pa_cons (pe_call G__law_renamed (hr.mono (by omega)) (by rfl) m__law_renamed k__law_renamed b__law_renamed .nil pass0 (pa_cons (pe_ix ix_tup (pv 0) pe_int (fun _ _ => rfl)) (pa_cons (pv 1) (pa_cons (pv 2) pa_nil)))) pa_nil)))))) pss_nil)
      (pss_one (ps_ret (pe_op op_catA (pe_slice sl_tupA (pv 0) po_none (po_some pe_int)) (pe_callTy call_tuple_of (by rfl) m_tuple (by decide +kernel) (pa_cons (pe_lc (own := [("_law_part", 3)]) (by rfl) sc.nd  (pi_tup (pe_slice sl_tupA (pv 0) (po_some pe_int) po_none)) (blkOk_by (own := [("_law_part", 3)]) (N := ["_law_thing", "_law_words", "_law_others", "_law_part"]) (sc := defScope sRenamed) (by decide +kernel)) (fun _ _ _ _ _ => (pg_name (i := 3) sc.nd rfl (.inl rfl))) (fun _ _ _ _ _ => pts_nil) (fun _ _ _ _ _ => (pe_call G__law_renamed (hr.mono (by omega)) (by rfl) m__law_renamed k__law_renamed b__law_renamed .nil pass0 (pa_cons (pv 3) (pa_cons (pv 1) (pa_cons (pv 2) pa_nil)))))) pa_nil)))))))), ?_⟩
  have z2 : 2 ≤ sizeLine := by decide
  have z3 : 3 ≤ sizeLine := by decide
  have in_ : ∀ {H' : Hp}, Same H H' → ∀ b ∈ as, ∃ u, H' b = some u := fun s b hb => by
    obtain ⟨u, hu⟩ := ha b hb
    exact ⟨u, s _ _ hu⟩
  cases rn_split hv rn with
  | num i e1 e2 =>
    subst e1 e2
    exact ⟨_, rfl, _, _, .type "int", _, false, rfl, .ty _, .base (.int i), kit_ty (by decide +kernel), _, rfl, iteT ⟨_, rfl, q _ _ (Same.refl _) (.int i)⟩⟩
  | nm a wd x e1 hs hw hx e2 =>
    subst e1 e2
    obtain ⟨j, f1, f2, f3, f4⟩ := ix_facts hx hl
    refine ⟨_, rfl, _, _, .type "tuple", _, true, rfl, .ty _, ty_tup (seqT rmL_sub hs), kit_ty (by decide +kernel), _, rfl, iteF ?_⟩
    refine ⟨_, rfl, a, _, 0, _, rfl, rfl, seqT rmL_sub hs, rfl, z3, fun t nt => ⟨t, _, rfl, .inr (SqT.of upd_same), rfl, by decide +kernel, _, rfl, iteB hw ?_⟩⟩
    have s1 : Same H (upd H t (.tup [.str "name", .str "many", .str "meets"])) := same_upd nt
    have hs1 := seqT (rmL_sub.trans s1) hs
    have w1 := SqL.of (K := K) (s1 _ _ h1)
    have w2 := SqL.of (K := K) (s1 _ _ h2)
    refine ⟨_, rfl, a, _, 0, _, rfl, rfl, hs1, rfl, _, rfl, _, rfl, .inl ⟨rfl, _, w1⟩, _, rfl, a, _, 1, _, rfl, rfl, hs1, rfl, p1, _, _, j, _, rfl, rfl, w1, rfl, flat_met _, f1, f2, f3, p2, _, _, _, rfl, rfl, w2, atI_nat f4, z2, fun p np => ?_⟩
    exact q _ _ (s1.trans (same_upd np)) (.tup (SqT.of (rmL_new (in_ s1) np)) (.cons (.str _) (.cons (.str _) .nil)))
  | item a x y e e' e1 hs hx hy re e2 =>
    subst e1 e2
    obtain ⟨j, f1, f2, f3, f4⟩ := ix_facts hx hl
    refine ⟨_, rfl, _, _, .type "tuple", _, true, rfl, .ty _, ty_tup (seqT rmL_sub hs), kit_ty (by decide +kernel), _, rfl, iteF ?_⟩
    refine ⟨_, rfl, a, _, 0, _, rfl, rfl, seqT rmL_sub hs, rfl, z3, fun t nt => ⟨t, _, rfl, .inr (SqT.of upd_same), rfl, by decide +kernel, _, rfl, iteBF (by decide +kernel) ?_⟩⟩
    have s1 : Same H (upd H t (.tup [.str "name", .str "many", .str "meets"])) := same_upd nt
    have hs1 := seqT (rmL_sub.trans s1) hs
    have w1 := SqL.of (K := K) (s1 _ _ h1)
    have w2 := SqL.of (K := K) (s1 _ _ h2)
    refine ⟨_, rfl, a, _, 0, _, rfl, rfl, hs1, rfl, rfl, _, rfl, iteB (by decide +kernel) ?_⟩
    refine ⟨_, rfl, a, _, 0, _, rfl, rfl, hs1, rfl, _, rfl, _, rfl, .inl ⟨rfl, _, w1⟩, _, rfl, a, _, 1, _, rfl, rfl, hs1, rfl, p1, _, _, j, _, rfl, rfl, w1, rfl, flat_met _, f1, f2, f3, p2, _, _, _, rfl, rfl, w2, atI_nat f4, ?_⟩
    refine ⟨_, rfl, a, _, 2, _, rfl, rfl, hs1, rfl, _, rfl, _, rfl, y, e, e', as, p1, p2, ws, os, rfl, in_ s1, dp_same (rmL_but (.same s1)) _ _ hy, re, s1 _ _ h1, s1 _ _ h2, hl, fun v' H3 s3 hv' => ⟨z3, fun p np => ?_⟩⟩
    exact q _ _ (s1.trans (s3.trans (same_upd np))) (.tup (SqT.of (rmL_new (in_ (s1.trans s3)) np)) (.cons (.str _) (.cons (.str _) (.cons (dp_same (rmL_but (.same (same_upd np))) _ _ hv') .nil))))
  | all a wd xs ds ds' e1 hs hin hit hxs hpr h2' e2 =>
    subst e1 e2
    refine ⟨_, rfl, _, _, .type "tuple", _, true, rfl, .ty _, ty_tup (seqT rmL_sub hs), kit_ty (by decide +kernel), _, rfl, iteF ?_⟩
    refine ⟨_, rfl, a, _, 0, _, rfl, rfl, seqT rmL_sub hs, at0 _ _, z3, fun t nt => ⟨t, _, rfl, .inr (SqT.of upd_same), rfl, by decide +kernel, _, rfl, iteBF hin ?_⟩⟩
    have s1 : Same H (upd H t (.tup [.str "name", .str "many", .str "meets"])) := same_upd nt
    have hs1 := seqT (rmL_but (as := as) (.same s1)) hs
    refine ⟨_, rfl, a, _, 0, _, rfl, rfl, seqT rmL_sub hs1, at0 _ _, rfl, _, rfl, iteBF (decide_eq_false fun e => hit (V.str.inj e)) ?_⟩
    refine ⟨_, rfl, 1, rfl, slA_first (as := as) (in_ s1) hs1 fun a1 H2 s2 ha1 => ?_⟩
    have S2 := s1.trans s2
    refine ⟨_, rfl, 1, rfl, ?_⟩
    dsimp only [tNoPart]
    refine slA_rest (seqT (rmL_sub.trans S2) hs) fun pB nB => ?_
    have s3 : Same H2 (upd H2 pB (.tup xs)) := same_upd nB
    have S3 := S2.trans s3
    have hlen := dpAll_len hxs
    refine ⟨pB, rfl, ⟨_, SqT.of upd_same⟩, fun D nD => lc_it (walk_tup (xs := xs)) (fun i H' => BldD K as D (upd H2 pB (.tup xs)) (ds'.take i) H') ⟨same_upd nD, [], upd_same, .nil⟩ (fun _ H3 _ B => SqT.of (B.1 _ _ upd_same)) ?_ ?_⟩
    · rintro i x _ H3 hi B ⟨rfl, ex⟩
      obtain ⟨d1, ed, hd1⟩ := dpAll_at hxs ex
      obtain ⟨d2, ed2, rd, tk⟩ := paired_snoc_take hpr ed
      refine ⟨rfl, ?_⟩
      unfold tYes
      refine iteT ⟨_, rfl, _, rfl, _, rfl, x, d1, d2, D :: as, p1, p2, ws, os, rfl, B.in_ S3 ha, dp_same ((rmL_but (.same S3)).trans (rmL_later nD B.1)) _ _ hd1, rd, B.1 _ _ (S3 _ _ h1), B.1 _ _ (S3 _ _ h2), hl, fun v' H4 s4 hv' => ?_⟩
      rw [tk]
      exact B.push nD s4 hv' (by rw [List.length_take, ← paired_len hpr]; omega)
    rintro H3 B
    rw [List.take_of_length_le (by rw [← paired_len hpr, hlen]; exact Nat.le_refl _)] at B
    obtain ⟨vs, hD, hD', hv2⟩ := B.end_ nD S3 ha
    have S4 := S3.trans B.1
    refine ⟨D, _, rfl, .inl ⟨SqL.of hD, fun T nT => ?_⟩⟩
    have s5 : Same H3 (upd H3 T (.tup vs)) := same_upd nT
    refine catA_one (as := as) (in_ (S4.trans s5)) (seqT (rmL_but (.same (s3.trans (B.1.trans s5)))) ha1) (SqT.of upd_same) (by rw [dpAll_len hv2, ← paired_len hpr]; omega) fun p H4 s6 hp => ?_
    exact q _ _ (S4.trans (s5.trans s6)) (.tup hp (.cons (.str _) (dpAll_same (rmL_but (.same (s5.trans s6))) _ _ hv2)))
theorem ok_renameds (D : Df K mg "_law_renamed" sRenamed ["_law_thing", "_law_words", "_law_others"] f fd) (m_isinstance : mg "isinstance" = none) (m_tuple : mg "tuple" = none) : ∀ n, FnG P w K mg base CX0 n "_law_renamed" ["_law_thing", "_law_words", "_law_others"] (spRenamed K n)
  | 0 => D.g ⟨fun vs H Q E h => by
      obtain ⟨v, d, d', as, p1, p2, ws, os, rfl, _⟩ := h
      rfl, fun A outer s H args us vs Q E _ _ _ _ h => by
      obtain ⟨v, d, d', as, p1, p2, ws, os, _, _, _, ok, _⟩ := h
      rcases ok with ⟨L, _, _, hd, _⟩ | ⟨t, _, _, hd, _⟩
      · exact absurd hd (by cases L <;> simp [Lk.deep])
      · exact absurd hd (by cases t <;> simp [Ts.deep])⟩
  | n + 1 => D.g (ok_renamed D.F (ok_renameds D m_isinstance m_tuple n) m_isinstance m_tuple)
end
end Fd

set_option Elab.async false
set_option linter.all false
set_option maxRecDepth 100000
set_option maxHeartbeats 2000000
namespace Fd
open PySem PySem.Spec PyProof.Rows L2
/-! ### eyes called otherwise -/
def rnE (r : Str → Str) (Y : Ey) : Ey := ⟨Y.names.map fun p => (r p.1, p.2), Y.lists.map fun p => (r p.1, p.2), Y.spot, Y.met.map r⟩
theorem look_rn {α : Type} {r : Str → Str} {ws : List Str} (inj : ∀ x ∈ ws, ∀ y ∈ ws, r x = r y → x = y) {x : Str} (hx : x ∈ ws) : ∀ l : List (Str × α), (∀ p ∈ l, p.1 ∈ ws) → (l.map fun p => (r p.1, p.2)).lookup (r x) = l.lookup x
  | [], _ => rfl
  | (k, v) :: l, h => by
    have hk : k ∈ ws := h (k, v) (List.mem_cons_self ..)
    rw [List.map_cons, List.lookup_cons, List.lookup_cons]
    have e : (r x == r k) = (x == k) := by
      by_cases z : x = k
      · rw [z, beq_self_eq_true, beq_self_eq_true]
      · rw [beq_eq_false_iff_ne.mpr z, beq_eq_false_iff_ne.mpr fun y => z (inj x hx k hk y)]
    rw [e, look_rn inj hx l fun p hp => h p (List.mem_cons_of_mem _ hp)]
theorem val_rn {r : Str → Str} {ws : List Str} (inj : ∀ x ∈ ws, ∀ y ∈ ws, r x = r y → x = y) {Y : Ey} (hY : EyOk ws Y) : ∀ L : Lk, LkOk ws L → val (rnE r Y) (rnL r L) = val Y L
  | .num i, _ => rfl
  | .name x, h => by
    show far (some_of ((Y.names.map fun p => (r p.1, p.2)).lookup (r x)) .ok) = _
    rw [look_rn inj h _ fun p hp => (hY.nm p hp).1]
    rfl
  | .many x, h => by
    show far (some_of ((Y.lists.map fun p => (r p.1, p.2)).lookup (r x)) fun l => .ok l.length) = _
    rw [look_rn inj h _ fun p hp => (hY.ls p hp).1]
    rfl
  | .item x a, h => by
    show far (some_of ((Y.lists.map fun p => (r p.1, p.2)).lookup (r x)) fun l => then_ (val (rnE r Y) (rnL r a)) (itemOf l)) = _
    rw [look_rn inj h.1 _ fun p hp => (hY.ls p hp).1, val_rn inj hY a h.2]
    rfl
  | .spot k, _ => rfl
  | .bin o a b, h => by
    show far (then_ (val (rnE r Y) (rnL r a)) fun i => then_ (val (rnE r Y) (rnL r b)) fun j => o.run i j) = _
    rw [val_rn inj hY a h.1, val_rn inj hY b h.2]
    rfl
theorem hold_rn {r : Str → Str} {ws : List Str} (inj : ∀ x ∈ ws, ∀ y ∈ ws, r x = r y → x = y) {Y : Ey} (hY : EyOk ws Y) : ∀ t : Ts, TsOk ws t → hold (rnE r Y) (rnT r t) = hold Y t
  | .like a b, h => by
    show thenB (val (rnE r Y) (rnL r a)) (fun i => thenB (val (rnE r Y) (rnL r b)) fun j => .ok (decide (i = j))) = _
    rw [val_rn inj hY a h.1, val_rn inj hY b h.2]
    rfl
  | .less a b, h => by
    show thenB (val (rnE r Y) (rnL r a)) (fun i => thenB (val (rnE r Y) (rnL r b)) fun j => .ok (decide (i < j))) = _
    rw [val_rn inj hY a h.1, val_rn inj hY b h.2]
    rfl
  | .not_ t, h => by
    show thenB (hold (rnE r Y) (rnT r t)) (fun b => .ok (!b)) = _
    rw [hold_rn inj hY t h]
    rfl
  | .both t u, h => by
    show thenB (hold (rnE r Y) (rnT r t)) (fun b => if b = true then hold (rnE r Y) (rnT r u) else .ok false) = _
    rw [hold_rn inj hY t h.1, hold_rn inj hY u h.2]
    rfl
  | .any_ t u, h => by
    show thenB (hold (rnE r Y) (rnT r t)) (fun b => if b = true then .ok true else hold (rnE r Y) (rnT r u)) = _
    rw [hold_rn inj hY t h.1, hold_rn inj hY u h.2]
    rfl
  | .meets x, h => by
    show Except.ok (decide (r x ∈ Y.met.map r)) = Except.ok (decide (x ∈ Y.met))
    congr 1
    refine decide_eq_decide.mpr ⟨fun z => ?_, fun z => List.mem_map_of_mem z⟩
    obtain ⟨y, hy, e⟩ := List.mem_map.mp z
    rw [← inj y (hY.mt y hy) x h e]
    exact hy
theorem rnL_deep (r : Str → Str) : ∀ L : Lk, (rnL r L).deep = L.deep
  | .num _ | .name _ | .many _ | .spot _ => rfl
  | .item _ a => by show (rnL r a).deep + 1 = a.deep + 1; rw [rnL_deep r a]
  | .bin _ a b => by show max (rnL r a).deep (rnL r b).deep + 1 = max a.deep b.deep + 1; rw [rnL_deep r a, rnL_deep r b]
theorem rnT_deep (r : Str → Str) : ∀ t : Ts, (rnT r t).deep = t.deep
  | .meets _ => rfl
  | .not_ t => by show (rnT r t).deep + 1 = t.deep + 1; rw [rnT_deep r t]
  | .both t u => by show max (rnT r t).deep (rnT r u).deep + 1 = max t.deep u.deep + 1; rw [rnT_deep r t, rnT_deep r u]
  | .any_ t u => by show max (rnT r t).deep (rnT r u).deep + 1 = max t.deep u.deep + 1; rw [rnT_deep r t, rnT_deep r u]
  | .like a b => by show max (rnL r a).deep (rnL r b).deep + 1 = max a.deep b.deep + 1; rw [rnL_deep r a, rnL_deep r b]
  | .less a b => by show max (rnL r a).deep (rnL r b).deep + 1 = max a.deep b.deep + 1; rw [rnL_deep r a, rnL_deep r b]
theorem rnL_ok {r : Str → Str} {ws os : List Str} (h : ∀ x ∈ ws, r x ∈ os) : ∀ {L : Lk}, LkOk ws L → LkOk os (rnL r L)
  | .num _, k => k
  | .name x, k => h x k
  | .many x, k => h x k
  | .item x a, k => ⟨h x k.1, rnL_ok h (L := a) k.2⟩
  | .spot _, k => k
  | .bin _ a b, k => ⟨rnL_ok h (L := a) k.1, rnL_ok h (L := b) k.2⟩
theorem rnT_ok {r : Str → Str} {ws os : List Str} (h : ∀ x ∈ ws, r x ∈ os) : ∀ {t : Ts}, TsOk ws t → TsOk os (rnT r t)
  | .like a b, k => ⟨rnL_ok h k.1, rnL_ok h k.2⟩
  | .less a b, k => ⟨rnL_ok h k.1, rnL_ok h k.2⟩
  | .not_ t, k => rnT_ok h (t := t) k
  | .both t u, k => ⟨rnT_ok h (t := t) k.1, rnT_ok h (t := u) k.2⟩
  | .any_ t u, k => ⟨rnT_ok h (t := t) k.1, rnT_ok h (t := u) k.2⟩
  | .meets x, k => h x k
/-! ### eyes with more behind -/
def moE (Y : Ey) : Ey := ⟨Y.names ++ [(Str.ofString "qq", (5 : Int))] ++ Y.names, Y.lists ++ [(Str.ofString "qq", [(1 : Int)])], Y.spot, Y.met ++ [Str.ofString "qq"]⟩
theorem look_app {α : Type} {x : Str} : ∀ (l m : List (Str × α)), l.lookup x = none → (l ++ m).lookup x = m.lookup x
  | [], _, _ => rfl
  | (k, v) :: l, m, h => by
    rw [List.lookup_cons] at h
    rw [List.cons_append, List.lookup_cons]
    cases e : (x == k) with
    | true => rw [e] at h; cases h
    | false =>
      rw [e] at h
      exact look_app l m h
theorem look_app1 {α : Type} {x : Str} {v : α} : ∀ (l m : List (Str × α)), l.lookup x = some v → (l ++ m).lookup x = some v
  | [], _, h => by cases h
  | (k, u) :: l, m, h => by
    rw [List.lookup_cons] at h
    rw [List.cons_append, List.lookup_cons]
    cases e : (x == k) with
    | true => rw [e] at h; exact h
    | false =>
      rw [e] at h
      exact look_app1 l m h
theorem mo_names {Y : Ey} {x : Str} (h : x ≠ "qq") : (moE Y).names.lookup x = Y.names.lookup x := by
  show (Y.names ++ [(Str.ofString "qq", (5 : Int))] ++ Y.names).lookup x = _
  cases e : Y.names.lookup x with
  | some v => exact look_app1 _ _ (look_app1 _ _ e)
  | none =>
    rw [look_app _ _ ((look_app _ _ e).trans ?_), e]
    rw [List.lookup_cons, beq_eq_false_iff_ne.mpr h]
    rfl
theorem mo_lists {Y : Ey} {x : Str} (h : x ≠ "qq") : (moE Y).lists.lookup x = Y.lists.lookup x := by
  show (Y.lists ++ [(Str.ofString "qq", [(1 : Int)])]).lookup x = _
  cases e : Y.lists.lookup x with
  | some v => exact look_app1 _ _ e
  | none =>
    rw [look_app _ _ e, List.lookup_cons, beq_eq_false_iff_ne.mpr h]
    rfl
theorem val_mo {ws : List Str} (hq : ∀ z ∈ ws, z ≠ "qq") {Y : Ey} : ∀ L : Lk, LkOk ws L → val (moE Y) L = val Y L
  | .num i, _ => rfl
  | .name x, h => by
    show far (some_of ((moE Y).names.lookup x) .ok) = _
    rw [mo_names (hq x h)]
    rfl
  | .many x, h => by
    show far (some_of ((moE Y).lists.lookup x) fun l => .ok l.length) = _
    rw [mo_lists (hq x h)]
    rfl
  | .item x a, h => by
    show far (some_of ((moE Y).lists.lookup x) fun l => then_ (val (moE Y) a) (itemOf l)) = _
    rw [mo_lists (hq x h.1), val_mo hq a h.2]
    rfl
  | .spot k, _ => rfl
  | .bin o a b, h => by
    show far (then_ (val (moE Y) a) fun i => then_ (val (moE Y) b) fun j => o.run i j) = _
    rw [val_mo hq a h.1, val_mo hq b h.2]
    rfl
theorem hold_mo {ws : List Str} (hq : ∀ z ∈ ws, z ≠ "qq") {Y : Ey} : ∀ t : Ts, TsOk ws t → hold (moE Y) t = hold Y t
  | .like a b, h => by
    show thenB (val (moE Y) a) (fun i => thenB (val (moE Y) b) fun j => .ok (decide (i = j))) = _
    rw [val_mo hq a h.1, val_mo hq b h.2]
    rfl
  | .less a b, h => by
    show thenB (val (moE Y) a) (fun i => thenB (val (moE Y) b) fun j => .ok (decide (i < j))) = _
    rw [val_mo hq a h.1, val_mo hq b h.2]
    rfl
  | .not_ t, h => by
    show thenB (hold (moE Y) t) (fun b => .ok (!b)) = _
    rw [hold_mo hq t h]
    rfl
  | .both t u, h => by
    show thenB (hold (moE Y) t) (fun b => if b = true then hold (moE Y) u else .ok false) = _
    rw [hold_mo hq t h.1, hold_mo hq u h.2]
    rfl
  | .any_ t u, h => by
    show thenB (hold (moE Y) t) (fun b => if b = true then .ok true else hold (moE Y) u) = _
    rw [hold_mo hq t h.1, hold_mo hq u h.2]
    rfl
  | .meets x, h => by
    show Except.ok (decide (x ∈ Y.met ++ [Str.ofString "qq"])) = Except.ok (decide (x ∈ Y.met))
    congr 1
    refine decide_eq_decide.mpr ⟨fun z => ?_, fun z => List.mem_append.mpr (.inl z)⟩
    rcases List.mem_append.mp z with z | z
    · exact z
    · exact absurd (List.mem_singleton.mp z) (hq x h)
/-! ### tests of a test -/
theorem hold_nn (Y : Ey) (t : Ts) : hold Y (.not_ (.not_ t)) = hold Y t := by
  show thenB (thenB (hold Y t) fun b => .ok (!b)) (fun b => .ok (!b)) = _
  cases hold Y t with
  | error z => rfl
  | ok b => cases b <;> rfl
theorem hold_aa (Y : Ey) (t : Ts) : hold Y (.any_ t t) = hold Y t := by
  show thenB (hold Y t) (fun b => if b = true then .ok true else hold Y t) = _
  cases e : hold Y t with
  | error z => rfl
  | ok b => cases b <;> rfl
theorem hold_bb (Y : Ey) (t : Ts) : hold Y (.both t t) = hold Y t := by
  show thenB (hold Y t) (fun b => if b = true then hold Y t else .ok false) = _
  cases e : hold Y t with
  | error z => rfl
  | ok b => cases b <;> rfl
theorem hold_tw (Y : Ey) (t : Ts) : hold Y (.not_ (.both (.not_ t) (.not_ t))) = hold Y t := by
  show thenB (hold Y (.both (.not_ t) (.not_ t))) (fun b => .ok (!b)) = _
  rw [hold_bb]
  exact hold_nn Y t
/-! ### parts exchanged -/
theorem val_ok_bin {Y : Ey} {L M : Lk} {i j : Int} (o : BOp) (h1 : val Y L = .ok i) (h2 : val Y M = .ok j) : val Y (.bin o L M) = far (o.run i j) := by
  show far (then_ (val Y L) fun i => then_ (val Y M) fun j => o.run i j) = _
  rw [h1, h2]
  rfl
theorem val_ex {Y : Ey} {L M : Lk} {i j : Int} (h1 : val Y L = .ok i) (h2 : val Y M = .ok j) : val Y (.bin .plus L M) = val Y (.bin .plus M L) ∧ val Y (.bin .by_ L M) = val Y (.bin .by_ M L) := by
  rw [val_ok_bin _ h1 h2, val_ok_bin _ h2 h1, val_ok_bin _ h1 h2, val_ok_bin _ h2 h1]
  show far (.ok (i + j)) = far (.ok (j + i)) ∧ far (.ok (i * j)) = far (.ok (j * i))
  rw [Int.add_comm, Int.mul_comm]
  exact ⟨rfl, rfl⟩
/-! ### data called otherwise -/
theorem cal_names (r : Str → Str) (ns : List (Str × Int)) : calD r (.list (ns.map prD)) = .list ((ns.map fun p => (r p.1, p.2)).map prD) := by
  show PyData.list (calA r (ns.map prD)) = _
  rw [calA_map, List.map_map, List.map_map]
  rfl
theorem cal_ints (r : Str → Str) (is : List Int) : calD r (.list (is.map .int)) = .list (is.map .int) := by
  show PyData.list (calA r (is.map .int)) = _
  rw [calA_map, List.map_map]
  rfl
theorem cal_rows (r : Str → Str) (ls : List (Str × List Int)) : calD r (.list (ls.map rwD)) = .list ((ls.map fun p => (r p.1, p.2)).map rwD) := by
  show PyData.list (calA r (ls.map rwD)) = _
  rw [calA_map, List.map_map, List.map_map]
  congr 1
  refine List.map_congr_left fun p _ => ?_
  show PyData.tuple [.str (r p.1), calD r (.list (p.2.map .int))] = .tuple [.str (r p.1), .list (p.2.map .int)]
  rw [cal_ints]
theorem cal_met (r : Str → Str) (ms : List Str) : calD r (.list (ms.map .str)) = .list ((ms.map r).map .str) := by
  show PyData.list (calA r (ms.map .str)) = _
  rw [calA_map, List.map_map, List.map_map]
  rfl
end Fd

set_option Elab.async false
set_option linter.all false
set_option maxRecDepth 100000
set_option maxHeartbeats 4000000
namespace Fd
open PySem PySem.Spec PyProof.Rows L2
theorem laid_at {H : Hp} {p : Addr} (o : HO) (_ : H p = none) : upd H p o p = some o := upd_same
def outB : Except Str Bool → List V
  | .ok b => [.bl b, .non]
  | .error w => [.non, .str w]
def ovD : Except Str Int → PyData
  | .ok i => .tuple [.int i, .none]
  | .error w => .tuple [.none, .str w]
def obD : Except Str Bool → PyData
  | .ok i => .tuple [.bool i, .none]
  | .error w => .tuple [.none, .str w]
theorem dp_ov {K : PySem.W.Frag} {H : Hp} {p : Addr} : ∀ {r : Except Str Int}, H p = some (.tup (outV r)) → Dp K H (.ref p) (ovD r)
  | .ok i, h => .tup (SqT.of h) (.cons (.int i) (.cons .non .nil))
  | .error w, h => .tup (SqT.of h) (.cons .non (.cons (.str w) .nil))
theorem dp_ob {K : PySem.W.Frag} {H : Hp} {p : Addr} : ∀ {r : Except Str Bool}, H p = some (.tup (outB r)) → Dp K H (.ref p) (obD r)
  | .ok i, h => .tup (SqT.of h) (.cons (.bl i) (.cons .non .nil))
  | .error w, h => .tup (SqT.of h) (.cons .non (.cons (.str w) .nil))
/-! ### the words of falls -/
def ErrW (z : Str) : Prop := z = "far" ∨ z = "none" ∨ z = "nought"
def GoodR {α : Type} (r : Except Str α) : Prop := ∀ z, r = .error z → ErrW z
theorem good_ok {α : Type} (x : α) : GoodR (.ok x : Except Str α) := fun z h => by cases h
theorem good_far {r : Except Str Int} (h : GoodR r) : GoodR (far r) := fun z e => by
  cases r with
  | ok i =>
    by_cases q : inB i = true
    · rw [show far (.ok i) = .ok i from if_pos q] at e; cases e
    · rw [show far (.ok i) = .error "far" from if_neg q] at e
      cases e
      exact .inl rfl
  | error w => exact h z e
theorem good_some {α : Type} {o : Option α} {f : α → Except Str Int} (h : ∀ x, GoodR (f x)) : GoodR (some_of o f) := fun z e => by
  cases o with
  | none => cases e; exact .inr (.inl rfl)
  | some x => exact h x z e
theorem good_then {r : Except Str Int} {f : Int → Except Str Int} (h : GoodR r) (hf : ∀ i, GoodR (f i)) : GoodR (then_ r f) := fun z e => by
  cases r with
  | ok i => exact hf i z e
  | error w => exact h z e
theorem good_thenB {α β : Type} {r : Except Str α} {f : α → Except Str β} (h : GoodR r) (hf : ∀ i, GoodR (f i)) : GoodR (thenB r f) := fun z e => by
  cases r with
  | ok i => exact hf i z e
  | error w => cases e; exact h _ rfl
theorem good_item (l : List Int) (i : Int) : GoodR (itemOf l i) := fun z e => by
  unfold itemOf at e
  split at e
  · cases e
  · cases e; exact .inr (.inl rfl)
theorem good_run (o : BOp) (i j : Int) : GoodR (o.run i j) := fun z e => by
  cases o with
  | plus => cases e
  | minus => cases e
  | by_ => cases e
  | over =>
    by_cases q : j = 0
    · rw [show BOp.run .over i j = .error "nought" from if_pos q] at e
      cases e; exact .inr (.inr rfl)
    · rw [show BOp.run .over i j = .ok (i.fdiv j) from if_neg q] at e
      cases e
  | rest =>
    by_cases q : j = 0
    · rw [show BOp.run .rest i j = .error "nought" from if_pos q] at e
      cases e; exact .inr (.inr rfl)
    · rw [show BOp.run .rest i j = .ok (i.fmod j) from if_neg q] at e
      cases e
theorem good_val (Y : Ey) : ∀ L : Lk, GoodR (val Y L)
  | .num i => good_far (good_ok i)
  | .name x => good_far (good_some fun i => good_ok i)
  | .many x => good_far (good_some fun l => good_ok _)
  | .item x a => good_far (good_some fun l => good_then (good_val Y a) (good_item l))
  | .spot k => good_far (good_ok _)
  | .bin o a b => good_far (good_then (good_val Y a) fun i => good_then (good_val Y b) fun j => good_run o i j)
theorem good_hold (Y : Ey) : ∀ t : Ts, GoodR (hold Y t)
  | .like a b => good_thenB (good_val Y a) fun i => good_thenB (good_val Y b) fun j => good_ok _
  | .less a b => good_thenB (good_val Y a) fun i => good_thenB (good_val Y b) fun j => good_ok _
  | .not_ t => good_thenB (good_hold Y t) fun b => good_ok _
  | .both t u => good_thenB (good_hold Y t) fun b => by
      cases b
      · exact good_ok false
      · exact good_hold Y u
  | .any_ t u => good_thenB (good_hold Y t) fun b => by
      cases b
      · exact good_hold Y u
      · exact good_ok true
  | .meets x => good_ok _
theorem sh_ov {r : Except Str Int} (h : GoodR r) : SeqAt.shaped (ovD r) = true := by
  cases r with
  | ok i => rfl
  | error w => rcases h w rfl with rfl | rfl | rfl <;> decide +kernel
theorem sh_ob {r : Except Str Bool} (h : GoodR r) : SeqAt.shaped (obD r) = true := by
  cases r with
  | ok i => rfl
  | error w => rcases h w rfl with rfl | rfl | rfl <;> decide +kernel
theorem eq_ov {r : Except Str Int} (h : GoodR r) : PyData.eqv (ovD r) (ovD r) = true := PySem.SeqAt.eqv_refl _ (Bool.and_eq_true_iff.mp (sh_ov h)).1
theorem eq_ob {r : Except Str Bool} (h : GoodR r) : PyData.eqv (obD r) (obD r) = true := PySem.SeqAt.eqv_refl _ (Bool.and_eq_true_iff.mp (sh_ob h)).1
theorem sd_tup {K : PySem.W.Frag} {H : Hp} {v : V} {ds : List PyData} (h : Sd K H v (.tuple ds)) : ∃ a xs, v = .ref a ∧ Sq K H a xs ∧ SdAll K H xs ds := by
  cases h with | tup q r => exact ⟨_, _, rfl, q, r⟩
theorem sd_lst {K : PySem.W.Frag} {H : Hp} {v : V} {ds : List PyData} (h : Sd K H v (.list ds)) : ∃ a xs, v = .ref a ∧ Sq K H a xs ∧ SdAll K H xs ds := by
  cases h with | lst q r => exact ⟨_, _, rfl, q, r⟩
theorem sd_int {K : PySem.W.Frag} {H : Hp} {v : V} {i : Int} (h : Sd K H v (.int i)) : v = .int i := by cases h; rfl
theorem sd_str {K : PySem.W.Frag} {H : Hp} {v : V} {i : Str} (h : Sd K H v (.str i)) : v = .str i := by cases h; rfl
theorem sdA_cons {K : PySem.W.Frag} {H : Hp} {vs : List V} {d : PyData} {ds : List PyData} (h : SdAll K H vs (d :: ds)) : ∃ v r, vs = v :: r ∧ Sd K H v d ∧ SdAll K H r ds := by
  cases h with | cons q r => exact ⟨_, _, rfl, q, r⟩
theorem sdA_nil {K : PySem.W.Frag} {H : Hp} {vs : List V} (h : SdAll K H vs []) : vs = [] := by cases h; rfl
theorem sdA_ints {K : PySem.W.Frag} {H : Hp} : ∀ {is : List Int} {vs : List V}, SdAll K H vs (is.map .int) → vs = is.map V.int
  | [], _, h => sdA_nil h
  | i :: r, _, h => by
    obtain ⟨v, t, rfl, h1, h2⟩ := sdA_cons h
    rw [sd_int h1, sdA_ints h2]
    rfl
theorem sdA_strs {K : PySem.W.Frag} {H : Hp} : ∀ {is : List Str} {vs : List V}, SdAll K H vs (is.map .str) → vs = is.map V.str
  | [], _, h => sdA_nil h
  | i :: r, _, h => by
    obtain ⟨v, t, rfl, h1, h2⟩ := sdA_cons h
    rw [sd_str h1, sdA_strs h2]
    rfl
theorem sd_pair {K : PySem.W.Frag} {H : Hp} {v : V} {d e : PyData} (h : Sd K H v (.tuple [d, e])) : ∃ a x y, v = .ref a ∧ Sq K H a [x, y] ∧ Sd K H x d ∧ Sd K H y e := by
  obtain ⟨a, xs, rfl, h1, h2⟩ := sd_tup h
  obtain ⟨x, r, rfl, hx, h2⟩ := sdA_cons h2
  obtain ⟨y, r, rfl, hy, h2⟩ := sdA_cons h2
  rw [sdA_nil h2] at h1
  exact ⟨a, x, y, rfl, h1, hx, hy⟩
theorem sd_tri {K : PySem.W.Frag} {H : Hp} {v : V} {d e g : PyData} (h : Sd K H v (.tuple [d, e, g])) : ∃ a x y z, v = .ref a ∧ Sq K H a [x, y, z] ∧ Sd K H x d ∧ Sd K H y e ∧ Sd K H z g := by
  obtain ⟨a, xs, rfl, h1, h2⟩ := sd_tup h
  obtain ⟨x, r, rfl, hx, h2⟩ := sdA_cons h2
  obtain ⟨y, r, rfl, hy, h2⟩ := sdA_cons h2
  obtain ⟨z, r, rfl, hz, h2⟩ := sdA_cons h2
  rw [sdA_nil h2] at h1
  exact ⟨a, x, y, z, rfl, h1, hx, hy, hz⟩
theorem lk_sd {K : PySem.W.Frag} {H : Hp} {ws : List Str} : ∀ {L : Lk} {v : V}, LkOk ws L → Sd K H v (lkD L) → LkAt K H v L
  | .num i, v, _, h => by rw [sd_int h]; exact .num i
  | .name x, v, _, h => by
    obtain ⟨a, u, y, rfl, h1, hx, hy⟩ := sd_pair h
    rw [sd_str hx, sd_str hy] at h1
    exact .name h1
  | .many x, v, _, h => by
    obtain ⟨a, u, y, rfl, h1, hx, hy⟩ := sd_pair h
    rw [sd_str hx, sd_str hy] at h1
    exact .many h1
  | .item x M, v, o, h => by
    obtain ⟨a, u, y, z, rfl, h1, hx, hy, hz⟩ := sd_tri h
    rw [sd_str hx, sd_str hy] at h1
    exact .item h1 (lk_sd o.2 hz)
  | .spot k, v, o, h => by
    obtain ⟨a, xs, rfl, h1, h2⟩ := sd_tup h
    obtain ⟨x, r, rfl, hx, h2⟩ := sdA_cons h2
    rw [sdA_nil h2, sd_str hx] at h1
    refine .spot (z := spotWords.getD k "") ?_ h1
    have o' : k < 4 := o
    rw [List.getD_eq_getElem?_getD, List.getElem?_eq_getElem (show k < spotWords.length from o')]
    rfl
  | .bin o M N, v, ok, h => by
    obtain ⟨a, u, y, z, rfl, h1, hx, hy, hz⟩ := sd_tri h
    rw [sd_str hx] at h1
    exact .bin h1 (lk_sd ok.1 hy) (lk_sd ok.2 hz)
theorem prs_names {K : PySem.W.Frag} {H : Hp} : ∀ {ns : List (Str × Int)} {ps : List V}, SdAll K H ps (ns.map prD) → Prs K H ps (ns.map fun p => (p.1, V.int p.2))
  | [], _, h => by rw [sdA_nil h]; exact .nil
  | p :: ns, _, h => by
    obtain ⟨v, r, rfl, h1, h2⟩ := sdA_cons h
    obtain ⟨a, x, y, rfl, hs, hx, hy⟩ := sd_pair h1
    rw [sd_str hx, sd_int hy] at hs
    exact .cons ⟨a, rfl, hs⟩ (prs_names h2)
theorem prs_rows {K : PySem.W.Frag} {H : Hp} : ∀ {ls : List (Str × List Int)} {ps : List V}, SdAll K H ps (ls.map rwD) → ∃ rs, Prs K H ps rs ∧ Rows K H rs ls
  | [], _, h => by rw [sdA_nil h]; exact ⟨[], .nil, .nil⟩
  | p :: ls, _, h => by
    obtain ⟨v, r, rfl, h1, h2⟩ := sdA_cons h
    obtain ⟨a, x, y, rfl, hs, hx, hy⟩ := sd_pair h1
    rw [sd_str hx] at hs
    obtain ⟨b, ys, rfl, hb, hy⟩ := sd_lst hy
    rw [sdA_ints hy] at hb
    obtain ⟨rs, k1, k2⟩ := prs_rows h2
    exact ⟨(p.1, .ref b) :: rs, .cons ⟨a, rfl, hs⟩ k1, .cons ⟨rfl, b, rfl, hb⟩ k2⟩
theorem ey_sd {K : PySem.W.Frag} {H : Hp} {v : V} {Y : Ey} (h4 : Y.spot.length = 4) (h : Sd K H v (eyD Y)) : ∃ e, v = .ref e ∧ Eyes K H e Y := by
  obtain ⟨a, xs, rfl, h1, h2⟩ := sd_tup h
  obtain ⟨v1, r, rfl, d1, h2⟩ := sdA_cons h2
  obtain ⟨v2, r, rfl, d2, h2⟩ := sdA_cons h2
  obtain ⟨v3, r, rfl, d3, h2⟩ := sdA_cons h2
  obtain ⟨v4, r, rfl, d4, h2⟩ := sdA_cons h2
  rw [sdA_nil h2] at h1
  obtain ⟨n, ps, rfl, n1, n2⟩ := sd_lst d1
  obtain ⟨l, rs, rfl, l1, l2⟩ := sd_lst d2
  obtain ⟨s, ss, rfl, s1, s2⟩ := sd_tup d3
  obtain ⟨m, ms, rfl, m1, m2⟩ := sd_lst d4
  rw [sdA_ints s2] at s1
  rw [sdA_strs m2] at m1
  obtain ⟨rs', k1, k2⟩ := prs_rows l2
  exact ⟨a, rfl, n, l, s, m, h1, ⟨ps, n1, prs_names n2⟩, ⟨rs, rs', l1, k1, k2⟩, s1, h4, m1⟩
theorem ts_sd {K : PySem.W.Frag} {H : Hp} {ws : List Str} : ∀ {t : Ts} {v : V}, TsOk ws t → Sd K H v (tsD t) → TsAt K H v t
  | .meets x, v, _, h => by
    obtain ⟨a, u, y, rfl, h1, hx, hy⟩ := sd_pair h
    rw [sd_str hx, sd_str hy] at h1
    exact .meets h1
  | .not_ t, v, o, h => by
    obtain ⟨a, u, y, rfl, h1, hx, hy⟩ := sd_pair h
    rw [sd_str hx] at h1
    exact .not_ h1 (ts_sd o hy)
  | .both t u, v, o, h => by
    obtain ⟨a, x, y, z, rfl, h1, hx, hy, hz⟩ := sd_tri h
    rw [sd_str hx] at h1
    exact .both h1 (ts_sd o.1 hy) (ts_sd o.2 hz)
  | .any_ t u, v, o, h => by
    obtain ⟨a, x, y, z, rfl, h1, hx, hy, hz⟩ := sd_tri h
    rw [sd_str hx] at h1
    exact .any_ h1 (ts_sd o.1 hy) (ts_sd o.2 hz)
  | .like L M, v, o, h => by
    obtain ⟨a, x, y, z, rfl, h1, hx, hy, hz⟩ := sd_tri h
    rw [sd_str hx] at h1
    exact .like h1 (lk_sd o.1 hy) (lk_sd o.2 hz)
  | .less L M, v, o, h => by
    obtain ⟨a, x, y, z, rfl, h1, hx, hy, hz⟩ := sd_tri h
    rw [sd_str hx] at h1
    exact .less h1 (lk_sd o.1 hy) (lk_sd o.2 hz)
theorem okd_pr (p : Str × Int) : OkD 2 (prD p) := ⟨(by decide : 2 ≤ 1000), fun d hd => by
  rcases List.mem_cons.mp hd with z | z
  · rw [z]; trivial
  · rw [List.mem_singleton.mp z]; trivial⟩
theorem okd_row (p : Str × List Int) (h : p.2.length ≤ 8) : OkD 3 (rwD p) := ⟨(by decide : 2 ≤ 1000), fun d hd => by
  rcases List.mem_cons.mp hd with z | z
  · rw [z]; trivial
  · rw [List.mem_singleton.mp z]
    refine ⟨by rw [List.length_map]; omega, fun d hd => ?_⟩
    obtain ⟨i, _, rfl⟩ := List.mem_map.mp hd
    trivial⟩
theorem okd_mono : ∀ {n : Nat} {d : PyData}, OkD n d → OkD (n + 1) d
  | n + 1, .none, _ => trivial
  | n + 1, .bool _, _ => trivial
  | n + 1, .int _, _ => trivial
  | n + 1, .str _, _ => trivial
  | n + 1, .list ds, h => ⟨h.1, fun d hd => okd_mono (h.2 d hd)⟩
  | n + 1, .tuple ds, h => ⟨h.1, fun d hd => okd_mono (h.2 d hd)⟩
theorem okd_names {ws : List Str} {Y : Ey} (o : EyOk ws Y) : OkD 4 (.list (Y.names.map prD)) := ⟨by rw [List.length_map]; have := o.n5; omega, fun d hd => by
  obtain ⟨p, _, rfl⟩ := List.mem_map.mp hd
  exact okd_mono (okd_pr p)⟩
theorem okd_lists {ws : List Str} {Y : Ey} (o : EyOk ws Y) : OkD 4 (.list (Y.lists.map rwD)) := ⟨by rw [List.length_map]; have := o.l3; omega, fun d hd => by
  obtain ⟨p, hp, rfl⟩ := List.mem_map.mp hd
  exact okd_row p (o.ls p hp).2.1⟩
theorem okd_met {ws : List Str} {Y : Ey} (o : EyOk ws Y) : OkD 4 (.list (Y.met.map .str)) := ⟨by rw [List.length_map]; have := o.m7; omega, fun d hd => by
  obtain ⟨p, _, rfl⟩ := List.mem_map.mp hd
  trivial⟩
section
variable {P : Program} {w : World} {K : PySem.W.Frag} {mg : Str → Option Value} {base : Heap} {f C fI fv : Addr} {fd : FuncData}
theorem rmL_nil {H : Hp} : rmL [] H = H := funext fun b => if_neg (by simp)
theorem told_test {H : Hp} {v : V} {e : Addr} {t : Ts} {Y : Ey} {Q : VK} {E : XK} (HV : HeldX P w K mg base 16 fv (spHold K C 6)) (hL : TsAt K H v t) (h6 : t.deep ≤ 6) (hE : Eyes K H e Y) (q : ∀ p H', Same H H' → H' p = some (.tup (outB (hold Y t))) → Q (.ref p) H') :
    spTold P w K mg base C 16 [.ref fv, v, .ref e] H Q E := by
  refine ⟨fv, v, e, spHold K C 6, rfl, HV, fun H0 Q' E' s hok her => ⟨v, e, t, Y, rfl, hL.same s, h6, hE.same s, ?_⟩⟩
  cases ev : hold Y t with
  | ok i =>
    rw [ev] at q
    exact hok _ _ fun p H2 s2 h => q p H2 (s.trans s2) h
  | error z =>
    rw [ev] at q
    exact fun d nd => her _ _ _ ⟨rfl, d, z, rfl, upd_same, fun p H2 s2 h => q p H2 ((s.trans (same_upd nd)).trans s2) h⟩
theorem told_look {H : Hp} {v : V} {e : Addr} {L : Lk} {Y : Ey} {Q : VK} {E : XK} (HV : HeldX P w K mg base 16 fv (spVal K C 6)) (hL : LkAt K H v L) (h6 : L.deep ≤ 6) (hE : Eyes K H e Y) (q : ∀ p H', Same H H' → H' p = some (.tup (outV (val Y L))) → Q (.ref p) H') :
    spTold P w K mg base C 16 [.ref fv, v, .ref e] H Q E := by
  refine ⟨fv, v, e, spVal K C 6, rfl, HV, fun H0 Q' E' s hok her => ⟨v, e, L, Y, rfl, hL.same s, h6, hE.same s, ?_⟩⟩
  cases ev : val Y L with
  | ok i =>
    rw [ev] at q
    exact hok _ _ fun p H2 s2 h => q p H2 (s.trans s2) h
  | error z =>
    rw [ev] at q
    exact fun d nd => her _ _ _ ⟨rfl, d, z, rfl, upd_same, fun p H2 s2 h => q p H2 ((s.trans (same_upd nd)).trans s2) h⟩
end
end Fd

set_option Elab.async false
set_option linter.all false
set_option maxRecDepth 100000
set_option maxHeartbeats 8000000
namespace Fd
open PySem PySem.Spec PyProof.Rows L2
section
variable {P : Program} {w : World} {K : PySem.W.Frag} {mg : Str → Option Value} {base : Heap} {f C fI fv fh : Addr} {fd : FuncData}
abbrev sRight : Stmt := top 31
theorem scRight : FnScope ["_law_box", "_law_words", "_law_mine", "_law_others", "_law_eyes", "_law_look", "_law_test", "_law_pairs", "_law_rows", "_law_met", "_law_like", "_law_told", "_law_held", "_law_more", "_law_twice", "_law_same", "_law_second", "_law_both", "_law_word", "_law_due", "_law_at", "_law_part"] ["_law_box", "_law_words"] (defScope sRight) := ⟨rfl, rfl, rfl, by decide +kernel, rfl, by decide +kernel, by decide +kernel⟩
def spRight (K : PySem.W.Frag) : Sp := fun vs H Q _ => ∃ (a p : Addr) (n : Nat) (ws : List Str), vs = [.ref a, .ref p] ∧ Box H a n ∧ n + 430 ≤ 1000000 ∧ rm a H p = some (.lst (ws.map V.str)) ∧ ws.length = 14 ∧ ws.Nodup ∧ (∀ z ∈ ws, z ≠ "qq") ∧
  ∀ H', But a H H' → Box H' a (n + 430) → Q (.bl true) H'
structure RightD (P : Program) (w : World) (K : PySem.W.Frag) (mg : Str → Option Value) (base : Heap) (C fv fh : Addr) (k : Nat) : Prop where
  GE : FnG P w K mg base CX0 k "_law_some_eyes" ["_law_box", "_law_words"] (spEyes K)
  G4 : FnG P w K mg base CX0 k "_law_a_look" ["_law_box", "_law_words", "_law_deep"] (spALook K 4)
  G3 : FnG P w K mg base CX0 k "_law_a_look" ["_law_box", "_law_words", "_law_deep"] (spALook K 3)
  GT : FnG P w K mg base CX0 k "_law_a_test" ["_law_box", "_law_words", "_law_deep"] (spATest K 3)
  GC : FnG P w K mg base CX0 k "_law_called" ["_law_thing", "_law_words", "_law_others"] (spCalled K 4)
  GR : FnG P w K mg base CX0 k "_law_renamed" ["_law_thing", "_law_words", "_law_others"] (spRenamed K 4)
  GO : FnG P w K mg base CX0 k "_law_told_of" ["_law_asked", "_law_thing", "_law_eyes"] (spTold P w K mg base C 16)
  GH : FnG P w K mg base (L2.CX P w) k "holds" ["test", "eyes"] (spHold K C 6)
  HV : HeldX P w K mg base 16 fv (spVal K C 6)
  HH : HeldX P w K mg base 16 fh (spHold K C 6)
  mv : mg "value_of" = some (.ref fv)
  mh : mg "holds" = some (.ref fh)
theorem cat_new {l b : Addr} {xs zs : List V} {H : Hp} {Q : VK} (h1 : H l = some (.lst xs)) (h2 : H b = some (.lst zs)) (sz : xs.length + zs.length ≤ 1000) (h : ∀ p H', Same H H' → H' p = some (.lst (xs ++ zs)) → Q (.ref p) H') : rCat (.ref l) (.ref b) H Q :=
  ⟨l, b, xs, zs, rfl, rfl, h1, h2, Nat.le_of_lt (small1000 sz), fun p np => h p _ (same_upd np) upd_same⟩
theorem pr_snoc {α β : Type} {F : α → β → Prop} {x : α} {y : β} (h : F x y) : ∀ {l : List α} {m : List β}, Paired F l m → Paired F (l ++ [x]) (m ++ [y])
  | _, _, .nil => .cons h .nil
  | _, _, .cons r t => .cons r (pr_snoc h t)
theorem pr_cons {α β : Type} {F : α → β → Prop} {y : β} {m : List β} {l : List α} (h : Paired F l (y :: m)) : ∃ x r, l = x :: r ∧ F x y ∧ Paired F r m := by
  cases h with | cons a b => exact ⟨_, _, rfl, a, b⟩
theorem pr_nil {α β : Type} {F : α → β → Prop} {l : List α} (h : Paired F l ([] : List β)) : l = [] := by cases h; rfl
theorem cut_to7 (xs : List Str) : cutV (xs.map V.str) none (some 7) = (xs.take 7).map V.str := (cut_to _ 7).trans (List.map_take ..).symm
theorem cut_from7 (xs : List Str) : cutV (xs.map V.str) (some 7) none = (xs.drop 7).map V.str := (cut_drop _ 7).trans (List.map_drop ..).symm
theorem ok_right {k : Nat} (D : RightD P w K mg base C fv fh k) (F : Fun K "_law_right" "_law_right" sRight f fd) : FnOk P w K mg base CX0 (k + 1) f fd ["_law_box", "_law_words"] (spRight K) := by
  obtain ⟨⟨_, _, G__law_some_eyes, m__law_some_eyes, k__law_some_eyes, b__law_some_eyes⟩, ⟨_, _, G4, m4, k4, b4⟩, ⟨_, _, G3, m3, k3, b3⟩, ⟨_, _, GT3, mt3, kt3, bt3⟩, ⟨_, _, G__law_called, m__law_called, k__law_called, b__law_called⟩, ⟨_, _, G__law_renamed, m__law_renamed, k__law_renamed, b__law_renamed⟩,
    ⟨_, _, G__law_told_of, m__law_told_of, k__law_told_of, b__law_told_of⟩, ⟨_, _, G_holds, m_holds, k_holds, b_holds⟩, HV, HH, m_value_of, m_holdsV⟩ := D
  have sc := scRight
  refine F.ok sc (fun vs H Q E h => ?_) (fun cdv A outer s H vs Q E hr h => ?_)
  · obtain ⟨a, p, n, ws, rfl, _⟩ := h
    rfl
  obtain ⟨a, p, n, ws, rfl, hB, hn, hp, hw, hnd, hqq, q⟩ := h
  refine ⟨_, (pss_cons (ps_asg (pe_tup (pa_cons (pe_slice sl_list (pv 1) po_none (po_some pe_int)) (pa_cons (pe_slice sl_list (pv 1) (po_some pe_int) po_none) pa_nil))) (pg_or (pg_tup (by rfl) (pgs_cons (pg_name (i := 2) sc.nd rfl (.inr rfl)) (pgs_cons (pg_name (i := 3) sc.nd rfl (.inr rfl)) pgs_nil))) (pg_lst (by rfl) (pgs_cons (pg_name (i := 2) sc.nd rfl (.inr rfl)) (pgs_cons (pg_name (i := 3) sc.nd rfl (.inr rfl)) pgs_nil)))))
      (pss_cons (ps_asg (pe_tup (pa_cons (pe_call G__law_some_eyes (hr.mono (by omega)) (by rfl) m__law_some_eyes k__law_some_eyes b__law_some_eyes .nil pass0 (pa_cons (pv 0) (pa_cons (pv 2) pa_nil))) (pa_cons (pe_call G4 (hr.mono (by omega)) (by rfl) m4 k4 b4 .nil pass0 (pa_cons (pv 0) (pa_cons (pv 2) (pa_cons pe_int pa_nil)))) (pa_cons (pe_call GT3 (hr.mono (by omega)) (by rfl) mt3 kt3 bt3 .nil pass0 (pa_cons (pv 0) (pa_cons (pv 2) (pa_cons pe_int pa_nil)))) pa_nil)))) (pg_or (pg_tup (by rfl) (pgs_cons (pg_name (i := 4) sc.nd rfl (.inr rfl)) (pgs_cons (pg_name (i := 5) sc.nd rfl (.inl rfl)) (pgs_cons (pg_name (i := 6) sc.nd rfl (.inl rfl)) pgs_nil)))) (pg_lst (by rfl) (pgs_cons (pg_name (i := 4) sc.nd rfl (.inr rfl)) (pgs_cons (pg_name (i := 5) sc.nd rfl (.inl rfl)) (pgs_cons (pg_name (i := 6) sc.nd rfl (.inl rfl)) pgs_nil))))))
      (pss_cons (ps_asg (pe_lc (own := [("_law_at", 20)]) (by rfl) sc.nd  (pi_tup (pe_tup (pa_cons pe_int (pa_cons pe_int (pa_cons pe_int pa_nil))))) (blkOk_by (own := [("_law_at", 20)]) (N := ["_law_box", "_law_words", "_law_mine", "_law_others", "_law_eyes", "_law_look", "_law_test", "_law_pairs", "_law_rows", "_law_met", "_law_like", "_law_told", "_law_held", "_law_more", "_law_twice", "_law_same", "_law_second", "_law_both", "_law_word", "_law_due", "_law_at", "_law_part"]) (sc := defScope sRight) (by decide +kernel)) (fun _ _ _ _ _ => (pg_name (i := 20) sc.nd rfl (.inl rfl))) (fun _ _ _ _ _ => pts_nil) (fun _ _ _ _ _ => (pe_call G__law_called (hr.mono (by omega)) (by rfl) m__law_called k__law_called b__law_called .nil pass0 (pa_cons (pe_ix (show IxR _ (rIxT K) from ix_tup) (pv 4) (pv 20) (fun _ _ => rfl)) (pa_cons (pv 2) (pa_cons (pv 3) pa_nil)))))) (pg_or (pg_tup (by rfl) (pgs_cons (pg_name (i := 7) sc.nd rfl (.inl rfl)) (pgs_cons (pg_name (i := 8) sc.nd rfl (.inl rfl)) (pgs_cons (pg_name (i := 9) sc.nd rfl (.inl rfl)) pgs_nil)))) (pg_lst (by rfl) (pgs_cons (pg_name (i := 7) sc.nd rfl (.inl rfl)) (pgs_cons (pg_name (i := 8) sc.nd rfl (.inl rfl)) (pgs_cons (pg_name (i := 9) sc.nd rfl (.inl rfl)) pgs_nil))))))
      (pss_cons (ps_set (i := 10) sc.nd rfl (.inl rfl) (pe_tup (pa_cons (pv 7) (pa_cons (pv 8) (pa_cons (pe_ix (show IxR _ (rIxT K) from ix_tup) (pv 4) pe_int (fun _ _ => rfl)) (pa_cons (pv 9) pa_nil))))))
      (pss_cons (ps_par (i := 11) (j := 12) (by rfl) sc.nd rfl rfl (by decide) rfl rfl (pa_cons (pe_call G__law_told_of (hr.mono (by omega)) (by rfl) m__law_told_of k__law_told_of b__law_told_of .nil pass0 (pa_cons (pe_glob (v := .ref fv) (by rfl) m_value_of rfl) (pa_cons (pv 5) (pa_cons (pv 4) pa_nil)))) (pa_cons (pe_call G__law_told_of (hr.mono (by omega)) (by rfl) m__law_told_of k__law_told_of b__law_told_of .nil pass0 (pa_cons (pe_glob (v := .ref fh) (by rfl) m_holdsV rfl) (pa_cons (pv 6) (pa_cons (pv 4) pa_nil)))) pa_nil)) (by rfl))
      (pss_cons (ps_if (pt_cmpR (op_neD hr.units) (pe_call G__law_told_of (hr.mono (by omega)) (by rfl) m__law_told_of k__law_told_of b__law_told_of .nil pass0 (pa_cons (pe_glob (v := .ref fv) (by rfl) m_value_of rfl) (pa_cons (pe_call G__law_renamed (hr.mono (by omega)) (by rfl) m__law_renamed k__law_renamed b__law_renamed .nil pass0 (pa_cons (pv 5) (pa_cons (pv 2) (pa_cons (pv 3) pa_nil)))) (pa_cons (pv 10) pa_nil)))) (pv 11) (nomark _)) (pss_one (ps_ret pe_bl)) pss_nil)
      (pss_cons (ps_if (pt_cmpR (op_neD hr.units) (pe_call G__law_told_of (hr.mono (by omega)) (by rfl) m__law_told_of k__law_told_of b__law_told_of .nil pass0 (pa_cons (pe_glob (v := .ref fh) (by rfl) m_holdsV rfl) (pa_cons (pe_call G__law_renamed (hr.mono (by omega)) (by rfl) m__law_renamed k__law_renamed b__law_renamed .nil pass0 (pa_cons (pv 6) (pa_cons (pv 2) (pa_cons (pv 3) pa_nil)))) (pa_cons (pv 10) pa_nil)))) (pv 12) (nomark _)) (pss_one (ps_ret pe_bl)) pss_nil)
      (pss_cons (ps_set (i := 13) sc.nd rfl (.inl rfl) (pe_tup (pa_cons (pe_op op_cat (pe_op op_cat (pe_ix (show IxR _ (rIxT K) from ix_tup) (pv 4) pe_int (fun _ _ => rfl)) (pe_lst (pa_cons (pe_tup (pa_cons pe_str (pa_cons pe_int pa_nil))) pa_nil))) (pe_ix (show IxR _ (rIxT K) from ix_tup) (pv 4) pe_int (fun _ _ => rfl))) (pa_cons (pe_op op_cat (pe_ix (show IxR _ (rIxT K) from ix_tup) (pv 4) pe_int (fun _ _ => rfl)) (pe_lst (pa_cons (pe_tup (pa_cons pe_str (pa_cons (pe_lst (pa_cons pe_int pa_nil)) pa_nil))) pa_nil))) (pa_cons (pe_ix (show IxR _ (rIxT K) from ix_tup) (pv 4) pe_int (fun _ _ => rfl)) (pa_cons (pe_op op_cat (pe_ix (show IxR _ (rIxT K) from ix_tup) (pv 4) pe_int (fun _ _ => rfl)) (pe_lst (pa_cons pe_str pa_nil))) pa_nil))))))
      (pss_cons (ps_if (PW.pt (pw_or (pt_cmpR (op_neD hr.units) (pe_call G__law_told_of (hr.mono (by omega)) (by rfl) m__law_told_of k__law_told_of b__law_told_of .nil pass0 (pa_cons (pe_glob (v := .ref fv) (by rfl) m_value_of rfl) (pa_cons (pv 5) (pa_cons (pv 13) pa_nil)))) (pv 11) (nomark _)) (pw_or1 (pt_cmpR (op_neD hr.units) (pe_call G__law_told_of (hr.mono (by omega)) (by rfl) m__law_told_of k__law_told_of b__law_told_of .nil pass0 (pa_cons (pe_glob (v := .ref fh) (by rfl) m_holdsV rfl) (pa_cons (pv 6) (pa_cons (pv 13) pa_nil)))) (pv 12) (nomark _))))) (pss_one (ps_ret pe_bl)) pss_nil)
      (pss_cons (ps_set (i := 14) sc.nd rfl (.inl rfl) (pe_tup (pa_cons pe_str (pa_cons (pe_tup (pa_cons pe_str (pa_cons (pe_tup (pa_cons pe_str (pa_cons (pv 6) pa_nil))) (pa_cons (pe_tup (pa_cons pe_str (pa_cons (pv 6) pa_nil))) pa_nil)))) pa_nil))))
      (pss_cons (ps_for PassesOwn.never rfl (pi_tup (pe_tup (pa_cons (pv 14) (pa_cons (pe_tup (pa_cons pe_str (pa_cons (pe_tup (pa_cons pe_str (pa_cons (pv 6) pa_nil))) pa_nil))) (pa_cons (pe_tup (pa_cons pe_str (pa_cons (pv 6) (pa_cons (pv 6) pa_nil)))) (pa_cons (pe_tup (pa_cons pe_str (pa_cons (pv 6) (pa_cons (pv 6) pa_nil)))) pa_nil)))))) (pg_name (i := 15) sc.nd rfl (.inl rfl)) (pss_one (ps_if (pt_cmpR (op_neD hr.units) (pe_call G__law_told_of (hr.mono (by omega)) (by rfl) m__law_told_of k__law_told_of b__law_told_of .nil pass0 (pa_cons (pe_glob (v := .ref fh) (by rfl) m_holdsV rfl) (pa_cons (pv 15) (pa_cons (pv 4) pa_nil)))) (pv 12) (nomark _)) (pss_one (ps_ret pe_bl)) pss_nil)))
      (pss_cons (ps_set (i := 16) sc.nd rfl (.inl rfl) (pe_call G3 (hr.mono (by omega)) (by rfl) m3 k3 b3 .nil pass0 (pa_cons (pv 0) (pa_cons (pv 2) (pa_cons pe_int pa_nil)))))
      (pss_cons (ps_setLc (i := 17) (own := [("_law_part", 21)]) (by rfl) sc.nd rfl rfl (sw_true rfl rfl rfl (by decide +kernel)) (pi_tup (pe_tup (pa_cons (pv 5) (pa_cons (pv 16) pa_nil)))) (blkOk_by (own := [("_law_part", 21)]) (N := ["_law_box", "_law_words", "_law_mine", "_law_others", "_law_eyes", "_law_look", "_law_test", "_law_pairs", "_law_rows", "_law_met", "_law_like", "_law_told", "_law_held", "_law_more", "_law_twice", "_law_same", "_law_second", "_law_both", "_law_word", "_law_due", "_law_at", "_law_part"]) (sc := defScope sRight) (by decide +kernel)) (fun _ _ _ _ _ => (pg_name (i := 21) sc.nd rfl (.inl rfl))) (fun _ _ _ _ _ => pts_nil) (fun _ _ _ _ _ => (pe_call G__law_told_of (hr.mono (by omega)) (by rfl) m__law_told_of k__law_told_of b__law_told_of .nil pass0 (pa_cons (pe_glob (v := .ref fv) (by rfl) m_value_of rfl) (pa_cons (pv 21) (pa_cons (pv 4) pa_nil))))))
      (pss_cons (ps_if (PW.pt (pw_and (pt_cmpR op_isN (pe_ix ix_tup (pe_ix ix_list (pv 17) pe_int (fun _ _ => rfl)) pe_int (fun _ _ => rfl)) pe_non (nomark _)) (pw_and1 (pt_cmpR op_isN (pe_ix ix_tup (pe_ix ix_list (pv 17) pe_int (fun _ _ => rfl)) pe_int (fun _ _ => rfl)) pe_non (nomark _))))) (pss_cons (ps_for PassesOwn.never rfl (pi_tup (pe_tup (pa_cons pe_str (pa_cons pe_str pa_nil)))) (pg_name (i := 18) sc.nd rfl (.inl rfl)) (pss_one (ps_if (pt_cmpR (op_neD hr.units) (pe_call G__law_told_of (hr.mono (by omega)) (by rfl) m__law_told_of k__law_told_of b__law_told_of .nil pass0 (pa_cons (pe_glob (v := .ref fv) (by rfl) m_value_of rfl) (pa_cons (pe_tup (pa_cons (pv 18) (pa_cons (pv 5) (pa_cons (pv 16) pa_nil)))) (pa_cons (pv 4) pa_nil)))) (pe_call G__law_told_of (hr.mono (by omega)) (by rfl) m__law_told_of k__law_told_of b__law_told_of .nil pass0 (pa_cons (pe_glob (v := .ref fv) (by rfl) m_value_of rfl) (pa_cons (pe_tup (pa_cons (pv 18) (pa_cons (pv 16) (pa_cons (pv 5) pa_nil)))) (pa_cons (pv 4) pa_nil)))) (nomark _)) (pss_one (ps_ret pe_bl)) pss_nil)))
      (pss_cons (ps_set (i := 19) sc.nd rfl (.inl rfl) (pe_lst (pa_cons (pe_cmpR op_lt (pe_ix ix_tup (pe_ix ix_list (pv 17) pe_int (fun _ _ => rfl)) pe_int (fun _ _ => rfl)) (pe_ix ix_tup (pe_ix ix_list (pv 17) pe_int (fun _ _ => rfl)) pe_int (fun _ _ => rfl)) (nomark _)) (pa_cons (pe_cmpR op_eq (pe_ix ix_tup (pe_ix ix_list (pv 17) pe_int (fun _ _ => rfl)) pe_int (fun _ _ => rfl)) (pe_ix ix_tup (pe_ix ix_list (pv 17) pe_int (fun _ _ => rfl)) pe_int (fun _ _ => rfl)) (nomark _)) pa_nil))))
      (pss_one (ps_if (pt_cmpR (op_neD hr.units) (pe_lst (pa_cons (pe_callS G_holds (hr.mono (by omega)) (by rfl) m_holds k_holds b_holds (fun σ => passAt takes0 σ) (pa_cons (pe_tup (pa_cons pe_str (pa_cons (pv 5) (pa_cons (pv 16) pa_nil)))) (pa_cons (pv 4) pa_nil))) (pa_cons (pe_callS G_holds (hr.mono (by omega)) (by rfl) m_holds k_holds b_holds (fun σ => passAt takes0 σ) (pa_cons (pe_tup (pa_cons pe_str (pa_cons (pv 16) (pa_cons (pv 5) pa_nil)))) (pa_cons (pv 4) pa_nil))) pa_nil))) (pv 19) (nomark _)) (pss_one (ps_ret pe_bl)) pss_nil)))) pss_nil)
      (pss_one (ps_ret pe_bl)))))))))))))))), ?_⟩
  have z1 : 1 ≤ sizeLine := by decide
  have z2 : 2 ≤ sizeLine := by decide
  have z3 : 3 ≤ sizeLine := by decide
  have z4 : 4 ≤ sizeLine := by decide
  have c4 : cost 4 = 158 := by decide
  have c3 : cost 3 = 78 := by decide
  obtain ⟨u0, hu0⟩ := hB.get
  refine ⟨_, rfl, 7, rfl, p, _, rfl, SqL.of (rm_sub _ _ hp), fun c nc => ?_⟩
  rw [cut_to7]
  have e1 : Same H (upd H c (.lst ((ws.take 7).map V.str))) := same_upd nc
  refine ⟨_, rfl, 7, rfl, p, _, rfl, SqL.of (e1 _ _ (rm_sub _ _ hp)), fun d nd => ?_⟩
  rw [cut_from7]
  have e2 : Same _ (upd (upd H c (.lst ((ws.take 7).map V.str))) d (.lst ((ws.drop 7).map V.str))) := same_upd nd
  refine ⟨z2, fun T nT => .inl ⟨T, _, rfl, SqT.of upd_same, rfl, _, _, rfl, _, _, rfl, rfl, ?_⟩⟩
  have e3 : Same _ (upd (upd (upd H c (.lst ((ws.take 7).map V.str))) d (.lst ((ws.drop 7).map V.str))) T (.tup [.ref c, .ref d])) := same_upd nT
  have hc1 := rm_same (a := a) (e2.trans e3) _ _ (rm_new hu0 nc)
  have hd1 := rm_same (a := a) e3 _ _ (rm_new (e1 _ _ hu0) nd)
  have b1 : But a H _ := But.of (e1.trans (e2.trans e3))
  have B1 := hB.same (e1.trans (e2.trans e3))
  have l7 : (ws.take 7).length = 7 := by rw [List.length_take, hw]; rfl
  have o7 : (ws.drop 7).length = 7 := by rw [List.length_drop, hw]
  have nd2 : (ws.drop 7).Nodup := hnd.sublist (List.drop_sublist ..)
  have q1 : ∀ z ∈ ws.take 7, z ≠ "qq" := fun z hz => hqq z (List.mem_of_mem_take hz)
  have q2 : ∀ z ∈ ws.drop 7, z ≠ "qq" := fun z hz => hqq z (List.mem_of_mem_drop hz)
  generalize ws.take 7 = mi at *
  generalize ws.drop 7 = ot at *
  generalize upd (upd (upd H c (.lst (mi.map V.str))) d (.lst (ot.map V.str))) T (.tup [.ref c, .ref d]) = H1 at *
  clear e1 e2 e3 nc nd nT hw hp hB hnd hqq
  show tSeq _ _ _ [some (.ref a), some (.ref p), some (.ref c), some (.ref d), none, none, none, none, none, none, none, none, none, none, none, none, none, none, none, none, none, none] _
  refine ⟨_, rfl, _, rfl, a, c, n, mi, rfl, B1, by omega, hc1, l7, fun ve Y H2 s2 B2 eY oY => ?_⟩
  have hc2 := rm_but s2 _ _ hc1
  refine ⟨_, rfl, _, rfl, a, c, n + 112, 4, mi, rfl, B2, by omega, by decide, by decide, hc2, by omega, fun vl L H3 s3 B3 dL oL eL => ?_⟩
  have hc3 := rm_but s3 _ _ hc2
  refine ⟨_, rfl, _, rfl, a, c, n + 112 + cost 4, 3, mi, rfl, B3, by omega, by decide, by decide, hc3, by omega, fun vt t H4 s4 B4 dT oT eT => ⟨z3, fun T nT => .inl ⟨T, _, rfl, SqT.of upd_same, rfl, _, _, rfl, _, _, rfl, _, _, rfl, rfl, ?_⟩⟩⟩
  have e5 : Same H4 (upd H4 T (.tup [ve, vl, vt])) := same_upd nT
  have eY5 := ((eY.but (.of s3 (List.mem_singleton.mpr rfl))).but (.of s4 (List.mem_singleton.mpr rfl))).but (.same e5)
  have dL5 := dp_same ((rm_but s4).trans (rm_same e5)) _ _ dL
  have dT5 := dp_same (rm_same e5) _ _ dT
  have hc5 := rm_same e5 _ _ (rm_but s4 _ _ hc3)
  have hd5 := rm_same e5 _ _ (rm_but s4 _ _ (rm_but s3 _ _ (rm_but s2 _ _ hd1)))
  have B5 := B4.same e5
  have b5 := b1.trans ((s2.trans s3).trans (s4.trans (But.of e5)))
  generalize upd H4 T (.tup [ve, vl, vt]) = H5 at *
  clear eY dL dT hc3 hc2 hd1 hc1 B1 B2 B3 B4 s2 s3 s4 e5 nT b1 H1 H2 H3 H4
  show tSeq _ _ _ [some (.ref a), some (.ref p), some (.ref c), some (.ref d), some ve, some vl, some vt, none, none, none, none, none, none, none, none, none, none, none, none, none, none, none] _
  have dE5 := dp_same rm_sub _ _ eY5.dp
  obtain ⟨e, ne, le, se, me, rfl, he, hne, hle, hse, hme⟩ := eY5
  have cH : H5 c = some (.lst (mi.map V.str)) := rm_sub _ _ hc5
  have dH : H5 d = some (.lst (ot.map V.str)) := rm_sub _ _ hd5
  have gL := dp_same rm_sub _ _ dL5
  have gT := dp_same rm_sub _ _ dT5
  have sE : ∀ {Hx : Hp}, Same H5 Hx → SqT K Hx e [.ref ne, .ref le, .ref se, .ref me] := fun s => SqT.of (s _ _ (rmL_sub _ _ he))
  have lkOf : ∀ {Hx : Hp}, Same H5 Hx → LkAt K Hx vl L := fun s => lk_sd oL (sd_same s _ _ (sd_dp _ _ gL))
  have tsOf : ∀ {Hx : Hp}, Same H5 Hx → TsAt K Hx vt t := fun s => ts_sd oT (sd_same s _ _ (sd_dp _ _ gT))
  have eyOf : ∀ {Hx : Hp}, Same H5 Hx → Eyes K Hx e Y := fun s => by
    obtain ⟨e', ee, h⟩ := ey_sd oY.s4 (sd_same s _ _ (sd_dp _ _ dE5))
    cases ee
    exact h
  have inj : ∀ x ∈ mi, ∀ y ∈ mi, rnS mi ot x = rnS mi ot y → x = y := fun x hx y hy e => rn_inj nd2 (l7.trans o7.symm) hx hy e
  have rin : ∀ x ∈ mi, rnS mi ot x ∈ ot := fun x hx => rn_mem hx (l7.trans o7.symm)
  have nil_in : ∀ {Hx : Hp}, ∀ b ∈ ([] : List Addr), ∃ u, Hx b = some u := fun b hb => by cases hb
  refine ⟨z3, fun q3 nq => ⟨q3, rfl, ⟨_, SqT.of upd_same⟩, fun D nD => lc_it (walk_tup (xs := [.int 0, .int 1, .int 3]))
    (fun i H' => BldD K [] D (upd H5 q3 (.tup [.int 0, .int 1, .int 3])) ([calD (rnS mi ot) (.list (Y.names.map prD)), calD (rnS mi ot) (.list (Y.lists.map rwD)), calD (rnS mi ot) (.list (Y.met.map .str))].take i) H')
    ⟨same_upd nD, [], upd_same, .nil⟩ (fun _ H' _ B => SqT.of (B.1 _ _ upd_same)) ?_ ?_⟩⟩
  · rintro i x _ H6 hi B ⟨rfl, ex⟩
    have e6 : Same H5 (upd H5 q3 (.tup [.int 0, .int 1, .int 3])) := same_upd nq
    have S6 := e6.trans B.1
    have R6 : Same H5 (rmL [D] H6) := fun b o h => rmL_later (as := []) nD B.1 b o (by rw [rmL_nil]; exact e6 b o h)
    refine ⟨rfl, ?_⟩
    unfold tYes
    match i, ex with
    | 0, ex =>
      cases ex
      refine iteT ⟨_, rfl, _, rfl, e, _, 0, _, rfl, rfl, sE S6, rfl, _, rfl, _, rfl, .ref ne, _, [D], c, d, mi, ot, rfl, B.in_ (Same.refl _) nil_in, dp_same (rmL_sub.trans R6) _ _ hne.dp, okd_names oY, S6 _ _ cH, S6 _ _ dH, l7.trans o7.symm, fun v' H7 s7 hv' => ?_⟩
      exact B.push nD s7 hv' (by rw [List.length_take]; exact Nat.le_trans (Nat.min_le_left _ _) (by decide))
    | 1, ex =>
      cases ex
      refine iteT ⟨_, rfl, _, rfl, e, _, 1, _, rfl, rfl, sE S6, rfl, _, rfl, _, rfl, .ref le, _, [D], c, d, mi, ot, rfl, B.in_ (Same.refl _) nil_in, dp_same (rmL_sub.trans R6) _ _ hle.dp, okd_lists oY, S6 _ _ cH, S6 _ _ dH, l7.trans o7.symm, fun v' H7 s7 hv' => ?_⟩
      exact B.push nD s7 hv' (by rw [List.length_take]; exact Nat.le_trans (Nat.min_le_left _ _) (by decide))
    | 2, ex =>
      cases ex
      refine iteT ⟨_, rfl, _, rfl, e, _, 3, _, rfl, rfl, sE S6, rfl, _, rfl, _, rfl, .ref me, _, [D], c, d, mi, ot, rfl, B.in_ (Same.refl _) nil_in, dp_same (rmL_sub.trans R6) _ _ hme.dp, okd_met oY, S6 _ _ cH, S6 _ _ dH, l7.trans o7.symm, fun v' H7 s7 hv' => ?_⟩
      exact B.push nD s7 hv' (by rw [List.length_take]; exact Nat.le_trans (Nat.min_le_left _ _) (by decide))
    | i + 3, ex => simp at ex
  rintro H6 B
  have e6 : Same H5 (upd H5 q3 (.tup [.int 0, .int 1, .int 3])) := same_upd nq
  have S6 := e6.trans B.1
  obtain ⟨vs, hD, _, hv⟩ := B.end_ nD (Same.refl _) nil_in
  rw [rmL_nil] at hv
  clear B nD nq e6
  obtain ⟨v0, r0, rfl, h0, hv⟩ := dpA_cons hv
  obtain ⟨v1, r1, rfl, h1, hv⟩ := dpA_cons hv
  obtain ⟨v3, r3, rfl, h3, hv⟩ := dpA_cons hv
  rw [dpA_nil hv] at hD
  rw [cal_names] at h0
  rw [cal_rows] at h1
  rw [cal_met] at h3
  refine .inr ⟨D, _, rfl, SqL.of hD, rfl, _, _, rfl, _, _, rfl, _, _, rfl, rfl, ?_⟩
  show tSeq _ _ _ [some (.ref a), some (.ref p), some (.ref c), some (.ref d), some (.ref e), some vl, some vt, some v0, some v1, some v3, none, none, none, none, none, none, none, none, none, none, none, none] _
  refine ⟨_, rfl, _, rfl, _, rfl, e, _, 2, _, rfl, rfl, sE S6, rfl, _, rfl, z4, fun lk nlk => ?_⟩
  have e7 : Same H6 (upd H6 lk (.tup [v0, v1, .ref se, v3])) := same_upd nlk
  have S7 := S6.trans e7
  have dK : Dp K (upd H6 lk (.tup [v0, v1, .ref se, v3])) (.ref lk) (eyD (rnE (rnS mi ot) Y)) := .tup (SqT.of upd_same) (.cons (dp_same e7 _ _ h0) (.cons (dp_same e7 _ _ h1) (.cons (.tup (SqT.of (S7 _ _ (rmL_sub _ _ hse))) (dpA_of_ints _)) (.cons (dp_same e7 _ _ h3) .nil))))
  generalize upd H6 lk (.tup [v0, v1, .ref se, v3]) = H7 at *
  clear e7 nlk h0 h1 h3 hD S6
  show tSeq _ _ _ [some (.ref a), some (.ref p), some (.ref c), some (.ref d), some (.ref e), some vl, some vt, some v0, some v1, some v3, some (.ref lk), none, none, none, none, none, none, none, none, none, none, none] _
  have kOf : ∀ {Hx : Hp}, Same H7 Hx → Eyes K Hx lk (rnE (rnS mi ot) Y) := fun s => by
    obtain ⟨e', ee, h⟩ := ey_sd (show (rnE (rnS mi ot) Y).spot.length = 4 from oY.s4) (sd_same s _ _ (sd_dp _ _ dK))
    cases ee
    exact h
  have gv := good_val Y L
  have gh := good_hold Y t
  refine ⟨_, rfl, _, rfl, told_look (E := fun _ _ _ => False) HV (lkOf S7) (by omega) (eyOf S7) fun p1 H8 s8 h8 => ⟨_, rfl, _, rfl, told_test (E := fun _ _ _ => False) HH (tsOf (S7.trans s8)) (by omega) (eyOf (S7.trans s8)) fun p2 H9 s9 h9 => ⟨_, _, rfl, ?_⟩⟩⟩
  have S9 := S7.trans (s8.trans s9)
  have T9 := s8.trans s9
  have v9 := s9 _ _ h8
  clear s8 s9 h8 H8
  show tSeq _ _ _ [some (.ref a), some (.ref p), some (.ref c), some (.ref d), some (.ref e), some vl, some vt, some v0, some v1, some v3, some (.ref lk), some (.ref p1), some (.ref p2), none, none, none, none, none, none, none, none, none] _
  refine ⟨_, rfl, _, rfl, _, rfl, vl, lkD L, lkD (rnL (rnS mi ot) L), [], c, d, mi, ot, rfl, nil_in, by rw [rmL_nil]; exact dp_same S9 _ _ gL, .inl ⟨L, rfl, oL, eL, rfl⟩, S9 _ _ cH, S9 _ _ dH, l7.trans o7.symm, fun vr H10 s10 dr => ?_⟩
  rw [rmL_nil] at dr
  refine ⟨_, rfl, told_look (E := fun _ _ _ => False) HV (lk_sd (rnL_ok rin oL) (sd_dp _ _ dr)) (by rw [rnL_deep]; omega) (kOf (T9.trans s10)) fun p3 H11 s11 h11 => ⟨_, rfl, ovD (val Y L), ovD (val Y L), ?_, dp_ov (s11 _ _ (s10 _ _ v9)), sh_ov gv, sh_ov gv, _, rfl, iteBF (by rw [eq_ov gv]; rfl) ?_⟩⟩
  · rw [val_rn inj oY L oL] at h11
    exact dp_ov h11
  have S11 := S9.trans (s10.trans s11)
  have T11 := T9.trans (s10.trans s11)
  have v11 := s11 _ _ (s10 _ _ v9)
  have w11 := s11 _ _ (s10 _ _ h9)
  clear S9 T9 v9 h9 s10 s11 h11 dr H9 H10
  refine ⟨_, rfl, _, rfl, _, rfl, vt, tsD t, tsD (rnT (rnS mi ot) t), [], c, d, mi, ot, rfl, nil_in, by rw [rmL_nil]; exact dp_same S11 _ _ gT, .inr ⟨t, rfl, oT, by omega, rfl⟩, S11 _ _ cH, S11 _ _ dH, l7.trans o7.symm, fun vr H12 s12 dr => ?_⟩
  rw [rmL_nil] at dr
  refine ⟨_, rfl, told_test (E := fun _ _ _ => False) HH (ts_sd (rnT_ok rin oT) (sd_dp _ _ dr)) (by rw [rnT_deep]; omega) (kOf (T11.trans s12)) fun p4 H13 s13 h13 => ⟨_, rfl, obD (hold Y t), obD (hold Y t), ?_, dp_ob (s13 _ _ (s12 _ _ w11)), sh_ob gh, sh_ob gh, _, rfl, iteBF (by rw [eq_ob gh]; rfl) ?_⟩⟩
  · rw [hold_rn inj oY t oT] at h13
    exact dp_ob h13
  have S13 := S11.trans (s12.trans s13)
  have v13 := s13 _ _ (s12 _ _ v11)
  have w13 := s13 _ _ (s12 _ _ w11)
  clear S11 T11 v11 w11 s12 s13 h13 dr H11 H12 kOf dK S7
  -- more
  obtain ⟨ps, hps, dps⟩ := hne
  obtain ⟨rs, hrs, drs⟩ := hle
  obtain ⟨ms, hms, dms⟩ := hme
  have lp : ps.length ≤ 5 := by rw [dpAll_len dps, List.length_map]; exact oY.n5
  have lr : rs.length ≤ 3 := by rw [dpAll_len drs, List.length_map]; exact oY.l3
  have lm : ms.length ≤ 7 := by rw [dpAll_len dms, List.length_map]; exact oY.m7
  have nL := rmL_sub _ _ hps
  have rL := rmL_sub _ _ hrs
  have mL := rmL_sub _ _ hms
  refine ⟨_, rfl, e, _, 0, _, rfl, rfl, sE S13, rfl, z2, fun t1 n1 => ⟨z1, fun l1 m1 => ?_⟩⟩
  have f1 : Same H13 (upd H13 t1 (.tup [.str "qq", .int 5])) := same_upd n1
  have f2 := same_upd (o := .lst [.ref t1]) m1
  have k1 := f2 _ _ (laid_at (.tup [.str "qq", .int 5]) n1)
  have S14 := S13.trans (f1.trans f2)
  refine cat_new (S14 _ _ nL) upd_same (by show _ + 1 ≤ 1000; omega) fun A1 G3 g3 hA1 => ?_
  have S15 := S14.trans g3
  refine ⟨_, rfl, e, _, 0, _, rfl, rfl, sE S15, rfl, cat_new hA1 (S15 _ _ nL) (by rw [List.length_append]; show _ + 1 + _ ≤ 1000; omega) fun A2 G4 g4 hA2 => ?_⟩
  have S16 := S15.trans g4
  refine ⟨_, rfl, e, _, 1, _, rfl, rfl, sE S16, rfl, z1, fun l2 m2 => ⟨z2, fun t2 n2 => ⟨z1, fun l3 m3 => ?_⟩⟩⟩
  have f3 : Same G4 (upd G4 l2 (.lst [.int 1])) := same_upd m2
  have f4 := same_upd (o := .tup [.str "qq", .ref l2]) n2
  have f5 := same_upd (o := .lst [.ref t2]) m3
  have k2 := f5 _ _ (f4 _ _ (laid_at (.lst [.int 1]) m2))
  have k3 := f5 _ _ (laid_at (.tup [.str "qq", .ref l2]) n2)
  have S17 := S16.trans (f3.trans (f4.trans f5))
  have A17 := (f3.trans (f4.trans f5)) _ _ hA2
  have K17 := (f3.trans (f4.trans f5)) _ _ (g4 _ _ (g3 _ _ k1))
  refine cat_new (S17 _ _ rL) upd_same (by show _ + 1 ≤ 1000; omega) fun A3 G5 g5 hA3 => ?_
  have S18 := S17.trans g5
  refine ⟨_, rfl, e, _, 2, _, rfl, rfl, sE S18, rfl, _, rfl, e, _, 3, _, rfl, rfl, sE S18, rfl, z1, fun l4 m4 => ?_⟩
  have f6 := same_upd (o := .lst [.str "qq"]) m4
  refine cat_new ((S18.trans f6) _ _ mL) upd_same (by show _ + 1 ≤ 1000; omega) fun A4 G6 g6 hA4 => ⟨z4, fun mo nmo => ?_⟩
  have f7 := same_upd (o := .tup [.ref A2, .ref A3, .ref se, .ref A4]) nmo
  have S19 := S18.trans (f6.trans (g6.trans f7))
  have j1 := g5.trans (f6.trans (g6.trans f7))
  have j2 := f6.trans (g6.trans f7)
  have dM : Dp K (upd G6 mo (.tup [.ref A2, .ref A3, .ref se, .ref A4])) (.ref mo) (eyD (moE Y)) := by
    refine .tup (SqT.of upd_same) (.cons (.lst (SqL.of (j1 _ _ A17)) ?_) (.cons (.lst (SqL.of (j2 _ _ hA3)) ?_) (.cons (.tup (SqT.of (S19 _ _ (rmL_sub _ _ hse))) (dpA_of_ints _)) (.cons (.lst (SqL.of (f7 _ _ hA4)) ?_) .nil))))
    · rw [show (moE Y).names = Y.names ++ [(Str.ofString "qq", (5 : Int))] ++ Y.names from rfl, List.map_append, List.map_append]
      have dd := dpAll_same (rmL_sub.trans S19) _ _ dps
      exact dpAll_app dd (dpAll_app (.cons (.tup (SqT.of (j1 _ _ K17)) (.cons (.str _) (.cons (.int _) .nil))) .nil) dd)
    · rw [show (moE Y).lists = Y.lists ++ [(Str.ofString "qq", [(1 : Int)])] from rfl, List.map_append]
      exact dpAll_app (.cons (.tup (SqT.of (j1 _ _ k3)) (.cons (.str _) (.cons (.lst (SqL.of (j1 _ _ k2)) (.cons (.int _) .nil)) .nil))) .nil) (dpAll_same (rmL_sub.trans S19) _ _ drs)
    · rw [show (moE Y).met = Y.met ++ [Str.ofString "qq"] from rfl, List.map_append]
      exact dpAll_app (.cons (.str _) .nil) (dpAll_same (rmL_sub.trans S19) _ _ dms)
  have T19 := (f1.trans f2).trans (g3.trans (g4.trans ((f3.trans (f4.trans f5)).trans j1)))
  have v19 := T19 _ _ v13
  have w19 := T19 _ _ w13
  generalize upd G6 mo (.tup [.ref A2, .ref A3, .ref se, .ref A4]) = H19 at *
  clear f1 f2 k1 S14 g3 hA1 S15 g4 hA2 S16 f3 f4 f5 k2 k3 S17 A17 K17 g5 hA3 S18 f6 g6 hA4 f7 j1 j2 T19 v13 w13 n1 m1 m2 n2 m3 m4 nmo G3 G4 G5 G6 S13
  show tSeq _ _ _ [some (.ref a), some (.ref p), some (.ref c), some (.ref d), some (.ref e), some vl, some vt, some v0, some v1, some v3, some (.ref lk), some (.ref p1), some (.ref p2), some (.ref mo), none, none, none, none, none, none, none, none] _
  have mOf : ∀ {Hx : Hp}, Same H19 Hx → Eyes K Hx mo (moE Y) := fun s => by
    obtain ⟨e', ee, h⟩ := ey_sd (show (moE Y).spot.length = 4 from oY.s4) (sd_same s _ _ (sd_dp _ _ dM))
    cases ee
    exact h
  refine ⟨_, rfl, _, rfl, told_look (E := fun _ _ _ => False) HV (lkOf S19) (by omega) (mOf (Same.refl _)) fun p5 H20 s20 h20 => ⟨_, rfl, ovD (val Y L), ovD (val Y L), ?_, dp_ov (s20 _ _ v19), sh_ov gv, sh_ov gv, _, rfl, iteBF (by rw [eq_ov gv]; rfl) ?_⟩⟩
  · rw [val_mo q1 L oL] at h20
    exact dp_ov h20
  refine ⟨_, rfl, _, rfl, told_test (E := fun _ _ _ => False) HH (tsOf (S19.trans s20)) (by omega) (mOf s20) fun p6 H21 s21 h21 => ⟨_, rfl, obD (hold Y t), obD (hold Y t), ?_, dp_ob (s21 _ _ (s20 _ _ w19)), sh_ob gh, sh_ob gh, _, rfl, iteBF (by rw [eq_ob gh]; rfl) ?_⟩⟩
  · rw [hold_mo q1 t oT] at h21
    exact dp_ob h21
  have S21 := S19.trans (s20.trans s21)
  have w21 := s21 _ _ (s20 _ _ w19)
  clear mOf dM s20 s21 h20 h21 v19 w19 S19 H20 H19
  -- twice, and the others of them
  refine ⟨_, rfl, z2, fun a1 n1 => ⟨_, rfl, z2, fun a2 n2 => ⟨z3, fun a3 n3 => ⟨z2, fun tw n4 => ?_⟩⟩⟩⟩
  show tSeq _ _ _ [some (.ref a), some (.ref p), some (.ref c), some (.ref d), some (.ref e), some vl, some vt, some v0, some v1, some v3, some (.ref lk), some (.ref p1), some (.ref p2), some (.ref mo), some (.ref tw), none, none, none, none, none, none, none] _
  refine ⟨_, rfl, _, rfl, z2, fun b1 k1 => ⟨z2, fun b2 k2 => ⟨_, rfl, _, rfl, z3, fun b3 k3 => ⟨_, rfl, _, rfl, z3, fun b4 k4 => ⟨z4, fun bt kt => ?_⟩⟩⟩⟩⟩
  have x1 : Same H21 _ := same_upd (o := .tup [.str "not", vt]) n1
  have x2 := same_upd (o := .tup [.str "not", vt]) n2
  have x3 := same_upd (o := .tup [.str "both", .ref a1, .ref a2]) n3
  have x4 := same_upd (o := .tup [.str "not", .ref a3]) n4
  have y1 := same_upd (o := .tup [.str "not", vt]) k1
  have y2 := same_upd (o := .tup [.str "not", .ref b1]) k2
  have y3 := same_upd (o := .tup [.str "any", vt, vt]) k3
  have y4 := same_upd (o := .tup [.str "both", vt, vt]) k4
  have y5 := same_upd (o := .tup [.ref tw, .ref b2, .ref b3, .ref b4]) kt
  have Y4 := y5
  have Y3 := y4.trans Y4
  have Y2 := y3.trans Y3
  have Y1 := y2.trans Y2
  have X4 := y1.trans Y1
  have X3 := x4.trans X4
  have X2 := x3.trans X3
  have X1 := x2.trans X2
  have r1 := X1 _ _ (laid_at (.tup [.str "not", vt]) n1)
  have r2 := X2 _ _ (laid_at (.tup [.str "not", vt]) n2)
  have r3 := X3 _ _ (laid_at (.tup [.str "both", .ref a1, .ref a2]) n3)
  have r4 := X4 _ _ (laid_at (.tup [.str "not", .ref a3]) n4)
  have r5 := Y1 _ _ (laid_at (.tup [.str "not", vt]) k1)
  have r6 := Y2 _ _ (laid_at (.tup [.str "not", .ref b1]) k2)
  have r7 := Y3 _ _ (laid_at (.tup [.str "any", vt, vt]) k3)
  have r8 := Y4 _ _ (laid_at (.tup [.str "both", vt, vt]) k4)
  have r9 := laid_at (.tup [.ref tw, .ref b2, .ref b3, .ref b4]) kt
  have XX := x1.trans X1
  revert r1 r2 r3 r4 r5 r6 r7 r8 r9 XX
  generalize upd _ bt _ = H22
  intro r1 r2 r3 r4 r5 r6 r7 r8 r9 XX
  clear x1 x2 x3 x4 y1 y2 y3 y4 y5 Y1 Y2 Y3 Y4 X1 X2 X3 X4 n1 n2 n3 n4 k1 k2 k3 k4 kt
  have S22 := S21.trans XX
  have w22 := XX _ _ w21
  have dt := dp_same S22 _ _ gT
  have TD : ∀ (i : Nat) (x : V), [V.ref tw, .ref b2, .ref b3, .ref b4][i]? = some x → ∃ u, Dp K H22 x (tsD u) ∧ TsOk mi u ∧ u.deep ≤ 6 ∧ hold Y u = hold Y t := fun i x hx => by
    match i, hx with
    | 0, hx =>
      cases hx
      refine ⟨.not_ (.both (.not_ t) (.not_ t)), .tup (SqT.of r4) (.cons (.str _) (.cons (.tup (SqT.of r3) (.cons (.str _) (.cons (.tup (SqT.of r1) (.cons (.str _) (.cons dt .nil))) (.cons (.tup (SqT.of r2) (.cons (.str _) (.cons dt .nil))) .nil)))) .nil)), ⟨oT, oT⟩, ?_, hold_tw Y t⟩
      show max (t.deep + 1) (t.deep + 1) + 1 + 1 ≤ 6
      omega
    | 1, hx =>
      cases hx
      refine ⟨.not_ (.not_ t), .tup (SqT.of r6) (.cons (.str _) (.cons (.tup (SqT.of r5) (.cons (.str _) (.cons dt .nil))) .nil)), oT, ?_, hold_nn Y t⟩
      show t.deep + 1 + 1 ≤ 6
      omega
    | 2, hx =>
      cases hx
      refine ⟨.any_ t t, .tup (SqT.of r7) (.cons (.str _) (.cons dt (.cons dt .nil))), ⟨oT, oT⟩, ?_, hold_aa Y t⟩
      show max t.deep t.deep + 1 ≤ 6
      omega
    | 3, hx =>
      cases hx
      refine ⟨.both t t, .tup (SqT.of r8) (.cons (.str _) (.cons dt (.cons dt .nil))), ⟨oT, oT⟩, ?_, hold_bb Y t⟩
      show max t.deep t.deep + 1 ≤ 6
      omega
    | i + 4, hx => simp at hx
  refine ⟨bt, rfl, ⟨_, SqT.of r9⟩, for_it (walk_tup (K := K) (a := bt) (xs := [V.ref tw, .ref b2, .ref b3, .ref b4])) (fun i' σ H' => Same H22 H' ∧ ∃ o15, σ = [some (.ref a), some (.ref p), some (.ref c), some (.ref d), some (.ref e), some vl, some vt, some v0, some v1, some v3, some (.ref lk), some (.ref p1), some (.ref p2), some (.ref mo), some (.ref tw), o15, none, none, none, none, none, none])
    ⟨Same.refl _, _, rfl⟩ (fun i σ H' _ h => SqT.of (h.1 _ _ r9)) ?_ ?_⟩
  · rintro i5 x5 σ H23 H23' hi5 ⟨s23, o15, rfl⟩ ⟨rfl, ex5⟩
    obtain ⟨u, du, ou, eu, hu⟩ := TD _ _ ex5
    refine ⟨_, rfl, _, rfl, told_test (E := fun _ _ _ => False) HH (ts_sd ou (sd_same s23 _ _ (sd_dp _ _ du))) eu (eyOf (S22.trans s23)) fun p7 H24 s24 h24 => ⟨_, rfl, obD (hold Y t), obD (hold Y t), ?_, dp_ob (s24 _ _ (s23 _ _ w22)), sh_ob gh, sh_ob gh, _, rfl, iteBF (by rw [eq_ob gh]; rfl) ⟨s23.trans s24, _, rfl⟩⟩⟩
    rw [hu] at h24
    exact dp_ob h24
  rintro σ H23 ⟨s23, o15, rfl⟩
  have S23 := S22.trans s23
  clear TD r1 r2 r3 r4 r5 r6 r7 r8 r9 XX dt w22 w21 S22 s23 S21 H22 H21
  -- second
  have B23 := B5.same S23
  refine ⟨_, rfl, _, rfl, a, c, _, 3, mi, rfl, B23, by omega, by decide, by decide, rm_same S23 _ _ hc5, by omega, fun v2 M H24 s24 B24 dM oM eM => ?_⟩
  have b24 := b5.trans ((But.of S23).trans s24)
  have gM := dp_same rm_sub _ _ dM
  have gL2 := dp_same (((rm_same S23).trans (rm_but s24)).trans rm_sub) _ _ dL5
  have gE2 := dp_same (((rm_same S23).trans (rm_but s24)).trans rm_sub) _ _ (EyT.dp ⟨e, ne, le, se, me, rfl, he, ⟨ps, hps, dps⟩, ⟨rs, hrs, drs⟩, hse, ⟨ms, hms, dms⟩⟩)
  have lk2 : ∀ {Hx : Hp}, Same H24 Hx → LkAt K Hx vl L := fun s => lk_sd oL (sd_same s _ _ (sd_dp _ _ gL2))
  have mk2 : ∀ {Hx : Hp}, Same H24 Hx → LkAt K Hx v2 M := fun s => lk_sd oM (sd_same s _ _ (sd_dp _ _ gM))
  have ey2 : ∀ {Hx : Hp}, Same H24 Hx → Eyes K Hx e Y := fun s => by
    obtain ⟨e', ee, h⟩ := ey_sd oY.s4 (sd_same s _ _ (sd_dp _ _ gE2))
    cases ee
    exact h
  clear lkOf tsOf eyOf sE cH dH gL gT dE5 dL5 dT5 hc5 hd5 B5 B23 b5 s24 S23
  show tSeq _ _ _ [some (.ref a), some (.ref p), some (.ref c), some (.ref d), some (.ref e), some vl, some vt, some v0, some v1, some v3, some (.ref lk), some (.ref p1), some (.ref p2), some (.ref mo), some (.ref tw), o15, some v2, none, none, none, none, none] _
  refine ⟨_, rfl, _, rfl, z2, fun q4 nq4 => ⟨q4, rfl, ⟨_, SqT.of upd_same⟩, fun D2 nD2 => lc_it (walk_tup (xs := [vl, v2]))
    (fun i H' => Same (upd H24 q4 (.tup [vl, v2])) H' ∧ ∃ xs : List Addr, H' D2 = some (.lst (xs.map V.ref)) ∧ Paired (fun x r => H' x = some (.tup (outV r))) xs ([val Y L, val Y M].take i))
    ⟨same_upd nD2, [], upd_same, .nil⟩ (fun _ H' _ h => SqT.of (h.1 _ _ upd_same)) ?_ ?_⟩⟩
  · rintro i x _ H25 hi ⟨s25, xs, hD2, hx⟩ ⟨rfl, ex⟩
    have e25 : Same H24 H25 := (same_upd nq4).trans s25
    have push : ∀ (r : Except Str Int) (p8 : Addr) (H26 : Hp), i < 2 → Same H25 H26 → H26 p8 = some (.tup (outV r)) → [val Y L, val Y M].take (i + 1) = [val Y L, val Y M].take i ++ [r] →
        ∃ acc, H26 D2 = some (.lst acc) ∧ acc.length < sizeLine ∧ Same (upd H24 q4 (.tup [vl, v2])) (upd H26 D2 (.lst (acc ++ [.ref p8]))) ∧ ∃ xs : List Addr, upd H26 D2 (.lst (acc ++ [.ref p8])) D2 = some (.lst (xs.map V.ref)) ∧ Paired (fun x r => upd H26 D2 (.lst (acc ++ [.ref p8])) x = some (.tup (outV r))) xs ([val Y L, val Y M].take (i + 1)) := fun r p8 H26 i2 s26 h26 tk => by
      have ne8 : ∀ x r, H26 x = some (.tup (outV r)) → x ≠ D2 := fun x r h z => by rw [z, s26 _ _ hD2] at h; cases h
      refine ⟨_, s26 _ _ hD2, small1000 ?_, fun b o h => ?_, xs ++ [p8], by rw [upd_same, List.map_append]; rfl, ?_⟩
      · rw [List.length_map, Paired.length hx, List.length_take]
        exact Nat.le_trans (Nat.min_le_right _ _) (show 2 ≤ 1000 by decide)
      · rw [upd_ne (ne_of_none h nD2)]
        exact s26 _ _ (s25 _ _ h)
      · rw [tk]
        refine pr_snoc ?_ (Paired.mapP hx fun x r h => ?_)
        · rw [upd_ne (ne8 _ _ h26)]; exact h26
        · rw [upd_ne (ne8 _ _ (s26 _ _ h))]; exact s26 _ _ h
    refine ⟨rfl, ?_⟩
    unfold tYes
    have hi2 : i < 2 := hi
    rcases (by omega : i = 0 ∨ i = 1) with rfl | rfl
    · cases ex
      exact iteT ⟨_, rfl, _, rfl, told_look (E := fun _ _ _ => False) HV (lk2 e25) (by omega) (ey2 e25) fun p8 H26 s26 h26 => push _ p8 H26 (by decide) s26 h26 rfl⟩
    · cases ex
      exact iteT ⟨_, rfl, _, rfl, told_look (E := fun _ _ _ => False) HV (mk2 e25) (by omega) (ey2 e25) fun p8 H26 s26 h26 => push _ p8 H26 (by decide) s26 h26 rfl⟩
  rintro H25 ⟨s25, xs, hD2, hx⟩
  have e25 : Same H24 H25 := (same_upd nq4).trans s25
  obtain ⟨y1, r, rfl, hy1, hx⟩ := pr_cons hx
  obtain ⟨y2, r, rfl, hy2, hx⟩ := pr_cons hx
  rw [pr_nil hx] at hD2
  clear s25 hx nq4 nD2
  show tSeq _ _ _ [some (.ref a), some (.ref p), some (.ref c), some (.ref d), some (.ref e), some vl, some vt, some v0, some v1, some v3, some (.ref lk), some (.ref p1), some (.ref p2), some (.ref mo), some (.ref tw), o15, some v2, some (.ref D2), none, none, none, none] _
  have fin : ∀ H', Same H25 H' → Q (.bl true) H' := fun H' s => q _ (b24.trans (But.of (e25.trans s))) ((B24.same (e25.trans s)).le (by omega))
  cases ev : val Y L with
  | error z =>
    rw [ev] at hy1
    refine ⟨_, rfl, D2, _, 0, _, rfl, rfl, SqL.of hD2, rfl, y1, _, 1, _, rfl, rfl, SqT.of hy1, rfl, rfl, _, rfl, iteBF rfl ?_⟩
    exact fin _ (Same.refl _)
  | ok i =>
    rw [ev] at hy1
    refine ⟨_, rfl, D2, _, 0, _, rfl, rfl, SqL.of hD2, rfl, y1, _, 1, _, rfl, rfl, SqT.of hy1, rfl, rfl, _, rfl, iteB rfl ?_⟩
    cases ew : val Y M with
    | error z =>
      rw [ew] at hy2
      refine ⟨_, rfl, D2, _, 1, _, rfl, rfl, SqL.of hD2, rfl, y2, _, 1, _, rfl, rfl, SqT.of hy2, rfl, rfl, _, rfl, iteBF rfl ?_⟩
      exact fin _ (Same.refl _)
    | ok j =>
      rw [ew] at hy2
      refine ⟨_, rfl, D2, _, 1, _, rfl, rfl, SqL.of hD2, rfl, y2, _, 1, _, rfl, rfl, SqT.of hy2, rfl, rfl, _, rfl, iteB rfl ?_⟩
      obtain ⟨ex1, ex2⟩ := val_ex ev ew
      refine ⟨z2, fun wt nwt => ⟨wt, rfl, ⟨_, SqT.of upd_same⟩, for_it (walk_tup (K := K) (a := wt) (xs := [V.str "plus", .str "by"])) (fun i' σ H' => Same (upd H25 wt (.tup [.str "plus", .str "by"])) H' ∧ ∃ o18, σ = [some (.ref a), some (.ref p), some (.ref c), some (.ref d), some (.ref e), some vl, some vt, some v0, some v1, some v3, some (.ref lk), some (.ref p1), some (.ref p2), some (.ref mo), some (.ref tw), o15, some v2, some (.ref D2), o18, none, none, none])
        ⟨Same.refl _, _, rfl⟩ (fun i σ H' _ h => SqT.of (h.1 _ _ upd_same)) ?_ ?_⟩⟩
      · rintro i5 x5 σ H26 H26' hi5 ⟨s26, o18, rfl⟩ ⟨rfl, ex5⟩
        have e26 : Same H24 H26' := e25.trans ((same_upd nwt).trans s26)
        obtain ⟨o, ho, hval⟩ : ∃ o : BOp, x5 = .str o.word ∧ val Y (.bin o L M) = val Y (.bin o M L) := by
          have hi2 : i5 < 2 := hi5
          rcases (by omega : i5 = 0 ∨ i5 = 1) with rfl | rfl
          · cases ex5; exact ⟨.plus, rfl, ex1⟩
          · cases ex5; exact ⟨.by_, rfl, ex2⟩
        subst ho
        have dd : ∀ A B : Lk, A.deep ≤ 4 → B.deep ≤ 4 → (Lk.bin o A B).deep ≤ 6 := fun A B h1 h2 => by show max A.deep B.deep + 1 ≤ 6; omega
        have gb := good_val Y (.bin o L M)
        refine ⟨_, rfl, _, rfl, _, rfl, z3, fun t1 n1 => ⟨_, rfl, told_look (E := fun _ _ _ => False) HV (.bin (.tup upd_same) (lk2 (e26.trans (same_upd n1))) (mk2 (e26.trans (same_upd n1)))) (dd L M eL (by omega)) (ey2 (e26.trans (same_upd n1))) fun p8 H27 s27 h27 => ?_⟩⟩
        have e27 := e26.trans ((same_upd n1).trans s27)
        refine ⟨_, rfl, _, rfl, _, rfl, z3, fun t2 n2 => ⟨_, rfl, told_look (E := fun _ _ _ => False) HV (.bin (.tup upd_same) (mk2 (e27.trans (same_upd n2))) (lk2 (e27.trans (same_upd n2)))) (dd M L (by omega) eL) (ey2 (e27.trans (same_upd n2))) fun p9 H28 s28 h28 => ?_⟩⟩
        rw [← hval] at h28
        exact ⟨_, _, dp_ov ((same_upd n2).trans s28 _ _ h27), dp_ov h28, sh_ov gb, sh_ov gb, _, rfl, iteBF (by rw [eq_ov gb]; rfl) ⟨s26.trans ((same_upd n1).trans (s27.trans ((same_upd n2).trans s28))), _, rfl⟩⟩
      · rintro σ H26 ⟨s26, o18, rfl⟩
        have t26 : Same H25 H26 := (same_upd nwt).trans s26
        have D26 := SqL.of (K := K) (t26 _ _ hD2)
        have Y1 := SqT.of (K := K) (t26 _ _ hy1)
        have Y2 := SqT.of (K := K) (t26 _ _ hy2)
        refine ⟨_, rfl, D2, _, 0, _, rfl, rfl, D26, rfl, y1, _, 0, _, rfl, rfl, Y1, rfl, _, rfl, D2, _, 1, _, rfl, rfl, D26, rfl, y2, _, 0, _, rfl, rfl, Y2, rfl, _, _, rfl, rfl, ?_⟩
        refine ⟨_, rfl, D2, _, 0, _, rfl, rfl, D26, rfl, y1, _, 0, _, rfl, rfl, Y1, rfl, _, rfl, D2, _, 1, _, rfl, rfl, D26, rfl, y2, _, 0, _, rfl, rfl, Y2, rfl, rfl, z2, fun du ndu => ?_⟩
        have e27 : Same H24 (upd H26 du (.lst [.bl (decide (i < j)), .bl (decide (V.int i = V.int j))])) := (e25.trans t26).trans (same_upd ndu)
        show tSeq _ _ _ [some (.ref a), some (.ref p), some (.ref c), some (.ref d), some (.ref e), some vl, some vt, some v0, some v1, some v3, some (.ref lk), some (.ref p1), some (.ref p2), some (.ref mo), some (.ref tw), o15, some v2, some (.ref D2), o18, some (.ref du), none, none] _
        have hl1 : hold Y (.less L M) = .ok (decide (i < j)) := by
          show thenB (val Y L) (fun i => thenB (val Y M) fun j => .ok (decide (i < j))) = _
          rw [ev, ew]
          rfl
        have hl2 : hold Y (.like M L) = .ok (decide (j = i)) := by
          show thenB (val Y M) (fun i => thenB (val Y L) fun j => .ok (decide (i = j))) = _
          rw [ev, ew]
          rfl
        have dq : decide (j = i) = decide (V.int i = V.int j) := decide_eq_decide.mpr ⟨fun z => by rw [z], fun z => (V.int.inj z).symm⟩
        refine ⟨_, rfl, _, rfl, z3, fun t1 n1 => ⟨_, rfl, .ref t1, e, .less L M, Y, rfl, .less (.tup upd_same) (lk2 (e27.trans (same_upd n1))) (mk2 (e27.trans (same_upd n1))), (by show max L.deep M.deep + 1 ≤ 6; omega), ey2 (e27.trans (same_upd n1)), ?_⟩⟩
        rw [hl1]
        have e28 := e27.trans (same_upd (o := .tup [.str "below", vl, v2]) n1)
        refine ⟨_, rfl, _, rfl, z3, fun t2 n2 => ⟨_, rfl, .ref t2, e, .like M L, Y, rfl, .like (.tup upd_same) (mk2 (e28.trans (same_upd n2))) (lk2 (e28.trans (same_upd n2))), (by show max M.deep L.deep + 1 ≤ 6; omega), ey2 (e28.trans (same_upd n2)), ?_⟩⟩
        rw [hl2]
        refine ⟨z2, fun ll nll => ?_⟩
        have g1 := (same_upd (o := .tup [.str "below", vl, v2]) n1).trans ((same_upd (o := .tup [.str "like", v2, vl]) n2).trans (same_upd (o := .lst [.bl (decide (i < j)), .bl (decide (j = i))]) nll))
        have gd := g1 _ _ (laid_at (.lst [.bl (decide (i < j)), .bl (decide (V.int i = V.int j))]) ndu)
        refine ⟨_, rfl, .list [.bool (decide (i < j)), .bool (decide (j = i))], .list [.bool (decide (i < j)), .bool (decide (V.int i = V.int j))], .lst (SqL.of upd_same) (.cons (.bl _) (.cons (.bl _) .nil)), .lst (SqL.of gd) (.cons (.bl _) (.cons (.bl _) .nil)), rfl, rfl, _, rfl, iteBF ?_ ?_⟩
        · rw [dq, PySem.SeqAt.eqv_refl _ rfl]
          rfl
        · exact fin _ (t26.trans ((same_upd ndu).trans g1))
end
end Fd

set_option Elab.async false
set_option linter.all false
set_option maxRecDepth 100000
set_option maxHeartbeats 4000000
namespace Fd
open PySem PySem.Spec PyProof.Rows L2
section
variable {P : Program} {w : World} {K : PySem.W.Frag} {mg : Str → Option Value} {base : Heap} {f C fI fv : Addr} {fd : FuncData}
abbrev sLaw : Stmt := top 33
theorem scLaw : FnScope ["_law_script", "_law_cells", "_law_k", "_law_box", "_law_words", "_law_turn"] ["_law_script"] (defScope sLaw) := ⟨rfl, rfl, rfl, by decide +kernel, rfl, by decide +kernel, by decide +kernel⟩
def spLaw (K : PySem.W.Frag) : Sp := fun vs H Q _ => ∃ (a : Addr) (ns : List Int), vs = [.ref a] ∧ SqL K H a (ns.map V.int) ∧ ns.length ≤ 63 ∧ ∀ H', Q (.bl true) H'
/-- the defs that the law calls -/
structure LawD (P : Program) (w : World) (K : PySem.W.Frag) (mg : Str → Option Value) (base : Heap) (C fv : Addr) (k : Nat) : Prop where
  GF : FnG P w K mg base CX0 k "_law_folded" ["_law_script", "_law_many"] (spFolded K)
  GD : FnG P w K mg base CX0 k "_law_draws" ["_law_script", "_law_k"] (spDraws K)
  GN : FnG P w K mg base CX0 k "_law_names" ["_law_box", "_law_many"] spNames
  GR : FnG P w K mg base CX0 k "_law_right" ["_law_box", "_law_words"] (spRight K)
  ml : mg "len" = none
  mr : mg "range" = none
theorem law_body {k : Nat} (D : LawD P w K mg base C fv k) (cdv : Value) (A : Around) (outer : List Env) (s : Shared) (H : Hp) (vs : List V) (Q : VK) (E : XK) (hA : A.guards = some []) (hr : Room k (A.deeper (envOfC "law" (defScope sLaw) s.heap.objs.size f cdv))) (h : spLaw K vs H Q E) :
    ∃ t, PSs (cxOf CX0 P w K mg base ["_law_script", "_law_cells", "_law_k", "_law_box", "_law_words", "_law_turn"] "law" (defScope sLaw) f cdv A outer s H E).nox (defBody sLaw) t ∧ t { nx := fun _ H' => Q .non H', rt := Q } (L2.start ["_law_script", "_law_cells", "_law_k", "_law_box", "_law_words", "_law_turn"] vs) H := by
  obtain ⟨⟨_, _, G__law_folded, m__law_folded, k__law_folded, b__law_folded⟩, ⟨_, _, G__law_draws, m__law_draws, k__law_draws, b__law_draws⟩, ⟨_, _, G__law_names, m__law_names, k__law_names, b__law_names⟩, ⟨_, _, G__law_right, m__law_right, k__law_right, b__law_right⟩, m_len, m_range⟩ := D
  have sc := scLaw
  obtain ⟨a, ns, rfl, hS, hl, q⟩ := h
  refine ⟨_, (pss_cons (ps_set (i := 1) sc.nd rfl (.inl rfl) (pe_call G__law_folded (hr.mono (by omega)) (by rfl) m__law_folded k__law_folded b__law_folded .nil pass0 (pa_cons (pv 0) (pa_cons pe_int pa_nil))))
      (pss_cons (ps_for PassesOwn.never rfl (pi_range1 (by rfl) m_range (pa_cons (pe_callB call_len_seq (by rfl) m_len (by decide +kernel) (pa_cons (pv 1) pa_nil)) pa_nil)) (pg_name (i := 2) sc.nd rfl (.inl rfl)) (pss_cons (ps_set (i := 3) sc.nd rfl (.inl rfl) (pe_call G__law_draws (hr.mono (by omega)) (by rfl) m__law_draws k__law_draws b__law_draws .nil pass0 (pa_cons (pv 1) (pa_cons (pv 2) pa_nil))))
      (pss_cons (ps_set (i := 4) sc.nd rfl (.inl rfl) (pe_call G__law_names (hr.mono (by omega)) (by rfl) m__law_names k__law_names b__law_names .nil pass0 (pa_cons (pv 3) (pa_cons pe_int pa_nil))))
      (pss_one (ps_for PassesOwn.never rfl (pi_range1 (by rfl) m_range (pa_cons pe_int pa_nil)) (pg_name (i := 5) sc.nd rfl (.inl rfl)) (pss_one (ps_if (pt_not (pt_val (pe_call G__law_right (hr.mono (by omega)) (by rfl) m__law_right k__law_right b__law_right .nil pass0 (pa_cons (pv 3) (pa_cons (pv 4) pa_nil))))) (pss_one (ps_ret pe_bl)) pss_nil)))))))
      (pss_one (ps_ret pe_bl)))), ?_⟩
  refine ⟨_, rfl, a, 3, ns, rfl, hS, hl, by decide, by decide, fun p ms H1 s1 hp mn ml => ?_⟩
  refine ⟨_, rfl, p, _, rfl, .inl (SqL.of hp), _, rfl, by omega, by rw [List.length_map]; omega, for_it walk_range
    (fun i σ H' => Same H1 H' ∧ ∃ o2 o3 o4 o5, σ = [some (.ref a), some (.ref p), o2, o3, o4, o5]) ⟨fun _ _ h => h, none, none, none, none, rfl⟩ (fun _ _ _ _ _ => trivial) ?_ ?_⟩
  · rintro i x σ _ H2 hi ⟨s2, o2, o3, o4, o5, rfl⟩ ⟨rfl, ex⟩
    obtain rfl : x = V.int i := ex.trans (congrArg V.int (Int.zero_add _))
    have hi' : i < ms.length := by
      rw [List.length_map] at hi
      omega
    refine ⟨_, rfl, _, rfl, p, i, ms, rfl, SqL.of (s2 _ _ hp), by omega, fun b H3 s3 nb B3 => ?_⟩
    refine ⟨_, rfl, b, 0, 14, rfl, B3, by decide, by decide, by decide, fun wl ws H4 s4 B4 nw hw wl14 wd wn => ?_⟩
    have wb : wl ≠ b := fun z => by
      obtain ⟨u, hu⟩ := B3.get
      rw [z, hu] at nw
      cases nw
    have hw4 : rm b H4 wl = some (.lst (ws.map V.str)) := by rw [rm_at wb]; exact hw
    refine ⟨10, rfl, by decide, by decide, for_it walk_range
      (fun j σ H' => But b H3 H' ∧ Box H' b (12 + 430 * j) ∧ rm b H' wl = some (.lst (ws.map V.str)) ∧ ∃ o5, σ = [some (.ref a), some (.ref p), some (.int i), some (.ref b), some (.ref wl), o5])
      ⟨s4, B4, hw4, _, rfl⟩ (fun _ _ _ _ _ => trivial) ?_ ?_⟩
    · rintro j x σ _ H5 hj ⟨s5, B5, hw5, o5, rfl⟩ ⟨rfl, ex⟩
      have hj' : j < 10 := hj
      refine ⟨_, rfl, _, rfl, b, wl, _, ws, rfl, B5, by omega, hw5, wl14, wd, wn, fun H6 s6 B6 => ⟨_, rfl, iteF ?_⟩⟩
      exact ⟨s5.trans s6, B6.le (by omega), rm_but s6 _ _ hw5, _, rfl⟩
    · rintro σ H5 ⟨s5, B5, hw5, o5, rfl⟩
      refine ⟨fun c o h => ?_, _, _, _, _, rfl⟩
      exact s5 _ _ (ne_of_none (s2 _ _ h) nb) (s3 _ _ (s2 _ _ h))
  · rintro σ H2 ⟨s2, o2, o3, o4, o5, rfl⟩
    exact q _
end
end Fd

set_option Elab.async false
set_option linter.all false
set_option maxRecDepth 100000
set_option maxHeartbeats 4000000
namespace Fd
open PySem PySem.Spec PyProof.Rows L2
section
variable {P : Program} {w : World} {K : PySem.W.Frag} {mg : Str → Option Value} {base : Heap}
/-- one entry of a def, by its body there -/
theorem enter {x qual : Str} {st : Stmt} {f : Addr} {fd : FuncData} {N ps : List Str} {k : Nat} {A : Around} {outer : List Env} {s : Shared} {H : Hp} {args : Args} {us : List Value} {vs : List V} {Q : VK} {E : XK} (F : Fun K x qual st f fd) (S : FnScope N ps (defScope st))
    (hl : vs.length = ps.length) (hr : Room (k + 1) A) (e0 : Env0 P w K mg base A outer s H) (hb : BindsTo s fd args (ps.zip us)) (r : Vals vs us)
    (body : ∀ cdv : Value, Room k (A.deeper (envOfC qual (defScope st) s.heap.objs.size f cdv)) → ∃ t, PSs (cxOf CX0 P w K mg base N qual (defScope st) f cdv A outer s H E).nox (defBody st) t ∧ t { nx := fun _ H' => Q .non H', rt := Q } (L2.start N vs) H) :
    codeAny (model P w) A (.call (.ref f) args) (CR CX0 outer P w H s Q E) s := by
  obtain ⟨oc, od, kV, doc, pm, an, cdv, ct, osl, rfl, lk, hcd⟩ := F.ex
  obtain ⟨t, ht, hq⟩ := body cdv (hr.deeper _)
  have old : ∀ b o, base.get? b = some o → s.heap.get? b = some o := fun b o e => (e0.bs b o e).1
  refine codeAny_call_function hr.depth ((e0.mod.kin.keeps old) _ _ lk) rfl S.co S.gen rfl (PySem.W.codeRec_of (e0.mod.kin.keeps old) hcd) (hb _ _ _ _ (wpAny_newFunctionEnv_cells S.kind (fun y hy => ?_) fun env he s1 x => ?_))
  · exact (S.par y.1 (List.of_mem_zip (show (y.1, y.2) ∈ ps.zip us from hy)).1).elim .inl fun z => .inr ⟨z, PySem.W.cellsFrom_some _ _ _ (.inl z)⟩
  subst he
  refine ⟨(e0.mod.nolimit.keeps old).keeps x.toInCall.keep, codeAny_func (wpAny_mono (ht.nox.run [] s1 _ H _ (inv_start S hr.hd e0 hl r x) hq) (fun fl s' hs => ?_) fun _ _ hs => hs)⟩
  cases fl with
  | ret u =>
    obtain ⟨v, _, H', J, rv, q⟩ := hs
    exact ⟨v, H', J.os, J.bare, J.base, J.hok, rv, q⟩
  | next =>
    obtain ⟨_, H', J, q⟩ := hs
    exact ⟨.non, H', J.os, J.bare, J.base, J.hok, (rfl : RelV .non Value.none), q⟩
  | brk => obtain ⟨_, _, _, q⟩ := hs; exact q.elim
  | cont => obtain ⟨_, _, _, q⟩ := hs; exact q.elim
/-- the tracked heap at the law's entry: nothing, or the script alone -/
structure Entry (P : Program) (w : World) (K : PySem.W.Frag) (a : Addr) (h : Heap) (H : Hp) : Prop where
  only : Only H
  ok : HOk P w H h
  one : ∀ b, H b ≠ none → b = a
  free : H a ≠ none → K.lookup a = none
theorem Entry.none_of {a b : Addr} {h : Heap} {H : Hp} {o : Obj} (e : Entry P w K a h H) (hb : K.lookup b = some o) : H b = none := by
  cases z : H b with
  | none => rfl
  | some u =>
    have n : H b ≠ none := by rw [z]; exact nofun
    obtain rfl := e.one b n
    rw [e.free n] at hb
    cases hb
theorem Entry.dict {a b : Addr} {h : Heap} {H : Hp} {vs : Array Value} {o : Obj} {es : Array DictEntry} {ep n : Nat} (e : Entry P w K a h H) (ha : h.get? a = some { cls := .type "list", data := .seq vs n }) (hb : h.get? b = some o) (hd : o.data = .dict es ep) : H b = none := by
  cases z : H b with
  | none => rfl
  | some u =>
    obtain rfl := e.one b (by rw [z]; exact nofun)
    rw [ha] at hb
    cases hb
    cases hd
theorem entry_of {a : Addr} {h : Heap} {vs : List Value} {ns : List Int} (KX : K.In h) (ha : h.get? a = some { cls := .type "list", data := .seq vs.toArray }) (hi : IntsAre vs ns) (hl : ns.length ≤ sizeLine) : ∃ H, Entry P w K a h H ∧ SqL K H a (ns.map V.int) := by
  cases hk : K.lookup a with
  | some o =>
    have e := KX a o hk
    rw [ha] at e
    cases e
    exact ⟨fun _ => none, ⟨fun _ => .inl rfl, fun b u z => (nomatch (show (none : Option HO) = some u from z)), fun b z => absurd rfl z, fun z => absurd rfl z⟩,
      .inr ⟨_, vs.toArray, _, hk, rfl, rfl, rfl, by rw [List.size_toArray, hi.length]; exact hl, by simpa using vals_ints hi⟩⟩
  | none =>
    let o : HO := .frz { cls := .type "list", data := .seq vs.toArray } (.lst (ns.map V.int))
    have u1 : upd (fun _ => none) a o a = some o := upd_same
    have un : ∀ {b}, b ≠ a → upd (fun _ => none) a o b = none := fun n => upd_ne n
    refine ⟨upd (fun _ => none) a o, ⟨fun b => ?_, fun b u z => ?_, fun b n => ?_, fun _ => hk⟩, .inl (.inr ⟨_, u1⟩)⟩
    · by_cases e : b = a
      · subst e; exact .inr ⟨_, _, u1⟩
      · exact .inl (un e)
    · by_cases e : b = a
      · subst e
        rw [u1] at z
        cases z
        exact ⟨ha, by rw [List.length_map]; exact hl, vs, _, vals_ints hi, ha⟩
      · rw [un e] at z; cases z
    · exact Classical.byContradiction fun e => n (un e)
theorem law_at {mb : Str → Option Value} {k : Nat} {fa a : Addr} {fd : FuncData} {x : Str} {st : Stmt} {N : List Str} {nm : Str} {s₁ : Shared} {vs : List Value} {ns : List Int} (F : Fun K nm nm st fa fd) (S : FnScope N [x] (defScope st))
    (KX : K.In s₁.heap) (hns : s₁.heap.Ns mainGlobals mg) (hb : s₁.heap.Ns builtinsNs mb) (hbb : ∀ x : Str, x ≠ "__name__" → mb x = bootBuiltins x) (hlim : s₁.heap.NoLimit) (hg : s₁.gens = #[])
    (ha : s₁.heap.get? a = some { cls := .type "list", data := .seq vs.toArray }) (hi : IntsAre vs ns) (hl : ns.length ≤ sizeLine) (hr : Room (k + 1) callerA) (hbind : ∀ (s : Shared) (u : Value), BindsTo s fd ⟨[u], []⟩ [(x, u)])
    (body : ∀ (base : Heap) (cdv : Value) (H : Hp), K.In base → base.Ns mainGlobals mg → SqL K H a (ns.map V.int) → Room k (callerA.deeper (envOfC nm (defScope st) s₁.heap.objs.size fa cdv)) →
      ∃ t, PSs (cxOf CX0 P w K mg base N nm (defScope st) fa cdv callerA [] s₁ H fun _ _ _ => False).nox (defBody st) t ∧ t { nx := fun _ _ => V.non = .bl true, rt := fun v _ => v = .bl true } (L2.start N [.ref a]) H) :
    codeAny (model P w) callerA (.call (.ref fa) ⟨[.ref a], []⟩) (fun r s' => r = .ok (.ret (.bool true)) ∧ OldK s₁.heap s'.heap ∧ s'.os = s₁.os ∧ AllBare s'.gens) s₁ := by
  obtain ⟨H, en, hS⟩ := entry_of (P := P) (w := w) KX ha hi hl
  have kb : K.In (hidT s₁.heap H) := fun b o e => hidT_get (KX b o e) (en.none_of e)
  have nb : ∀ {b : Addr} {m : Str → Option Value}, s₁.heap.Ns b m → (hidT s₁.heap H).Ns b m := fun ⟨o, es, ep, e, d, r⟩ => ⟨o, es, ep, hidT_get e (en.dict ha e d), d, r⟩
  have lim : (hidT s₁.heap H).NoLimit := by
    obtain ⟨mc, h1, h2⟩ := hlim
    exact ⟨mc, nb h1, h2⟩
  have e0 : Env0 P w K mg (hidT s₁.heap H) callerA [] s₁ H := ⟨rfl, ⟨kb, nb hns, ⟨mb, nb hb, hbb⟩, lim⟩, fun b o e => of_hidT e, Nat.le_of_eq (hidT_size _ _), trivial, fun b hb => absurd (show b ∈ ([] : List Addr) from hb) (by simp), en.ok, .of_eq hg⟩
  refine codeAny_mono (enter (vs := [.ref a]) (us := [.ref a]) (Q := fun v _ => v = .bl true) (E := fun _ _ _ => False) F S rfl hr e0 (hbind s₁ (.ref a)) (.cons rfl .nil) fun cdv hr' => body _ cdv H kb (nb hns) hS hr') fun r s' h => ?_
  cases r with
  | error e => exact h.elim
  | ok fl =>
    cases fl with
    | ret u =>
      obtain ⟨v, H', os, bare, un, ok', rv, q⟩ := h
      obtain rfl : v = .bl true := q
      obtain rfl : u = Value.bool true := rv
      refine ⟨rfl, OldK.of_keep fun b o e => ?_, os, bare⟩
      rcases en.only b with z | ⟨ob, xs, z⟩
      · exact un.keep b o e z (fun y => absurd (show b ∈ ([] : List Addr) from y) (by simp)) (by simp)
      · obtain ⟨e1, _⟩ := en.ok b _ z
        obtain ⟨e2, _⟩ := ok' b _ (un.frzs b ob _ z)
        rw [e] at e1
        cases e1
        exact e2
    | next => exact h.elim
    | brk => exact h.elim
    | cont => exact h.elim
end
theorem walk_at {l : PySem.W.OpenLaw} {n : Nat} {q : Program} {loose : List Str} {XP : (Str → Option Value) → Heap → Prop} {YP : World → Heap → Prop} {d : DefRec} {K : Params → PySem.W.Frag} (hn : l.most = some n) (hn2 : n ≤ 63) (hdf : d.params.defaults = [])
    (hY : ∀ (w : World) (h : Heap), YP w h → (K w.params).In h) (hd : d.name = "law")
    (F : ∀ (w : World) (mg : Str → Option Value) (fa : Addr) (h : Heap), (K w.params).In h → h.Ns mainGlobals mg → mg "law" = some (.ref fa) →
      ∃ fd : FuncData, Fun (K w.params) "law" "law" sLaw fa fd ∧ (∀ (s : Shared) (v : Value), BindsTo s fd ⟨[v], []⟩ [("_law_script", v)]) ∧ ∃ C fv : Addr, ∀ base : Heap, (K w.params).In base → base.Ns mainGlobals mg → LawD l.prog w (K w.params) mg base C fv 18) :
    PySem.W.WalkO q loose XP YP l.row.toRowW d [] (fun f vs => PySem.call f vs) := by
  refine Att.attach_call hn hdf fun w s₀ s₁ mg mb fa o pm cd doc a vs ns G Y ho hd' hcd hmg hobj hints hlen hg => ?_
  rw [hd] at hmg
  obtain ⟨fd, hF, hb, C, fv, hL⟩ := F w mg fa _ (hY w _ Y) G.T.g hmg
  exact law_at (k := 18) (x := "_law_script") hF scLaw (hY w _ Y) G.T.g G.T.b G.T.builtins G.T.nolimit hg hobj hints (Nat.le_trans (Nat.le_trans hlen hn2) (by decide)) ⟨rfl, by decide, by decide⟩ hb
    fun base cdv H kb nb hS hr => law_body (hL base kb nb) cdv callerA [] s₁ H [.ref a] (fun v _ => v = .bl true) (fun _ _ _ => False) rfl hr ⟨a, ns, rfl, hS, Nat.le_trans hlen hn2, fun _ => rfl⟩
end Fd

open PySem PySem.W PyProof.Rows
set_option Elab.async false
set_option linter.all false
set_option maxRecDepth 100000
set_option maxHeartbeats 8000000
namespace Fd
open PySem PySem.Spec PyProof.Rows L2
theorem kit_rt {K : PySem.W.Frag} {C : Addr} (h : PySem.W.subIn K (.ref C) (.type "RuntimeError") = some true) : PySem.W.kitOne K (.ref C) (.type "RuntimeError") = some true := by
  unfold PySem.W.kitOne
  rw [if_neg (by intro z; exact nomatch (beq_iff_eq.mp z))]
  show (if PySem.W.kitMeta "RuntimeError" = true then PySem.W.subIn K (.ref C) (.type "RuntimeError") else none) = some true
  rw [if_pos (by decide +kernel), h]
def pick (a b c d e : Addr) : BOp → Addr
  | .plus => a | .minus => b | .by_ => c | .over => d | .rest => e
theorem all_mk {l : PySem.W.OpenLaw} {w : World} {K : PySem.W.Frag} {h : Heap} {mg : Str → Option Value} {fa C fI sp sm f1 f2 f3 f4 f5 f6 f7 f8 f9 f10 f11 f12 f13 f14 f15 f16 f17 f18 f19 f20 f21 f22 f23 f24 f25 f26 : Addr} (X : K.In h) (G : h.Ns mainGlobals mg) (hfa : mg "law" = some (.ref fa))
    {od0 an0 od1 an1 od2 an2 od3 an3 od4 an4 od5 an5 od6 an6 od7 an7 od8 an8 od9 an9 od10 an10 od11 an11 od12 an12 od13 an13 od14 an14 od15 an15 od16 an16 od17 an17 od18 an18 od19 an19 od20 an20 od21 an21 od22 an22 od23 an23 od24 an24 od25 an25 od26 an26 : Option Addr} {sl0 sl1 sl2 sl3 sl4 sl5 sl6 sl7 sl8 sl9 sl10 sl11 sl12 sl13 sl14 sl15 sl16 sl17 sl18 sl19 sl20 sl21 sl22 sl23 sl24 sl25 sl26 slP : Array (Option Value)} {oc0 dc0 pm0 cd0 ct0 oc1 kV1 dc1 pm1 cd1 ct1 oc2 kV2 dc2 pm2 cd2 ct2 oc3 kV3 dc3 pm3 cd3 ct3 oc4 kV4 dc4 pm4 cd4 ct4 oc5 kV5 dc5 pm5 cd5 ct5 oc6 kV6 dc6 pm6 cd6 ct6 oc7 kV7 dc7 pm7 cd7 ct7 oc8 kV8 dc8 pm8 cd8 ct8 oc9 kV9 dc9 pm9 cd9 ct9 oc10 kV10 dc10 pm10 cd10 ct10 oc11 kV11 dc11 pm11 cd11 ct11 oc12 kV12 dc12 pm12 cd12 ct12 oc13 kV13 dc13 pm13 cd13 ct13 oc14 kV14 dc14 pm14 cd14 ct14 oc15 kV15 dc15 pm15 cd15 ct15 oc16 kV16 dc16 pm16 cd16 ct16 oc17 kV17 dc17 pm17 cd17 ct17 oc18 kV18 dc18 pm18 cd18 ct18 oc19 kV19 dc19 pm19 cd19 ct19 oc20 kV20 dc20 pm20 cd20 ct20 oc21 kV21 dc21 pm21 cd21 ct21 oc22 kV22 dc22 pm22 cd22 ct22 oc23 kV23 dc23 pm23 cd23 ct23 oc24 kV24 dc24 pm24 cd24 ct24 oc25 kV25 dc25 pm25 cd25 ct25 oc26 kV26 dc26 pm26 cd26 ct26 : Value}
    {nm q : Str} {N : Addr} {bs : List Value} {sn : List Str} {sub : List Value} {ab : Bool} {col : Option Bool} {dd : Option Addr} {m0 m1 m2 m3 m5 : Option Value} {es : Array DictEntry} {nS nP : Nat} {its : Array Value} {t1 t2 : Tok}
    (a1 : PySem.W.nsIn K mainGlobals "is_number" = some (some (.ref f1)))
    (l1 : K.lookup f1 = some ⟨oc1, od1, .func (PySem.W.fnOf "is_number" "is_number" (defArgs sIsNum) (defBody sIsNum) (defScope sIsNum) .none kV1 dc1 pm1 an1 cd1 ct1), sl1⟩)
    (c1 : PySem.W.codeIn K cd1 "is_number" = true)
    (k1 : PySem.W.keepIn K (.ref f1) = true)
    (a2 : PySem.W.nsIn K mainGlobals "is_value" = some (some (.ref f2)))
    (l2 : K.lookup f2 = some ⟨oc2, od2, .func (PySem.W.fnOf "is_value" "is_value" (defArgs sIsVal) (defBody sIsVal) (defScope sIsVal) .none kV2 dc2 pm2 an2 cd2 ct2), sl2⟩)
    (c2 : PySem.W.codeIn K cd2 "is_value" = true)
    (k2 : PySem.W.keepIn K (.ref f2) = true)
    (a3 : PySem.W.nsIn K mainGlobals "plus" = some (some (.ref f3)))
    (l3 : K.lookup f3 = some ⟨oc3, od3, .func (PySem.W.fnOf "plus" "plus" (defArgs sPlus) (defBody sPlus) (defScope sPlus) .none kV3 dc3 pm3 an3 cd3 ct3), sl3⟩)
    (c3 : PySem.W.codeIn K cd3 "plus" = true)
    (k3 : PySem.W.keepIn K (.ref f3) = true)
    (a4 : PySem.W.nsIn K mainGlobals "minus" = some (some (.ref f4)))
    (l4 : K.lookup f4 = some ⟨oc4, od4, .func (PySem.W.fnOf "minus" "minus" (defArgs sMinus) (defBody sMinus) (defScope sMinus) .none kV4 dc4 pm4 an4 cd4 ct4), sl4⟩)
    (c4 : PySem.W.codeIn K cd4 "minus" = true)
    (k4 : PySem.W.keepIn K (.ref f4) = true)
    (a5 : PySem.W.nsIn K mainGlobals "by" = some (some (.ref f5)))
    (l5 : K.lookup f5 = some ⟨oc5, od5, .func (PySem.W.fnOf "by" "by" (defArgs sBy) (defBody sBy) (defScope sBy) .none kV5 dc5 pm5 an5 cd5 ct5), sl5⟩)
    (c5 : PySem.W.codeIn K cd5 "by" = true)
    (k5 : PySem.W.keepIn K (.ref f5) = true)
    (a6 : PySem.W.nsIn K mainGlobals "over" = some (some (.ref f6)))
    (l6 : K.lookup f6 = some ⟨oc6, od6, .func (PySem.W.fnOf "over" "over" (defArgs sOver) (defBody sOver) (defScope sOver) .none kV6 dc6 pm6 an6 cd6 ct6), sl6⟩)
    (c6 : PySem.W.codeIn K cd6 "over" = true)
    (k6 : PySem.W.keepIn K (.ref f6) = true)
    (a7 : PySem.W.nsIn K mainGlobals "rest" = some (some (.ref f7)))
    (l7 : K.lookup f7 = some ⟨oc7, od7, .func (PySem.W.fnOf "rest" "rest" (defArgs sRest) (defBody sRest) (defScope sRest) .none kV7 dc7 pm7 an7 cd7 ct7), sl7⟩)
    (c7 : PySem.W.codeIn K cd7 "rest" = true)
    (k7 : PySem.W.keepIn K (.ref f7) = true)
    (a8 : PySem.W.nsIn K mainGlobals "value_of" = some (some (.ref f8)))
    (l8 : K.lookup f8 = some ⟨oc8, od8, .func (PySem.W.fnOf "value_of" "value_of" (defArgs sVal) (defBody sVal) (defScope sVal) .none kV8 dc8 pm8 an8 cd8 ct8), sl8⟩)
    (c8 : PySem.W.codeIn K cd8 "value_of" = true)
    (k8 : PySem.W.keepIn K (.ref f8) = true)
    (a9 : PySem.W.nsIn K mainGlobals "outcome" = some (some (.ref f9)))
    (l9 : K.lookup f9 = some ⟨oc9, od9, .func (PySem.W.fnOf "outcome" "outcome" (defArgs sOut) (defBody sOut) (defScope sOut) .none kV9 dc9 pm9 an9 cd9 ct9), sl9⟩)
    (c9 : PySem.W.codeIn K cd9 "outcome" = true)
    (k9 : PySem.W.keepIn K (.ref f9) = true)
    (a10 : PySem.W.nsIn K mainGlobals "first_of" = some (some (.ref f10)))
    (l10 : K.lookup f10 = some ⟨oc10, od10, .func (PySem.W.fnOf "first_of" "first_of" (defArgs sFirst) (defBody sFirst) (defScope sFirst) .none kV10 dc10 pm10 an10 cd10 ct10), sl10⟩)
    (c10 : PySem.W.codeIn K cd10 "first_of" = true)
    (k10 : PySem.W.keepIn K (.ref f10) = true)
    (a11 : PySem.W.nsIn K mainGlobals "place_in" = some (some (.ref f11)))
    (l11 : K.lookup f11 = some ⟨oc11, od11, .func (PySem.W.fnOf "place_in" "place_in" (defArgs sPlace) (defBody sPlace) (defScope sPlace) .none kV11 dc11 pm11 an11 cd11 ct11), sl11⟩)
    (c11 : PySem.W.codeIn K cd11 "place_in" = true)
    (k11 : PySem.W.keepIn K (.ref f11) = true)
    (a12 : PySem.W.nsIn K mainGlobals "holds" = some (some (.ref f12)))
    (l12 : K.lookup f12 = some ⟨oc12, od12, .func (PySem.W.fnOf "holds" "holds" (defArgs sHolds) (defBody sHolds) (defScope sHolds) .none kV12 dc12 pm12 an12 cd12 ct12), sl12⟩)
    (c12 : PySem.W.codeIn K cd12 "holds" = true)
    (k12 : PySem.W.keepIn K (.ref f12) = true)
    (a13 : PySem.W.nsIn K mainGlobals "_law_folded" = some (some (.ref f13)))
    (l13 : K.lookup f13 = some ⟨oc13, od13, .func (PySem.W.fnOf "_law_folded" "_law_folded" (defArgs sFolded) (defBody sFolded) (defScope sFolded) .none kV13 dc13 pm13 an13 cd13 ct13), sl13⟩)
    (c13 : PySem.W.codeIn K cd13 "_law_folded" = true)
    (k13 : PySem.W.keepIn K (.ref f13) = true)
    (a14 : PySem.W.nsIn K mainGlobals "_law_draws" = some (some (.ref f14)))
    (l14 : K.lookup f14 = some ⟨oc14, od14, .func (PySem.W.fnOf "_law_draws" "_law_draws" (defArgs sDraws) (defBody sDraws) (defScope sDraws) .none kV14 dc14 pm14 an14 cd14 ct14), sl14⟩)
    (c14 : PySem.W.codeIn K cd14 "_law_draws" = true)
    (k14 : PySem.W.keepIn K (.ref f14) = true)
    (a15 : PySem.W.nsIn K mainGlobals "_law_take" = some (some (.ref f15)))
    (l15 : K.lookup f15 = some ⟨oc15, od15, .func (PySem.W.fnOf "_law_take" "_law_take" (defArgs sTake) (defBody sTake) (defScope sTake) .none kV15 dc15 pm15 an15 cd15 ct15), sl15⟩)
    (c15 : PySem.W.codeIn K cd15 "_law_take" = true)
    (k15 : PySem.W.keepIn K (.ref f15) = true)
    (a16 : PySem.W.nsIn K mainGlobals "_law_pick" = some (some (.ref f16)))
    (l16 : K.lookup f16 = some ⟨oc16, od16, .func (PySem.W.fnOf "_law_pick" "_law_pick" (defArgs sPick) (defBody sPick) (defScope sPick) .none kV16 dc16 pm16 an16 cd16 ct16), sl16⟩)
    (c16 : PySem.W.codeIn K cd16 "_law_pick" = true)
    (k16 : PySem.W.keepIn K (.ref f16) = true)
    (a17 : PySem.W.nsIn K mainGlobals "_law_names" = some (some (.ref f17)))
    (l17 : K.lookup f17 = some ⟨oc17, od17, .func (PySem.W.fnOf "_law_names" "_law_names" (defArgs sNames) (defBody sNames) (defScope sNames) .none kV17 dc17 pm17 an17 cd17 ct17), sl17⟩)
    (c17 : PySem.W.codeIn K cd17 "_law_names" = true)
    (k17 : PySem.W.keepIn K (.ref f17) = true)
    (a18 : PySem.W.nsIn K mainGlobals "_law_a_value" = some (some (.ref f18)))
    (l18 : K.lookup f18 = some ⟨oc18, od18, .func (PySem.W.fnOf "_law_a_value" "_law_a_value" (defArgs sAValue) (defBody sAValue) (defScope sAValue) .none kV18 dc18 pm18 an18 cd18 ct18), sl18⟩)
    (c18 : PySem.W.codeIn K cd18 "_law_a_value" = true)
    (k18 : PySem.W.keepIn K (.ref f18) = true)
    (a19 : PySem.W.nsIn K mainGlobals "_law_a_look" = some (some (.ref f19)))
    (l19 : K.lookup f19 = some ⟨oc19, od19, .func (PySem.W.fnOf "_law_a_look" "_law_a_look" (defArgs sALook) (defBody sALook) (defScope sALook) .none kV19 dc19 pm19 an19 cd19 ct19), sl19⟩)
    (c19 : PySem.W.codeIn K cd19 "_law_a_look" = true)
    (k19 : PySem.W.keepIn K (.ref f19) = true)
    (a20 : PySem.W.nsIn K mainGlobals "_law_a_test" = some (some (.ref f20)))
    (l20 : K.lookup f20 = some ⟨oc20, od20, .func (PySem.W.fnOf "_law_a_test" "_law_a_test" (defArgs sATest) (defBody sATest) (defScope sATest) .none kV20 dc20 pm20 an20 cd20 ct20), sl20⟩)
    (c20 : PySem.W.codeIn K cd20 "_law_a_test" = true)
    (k20 : PySem.W.keepIn K (.ref f20) = true)
    (a21 : PySem.W.nsIn K mainGlobals "_law_some_eyes" = some (some (.ref f21)))
    (l21 : K.lookup f21 = some ⟨oc21, od21, .func (PySem.W.fnOf "_law_some_eyes" "_law_some_eyes" (defArgs sEyes) (defBody sEyes) (defScope sEyes) .none kV21 dc21 pm21 an21 cd21 ct21), sl21⟩)
    (c21 : PySem.W.codeIn K cd21 "_law_some_eyes" = true)
    (k21 : PySem.W.keepIn K (.ref f21) = true)
    (a22 : PySem.W.nsIn K mainGlobals "_law_told_of" = some (some (.ref f22)))
    (l22 : K.lookup f22 = some ⟨oc22, od22, .func (PySem.W.fnOf "_law_told_of" "_law_told_of" (defArgs sTold) (defBody sTold) (defScope sTold) .none kV22 dc22 pm22 an22 cd22 ct22), sl22⟩)
    (c22 : PySem.W.codeIn K cd22 "_law_told_of" = true)
    (k22 : PySem.W.keepIn K (.ref f22) = true)
    (a23 : PySem.W.nsIn K mainGlobals "_law_called" = some (some (.ref f23)))
    (l23 : K.lookup f23 = some ⟨oc23, od23, .func (PySem.W.fnOf "_law_called" "_law_called" (defArgs sCalled) (defBody sCalled) (defScope sCalled) .none kV23 dc23 pm23 an23 cd23 ct23), sl23⟩)
    (c23 : PySem.W.codeIn K cd23 "_law_called" = true)
    (k23 : PySem.W.keepIn K (.ref f23) = true)
    (a24 : PySem.W.nsIn K mainGlobals "_law_right" = some (some (.ref f24)))
    (l24 : K.lookup f24 = some ⟨oc24, od24, .func (PySem.W.fnOf "_law_right" "_law_right" (defArgs sRight) (defBody sRight) (defScope sRight) .none kV24 dc24 pm24 an24 cd24 ct24), sl24⟩)
    (c24 : PySem.W.codeIn K cd24 "_law_right" = true)
    (k24 : PySem.W.keepIn K (.ref f24) = true)
    (a25 : PySem.W.nsIn K mainGlobals "_law_renamed" = some (some (.ref f25)))
    (l25 : K.lookup f25 = some ⟨oc25, od25, .func (PySem.W.fnOf "_law_renamed" "_law_renamed" (defArgs sRenamed) (defBody sRenamed) (defScope sRenamed) .none kV25 dc25 pm25 an25 cd25 ct25), sl25⟩)
    (c25 : PySem.W.codeIn K cd25 "_law_renamed" = true)
    (k25 : PySem.W.keepIn K (.ref f25) = true)
    (a26 : PySem.W.nsIn K mainGlobals "law" = some (some (.ref f26)))
    (l26 : K.lookup f26 = some ⟨oc26, od26, .func (PySem.W.fnOf "law" "law" (defArgs sLaw) (defBody sLaw) (defScope sLaw) .none kV26 dc26 pm26 an26 cd26 ct26), sl26⟩)
    (c26 : PySem.W.codeIn K cd26 "law" = true)
    (k26 : PySem.W.keepIn K (.ref f26) = true)
    (z_len : PySem.W.nsIn K mainGlobals "len" = some none)
    (z_abs : PySem.W.nsIn K mainGlobals "abs" = some none)
    (z_int : PySem.W.nsIn K mainGlobals "int" = some none)
    (z_divmod : PySem.W.nsIn K mainGlobals "divmod" = some none)
    (z_list : PySem.W.nsIn K mainGlobals "list" = some none)
    (z_enumerate : PySem.W.nsIn K mainGlobals "enumerate" = some none)
    (z_isinstance : PySem.W.nsIn K mainGlobals "isinstance" = some none)
    (z_tuple : PySem.W.nsIn K mainGlobals "tuple" = some none)
    (z_bool : PySem.W.nsIn K mainGlobals "bool" = some none)
    (z_range : PySem.W.nsIn K mainGlobals "range" = some none)
    (z_RuntimeError : PySem.W.nsIn K mainGlobals "RuntimeError" = some none)
    (aLV : PySem.W.nsIn K mainGlobals "LEAST_VALUE" = some (some (.int (-1000000) t1)))
    (aMV : PySem.W.nsIn K mainGlobals "MOST_VALUE" = some (some (.int 1000000 t2)))
    (aP : PySem.W.nsIn K mainGlobals "SPOT_WORDS" = some (some (.ref sp)))
    (lP : K.lookup sp = some ⟨.type "tuple", none, .seq its nP, slP⟩)
    (vP : Vals (spotWords.map V.str) its.toList)
    (gP : its.size ≤ sizeLine)
    (aS : PySem.W.nsIn K mainGlobals "SUMS" = some (some (.ref sm)))
    (lS : K.lookup sm = some ⟨.type "dict", none, .dict es nS, #[]⟩)
    (kS : PySem.W.KeysLit w.params es.toList)
    (n_plus : PySem.W.nsIn K sm "plus" = some (some (.ref f3)))
    (n_minus : PySem.W.nsIn K sm "minus" = some (some (.ref f4)))
    (n_by : PySem.W.nsIn K sm "by" = some (some (.ref f5)))
    (n_over : PySem.W.nsIn K sm "over" = some (some (.ref f6)))
    (n_rest : PySem.W.nsIn K sm "rest" = some (some (.ref f7)))
    (aC : PySem.W.nsIn K mainGlobals "Fell" = some (some (.ref C)))
    (xL : K.lookup C = some (excClassObj nm q C N bs [.type "RuntimeError", .type "Exception", .type "BaseException", .type "object"] true sn sub ab col dd m0 m1 m2 m3 m5 "RuntimeError.__new__"))
    (sa : PySem.W.findIn K (.ref C) "__setattr__" = some (some (.builtin "object.__setattr__")))
    (ga : PySem.W.findIn K (.ref C) "__getattribute__" = some (some (.builtin "BaseException.__getattribute__")))
    (gg : PySem.W.findIn K (.ref C) "__getattr__" = some none)
    (nb : PySem.W.findIn K (.ref C) "word" = some none)
    (ac : PySem.W.findIn K (.ref C) "__class__" = some (some (.builtin "object.__class__")))
    (sg : PySem.W.specialIn K (.builtin "object.__class__") "__get__" = some (some (.builtin "getset_descriptor.__get__")))
    (tk : PySem.W.takesIn K (.builtin "object.__class__") = some true)
    (mo : PySem.W.mroIn K C (.type "object") = some true)
    (sr : PySem.W.subIn K (.ref C) (.type "RuntimeError") = some true)
    (aI : PySem.W.findIn K (.ref C) "__init__" = some (some (.ref fI)))
    (tI : PySem.W.typeIn K (.ref fI) = some (.type "function"))
    (lI : K.lookup fI = some ⟨oc0, od0, .func (PySem.W.fnOf "__init__" "Fell.__init__" (PySem.FellX.iA ⟨4, 17, 4, 21⟩ ⟨4, 23, 4, 27⟩) (PySem.FellX.iB ⟨5, 8, 5, 12⟩ ⟨5, 8, 5, 17⟩ ⟨5, 20, 5, 24⟩ ⟨5, 8, 5, 24⟩) PySem.FellX.iS .none .none dc0 pm0 an0 cd0 ct0), sl0⟩)
    (cI : PySem.W.codeIn K cd0 "Fell.__init__" = true)
    (kC : PySem.W.keepIn K (.ref C) = true)
    (eC : PySem.W.subIn K (.ref C) (.type "BaseException") = some true)
    (tC : PySem.W.typeIn K (.ref C) = some (.type "type"))
    (hC : PySem.W.hasDictIn K C = true)
    (sC : PySem.W.subIn K (.ref C) (.ref C) = some true)
    : ∃ fd : FuncData, Fun K "law" "law" sLaw fa fd ∧ (∀ (s : Shared) (v : Value), BindsTo s fd ⟨[v], []⟩ [("_law_script", v)]) ∧ ∃ C fv : Addr, ∀ base : Heap, K.In base → base.Ns mainGlobals mg → LawD l.prog w K mg base C fv 18 := by
  have e := hfa.symm.trans (PySem.W.mg_of X G a26)
  cases e
  have T : PySem.FellX.FellTxt K mg C fI :=
    { gC := PySem.W.mg_of X G aC, cls := ⟨nm, q, N, bs, _, sn, sub, ab, col, dd, m0, m1, m2, m3, m5, xL, rfl⟩, sa := sa, ga := ga, gg := gg, noN := nb, iC := aI, tC := tI, kC := kC, exC := eC, tyC := tC, hdC := hC,
      te := PySem.W.exm_ref eC hC tC sC, fn := ⟨_, _, _, _, _, _, _, _, _, _, _, _, _, _, lI, cI⟩ }
  have EC : ErrC K C := { ga := ga, gg := gg, exC := eC, hdC := hC, ac := ac, sg := sg, tk := tk, mo := mo }
  have F_is_number := fun_mk (st := sIsNum) l1 c1 k1
  have D_is_number : Df K mg "is_number" sIsNum ["thing"] f1 _ := ⟨F_is_number, PySem.W.mg_of X G a1, F_is_number.binds fun _ _ _ _ _ _ us hl => match us, hl with | [_], _ => rfl⟩
  have F_is_value := fun_mk (st := sIsVal) l2 c2 k2
  have D_is_value : Df K mg "is_value" sIsVal ["thing"] f2 _ := ⟨F_is_value, PySem.W.mg_of X G a2, F_is_value.binds fun _ _ _ _ _ _ us hl => match us, hl with | [_], _ => rfl⟩
  have F_plus := fun_mk (st := sPlus) l3 c3 k3
  have D_plus : Df K mg "plus" sPlus ["first", "second"] f3 _ := ⟨F_plus, PySem.W.mg_of X G a3, F_plus.binds fun _ _ _ _ _ _ us hl => match us, hl with | [_, _], _ => rfl⟩
  have F_minus := fun_mk (st := sMinus) l4 c4 k4
  have D_minus : Df K mg "minus" sMinus ["first", "second"] f4 _ := ⟨F_minus, PySem.W.mg_of X G a4, F_minus.binds fun _ _ _ _ _ _ us hl => match us, hl with | [_, _], _ => rfl⟩
  have F_by := fun_mk (st := sBy) l5 c5 k5
  have D_by : Df K mg "by" sBy ["first", "second"] f5 _ := ⟨F_by, PySem.W.mg_of X G a5, F_by.binds fun _ _ _ _ _ _ us hl => match us, hl with | [_, _], _ => rfl⟩
  have F_over := fun_mk (st := sOver) l6 c6 k6
  have D_over : Df K mg "over" sOver ["first", "second"] f6 _ := ⟨F_over, PySem.W.mg_of X G a6, F_over.binds fun _ _ _ _ _ _ us hl => match us, hl with | [_, _], _ => rfl⟩
  have F_rest := fun_mk (st := sRest) l7 c7 k7
  have D_rest : Df K mg "rest" sRest ["first", "second"] f7 _ := ⟨F_rest, PySem.W.mg_of X G a7, F_rest.binds fun _ _ _ _ _ _ us hl => match us, hl with | [_, _], _ => rfl⟩
  have F_value_of := fun_mk (st := sVal) l8 c8 k8
  have D_value_of : Df K mg "value_of" sVal ["look", "eyes"] f8 _ := ⟨F_value_of, PySem.W.mg_of X G a8, F_value_of.binds fun _ _ _ _ _ _ us hl => match us, hl with | [_, _], _ => rfl⟩
  have F_outcome := fun_mk (st := sOut) l9 c9 k9
  have D_outcome : Df K mg "outcome" sOut ["look", "eyes"] f9 _ := ⟨F_outcome, PySem.W.mg_of X G a9, F_outcome.binds fun _ _ _ _ _ _ us hl => match us, hl with | [_, _], _ => rfl⟩
  have F_first_of := fun_mk (st := sFirst) l10 c10 k10
  have D_first_of : Df K mg "first_of" sFirst ["pairs", "name"] f10 _ := ⟨F_first_of, PySem.W.mg_of X G a10, F_first_of.binds fun _ _ _ _ _ _ us hl => match us, hl with | [_, _], _ => rfl⟩
  have F_place_in := fun_mk (st := sPlace) l11 c11 k11
  have D_place_in : Df K mg "place_in" sPlace ["row", "place"] f11 _ := ⟨F_place_in, PySem.W.mg_of X G a11, F_place_in.binds fun _ _ _ _ _ _ us hl => match us, hl with | [_, _], _ => rfl⟩
  have F_holds := fun_mk (st := sHolds) l12 c12 k12
  have D_holds : Df K mg "holds" sHolds ["test", "eyes"] f12 _ := ⟨F_holds, PySem.W.mg_of X G a12, F_holds.binds fun _ _ _ _ _ _ us hl => match us, hl with | [_, _], _ => rfl⟩
  have F__law_folded := fun_mk (st := sFolded) l13 c13 k13
  have D__law_folded : Df K mg "_law_folded" sFolded ["_law_script", "_law_many"] f13 _ := ⟨F__law_folded, PySem.W.mg_of X G a13, F__law_folded.binds fun _ _ _ _ _ _ us hl => match us, hl with | [_, _], _ => rfl⟩
  have F__law_draws := fun_mk (st := sDraws) l14 c14 k14
  have D__law_draws : Df K mg "_law_draws" sDraws ["_law_script", "_law_k"] f14 _ := ⟨F__law_draws, PySem.W.mg_of X G a14, F__law_draws.binds fun _ _ _ _ _ _ us hl => match us, hl with | [_, _], _ => rfl⟩
  have F__law_take := fun_mk (st := sTake) l15 c15 k15
  have D__law_take : Df K mg "_law_take" sTake ["_law_box", "_law_many"] f15 _ := ⟨F__law_take, PySem.W.mg_of X G a15, F__law_take.binds fun _ _ _ _ _ _ us hl => match us, hl with | [_, _], _ => rfl⟩
  have F__law_pick := fun_mk (st := sPick) l16 c16 k16
  have D__law_pick : Df K mg "_law_pick" sPick ["_law_box", "_law_some"] f16 _ := ⟨F__law_pick, PySem.W.mg_of X G a16, F__law_pick.binds fun _ _ _ _ _ _ us hl => match us, hl with | [_, _], _ => rfl⟩
  have F__law_names := fun_mk (st := sNames) l17 c17 k17
  have D__law_names : Df K mg "_law_names" sNames ["_law_box", "_law_many"] f17 _ := ⟨F__law_names, PySem.W.mg_of X G a17, F__law_names.binds fun _ _ _ _ _ _ us hl => match us, hl with | [_, _], _ => rfl⟩
  have F__law_a_value := fun_mk (st := sAValue) l18 c18 k18
  have D__law_a_value : Df K mg "_law_a_value" sAValue ["_law_box"] f18 _ := ⟨F__law_a_value, PySem.W.mg_of X G a18, F__law_a_value.binds fun _ _ _ _ _ _ us hl => match us, hl with | [_], _ => rfl⟩
  have F__law_a_look := fun_mk (st := sALook) l19 c19 k19
  have D__law_a_look : Df K mg "_law_a_look" sALook ["_law_box", "_law_words", "_law_deep"] f19 _ := ⟨F__law_a_look, PySem.W.mg_of X G a19, F__law_a_look.binds fun _ _ _ _ _ _ us hl => match us, hl with | [_, _, _], _ => rfl⟩
  have F__law_a_test := fun_mk (st := sATest) l20 c20 k20
  have D__law_a_test : Df K mg "_law_a_test" sATest ["_law_box", "_law_words", "_law_deep"] f20 _ := ⟨F__law_a_test, PySem.W.mg_of X G a20, F__law_a_test.binds fun _ _ _ _ _ _ us hl => match us, hl with | [_, _, _], _ => rfl⟩
  have F__law_some_eyes := fun_mk (st := sEyes) l21 c21 k21
  have D__law_some_eyes : Df K mg "_law_some_eyes" sEyes ["_law_box", "_law_words"] f21 _ := ⟨F__law_some_eyes, PySem.W.mg_of X G a21, F__law_some_eyes.binds fun _ _ _ _ _ _ us hl => match us, hl with | [_, _], _ => rfl⟩
  have F__law_told_of := fun_mk (st := sTold) l22 c22 k22
  have D__law_told_of : Df K mg "_law_told_of" sTold ["_law_asked", "_law_thing", "_law_eyes"] f22 _ := ⟨F__law_told_of, PySem.W.mg_of X G a22, F__law_told_of.binds fun _ _ _ _ _ _ us hl => match us, hl with | [_, _, _], _ => rfl⟩
  have F__law_called := fun_mk (st := sCalled) l23 c23 k23
  have D__law_called : Df K mg "_law_called" sCalled ["_law_thing", "_law_words", "_law_others"] f23 _ := ⟨F__law_called, PySem.W.mg_of X G a23, F__law_called.binds fun _ _ _ _ _ _ us hl => match us, hl with | [_, _, _], _ => rfl⟩
  have F__law_right := fun_mk (st := sRight) l24 c24 k24
  have D__law_right : Df K mg "_law_right" sRight ["_law_box", "_law_words"] f24 _ := ⟨F__law_right, PySem.W.mg_of X G a24, F__law_right.binds fun _ _ _ _ _ _ us hl => match us, hl with | [_, _], _ => rfl⟩
  have F__law_renamed := fun_mk (st := sRenamed) l25 c25 k25
  have D__law_renamed : Df K mg "_law_renamed" sRenamed ["_law_thing", "_law_words", "_law_others"] f25 _ := ⟨F__law_renamed, PySem.W.mg_of X G a25, F__law_renamed.binds fun _ _ _ _ _ _ us hl => match us, hl with | [_, _, _], _ => rfl⟩
  have F_law := fun_mk (st := sLaw) l26 c26 k26
  have m_len := PySem.W.mg_none_of X G z_len
  have m_abs := PySem.W.mg_none_of X G z_abs
  have m_int := PySem.W.mg_none_of X G z_int
  have m_divmod := PySem.W.mg_none_of X G z_divmod
  have m_list := PySem.W.mg_none_of X G z_list
  have m_enumerate := PySem.W.mg_none_of X G z_enumerate
  have m_isinstance := PySem.W.mg_none_of X G z_isinstance
  have m_tuple := PySem.W.mg_none_of X G z_tuple
  have m_bool := PySem.W.mg_none_of X G z_bool
  have m_range := PySem.W.mg_none_of X G z_range
  have m_RuntimeError := PySem.W.mg_none_of X G z_RuntimeError
  have W : Wr K w mg sp sm (pick f3 f4 f5 f6 f7) := ⟨PySem.W.mg_of X G aP, PySem.W.mg_of X G aS, ⟨its, nP, slP, lP, vP, gP⟩, fun o => by
    cases o
    · exact ⟨es, nS, _, lS, kS, n_plus, rfl⟩
    · exact ⟨es, nS, _, lS, kS, n_minus, rfl⟩
    · exact ⟨es, nS, _, lS, kS, n_by, rfl⟩
    · exact ⟨es, nS, _, lS, kS, n_over, rfl⟩
    · exact ⟨es, nS, _, lS, kS, n_rest, rfl⟩⟩
  refine ⟨PySem.W.fnOf "law" "law" (defArgs sLaw) (defBody sLaw) (defScope sLaw) .none kV26 dc26 pm26 an26 cd26 ct26, F_law, fun s v => .of_eq rfl, C, f8, fun base _ _ => ?_⟩
  have gN : FnG l.prog w K mg base CX0 1 "is_number" ["thing"] (spIsNum K) := D_is_number.g (ok_isNum D_is_number.F m_isinstance m_int m_bool)
  have gI : FnG l.prog w K mg base CX0 2 "is_value" ["thing"] spIsVal := D_is_value.g (ok_isVal D_is_value.F gN (PySem.W.mg_of X G aLV) (PySem.W.mg_of X G aMV))
  have LL : Looks5 l.prog w K mg base C fI sp sm (pick f3 f4 f5 f6 f7) := ⟨T, W, gN.mono (by decide), gI.mono (by decide), (D_first_of.g (ok_first (k := 0) T D_first_of.F)).mono (by decide), (D_place_in.g (ok_place (k := 0) T D_place_in.F m_len)).mono (by decide), fun o => by
    cases o
    · exact ⟨_, _, (ok_plus (k := 2) D_plus.F), D_plus.F.kp, D_plus.b⟩
    · exact ⟨_, _, (ok_minus (k := 2) D_minus.F), D_minus.F.kp, D_minus.b⟩
    · exact ⟨_, _, (ok_by (k := 2) D_by.F), D_by.F.kp, D_by.b⟩
    · exact ⟨_, _, (ok_over (k := 1) T D_over.F), D_over.F.kp, D_over.b⟩
    · exact ⟨_, _, (ok_rest (k := 1) T D_rest.F), D_rest.F.kp, D_rest.b⟩⟩
  have gVs := ok_values LL m_len D_value_of D_outcome
  have hV : HeldX l.prog w K mg base 16 f8 (spVal K C 6) := by
    obtain ⟨f, fd, F, m, k, b⟩ := gVs 6
    have e : f = f8 := Value.ref.inj (Option.some.inj (m.symm.trans D_value_of.m))
    subst e
    exact ⟨fd, _, F, k, b⟩
  have gHo := ok_holds T D_holds gVs 6
  have hH : HeldX l.prog w K mg base 16 f12 (spHold K C 6) := by
    obtain ⟨f, fd, F, m, k, b⟩ := gHo
    have e : f = f12 := Value.ref.inj (Option.some.inj (m.symm.trans D_holds.m))
    subst e
    exact ⟨fd, _, F, k, b⟩
  have gT : FnG l.prog w K mg base CX0 1 "_law_take" ["_law_box", "_law_many"] spTake := D__law_take.g (ok_take D__law_take.F m_divmod)
  have gP : FnG l.prog w K mg base CX0 2 "_law_pick" ["_law_box", "_law_some"] (spPick K) := D__law_pick.g (ok_pick D__law_pick.F gT m_len)
  have gNm : FnG l.prog w K mg base CX0 2 "_law_names" ["_law_box", "_law_many"] spNames := D__law_names.g (ok_names D__law_names.F gT m_len m_range)
  have gA : FnG l.prog w K mg base CX0 2 "_law_a_value" ["_law_box"] spAValue := D__law_a_value.g (ok_aValue D__law_a_value.F gT)
  have gD : FnG l.prog w K mg base CX0 1 "_law_draws" ["_law_script", "_law_k"] (spDraws K) := D__law_draws.g (ok_draws D__law_draws.F m_len m_abs m_int)
  have gF : FnG l.prog w K mg base CX0 1 "_law_folded" ["_law_script", "_law_many"] (spFolded K) := D__law_folded.g (ok_folded D__law_folded.F m_list m_enumerate)
  have gO : FnG l.prog w K mg base CX0 17 "_law_told_of" ["_law_asked", "_law_thing", "_law_eyes"] (spTold l.prog w K mg base C 16) := D__law_told_of.g (ok_told T EC (kit_rt sr) D__law_told_of.F m_isinstance m_RuntimeError)
  have gLs := ok_aLooks D__law_a_look (gT.mono (by decide)) (gP.mono (by decide)) (gA.mono (by decide))
  have gTs := ok_aTests D__law_a_test (gT.mono (by decide)) (gP.mono (by decide)) gLs
  have gE : FnG l.prog w K mg base CX0 3 "_law_some_eyes" ["_law_box", "_law_words"] (spEyes K) := D__law_some_eyes.g (ok_eyes (k := 2) D__law_some_eyes.F (gT.mono (by decide)) gA m_range m_tuple)
  have gC := ok_calleds (P := l.prog) (w := w) (base := base) D__law_called m_isinstance m_list m_tuple
  have gR := ok_renameds (P := l.prog) (w := w) (base := base) D__law_renamed m_isinstance m_tuple
  have gRi : FnG l.prog w K mg base CX0 18 "_law_right" ["_law_box", "_law_words"] (spRight K) := D__law_right.g (ok_right (k := 17) ⟨gE.mono (by decide), (gLs 4).mono (by decide), (gLs 3).mono (by decide), (gTs 3).mono (by decide), (gC 4).mono (by decide), (gR 4).mono (by decide), gO, gHo.mono (by decide), hV, hH, D_value_of.m, D_holds.m⟩ D__law_right.F)
  exact ⟨gF.mono (by decide), gD.mono (by decide), gNm.mono (by decide), gRi, m_len, m_range⟩
end Fd
open PySem PySem.W PyProof.Rows
set_option maxRecDepth 100000 in
set_option maxHeartbeats 0 in
theorem PySem.Challenge.cw_figuredeeds_k06_looks_by_likes_holds : PySem.Challenge.rw_figuredeeds_k06_looks_by_likes.Holds := by
  w_on; o_law; k_head; (case hw => w_witness2)
  k_fill
  refine Fd.walk_at (l := PySem.Challenge.rw_figuredeeds_k06_looks_by_likes) (n := 63) rfl (by decide) rfl (fun w h Y => PySem.W.kIn_of Y) rfl ?F
  case F =>
    intro w mg fa h KX G hmg
    refine' Fd.all_mk KX G hmg ?a1 ?l1 ?c1 ?k1 ?a2 ?l2 ?c2 ?k2 ?a3 ?l3 ?c3 ?k3 ?a4 ?l4 ?c4 ?k4 ?a5 ?l5 ?c5 ?k5 ?a6 ?l6 ?c6 ?k6 ?a7 ?l7 ?c7 ?k7 ?a8 ?l8 ?c8 ?k8 ?a9 ?l9 ?c9 ?k9 ?a10 ?l10 ?c10 ?k10 ?a11 ?l11 ?c11 ?k11 ?a12 ?l12 ?c12 ?k12 ?a13 ?l13 ?c13 ?k13 ?a14 ?l14 ?c14 ?k14 ?a15 ?l15 ?c15 ?k15 ?a16 ?l16 ?c16 ?k16 ?a17 ?l17 ?c17 ?k17 ?a18 ?l18 ?c18 ?k18 ?a19 ?l19 ?c19 ?k19 ?a20 ?l20 ?c20 ?k20 ?a21 ?l21 ?c21 ?k21 ?a22 ?l22 ?c22 ?k22 ?a23 ?l23 ?c23 ?k23 ?a24 ?l24 ?c24 ?k24 ?a25 ?l25 ?c25 ?k25 ?a26 ?l26 ?c26 ?k26 ?z_len ?z_abs ?z_int ?z_divmod ?z_list ?z_enumerate ?z_isinstance ?z_tuple ?z_bool ?z_range ?z_RuntimeError ?aLV ?aMV ?aP ?lP ?vP ?gP ?aS ?lS ?kS ?n_plus ?n_minus ?n_by ?n_over ?n_rest ?aC ?xL ?sa ?ga ?gg ?nb ?ac ?sg ?tk ?mo ?sr ?aI ?tI ?lI ?cI ?kC ?eC ?tC ?hC ?sC
    (case a1 => k_is)
    (case l1 => k_is)
    (case c1 => k_is)
    (case k1 => k_is)
    (case a2 => k_is)
    (case l2 => k_is)
    (case c2 => k_is)
    (case k2 => k_is)
    (case a3 => k_is)
    (case l3 => k_is)
    (case c3 => k_is)
    (case k3 => k_is)
    (case a4 => k_is)
    (case l4 => k_is)
    (case c4 => k_is)
    (case k4 => k_is)
    (case a5 => k_is)
    (case l5 => k_is)
    (case c5 => k_is)
    (case k5 => k_is)
    (case a6 => k_is)
    (case l6 => k_is)
    (case c6 => k_is)
    (case k6 => k_is)
    (case a7 => k_is)
    (case l7 => k_is)
    (case c7 => k_is)
    (case k7 => k_is)
    (case a8 => k_is)
    (case l8 => k_is)
    (case c8 => k_is)
    (case k8 => k_is)
    (case a9 => k_is)
    (case l9 => k_is)
    (case c9 => k_is)
    (case k9 => k_is)
    (case a10 => k_is)
    (case l10 => k_is)
    (case c10 => k_is)
    (case k10 => k_is)
    (case a11 => k_is)
    (case l11 => k_is)
    (case c11 => k_is)
    (case k11 => k_is)
    (case a12 => k_is)
    (case l12 => k_is)
    (case c12 => k_is)
    (case k12 => k_is)
    (case a13 => k_is)
    (case l13 => k_is)
    (case c13 => k_is)
    (case k13 => k_is)
    (case a14 => k_is)
    (case l14 => k_is)
    (case c14 => k_is)
    (case k14 => k_is)
    (case a15 => k_is)
    (case l15 => k_is)
    (case c15 => k_is)
    (case k15 => k_is)
    (case a16 => k_is)
    (case l16 => k_is)
    (case c16 => k_is)
    (case k16 => k_is)
    (case a17 => k_is)
    (case l17 => k_is)
    (case c17 => k_is)
    (case k17 => k_is)
    (case a18 => k_is)
    (case l18 => k_is)
    (case c18 => k_is)
    (case k18 => k_is)
    (case a19 => k_is)
    (case l19 => k_is)
    (case c19 => k_is)
    (case k19 => k_is)
    (case a20 => k_is)
    (case l20 => k_is)
    (case c20 => k_is)
    (case k20 => k_is)
    (case a21 => k_is)
    (case l21 => k_is)
    (case c21 => k_is)
    (case k21 => k_is)
    (case a22 => k_is)
    (case l22 => k_is)
    (case c22 => k_is)
    (case k22 => k_is)
    (case a23 => k_is)
    (case l23 => k_is)
    (case c23 => k_is)
    (case k23 => k_is)
    (case a24 => k_is)
    (case l24 => k_is)
    (case c24 => k_is)
    (case k24 => k_is)
    (case a25 => k_is)
    (case l25 => k_is)
    (case c25 => k_is)
    (case k25 => k_is)
    (case a26 => k_is)
    (case l26 => k_is)
    (case c26 => k_is)
    (case k26 => k_is)
    (case z_len => k_is)
    (case z_abs => k_is)
    (case z_int => k_is)
    (case z_divmod => k_is)
    (case z_list => k_is)
    (case z_enumerate => k_is)
    (case z_isinstance => k_is)
    (case z_tuple => k_is)
    (case z_bool => k_is)
    (case z_range => k_is)
    (case z_RuntimeError => k_is)
    (case aLV => k_is)
    (case aMV => k_is)
    (case aP => k_is)
    (case lP => k_is)
    (case vP => exact .cons ⟨_, rfl⟩ (.cons ⟨_, rfl⟩ (.cons ⟨_, rfl⟩ (.cons ⟨_, rfl⟩ .nil))))
    (case gP => decide)
    (case aS => k_is)
    (case lS => k_is)
    (case kS => exact ⟨⟨_, _, rfl, rfl⟩, ⟨_, _, rfl, rfl⟩, ⟨_, _, rfl, rfl⟩, ⟨_, _, rfl, rfl⟩, ⟨_, _, rfl, rfl⟩, trivial⟩)
    (case n_plus => k_is)
    (case n_minus => k_is)
    (case n_by => k_is)
    (case n_over => k_is)
    (case n_rest => k_is)
    (case aC => k_is)
    (case xL => k_is)
    (case sa => k_is)
    (case ga => k_is)
    (case gg => k_is)
    (case nb => k_is)
    (case ac => k_is)
    (case sg => k_is)
    (case tk => k_is)
    (case mo => k_is)
    (case sr => k_is)
    (case aI => k_is)
    (case tI => k_is)
    (case lI => k_is)
    (case cI => k_is)
    (case kC => k_is)
    (case eC => k_is)
    (case tC => k_is)
    (case hC => k_is)
    (case sC => first | rfl | k_is)

