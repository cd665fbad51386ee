import PyProof.Rows.All
import Wide.All
import OpenK.AllK
import Wide.FinOn
import PyProof.EqAt
import PyProof.EqKinds
import PyProof.TupleCall
import KE.KExcInit
import KE.KExcIs
import HandS.ForMost
import HandS.ForExc
import HandS.IsInst
import HandS.ExcValue
import HandS.ExcField
import HandS.Walk
import HandS.Wide
import HandS.Zip
import HandS.Codes
import HandS.Style
import HandS.CallLocal
import HandS.Strs
import HandS.More
import HandS.ExcIs
import PySem.Challenge.RW_figuredeeds_k05_looks_that_fall
set_option Elab.async false
set_option linter.all false
set_option maxRecDepth 100000
set_option maxHeartbeats 2000000
namespace PySem
namespace FellX
open PySem.W PySem.Calls PyProof.Rows PySem.HandSPX Builtin Builtin.ObjectAttr
abbrev rtTail : List Value := [.type "RuntimeError", .type "Exception", .type "BaseException", .type "object"]
/-- a first field of a fresh error whose class stands straight under RuntimeError -/
theorem rt_osa {prog : Program} {w : World} {A : Around} {R : Result → Shared → Prop} {hp : Heap} {gs : Array GenState} {dr : Drawn} {n : Nat} {os : OsState}
    {K : W.Frag} {f : Str} {tk : Tok} {v : Value} {x C : Addr} {fv : Array Value} {cd : ClassData} (X : K.In hp)
    (hx : hp.get? x = some { cls := .ref C, data := .fields fv }) (hcd : W.clsIn K C = some cd) (hm : cd.mro = .ref C :: rtTail) (hh : cd.hasDict = true)
    (ha : W.findIn K (.ref C) f = some none)
    (hq : ∀ h' tk' dx, (∀ b o, b ≠ x → hp.get? b = some o → h'.get? b = some o) → hp.objs.size ≤ dx → dx ≠ x →
      h'.get? x = some { cls := .ref C, dict := some dx, data := .fields fv } → h'.Ns1 dx (fun y => if y = f then some v else none) →
      R (.ok (.ret .none)) ⟨h', gs, dr, tk', os⟩) :
    codeAny (model prog w) A (.call (.builtin "object.__setattr__") ⟨[.ref x, .str f tk, v], []⟩) R ⟨hp, gs, dr, n, os⟩ := by
  have J : W.InstAt hp x { cls := .ref C, data := .fields fv } C none := ⟨hx, rfl, rfl, trivial⟩
  have S := F.store_object
  have hob : cd.mro.contains (.type "object") = true := by
    rw [hm, List.contains_cons, show rtTail.contains (.type "object") = true by decide +kernel, Bool.or_true]
  have xs : x ≠ hp.objs.size := Nat.ne_of_lt (Heap.lt_size hx)
  have su : W.Looks (model prog w) hp (isInstance (.ref x) (.type "object")) true := J.type.andThen
    (W.looks_mroIn X (by unfold W.mroIn; rw [hcd, Option.bind_some, if_neg (by rw [hm]; intro z; cases z), hob]))
  refine codeAny_call_builtin S.slot.plain S.entry
    (@W.check_slot (model prog w) _ _ ⟨hp, gs, dr, n, os⟩ "object.__setattr__" "object" "__setattr__" (.ref x) [.str f tk, v] [] _ S.kind S.split su
      (S.args (.ref x) (.str f tk) v) ?_)
  have lm : W.Looks (model prog w) hp (mroOf (.ref C)) cd.mro := (W.looks_clsIn X hcd).andThen .now
  have lt : W.Looks (model prog w) hp (storeTaker? none) none := .now
  have lc : W.Looks (model prog w) hp (classData C) cd := W.looks_clsIn X hcd
  rw [W.osa_eq, refuse_eq]
  refine wpAny_bind (wpAny_bind (J.type.at (wpAny_bind (lm.at ?_))))
  rw [hm, refuseLoop_ref, show refuseLoop (Value.ref x) "__setattr__" rtTail = pure () from F.store_RuntimeError.passes _]
  refine wpAny_pure (wpAny_bind (J.type.at (wpAny_bind
    ((W.looks_findIn X ha).at (wpAny_bind (lt.at ?_))))))
  show wpAny _ _ (storeInOwnDict (.ref x) (.ref C) (.str f tk) f v false) _ _ _
  obtain ⟨_, _, mro, _, _, hd, _, _, _, _, _⟩ := cd
  dsimp only at hh
  subst hh
  unfold storeInOwnDict ownDictForStores
  repeat (first
    | with_reducible refine store_in_new ?_ ?_
    | with_reducible refine wpAny_loadPart_at hx ?_
    | with_reducible refine lc.at ?_
    | wp_step)
  · exact ⟨_, #[], _, (Heap.get?_update_ne _ _ _ _ xs.symm).trans (Heap.get?_push_at rfl rfl), rfl,
      fun e he => absurd he (by simp), fun _ => rfl⟩
  · intro h' tk' hn' hs
    have hx' : (hp.push { cls := .type "dict", data := .dict #[] }).get? x = some { cls := .ref C, data := .fields fv } :=
      Heap.get?_push_of_some _ hx
    refine hq h' tk' hp.objs.size (fun b o nb e => ?_) (Nat.le_refl _) xs.symm ?_ hn'
    · exact (hs.2 b (Nat.ne_of_lt (Heap.lt_size e))).trans
        ((Heap.get?_update_ne _ _ _ _ nb).trans (Heap.get?_push_of_some _ e))
    · exact (hs.2 x xs).trans (Heap.get?_update_self _ hx' rfl)
end FellX
end PySem
namespace PySem
namespace FellX
open PySem.W PySem.Calls PyProof.Rows PySem.HandSPX
/-! ### the text of __init__ -/
def iA (p1 p2 : Pos) : Arguments := { posonlyargs := [], args := [{ arg := "self", annotation := none, pos := p1 }, { arg := "word", annotation := none, pos := p2 }], vararg := none, kwonlyargs := [], kw_defaults := [], kwarg := none, defaults := [] }
def iB (q1 q2 q3 q4 : Pos) : List Stmt := [.Assign [.Attribute (.Name "self" q1) "word" q2] (.Name "word" q3) q4]
def iS : Scope := { kind := .function, names := [(PySem.Str.ofString "self", .local), (PySem.Str.ofString "word", .local)], isGenerator := false, isCoroutine := false, more := [] }
/-- what the written part says of Fell, at C, and of its __init__, at fI -/
structure FellTxt (K : Frag) (mg : Str → Option Value) (C fI : Addr) : Prop where
  gC : mg "Fell" = some (.ref C)
  cls : ∃ nm q N bs bm sn sub ab col dd k0 k1 k2 k3 k5, K.lookup C = some (excClassObj nm q C N bs bm true sn sub ab col dd k0 k1 k2 k3 k5 "RuntimeError.__new__") ∧ bm = rtTail
  sa : findIn K (.ref C) "__setattr__" = some (some (.builtin "object.__setattr__"))
  ga : findIn K (.ref C) "__getattribute__" = some (some (.builtin "BaseException.__getattribute__"))
  gg : findIn K (.ref C) "__getattr__" = some none
  noN : findIn K (.ref C) "word" = some none
  iC : findIn K (.ref C) "__init__" = some (some (.ref fI))
  tC : typeIn K (.ref fI) = some (.type "function")
  kC : keepIn K (.ref C) = true
  exC : subIn K (.ref C) (.type "BaseException") = some true
  tyC : typeIn K (.ref C) = some (.type "type")
  hdC : hasDictIn K C = true
  te : exmOne K (.ref C) (.ref C) = some true
  fn : ∃ (oc : Value) (od : Option Addr) (doc pm : Value) (an : Option Addr) (cdv ct : Value) (osl : Array (Option Value)) (p1 p2 q1 q2 q3 q4 : Pos),
    K.lookup fI = some ⟨oc, od, .func (fnOf "__init__" "Fell.__init__" (iA p1 p2) (iB q1 q2 q3 q4) iS .none .none doc pm an cdv ct), osl⟩ ∧ codeIn K cdv "Fell.__init__" = true
theorem one_size (v : Value) : [v].length ≤ sizeLine := by
  rw [sizeLine_eq]
  exact (by decide : 1 ≤ 16777216)
theorem kept_but {K : Frag} {h h' : Heap} {x : Addr} (X : K.In h) (hx : K.lookup x = none) (k : ∀ b o, b ≠ x → h.get? b = some o → h'.get? b = some o) : K.In h' := fun a o e =>
  k a o (fun z => by rw [z, hx] at e; cases e) (X a o e)
theorem ldC {M : Model} {s : Shared} {name : Str} {scope : Scope} {L a : Addr} {cd : Value} {m : Str → Option Value} {x : Str} {pos : Pos} {v : Value} {Q : Value → Shared → Prop} {A : Around} {E : Value → Shared → Prop} (hn : s.heap.Ns L m) (hv : m x = some v) (h : Q v s)
    (hk : scope.kind = .function := by rfl) (hl : (envOfC name scope L a cd).kindOf x = some .local := by rfl) (hd : (x == ("__debug__" : Str)) = false := by decide) :
    wpAny M A (eval (.Name x pos) (envOfC name scope L a cd)) Q E s := wpAny_Name (wpAny_loadName_local hk hl hn hv h) hd
/-- what __init__ leaves of a fresh exception at x -/
structure InitEnd (h h' : Heap) (x C dx t1 : Addr) (v : Value) : Prop where
  keep : ∀ b o, b ≠ x → h.get? b = some o → h'.get? b = some o
  obj : h'.get? x = some { cls := .ref C, dict := some dx, data := .fields #[.ref t1, .none, .none, .none, .bool false, .none] }
  dbig : h.objs.size ≤ dx
  dne : dx ≠ x
  ns : h'.Ns1 dx (fun y => if y = "word" then some v else none)
/-- a made Fell -/
structure OwnMade (h h' : Heap) (e C d : Addr) (v : Value) : Prop where
  keep : ∀ b o, h.get? b = some o → h'.get? b = some o
  new : h.objs.size ≤ e
  obj : ∃ oe vs, h'.get? e = some oe ∧ oe.cls = .ref C ∧ oe.dict = some d ∧ oe.data = .fields vs ∧ vs[1]? = some .none
  dbig : h.objs.size ≤ d
  dne : d ≠ e
  ns : h'.Ns1 d (fun y => if y = "word" then some v else none)
section
variable {prog : Program} {w : World} {A : Around} {E : Value → Shared → Prop} {R : Result → Shared → Prop} {s : Shared} {K : Frag} {mg : Str → Option Value} {C fI : Addr}
theorem fell_init (T : FellTxt K mg C fI) {x t0 : Addr} {v : Value} (X : K.In s.heap) (hlim : s.heap.NoLimit) (hx : s.heap.get? x = some (excO C t0)) (hnx : K.lookup x = none) (hroom : A.depth < recursionLimit)
    (hq : ∀ h' tk dx, InitEnd s.heap h' x C dx t0 v → R (.ok (.ret .none)) { s with heap := h', toks := tk }) :
    codeAny (model prog w) A (.call (.ref fI) ⟨[.ref x, v], []⟩) R s := by
  obtain ⟨oc, od, doc, pm, an, cdv, ct, osl, p1, p2, q1, q2, q3, q4, ho, hcd⟩ := T.fn
  obtain ⟨nm, q, N, bs, bm, sn, sub, ab, col, dd, k0, k1, k2, k3, k5, hC, hbm⟩ := T.cls
  have hcl : clsIn K C = some { name := nm, bases := bs, mro := .ref C :: bm, ns := N, qualname := q, hasDict := true, slotNames := sn, subclasses := sub, abstract := ab, collection := col, hasDel := false } := by unfold clsIn; rw [hC] <;> rfl
  refine Att.call_fn (binds := [("self", .ref x), ("word", v)]) X hlim ho hcd hroom (BindsTo.of_eq (by first | rfl | with_unfolding_all rfl)) (by first | rfl | decide | with_unfolding_all rfl) (fun s₁ IC => ?_) rfl rfl rfl
  obtain ⟨h₁, tk₁, rfl⟩ := IC.toInCall.same
  have k : ∀ b o, s.heap.get? b = some o → h₁.get? b = some o := IC.toInCall.keep
  have hn := IC.toInCall.ns
  have hxL : s.heap.objs.size ≠ x := Nat.ne_of_gt (Heap.lt_size hx)
  have X₁ : K.In h₁ := X.keeps k
  have hx₁ := k _ _ hx
  -- self.by = by
  show wpAny _ _ (execs _ _) _ _ _
  refine wpAny_execs_cons (plainObj_wpAny_Assign_Attribute ?_)
  refine ldC (v := v) hn (by first | rfl | with_unfolding_all rfl | kernel_rfl) (ldC (v := .ref x) hn (by first | rfl | with_unfolding_all rfl | kernel_rfl) ?_)
  refine set_plain X₁ (ox := excO C t0) (od := none) ⟨hx₁, rfl, rfl, trivial⟩ T.sa ?_
  refine rt_osa X₁ hx₁ hcl (show (Value.ref C :: bm) = .ref C :: rtTail by rw [hbm]) rfl T.noN (fun h₃ tk₃ dx k₃ dn dne hx₃ hn₃ => ?_)
  show wpAny _ _ (execs _ _) _ _ _
  have z : s.heap.objs.size < h₁.objs.size := hn.lt
  exact wpAny_execs_nil (hq h₃ tk₃ dx ⟨fun b o hb e => k₃ b o hb (k b o e), hx₃, Nat.le_of_lt (Nat.lt_of_lt_of_le z dn), dne, hn₃⟩)
theorem fell_made (T : FellTxt K mg C fI) {v : Value} (X : K.In s.heap) (hlim : s.heap.NoLimit) (hroom : A.depth + 1 < recursionLimit)
    (hq : ∀ h' tk e d, OwnMade s.heap h' e C d v → R (.ok (.ret (.ref e))) { s with heap := h', toks := tk }) :
    codeAny (model prog w) A (.call (.ref C) ⟨[v], []⟩) R s := by
  obtain ⟨nm, q, N, bs, bm, sn, sub, ab, col, dd, k0, k1, k2, k3, k5, hC, hbm⟩ := T.cls
  obtain ⟨hp, g, dr, tk, os⟩ := s
  have k : ∀ b o, hp.get? b = some o → ((hp.push (kdv_tup [v])).push (excO C hp.objs.size)).get? b = some o := fun b o e => Heap.get?_push_of_some _ (Heap.get?_push_of_some _ e)
  have hget : ((hp.push (kdv_tup [v])).push (excO C hp.objs.size)).get? (hp.objs.size + 1) = some (excO C hp.objs.size) := by heap_get
  have hnx : K.lookup (hp.objs.size + 1) = none := by
    cases e : K.lookup (hp.objs.size + 1) with
    | none => rfl
    | some o =>
      have z : hp.get? (hp.objs.size + 1) = some o := X _ _ e
      exact absurd (Nat.lt_of_succ_lt (Heap.lt_size z)) (Nat.lt_irrefl _)
  refine call_own F.excBase_RuntimeError (fun X => by rw [hbm]) (X _ _ hC) (looks_findIn X T.iC) (fun self => bind_fn X self T.tC) (one_size v) ?_
  refine fell_init (s := ⟨(hp.push (kdv_tup [v])).push (excO C hp.objs.size), g, dr, tk, os⟩) T (X.keeps k) (hlim.keeps k) hget hnx ?_ fun h' tk' dx ⟨k', hx, dn, dne, hns⟩ => ?_
  · show A.depth + 1 < recursionLimit
    exact hroom
  · have old : ∀ b o, hp.get? b = some o → h'.get? b = some o := fun b o e => k' b o (Nat.ne_of_lt (Nat.lt_succ_of_lt (Heap.lt_size e))) (k b o e)
    have z : hp.objs.size + 1 + 1 ≤ dx := by
      first
        | (simpa only [Heap.size_push] using dn)
        | exact dn
        | (have q := dn; rw [Heap.size_push, Heap.size_push] at q; exact q)
    exact ⟨rfl, hq h' tk' (hp.objs.size + 1) dx ⟨old, Nat.le_succ _, ⟨_, _, hx, rfl, rfl, rfl, rfl⟩, Nat.le_trans (Nat.le_trans (Nat.le_succ _) (Nat.le_succ _)) z, dne, hns⟩⟩
end
end FellX
end PySem
namespace L2
open PySem PySem.Spec PyProof.Rows
theorem relO_fell {v : V} {v' : Value} (r : RelV v v') (f : Str) : RelO (List.lookup f [(("word" : Str), v)]) (if f = "word" then some v' else none) := by
  by_cases hw : f = "word"
  · subst hw
    rw [if_pos rfl]
    have q : List.lookup ("word" : Str) [(("word" : Str), v)] = some v := by simp [List.lookup]
    rw [q]
    exact r
  · rw [if_neg hw]
    have qw : (f == ("word" : Str)) = false := by simpa using hw
    have q2 : List.lookup f [(("word" : Str), v)] = none := by simp [List.lookup, qw]
    rw [q2]
    trivial
section
variable {X : Cx} {C fI : Addr}
/-- Fell(e) -/
def tMkFell (C : Addr) (ta : TA) : St → Hp → XK → Prop := fun σ H Q => ta σ H fun vs H1 => ∃ v, vs = [v] ∧ ∀ d, H1 d = none → Q (.ref C) (some d) (upd H1 d (.xd [(("word" : Str), v)]))
theorem pmk_fell {a : Expr} {ta : TA} {p pos : Pos} {k : Nat} (T : PySem.FellX.FellTxt X.K X.mg C fI) (hr : Room k X.A) (ha : PA X [a] ta) (hg : Gl X "Fell" := by rfl)
    (he : starEach (a :: []) X.env = (false, eval a X.env) :: starEach [] X.env := by rfl) (hpl : (backTo pos (starEach [] X.env)).any (·.1) = false := by rfl) :
    PMk X (.Call (.Name "Fell" p) [a] [] pos) (tMkFell C ta) := by
  intro pins s σ H Q I h
  refine wpAny_Call_Name_kw (ld_glob I hg T.gC ?_)
  refine PySem.W.callWith_K (h₀ := X.base) I.ok.mod.kin T.kC (thn (ha.run pos pins s σ H _ I h) fun us s1 hh => ?_) he hpl
  obtain ⟨vs, H1, I1, r1, v, ev, q1⟩ := hh
  subst ev
  refine ⟨I1.kIn, ?_⟩
  cases r1 with
  | cons rv rn =>
    rename_i v' us'
    cases rn
    show wpAny _ _ (call (.ref C) [v']) _ _ _
    have hlim := I1.nolimit
    obtain ⟨hp, g, dr, tk, os⟩ := s1
    refine wpAny_call (PySem.FellX.fell_made T I1.kIn hlim (by have := hr.dp; omega) fun h' tk' e d M => ?_)
    show MkP X pins σ Q (.ref e) ⟨h', g, dr, tk', os⟩
    obtain ⟨oe, fv, hoe, hc, hd, hdat, h1⟩ := M.obj
    have hns := M.ns
    obtain ⟨G', g1, g2⟩ := restrict h' fun b => decide (b ≠ e)
    have gk : ∀ b, b ≠ e → G'.get? b = h'.get? b := fun b hb => g1 b (decide_eq_true hb)
    have ge : G'.get? e = none := g2 e (by simp)
    have old : ∀ b o, hp.get? b = some o → G'.get? b = some o := fun b o q => (gk b (Nat.ne_of_lt (Nat.lt_of_lt_of_le (Heap.lt_size q) M.new))).trans (M.keep b o q)
    have ob : ObjOk X.prog X.w (upd H1 d (.xd [(("word" : Str), v)])) G' d (.xd [(("word" : Str), v)]) :=
      ⟨_, hns.at (fun o q => (gk d M.dne).trans q), fun f => relO_fell rv f⟩
    have J : Inv X pins σ (upd H1 d (.xd [(("word" : Str), v)])) ⟨G', g, dr, tk', os⟩ := I1.laid (t' := tk') old M.dbig ob
    refine ⟨e, oe, fv, ⟨G', g, dr, tk', os⟩, _, .ref C, some d, rfl, J, fun b o q => ?_, ge, hoe, ⟨hc, hd⟩, hdat, h1, ?_, rfl, I1.bare, raises_own T.exC T.tyC, q1 d (I1.hok.fresh M.dbig)⟩
    · by_cases hb : b = e
      · have q' : G'.get? b = some o := q
        rw [hb, ge] at q'; cases q'
      · exact (gk b hb).symm.trans q
    · rw [upd_ne (Ne.symm M.dne)]
      exact I1.hok.fresh M.new
/-- raise Fell(e) -/
def tRaiseFell (C : Addr) (W : WX) (ta : TA) : TS := fun _ σ H => tMkFell C ta σ H fun cls d H' => W cls d σ H'
theorem ps_raiseFell {a : Expr} {ta : TA} {W : WX} {p pos pos2 : Pos} {k : Nat} (hc : X.calm = true) (T : PySem.FellX.FellTxt X.K X.mg C fI) (hr : Room k X.A) (tk : Takes X W) (ha : PA X [a] ta) (hg : Gl X "Fell" := by rfl)
    (he : starEach (a :: []) X.env = (false, eval a X.env) :: starEach [] X.env := by rfl) (hpl : (backTo pos (starEach [] X.env)).any (·.1) = false := by rfl) :
    PS X (.Raise (some (.Call (.Name "Fell" p) [a] [] pos)) none pos2) (tRaiseFell C W ta) := ps_raise hc tk (pmk_fell T hr ha hg he hpl)
/-- low.by, low the exception that the suite holds (at a; its class cls, its dict d) -/
def tWord (C : Addr) (a : Addr) (cls : Value) (d : Option Addr) (te : TE) : TE := fun σ H Q => te σ H fun x H1 => x = .ref a ∧ cls = .ref C ∧ ∃ (dd : Addr) (v : V), d = some dd ∧ H1 dd = some (.xd [(("word" : Str), v)]) ∧ Q v H1
theorem pe_word {a : Addr} {oe : Obj} {cls : Value} {d : Option Addr} {pn : List (Addr × Obj)} {e : Expr} {te : TE} {pos : Pos} (T : PySem.FellX.FellTxt X.K X.mg C fI) (hz : Zc cls d oe) (hf : ∃ vs, oe.data = .fields vs) (he : PE (X.suite a ((a, oe) :: pn)) e te)
    (hb : attributeBase e "word" X.env (eval e X.env) = eval e X.env := by rfl) :
    PE (X.suite a ((a, oe) :: pn)) (.Attribute e "word" pos) (tWord C a cls d te) := by
  refine ⟨fun pins s σ H Q I h => ?_⟩
  refine attr_of hb (thn (he.run pins s σ H _ I h) fun u s1 hh => ?_)
  obtain ⟨x, H1, I1, rx, ex, ec, dd, v, ed, ea, q⟩ := hh
  subst ex
  obtain rfl : u = Value.ref a := rx
  subst ec
  subst ed
  obtain ⟨ha, _⟩ := I1.pin (a, oe) (List.mem_append_left _ List.mem_cons_self)
  obtain ⟨vs, hd⟩ := hf
  have hx : ObjOk X.prog X.w H1 s1.heap dd (.xd [(("word" : Str), v)]) := I1.hok dd _ ea
  obtain ⟨mA, hns, hr⟩ := hx
  obtain ⟨od, ho, hl⟩ := lookIn_ns hns
  have l : List.lookup ("word" : Str) [(("word" : Str), v)] = some v := by simp [List.lookup]
  obtain ⟨u, hu, ru⟩ := RelO.some_of (v := v) (o := mA "word") (by rw [← l]; exact hr "word")
  have J : PySem.W.InstAt s1.heap a oe C (some od) := ⟨ha, hz.1, by unfold PySem.W.notCls; rw [hd] <;> rfl, by rw [hz.2]; exact ho⟩
  exact HandSPX.exc_get I1.kIn J T.ga T.gg T.exC (PySem.W.findObj_own T.hdC T.noN rfl (by rw [hl, hu])) (handed_of ru) ⟨v, H1, I1.tok _, ru, q⟩
end
end L2


set_option Elab.async false
set_option linter.all false
set_option maxRecDepth 100000
set_option maxHeartbeats 2000000
/-! A try whose suite keeps the error by another name: behind it the error is tracked, its class and its fields are read. -/
namespace L2
open PySem PySem.Spec PyProof.Rows
/-- a caught error at a: its class, its own dict -/
def ErrO (cls : Value) (d : Option Addr) (a : Addr) : HO :=
  .ext fun h => ∃ (oe : Obj) (vs : Array Value), h.get? a = some oe ∧ Zc cls d oe ∧ oe.data = .fields vs
theorem errO_at {P : Program} {w : World} {H : Hp} {h : Heap} {a : Addr} {cls : Value} {d : Option Addr}
    (hk : HOk P w H h) (e : H a = some (ErrO cls d a)) : ∃ (oe : Obj) (vs : Array Value), h.get? a = some oe ∧ Zc cls d oe ∧ oe.data = .fields vs :=
  (show ObjOk P w H h a (ErrO cls d a) from hk a _ e).1
section
variable {X : Cx} {pins : List (Addr × Obj)} {σ : St} {H : Hp} {s : Shared}
/-- what was pinned is tracked from here on -/
theorem Inv.track {a : Addr} {oe : Obj} {cls : Value} {d : Option Addr} (I : Inv X ((a, oe) :: pins) σ H s) (hz : Zc cls d oe) (hf : ∃ vs, oe.data = .fields vs)
    (h0 : ∀ o, X.s_0.heap.get? a = some o → a ∉ X.ex → False) (hp : ∀ p ∈ X.pn ++ pins, p.1 ≠ a) : Inv X pins σ (upd H a (ErrO cls d a)) s := by
  have mem : (a, oe) ∈ X.pn ++ (a, oe) :: pins := List.mem_append_right _ List.mem_cons_self
  obtain ⟨ga, na, nl, nf, nc⟩ := I.pin _ mem
  dsimp only at ga na nl nf nc
  obtain ⟨vs, hv⟩ := hf
  have ne : ∀ {b : Addr} {o : HO}, H b = some o → b ≠ a := fun q => ne_of_none q na
  refine ⟨I.ok, I.os, I.bare, ⟨I.base.keep, I.base.slot, fun b o e n hx => ?_, I.base.there, fun b xs q => ?_, fun b o u q => ?_, fun b ps q => ?_⟩,
    I.loc, I.cell, ?_, fun x c e => ?_, fun p hm => ?_, ?_, I.len⟩
  · by_cases hb : b = a
    · subst hb
      exact (h0 o e hx).elim
    · rw [upd_ne hb]
      exact I.base.free b o e n hx
  · have q' := I.base.tups b xs q
    rw [upd_ne (ne q')]
    exact q'
  · have q' := I.base.frzs b o u q
    rw [upd_ne (ne q')]
    exact q'
  · obtain ⟨more, q'⟩ := I.base.tbls b ps q
    exact ⟨more, by rw [upd_ne (ne q')]; exact q'⟩
  · rw [upd_ne nl.symm]
    exact I.free
  · have nca : c ≠ a := fun z => by
      obtain ⟨v, o, go, hd⟩ := I.cell x c e
      rw [z, ga] at go
      cases go
      exact nc _ hd
    rw [upd_ne nca]
    exact I.freeC x c e
  · have hm' : p ∈ X.pn ++ (a, oe) :: pins := by
      rcases List.mem_append.mp hm with z | z
      · exact List.mem_append_left _ z
      · exact List.mem_append_right _ (List.mem_cons_of_mem _ z)
    obtain ⟨g1, n1, r1⟩ := I.pin p hm'
    exact ⟨g1, by rw [upd_ne (hp p hm)]; exact n1, r1⟩
  · exact I.hok.laidN (fun _ _ q => q) na ⟨⟨oe, vs, ga, hz, hv⟩, ⟨oe, ga⟩, fun _ _ ⟨o, v, q, r⟩ k => ⟨o, v, k o q, r⟩⟩
end
/-- what «except x as n» wishes of an error of the body, the error being tracked behind the suite -/
def wKeep (K : PySem.W.Frag) (c : Value) (i : Nat) (ts : Addr → Value → Option Addr → TS) (Wout : WX) (D : Ends) : WX := fun cls d σ H =>
  ∃ b, PySem.W.exmOne K cls c = some b ∧ (b = false → Wout cls d σ H) ∧ (b = true → ∀ a, H a = none →
    ts a cls d ({ nx := fun σ' H' => H' a = none → D.nx (σ'.set i none) (upd H' a (ErrO cls d a)), rt := fun _ _ => False, bk := fun _ _ => False, ct := fun _ _ => False } : Ends) (σ.set i (some (.ref a))) H)
section
variable {X : Cx} {x n : Str} {c : Value} {i : Nat} {body suite : List Stmt} {b₀ : Stmt} {np pos pos' : Pos} {tb : WX → TS} {ts : Addr → Value → Option Addr → TS} {Wout : WX}
theorem ps_try_keep (hs : X.stack = X.env :: X.outer) (hf : X.env.frame = some X.env.locals) (hN : X.N.Nodup) (hi : X.N[i]? = some n)
    (hln : X.env.kindOf n = some .local) (hc : Names X x c) (tk : Takes X Wout)
    (hb : ∀ (W : WX) (pn : List (Addr × Obj)) (xe : Value → Shared → Prop), Takes (X.tr pn xe) W →
      PassesOwn (model X.prog X.w) X.A X.env xe → PSs (X.tr pn xe) body (tb W))
    (hsu : ∀ (a : Addr) (oe : Obj) (cls : Value) (d : Option Addr) (pn : List (Addr × Obj)), Zc cls d oe → (∃ vs, oe.data = .fields vs) →
      PSs (X.suite a ((a, oe) :: pn)) (b₀ :: suite) (ts a cls d)) :
    PS X (.Try body [.ExceptHandler (some (.Name x np)) (some n) (b₀ :: suite) pos'] [] [] pos) (fun D σ H => tb (wKeep X.K c i ts Wout D) D σ H) := by
  refine ⟨fun pins s σ H D I h => ?_⟩
  have fr : X.A.frames = some (X.env :: X.outer) := by rw [I.ok.frames, hs]
  refine wpAny_Try_except ?_
  refine wpAny_mono ((hb (wKeep X.K c i ts Wout D) (X.pn ++ pins)
    (fun e s₁ => wpAny (model X.prog X.w) X.A (noteFrame e X.env) (fun _ s₂ =>
      wpAny (model X.prog X.w) X.A (setFlight e none) (fun _ s₃ =>
        wpAny (model X.prog X.w) X.A (handleBy e X.env [.ExceptHandler (some (.Name x np)) (some n) (b₀ :: suite) pos'])
          (SP X pins D) X.xe s₃) X.xe s₂) X.xe s₁)
    (fun u s' xx => ?_) PassesOwn.looking).run [] s σ H D (I.toTry _) h) (fun f s1 end1 => ?_) (fun e s1 he => he)
  · obtain ⟨a, B, sI, pi', σ1, H1, cls, d, rfl, I1', nb, up, sky, na, os, ag, b, hb1, hno, hyes⟩ := xx
    have I1 : Inv X pins σ1 H1 sI := I1'.ofTry I.ok
    have sk : Sky B (X.env :: X.outer) a (Zc cls d) X.env.locals s'.heap := by rw [← hs]; exact sky
    show wpAny (model X.prog X.w) X.A (noteFrame (.ref a) X.env) _ _ _
    refine Sky.land Zc.steady fr hf sk fun h3 fl up3 => ?_
    have I3 : Inv X pins σ1 H1 { s' with heap := h3 } := I1.landed nb fl.1 (up.trans up3) os ag
    obtain ⟨o3, v3, g3, z3, d3⟩ := fl.there
    have nfr : a ∉ frs (X.env :: X.outer) := fun hm => by
      obtain ⟨_, o', e', hnf⟩ := fl.2.2.1.mem hm
      rw [g3] at e'
      cases e'
      exact hnf _ d3
    have nL : a ≠ X.env.locals := fun z => nfr (List.mem_filterMap.mpr ⟨X.env, List.mem_cons_self, by rw [hf, z]⟩)
    have nF : a ∉ X.fs := fun hm => by
      obtain ⟨e, he, q⟩ := List.mem_filterMap.mp hm
      exact nfr (List.mem_filterMap.mpr ⟨e, List.mem_cons_of_mem _ he, q⟩)
    have nB : B.get? a = none := by
      rcases sky with z | z | z
      · exact z.2.1
      · exact z.2.1
      · exact z.2.1
    have gone : ∀ {b : Addr} {o : Obj}, sI.heap.get? b = some o → b ∉ frs X.stack → b ≠ a := fun {b o} q hb z => by
      have q' := nb b o q hb
      rw [z, nB] at q'
      cases q'
    have h0 : ∀ o, X.s_0.heap.get? a = some o → a ∉ X.ex → False := fun o q hx => by
      obtain ⟨o', q'⟩ := I1.base.there a o q hx
      exact gone q' (by rw [hs]; exact nfr) rfl
    have hp : ∀ p ∈ X.pn ++ pins, p.1 ≠ a := fun p hm => by
      obtain ⟨g, _, nl, nf, _⟩ := I1.pin p hm
      refine gone g fun hq => ?_
      rcases List.mem_cons.mp (I1.stkSub _ hq) with z | z
      · exact nl z
      · exact nf z
    have S3 := I3.suite g3 d3 na nL nF
    refine wpAny_handleBy_cons (codeAny_handlers_test ?_) (by intro q; cases q)
    have LT : PySem.W.Looks (model X.prog X.w) h3 (typeOf (.ref a)) cls := fun _ _ _ _ k q =>
      wpAny_typeOf_ref (k _ _ g3) (by rw [z3.1]; exact q)
    have LM := PySem.W.exm_one (M := model X.prog X.w) I3.kIn LT hb1
    have nameIs : ∀ {Q : Value → Shared → Prop} {E : Value → Shared → Prop}, Q c { s' with heap := h3 } →
        wpAny (model X.prog X.w) (X.A.mark (some (.ref a))) (eval (.Name x np) X.env) Q E { s' with heap := h3 } := fun {Q E} q => by
      obtain ⟨hg, hdbg, hm | ⟨hm, hv, hnn⟩⟩ := hc
      · exact ld_glob (X := X.suite a ((a, o3) :: (X.pn ++ pins))) S3 hg hm q hdbg
      · exact ld_blt (X := X.suite a ((a, o3) :: (X.pn ++ pins))) S3 hg hm hv q hnn hdbg
    refine nameIs (LM.here ?_)
    cases b with
    | true =>
      refine codeAny_handlers_suite_as ?_
      refine HandSPX.lands_againZ fl fun h4 fl4 up4 => ?_
      have I4 : Inv X pins σ1 H1 { s' with heap := h4 } := I1.landed nb fl4.1 ((up.trans up3).trans up4) os ag
      obtain ⟨o4, v4, g4, z4, d4⟩ := fl4.there
      have S4 := I4.suite g4 d4 na nL nF
      refine store_ok (X := X.suite a ((a, o4) :: (X.pn ++ pins))) (v := .ref a) S4 hN hi (.inl hln) rfl (fun s5 S5 => ?_) (.inr hln)
      refine wpAny_mono ((hsu a o4 cls d (X.pn ++ pins) z4 ⟨_, d4⟩).run [] s5 _ H1 _ S5 (hyes rfl a na)) (fun f s6 e6 => ?_) (fun _ _ z => False.elim z)
      cases f with
      | next =>
        obtain ⟨σ6, H6, S6, q6⟩ := e6
        have K6 : Inv X ((a, o4) :: pins) σ6 H6 s6 := ⟨I.ok, S6.os, S6.bare, S6.base, S6.loc, S6.cell, S6.free, S6.freeC, fun p hm => S6.pin p (by
          rw [List.append_nil]
          rcases List.mem_append.mp hm with z | z
          · exact List.mem_cons_of_mem _ (List.mem_append_left _ z)
          · rcases List.mem_cons.mp z with z | z
            · rw [z]; exact List.mem_cons_self
            · exact List.mem_cons_of_mem _ (List.mem_append_right _ z)), S6.hok, S6.len⟩
        have n6 : H6 a = none := (S6.pin (a, o4) (List.mem_append_left _ List.mem_cons_self)).2.1
        exact gone_ok K6 hN hi hln fun s7 K7 => ⟨_, _, K7.track z4 ⟨_, d4⟩ h0 hp, q6 n6⟩
      | brk => obtain ⟨_, _, _, q6⟩ := e6; exact q6.elim
      | cont => obtain ⟨_, _, _, q6⟩ := e6; exact q6.elim
      | ret u => obtain ⟨_, _, _, _, _, q6⟩ := e6; exact q6.elim
    | false =>
      show wpAny _ X.A (handleBy (.ref a) X.env []) _ _ _
      refine wpAny_handleBy_nil ?_
      obtain ⟨k1, k2, k3, oe, vs, T, oT, ts', he, hz, hd, h1, hr⟩ := id fl
      unfold PySem.passOn
      refine wpAny_bind (wpAny_field he hd h1 ?_)
      rw [if_neg (show ¬ ((Value.ref T == Value.none) = true) from by simp)]
      have fin : wpAny (model X.prog X.w) X.A (setFlight (.ref a) X.env.frame) (fun _ s4 =>
          wpAny (model X.prog X.w) X.A (throw (.ref a) : Sem Flow) (SP X pins D) X.xe s4) X.xe { s' with heap := h3 } := by
        rw [hf]
        refine HandSPX.setFlight_upZ fl fun h4 hh4 up4 => wpAny_throw (tk _ _ ?_)
        exact ⟨a, B, sI, pins, σ1, H1, cls, d, rfl, I1, nb, (up.trans up3).trans up4,
          .inr (.inr (by rw [hs]; exact hh4)), na, os, ag, hno rfl⟩
      first
        | exact wpAny_bind (wpAny_pure (wpAny_bind fin))
        | exact wpAny_bind fin
  · cases f with
    | next => obtain ⟨σ', H', J', q⟩ := end1; exact wpAny_execs_nil ⟨σ', H', J'.ofTry I.ok, q⟩
    | brk => obtain ⟨σ', H', J', q⟩ := end1; exact ⟨σ', H', J'.ofTry I.ok, q⟩
    | cont => obtain ⟨σ', H', J', q⟩ := end1; exact ⟨σ', H', J'.ofTry I.ok, q⟩
    | ret u => obtain ⟨v, σ', H', J', r, q⟩ := end1; exact ⟨v, σ', H', J'.ofTry I.ok, r, q⟩
end
/-! ### what a tracked error tells -/
/-- what its class says -/
structure ErrC (K : PySem.W.Frag) (C : Addr) : Prop extends XfC K C where
  ac : PySem.W.findIn K (.ref C) "__class__" = some (some (.builtin "object.__class__"))
  sg : PySem.W.specialIn K (.builtin "object.__class__") "__get__" = some (some (.builtin "getset_descriptor.__get__"))
  tk : PySem.W.takesIn K (.builtin "object.__class__") = some true
  mo : PySem.W.mroIn K C (.type "object") = some true
section
variable {X : Cx} {pins : List (Addr × Obj)} {σ : St} {H : Hp} {s : Shared} {C a d : Addr} {fs : List (Str × V)}
theorem errO_inst (I : Inv X pins σ H s) (ea : H a = some (ErrO (.ref C) (some d) a)) (ed : H d = some (.xd fs)) :
    ∃ (oe : Obj) (od : Obj), PySem.W.InstAt s.heap a oe C (some od) ∧ ∃ mA : Str → Option Value, (∀ n, PySem.W.lookIn n od = some (mA n)) ∧ ∀ f, RelO (fs.lookup f) (mA f) := by
  obtain ⟨oe, vs, g, hz, hv⟩ := errO_at I.hok ea
  obtain ⟨mA, hns, hr⟩ := (show ObjOk X.prog X.w H s.heap d (.xd fs) from I.hok d _ ed)
  obtain ⟨od, ho, hl⟩ := lookIn_ns hns
  exact ⟨oe, od, ⟨g, hz.1, by unfold PySem.W.notCls; rw [hv] <;> rfl, by rw [hz.2]; exact ho⟩, mA, hl, hr⟩
/-- e.f of a tracked error -/
def tErrF (C : Addr) (f : Str) (te : TE) : TE := fun σ H Q => te σ H fun x H1 => ∃ (a d : Addr) (fs : List (Str × V)) (v : V),
  x = .ref a ∧ H1 a = some (ErrO (.ref C) (some d) a) ∧ H1 d = some (.xd fs) ∧ fs.lookup f = some v ∧ Q v H1
theorem pe_errF {e : Expr} {te : TE} {pos : Pos} {n : Str} (T : ErrC X.K C) (hno : PySem.W.findIn X.K (.ref C) n = some none) (he : PE X e te)
    (hb : attributeBase e n X.env (eval e X.env) = eval e X.env := by rfl) : PE X (.Attribute e n pos) (tErrF C n te) := by
  refine ⟨fun pins s σ H Q I h => attr_of hb (thn (he.run pins s σ H _ I h) fun u s1 hh => ?_)⟩
  obtain ⟨x, H1, I1, rx, a, d, fs, v, rfl, ea, ed, l, q⟩ := hh
  obtain rfl : u = Value.ref a := rx
  obtain ⟨oe, od, J, mA, hl, hr⟩ := errO_inst I1 ea ed
  obtain ⟨u, hu, ru⟩ := RelO.some_of (v := v) (o := mA n) (by rw [← l]; exact hr n)
  exact HandSPX.exc_get I1.kIn J T.ga T.gg T.exC (PySem.W.findObj_own T.hdC hno rfl (by rw [hl, hu])) (handed_of ru) ⟨v, H1, I1.tok _, ru, q⟩
/-- isinstance(e, T) of a tracked error, T a built-in class -/
def rIsErr (K : PySem.W.Frag) (C : Addr) : List V → Hp → VK → Prop := fun xs H Q => ∃ (a d : Addr) (fs : List (Str × V)) (n : String) (b : Bool),
  xs = [.ref a, .ty n] ∧ H a = some (ErrO (.ref C) (some d) a) ∧ H d = some (.xd fs) ∧ PySem.W.kitOne K (.ref C) (.type n) = some b ∧ Q (.bl b) H
theorem call_isErr (T : ErrC X.K C) : CallR X (.builtin "isinstance") (rIsErr X.K C) := by
  intro pins s σ H xs us Q I r h
  obtain ⟨a, d, fs, n, b, rfl, ea, ed, e, q⟩ := h
  obtain ⟨u1, u2, rfl, r1, r2⟩ := vals2 r
  cases (show u1 = Value.ref a from r1)
  cases (show u2 = Value.type n from r2)
  obtain ⟨oe, od, J, _⟩ := errO_inst I ea ed
  have hcl : (PySem.W.clsIn X.K C).isSome = true := by
    obtain ⟨cd, hc, _⟩ := PySem.W.any_some T.hdC
    rw [hc]
    rfl
  exact PySem.W.kia_one (PySem.W.kitx_exc hcl T.ga T.gg T.exC T.ac T.sg T.tk T.mo) I.kIn J e (fun z => nomatch z) fun tk => ⟨.bl b, H, I.tok tk, rfl, q⟩
end
end L2

set_option Elab.async false
set_option linter.all false
set_option maxRecDepth 100000
set_option maxHeartbeats 2000000
namespace Fd
open PySem PySem.Spec PyProof.Rows L2
def top (i : Nat) : Stmt := PySem.Challenge.pw_figuredeeds_k05_looks_that_fall.main.body.getD i (.Pass ⟨0, 0, 0, 0⟩)
/-! ### defs by their names -/
structure Df (K : PySem.W.Frag) (mg : Str → Option Value) (x : Str) (st : Stmt) (ps : List Str) (f : Addr) (fd : FuncData) : Prop where
  F : Fun K x x st f fd
  m : mg x = some (.ref f)
  b : Binds K fd ps []
/-- the def that the module's name x holds keeps sp -/
def FnG (P : Program) (w : World) (K : PySem.W.Frag) (mg : Str → Option Value) (base : Heap) (CX : CXT) (k : Nat) (x : Str) (ps : List Str) (sp : Sp) : Prop :=
  ∃ f fd, FnOk P w K mg base CX k f fd ps sp ∧ mg x = some (.ref f) ∧ PySem.W.keepIn K (.ref f) = true ∧ Binds K fd ps []
theorem Df.g {P : Program} {w : World} {K : PySem.W.Frag} {mg : Str → Option Value} {base : Heap} {CX : CXT} {k : Nat} {x : Str} {st : Stmt} {ps : List Str} {f : Addr} {fd : FuncData} {sp : Sp}
    (D : Df K mg x st ps f fd) (G : FnOk P w K mg base CX k f fd ps sp) : FnG P w K mg base CX k x ps sp := ⟨f, fd, G, D.m, D.F.kp, D.b⟩
/-! ### heaps -/
/-- all that was tracked stands, but for what is at a -/
def But (a : Addr) (H H' : Hp) : Prop := ∀ b o, b ≠ a → H b = some o → H' b = some o
theorem But.refl (a : Addr) (H : Hp) : But a H H := fun _ _ _ h => h
theorem But.trans {a : Addr} {H H1 H2 : Hp} (x : But a H H1) (y : But a H1 H2) : But a H H2 := fun b o n h => y b o n (x b o n h)
theorem But.of {a : Addr} {H H' : Hp} (s : Same H H') : But a H H' := fun b o _ h => s b o h
theorem But.upd {a : Addr} {H : Hp} {o : HO} : But a H (upd H a o) := fun b u n h => by rw [upd_ne n]; exact h
theorem same_upd {H : Hp} {p : Addr} {o : HO} (h : H p = none) : Same H (upd H p o) := fun b x e => by
  rw [upd_ne (ne_of_none e h)]
  exact e
theorem But.get {a b : Addr} {H H' : Hp} {o u : HO} (s : But a H H') (ha : H a = some u) (hb : H b = some o) (d : o ≠ u) : H' b = some o := s b o (ne_of hb ha d) hb
/-- an if whose both ways come to a value of which R holds, the heap as it was -/
theorem ifE {c : Prop} [Decidable c] {ta tb : TE} {σ : L2.St} {H : Hp} {Q : VK} (R : V → Prop) (h1 : c → ∃ v, R v ∧ ∀ Q' : VK, Q' v H → ta σ H Q') (h2 : ¬ c → ∃ v, R v ∧ ∀ Q' : VK, Q' v H → tb σ H Q')
    (h : ∀ v, R v → Q v H) : if c then ta σ H Q else tb σ H Q := by
  by_cases hc : c
  · rw [if_pos hc]
    obtain ⟨v, r, k⟩ := h1 hc
    exact k Q (h v r)
  · rw [if_neg hc]
    obtain ⟨v, r, k⟩ := h2 hc
    exact k Q (h v r)
/-- the drawer's box: its three numbers, drawn from at most n times -/
def Box (H : Hp) (a : Addr) (n : Nat) : Prop := ∃ b0 b1 b2 : Int, H a = some (.lst [.int b0, .int b1, .int b2]) ∧ 0 ≤ b0 ∧ 0 ≤ b1 ∧ b1 < 4611686018427387904 ∧ 0 ≤ b2 ∧ b2 ≤ n
theorem Box.same {H H' : Hp} {a : Addr} {n : Nat} (b : Box H a n) (s : Same H H') : Box H' a n := by
  obtain ⟨b0, b1, b2, h, r⟩ := b
  exact ⟨b0, b1, b2, s _ _ h, r⟩
theorem Box.le {H : Hp} {a : Addr} {n m : Nat} (b : Box H a n) (h : n ≤ m) : Box H a m := by
  obtain ⟨b0, b1, b2, e, h0, h1, h2, h3, h4⟩ := b
  exact ⟨b0, b1, b2, e, h0, h1, h2, h3, by omega⟩
section
variable {P : Program} {w : World} {K : PySem.W.Frag} {mg : Str → Option Value} {base : Heap} {f : Addr} {fd : FuncData}
/-! ### _law_take -/
abbrev sTake : Stmt := top 22
theorem scTake : FnScope ["_law_box", "_law_many", "_law_found", "_law_once", "_law_twice", "_law_wide"] ["_law_box", "_law_many"] (defScope sTake) := ⟨rfl, rfl, rfl, by decide +kernel, rfl, by decide +kernel, by decide +kernel⟩
def spTake : Sp := fun vs H Q _ => ∃ (a : Addr) (n : Nat) (m : Int), vs = [.ref a, .int m] ∧ Box H a n ∧ n ≤ 1000000 ∧ 0 < m ∧ m ≤ 100000 ∧
  ∀ r H', 0 ≤ r → r < m → But a H H' → Box H' a (n + 1) → Q (.int r) H'
theorem ok_take {k : Nat} (F : Fun K "_law_take" "_law_take" sTake f fd) (m_divmod : mg "divmod" = none) : FnOk P w K mg base CX0 (k + 1) f fd ["_law_box", "_law_many"] spTake := by
  have sc := scTake
  refine F.ok sc (fun vs H Q E h => ?_) (fun cdv A outer s H vs Q E hr h => ?_)
  · obtain ⟨a, n, m, rfl, _⟩ := h
    rfl
  obtain ⟨a, n, m, rfl, hB, hn, m0, m1, q⟩ := h
  refine ⟨_, (pss_cons (ps_if (pt_cmpR op_gt (pe_ix ix_list (pv 0) pe_int (fun _ _ => rfl)) pe_int (nomark _)) (pss_cons (ps_asg (pe_callB call_divmod (by rfl) m_divmod (by decide +kernel) (pa_cons (pe_ix ix_list (pv 0) pe_int (fun _ _ => rfl)) (pa_cons (pv 1) pa_nil))) (pg_tup (by rfl) (pgs_cons (pg_sub (pv 0) pe_int set_list) (pgs_cons (pg_name (i := 2) sc.nd rfl (.inl rfl)) pgs_nil))))
      (pss_one (ps_ret (pv 2)))) pss_nil)
      (pss_cons (ps_asg (pe_op op_add (pe_ix ix_list (pv 0) pe_int (fun _ _ => rfl)) pe_int) (pg_sub (pv 0) pe_int set_list))
      (pss_cons (ps_set (i := 3) sc.nd rfl (.inl rfl) (pe_op op_mod (pe_op op_pow (pe_op op_add (pe_ix ix_list (pv 0) pe_int (fun _ _ => rfl)) (pe_op op_mul pe_int (pe_ix ix_list (pv 0) pe_int (fun _ _ => rfl)))) pe_int) pe_int))
      (pss_cons (ps_set (i := 4) sc.nd rfl (.inl rfl) (pe_op op_mod (pe_op op_mul (pe_op op_add (pv 3) (pe_ix ix_list (pv 0) pe_int (fun _ _ => rfl))) (pe_op op_add (pe_op op_add (pe_op op_mod (pv 3) pe_int) pe_int) (pe_ix ix_list (pv 0) pe_int (fun _ _ => rfl)))) pe_int))
      (pss_cons (ps_set (i := 5) sc.nd rfl (.inl rfl) (pe_op op_mod (pe_op op_add (pe_op op_add (pe_op op_fdivW (pe_ix ix_list (pv 0) pe_int (fun _ _ => rfl)) pe_int) (pe_op op_mul (pv 4) pe_int)) (pe_ix ix_list (pv 0) pe_int (fun _ _ => rfl))) pe_int))
      (pss_one (ps_ret (pe_op op_mod (pe_op op_fdivW (pe_op op_mod (pe_op op_add (pe_op op_add (pe_op op_mul (pv 4) pe_int) (pe_op op_mul (pv 5) pe_int)) (pv 3)) pe_int) pe_int) (pv 1))))))))), ?_⟩
  obtain ⟨b0, b1, b2, e, h0, h1, h2, h3, h4⟩ := hB
  refine ⟨_, rfl, a, _, 0, .int b0, rfl, rfl, SqL.of e, rfl, b0, 0, rfl, rfl, _, rfl, ite2 (fun c => ?_) (fun c => ?_)⟩
  · have c' : (0 : Int) < b0 := of_decide_eq_true c
    refine ⟨_, rfl, a, _, 0, .int b0, rfl, rfl, SqL.of e, rfl, _, rfl, b0, m, rfl, ⟨m0, by omega⟩, fun p np => ?_⟩
    have e1 := same_upd (o := .tup [.int (b0 / m), .int (b0 % m)]) np a _ e
    have lt : b0 % m < m := Int.emod_lt_of_pos _ m0
    have ge : 0 ≤ b0 % m := Int.emod_nonneg _ (by omega)
    have dv : 0 ≤ b0 / m := Int.ediv_nonneg h0 (by omega)
    refine ⟨p, _, rfl, .inl (.inl upd_same), rfl, _, _, rfl, _, rfl, a, _, 0, 0, rfl, rfl, e1, rfl, _, _, rfl, rfl, _, rfl, ?_⟩
    refine q _ _ ge lt (fun b o nb ho => ?_) ⟨b0 / m, b1, b2, upd_same, dv, h1, h2, h3, by omega⟩
    rw [upd_ne nb]
    exact same_upd np b o ho
  · have eS := SqL.of (K := K) e
    refine ⟨_, rfl, a, _, 2, .int b2, rfl, rfl, eS, rfl, b2, 1, rfl, rfl, _, rfl, a, _, 2, 2, rfl, rfl, e, rfl, ?_⟩
    have e1 : (upd H a (.lst [.int b0, .int b1, .int (b2 + 1)])) a = some (.lst [.int b0, .int b1, .int (b2 + 1)]) := upd_same
    have eS := SqL.of (K := K) e1
    refine ⟨_, rfl, a, _, 1, .int b1, rfl, rfl, eS, rfl, _, rfl, a, _, 2, .int (b2 + 1), rfl, rfl, eS, rfl, 39373, b2 + 1, rfl, rfl, .inl ⟨by decide, by decide⟩,
      b1, _, rfl, rfl, b1 + 39373 * (b2 + 1), 3, rfl, rfl, ⟨by decide, by decide, by omega⟩, _, 2147483647, rfl, rfl, (show (0 : Int) < 2147483647 by decide), ?_⟩
    dsimp only
    generalize ho : (b1 + 39373 * (b2 + 1)) ^ (3 : Int).toNat % 2147483647 = once
    have o0 : 0 ≤ once := by rw [← ho]; exact Int.emod_nonneg _ (by decide)
    have o1 : once < 2147483647 := by rw [← ho]; exact Int.emod_lt_of_pos _ (by decide)
    have o2 : 0 ≤ once % 40009 := Int.emod_nonneg _ (by decide)
    have o3 : once % 40009 < 40009 := Int.emod_lt_of_pos _ (by decide)
    refine ⟨_, rfl, _, rfl, a, _, 2, .int (b2 + 1), rfl, rfl, eS, rfl, once, b2 + 1, rfl, rfl, _, rfl, once, 40009, rfl, rfl, (show (0 : Int) < 40009 by decide), once % 40009, 7, rfl, rfl,
      _, rfl, a, _, 2, .int (b2 + 1), rfl, rfl, eS, rfl, once % 40009 + 7, b2 + 1, rfl, rfl, _, _, rfl, rfl, .inl ⟨by omega, by omega⟩, _, 2147483629, rfl, rfl, (show (0 : Int) < 2147483629 by decide), ?_⟩
    dsimp only
    generalize ht : (once + (b2 + 1)) * (once % 40009 + 7 + (b2 + 1)) % 2147483629 = twice
    have t0 : 0 ≤ twice := by rw [← ht]; exact Int.emod_nonneg _ (by decide)
    have t1 : twice < 2147483629 := by rw [← ht]; exact Int.emod_lt_of_pos _ (by decide)
    refine ⟨_, rfl, a, _, 1, .int b1, rfl, rfl, eS, rfl, b1, 2147483647, rfl, rfl, wide_div (b := 31) (by decide) (by decide) (by decide) (by decide),
      _, rfl, twice, 40009, rfl, rfl, .inr ⟨by decide, by decide⟩, _, _, rfl, rfl, _, rfl, a, _, 2, .int (b2 + 1), rfl, rfl, eS, rfl, _, b2 + 1, rfl, rfl,
      _, 2305843009213693951, rfl, rfl, (show (0 : Int) < 2305843009213693951 by decide), ?_⟩
    dsimp only
    generalize hw : (b1 / 2147483647 + twice * 40009 + (b2 + 1)) % 2305843009213693951 = wide
    refine ⟨_, rfl, twice, 48271, rfl, rfl, .inr ⟨by decide, by decide⟩, _, rfl, wide, 39373, rfl, rfl, .inr ⟨by decide, by decide⟩, _, _, rfl, rfl,
      _, rfl, _, once, rfl, rfl, _, 2305843009213693921, rfl, rfl, (show (0 : Int) < 2305843009213693921 by decide), _, 64, rfl, rfl, wide_div (b := 7) (by decide) (by decide) (by decide) (by decide), _, rfl, _, m, rfl, rfl, m0, ?_⟩
    exact q _ _ (Int.emod_nonneg _ (by omega)) (Int.emod_lt_of_pos _ m0) But.upd ⟨b0, b1, b2 + 1, e1, h0, h1, h2, by omega, by omega⟩
end
end Fd

set_option Elab.async false
set_option linter.all false
set_option maxRecDepth 100000
set_option maxHeartbeats 2000000
namespace Fd
open PySem PySem.Spec PyProof.Rows L2
theorem bit_lo (b : Bool) : -(2 ^ 64) < (if b = true then (1 : Int) else 0) := by cases b <;> decide
theorem bit_hi (b : Bool) : (if b = true then (1 : Int) else 0) < 2 ^ 64 := by cases b <;> decide
theorem bit_nn (b : Bool) : 0 ≤ (if b = true then (1 : Int) else 0) := by cases b <;> decide
section
variable {P : Program} {w : World} {K : PySem.W.Frag} {mg : Str → Option Value} {base : Heap} {f : Addr} {fd : FuncData}
/-! ### _law_draws -/
abbrev sDraws : Stmt := top 21
theorem scDraws : FnScope ["_law_script", "_law_k", "_law_cell"] ["_law_script", "_law_k"] (defScope sDraws) := ⟨rfl, rfl, rfl, by decide +kernel, rfl, by decide +kernel, by decide +kernel⟩
def spDraws (K : PySem.W.Frag) : Sp := fun vs H Q _ => ∃ (a : Addr) (k : Nat) (ns : List Int), vs = [.ref a, .int k] ∧ SqL K H a (ns.map V.int) ∧ k < 100 ∧
  ∀ p H', Same H H' → H p = none → Box H' p 0 → Q (.ref p) H'
theorem ok_draws {k : Nat} (F : Fun K "_law_draws" "_law_draws" sDraws f fd) (m_len : mg "len" = none) (m_abs : mg "abs" = none) (m_int : mg "int" = none) :
    FnOk P w K mg base CX0 (k + 1) f fd ["_law_script", "_law_k"] (spDraws K) := by
  have sc := scDraws
  refine F.ok sc (fun vs H Q E h => ?_) (fun cdv A outer s H vs Q E hr h => ?_)
  · obtain ⟨a, n, m, rfl, _⟩ := h
    rfl
  obtain ⟨a, i, ns, rfl, hS, hi, q⟩ := h
  refine ⟨_, (pss_cons (ps_set (i := 2) sc.nd rfl (.inl rfl) (pe_ifExp (pt_cmpR op_lt (pv 1) (pe_callB call_len_seq (by rfl) m_len (by decide +kernel) (pa_cons (pv 0) pa_nil)) (nomark _)) (pe_ix ix_list (pv 0) (pv 1) (fun _ _ => rfl)) pe_int))
      (pss_one (ps_ret (pe_lst (pa_cons (pe_op op_mul (pe_callB call_abs (by rfl) m_abs (by decide +kernel) (pa_cons (pv 2) pa_nil)) (pe_callTy call_int1 (by rfl) m_int (by decide +kernel) (pa_cons (pe_cmpR op_ge (pe_callB call_abs (by rfl) m_abs (by decide +kernel) (pa_cons (pv 2) pa_nil)) (pe_op op_pow pe_int pe_int) (nomark _)) pa_nil))) (pa_cons (pe_op op_add (pe_op op_add (pe_op op_mod (pv 2) pe_int) (pe_op op_mul pe_int (pv 1))) pe_int) (pa_cons pe_int pa_nil))))))), ?_⟩
  refine ⟨_, rfl, _, rfl, a, _, rfl, .inl hS, i, _, rfl, rfl, _, rfl, ifE (fun v => ∃ cell : Int, v = .int cell) (fun c => ?_) (fun c => ⟨_, ⟨0, rfl⟩, fun Q' h => h⟩) ?_⟩
  · have c' : (i : Int) < ((ns.map V.int).length : Nat) := of_decide_eq_true c
    rw [List.length_map] at c'
    have hl : i < ns.length := by omega
    exact ⟨_, ⟨ns[i], rfl⟩, fun Q' h => ⟨_, rfl, _, rfl, a, _, i, .int ns[i], rfl, rfl, hS, atI_nat (by rw [List.getElem?_map, List.getElem?_eq_getElem hl]; rfl), h⟩⟩
  rintro _ ⟨cell, rfl⟩
  refine ⟨_, rfl, cell, rfl, _, rfl, cell, rfl, 10, 18, rfl, rfl, ⟨by decide, by decide, by decide⟩, _, _, rfl, rfl, .inr ⟨_, rfl, _, _, rfl, rfl, .inr ⟨bit_lo _, bit_hi _⟩, ?_⟩⟩
  refine ⟨_, rfl, cell, 2305843009213693951, rfl, rfl, (show (0 : Int) < 2305843009213693951 by decide), _, rfl, 1000003, i, rfl, rfl, .inl ⟨by decide, by decide⟩, _, _, rfl, rfl, _, 11, rfl, rfl, ?_⟩
  have z0 : 0 ≤ cell % 2305843009213693951 := Int.emod_nonneg _ (by decide)
  have z1 : cell % 2305843009213693951 < 2305843009213693951 := Int.emod_lt_of_pos _ (by decide)
  refine ⟨by show 3 ≤ sizeLine; decide, fun p np => q p _ (same_upd np) np ⟨_, _, _, upd_same, ?_, ?_, ?_, Int.le_refl 0, Int.le_refl 0⟩⟩
  · refine Int.mul_nonneg ?_ (bit_nn _)
    split <;> omega
  · show 0 ≤ cell % 2305843009213693951 + 1000003 * (i : Int) + 11
    omega
  · show cell % 2305843009213693951 + 1000003 * (i : Int) + 11 < 4611686018427387904
    omega
/-! ### _law_folded -/
abbrev sFolded : Stmt := top 20
theorem scFolded : FnScope ["_law_script", "_law_many", "_law_cells", "_law_k", "_law_cell"] ["_law_script", "_law_many"] (defScope sFolded) := ⟨rfl, rfl, rfl, by decide +kernel, rfl, by decide +kernel, by decide +kernel⟩
def spFolded (K : PySem.W.Frag) : Sp := fun vs H Q _ => ∃ (a : Addr) (m : Nat) (ns : List Int), vs = [.ref a, .int m] ∧ SqL K H a (ns.map V.int) ∧ ns.length ≤ 63 ∧ 0 < m ∧ m ≤ 10 ∧
  ∀ p ms H', Same H H' → H' p = some (.lst (ms.map V.int)) → ms ≠ [] → ms.length ≤ 10 → Q (.ref p) H'
theorem ixN_is {n j : Nat} (h : j < n) : ixN n (j : Int) = some j := by
  unfold ixN
  rw [if_pos (by omega), if_pos (by omega), Int.toNat_natCast]
theorem cut_to (xs : List V) (m : Nat) : cutV xs none (some (m : Int)) = xs.take m := by
  unfold cutV
  rw [HT.sIx_none, HT.sIx_nat, List.drop_zero, Nat.sub_zero]
  by_cases h : m ≤ xs.length
  · rw [Nat.min_eq_left h]
  · rw [Nat.min_eq_right (by omega), List.take_of_length_le (Nat.le_refl _), List.take_of_length_le (by omega)]
theorem cut_mid (xs : List V) (m n : Nat) : cutV xs (some (m : Int)) (some (n : Int)) = (xs.drop m).take (min n xs.length - min m xs.length) := by
  unfold cutV
  rw [HT.sIx_nat, HT.sIx_nat]
  by_cases h : m ≤ xs.length
  · rw [Nat.min_eq_left h]
  · rw [Nat.min_eq_right (by omega : xs.length ≤ m), List.drop_eq_nil_of_le (Nat.le_refl _), List.drop_eq_nil_of_le (by omega)]
theorem dpAll_ints {K : PySem.W.Frag} {H : Hp} : ∀ ms : List Int, DpAll K H (ms.map V.int) (ms.map PyData.int)
  | [] => .nil
  | m :: r => .cons (.int m) (dpAll_ints r)
theorem lay_ints : ∀ ms : List Int, PyData.canLayAll0 (ms.map PyData.int) = true
  | [] => rfl
  | m :: r => by show (true && PyData.canLayAll0 (r.map PyData.int)) = true; rw [lay_ints r]; rfl
theorem deep_ints : ∀ ms : List Int, PyData.depthAll (ms.map PyData.int) = 0
  | [] => rfl
  | m :: r => by show max 0 (PyData.depthAll (r.map PyData.int)) = 0; rw [deep_ints r]; rfl
theorem shaped_ints (ms : List Int) : SeqAt.shaped (.list (ms.map PyData.int)) = true := by
  unfold SeqAt.shaped
  rw [show (PyData.list (ms.map PyData.int)).canLay0 = PyData.canLayAll0 (ms.map PyData.int) from rfl, lay_ints,
    show (PyData.list (ms.map PyData.int)).depth = PyData.depthAll (ms.map PyData.int) + 1 from rfl, deep_ints]
  rfl
theorem ok_folded {k : Nat} (F : Fun K "_law_folded" "_law_folded" sFolded f fd) (m_list : mg "list" = none) (m_enumerate : mg "enumerate" = none) :
    FnOk P w K mg base CX0 (k + 1) f fd ["_law_script", "_law_many"] (spFolded K) := by
  have sc := scFolded
  refine F.ok sc (fun vs H Q E h => ?_) (fun cdv A outer s H vs Q E hr h => ?_)
  · obtain ⟨a, n, m, rfl, _⟩ := h
    rfl
  obtain ⟨a, m, ns, rfl, hS, hl, m0, m1, q⟩ := h
  refine ⟨_, (pss_cons (ps_set (i := 2) sc.nd rfl (.inl rfl) (pe_callTy call_list_of (by rfl) m_list (by decide +kernel) (pa_cons (pe_slice sl_list (pv 0) po_none (po_some (pv 1))) pa_nil)))
      (pss_cons (ps_for PassesOwn.never rfl (pi_enum (by rfl) m_enumerate (pa_cons (pe_slice sl_list (pv 0) (po_some (pv 1)) (po_some pe_int)) pa_nil)) (pg_tup (by rfl) (pgs_cons (pg_name (i := 3) sc.nd rfl (.inl rfl)) (pgs_cons (pg_name (i := 4) sc.nd rfl (.inl rfl)) pgs_nil))) (pss_one (ps_asg (pe_op op_add (pe_ix ix_list (pv 2) (pe_op op_mod (pv 3) (pv 1)) (fun _ _ => rfl)) (pe_op op_mul (pv 4) (pe_op op_add (pv 3) pe_int))) (pg_sub (pv 2) (pe_op op_mod (pv 3) (pv 1)) set_list))))
      (pss_one (ps_ret (pe_ifExp (pt_cmpR (op_neD hr.units) (pv 2) (pe_lst pa_nil) (nomark _)) (pv 2) (pe_lst (pa_cons pe_int pa_nil))))))), ?_⟩
  refine ⟨_, rfl, _, rfl, m, rfl, a, _, rfl, hS, fun c nc => ?_⟩
  rw [cut_to]
  refine ⟨c, _, rfl, .inl (SqL.of upd_same), fun p np => ?_⟩
  have s1 : Same H (upd H c (.lst ((ns.map V.int).take m))) := same_upd nc
  have s2 := s1.trans (same_upd (o := .lst ((ns.map V.int).take m)) np)
  refine ⟨_, rfl, _, rfl, m, rfl, 63, rfl, a, _, rfl, s2.seq hS, fun e ne => ?_⟩
  rw [show cutV (ns.map V.int) (some (m : Int)) (some 63) = _ from cut_mid _ m 63]
  generalize hy : ((ns.map V.int).drop m).take (min 63 (ns.map V.int).length - min m (ns.map V.int).length) = ys
  have yl : ys ≠ [] → m < ns.length := fun h => Nat.lt_of_not_le fun g => h (by rw [← hy, List.drop_eq_nil_of_le (by rw [List.length_map]; exact g), List.take_nil])
  have yv : ∀ (i : Nat) (v : V), ys[i]? = some v → ∃ z : Int, v = V.int z := fun i v h => by
    have hm : v ∈ ns.map V.int := by
      have h1 : v ∈ ys := List.mem_of_getElem? h
      rw [← hy] at h1
      exact List.mem_of_mem_drop (List.mem_of_mem_take h1)
    obtain ⟨z, _, e⟩ := List.mem_map.mp hm
    exact ⟨z, e.symm⟩
  have y63 : ys.length ≤ 63 := by
    rw [← hy, List.length_take]
    exact Nat.le_trans (Nat.min_le_left _ _) (by omega)
  have s3 := s2.trans (same_upd (o := .lst ys) ne)
  have np0 : H p = none := s1.free np
  have pe : p ≠ e := fun z => by rw [z] at ne; rw [upd_same] at ne; cases ne
  refine ⟨e, _, rfl, SqL.of upd_same, for_it (walk_enum (K := K) (a := e) (xs := ys)) (fun i σ H' => ∃ v3 v4, ∃ ms : List Int, σ = [some (.ref a), some (.int m), some (.ref p), v3, v4] ∧ Same H H' ∧
    H' e = some (.lst ys) ∧ H' p = some (.lst (ms.map V.int)) ∧ ms.length = min m ns.length) ?_ ?_ ?_ ?_⟩
  · refine ⟨none, none, ns.take m, rfl, s3, upd_same, ?_, List.length_take⟩
    rw [upd_ne pe, upd_same, List.map_take]
  · rintro i σ H' _ ⟨v3, v4, ms, rfl, sm, he, hp, hl⟩
    exact SqL.of he
  · rintro i v σ H1 H2 hi ⟨v3, v4, ms, rfl, sm, he, hp, hl⟩ ⟨T, x, y, rfl, nT, rfl, ex, ey⟩
    cases ex
    obtain ⟨z, rfl⟩ := yv i y ey
    have hm : m < ns.length := yl (fun h => by rw [h] at hi; exact absurd hi (Nat.not_lt_zero _))
    have im : i % m < ms.length := by rw [hl, Nat.min_eq_left (by omega)]; exact Nat.mod_lt _ m0
    have hpT : (upd H1 T (.tup [.int i, .int z])) p = some (.lst (ms.map V.int)) := same_upd nT _ _ hp
    have heT : (upd H1 T (.tup [.int i, .int z])) e = some (.lst ys) := same_upd nT _ _ he
    have at1 : atI (ms.map V.int) ((i : Int) % (m : Int)) = some (.int ms[i % m]) := atI_nat (j := i % m) (by rw [List.getElem?_map, List.getElem?_eq_getElem im]; rfl)
    have ix1 : ixN (ms.map V.int).length ((i : Int) % (m : Int)) = some (i % m) := ixN_is (j := i % m) (by rw [List.length_map]; exact im)
    refine ⟨T, _, rfl, .inl (.inl upd_same), rfl, _, _, rfl, _, _, rfl, rfl, ?_⟩
    refine ⟨_, rfl, _, rfl, _, rfl, i, m, rfl, rfl, (show (0 : Int) < m by omega), p, _, _, _, rfl, rfl, SqL.of hpT, at1, _, rfl, _, rfl, i, 2, rfl, rfl, z, _, rfl, rfl, .inr ⟨by show _ < (i : Int) + 2; omega, (by show (i : Int) + 2 < 2 ^ 64; omega)⟩, _, _, rfl, rfl, ?_⟩
    refine ⟨_, rfl, _, rfl, _, rfl, i, m, rfl, rfl, (show (0 : Int) < m by omega), p, _, _, _, rfl, rfl, hpT, ix1, ?_⟩
    refine ⟨_, _, ms.set (i % m) (ms[i % m] + z * ((i : Int) + 2)), rfl, fun b o h => ?_, ?_, ?_, by rw [List.length_set]; exact hl⟩
    · rw [upd_ne (ne_of_none h np0)]
      exact same_upd nT _ _ (sm _ _ h)
    · rw [upd_ne pe.symm]; exact heT
    · rw [upd_same, List.map_set]
  · rintro σ H' ⟨v3, v4, ms, rfl, sm, he, hp, hl⟩
    refine ⟨_, rfl, by show 0 ≤ sizeLine; decide, fun t nt => ?_⟩
    have ht := same_upd (o := .lst []) nt
    refine ⟨.list (ms.map PyData.int), .list [], .lst (SqL.of (ht _ _ hp)) (dpAll_ints ms), .lst (SqL.of upd_same) .nil, shaped_ints ms, by decide, _, rfl, ?_⟩
    cases ms with
    | nil =>
      refine iteF ⟨by show 1 ≤ sizeLine; decide, fun u nu => q u [0] _ (sm.trans (ht.trans (same_upd nu))) upd_same (by simp) (by decide)⟩
    | cons x r =>
      refine iteT ⟨_, rfl, q p _ _ (sm.trans ht) (ht _ _ hp) (by simp) ?_⟩
      rw [hl]
      omega
end
end Fd

set_option Elab.async false
set_option linter.all false
set_option maxRecDepth 100000
set_option maxHeartbeats 2000000
namespace Fd
open PySem PySem.Spec PyProof.Rows L2 RZ
theorem seqT {K : PySem.W.Frag} {H H' : Hp} {a : Addr} {xs : List V} (e : Same H H') (h : SqT K H a xs) : SqT K H' a xs := by
  rcases h with (h | ⟨o, h⟩) | h
  · exact .inl (.inl (e _ _ h))
  · exact .inl (.inr ⟨o, e _ _ h⟩)
  · exact .inr h
mutual
theorem dp_same {K : PySem.W.Frag} {H H' : Hp} (s : Same H H') : ∀ (d : PyData) (v : V), Dp K H v d → Dp K H' v d
  | .none, _, h => by cases h; exact .non
  | .bool b, _, h => by cases h; exact .bl b
  | .int i, _, h => by cases h; exact .int i
  | .str x, _, h => by cases h; exact .str x
  | .list ds, _, h => by cases h with | lst q r => exact .lst (s.seq q) (dpAll_same s ds _ r)
  | .tuple ds, _, h => by cases h with | tup q r => exact .tup (seqT s q) (dpAll_same s ds _ r)
  | .dict _, _, h => by cases h
theorem dpAll_same {K : PySem.W.Frag} {H H' : Hp} (s : Same H H') : ∀ (ds : List PyData) (vs : List V), DpAll K H vs ds → DpAll K H' vs ds
  | [], _, h => by cases h; exact .nil
  | d :: ds, _, h => by cases h with | cons q r => exact .cons (dp_same s d _ q) (dpAll_same s ds _ r)
end
theorem dpAll_len {K : PySem.W.Frag} {H : Hp} : ∀ {ds : List PyData} {vs : List V}, DpAll K H vs ds → vs.length = ds.length
  | [], _, h => by cases h; rfl
  | d :: ds, _, h => by cases h with | cons q r => rw [List.length_cons, List.length_cons, dpAll_len r]
theorem dpAll_at {K : PySem.W.Frag} {H : Hp} : ∀ {ds : List PyData} {vs : List V} {i : Nat} {v : V}, DpAll K H vs ds → vs[i]? = some v → ∃ d, ds[i]? = some d ∧ Dp K H v d
  | [], _, i, v, h, e => by cases h; simp at e
  | d :: ds, _, 0, v, h, e => by cases h with | cons q r => cases (Option.some.inj e); exact ⟨d, rfl, q⟩
  | d :: ds, _, i + 1, v, h, e => by cases h with | cons q r => exact dpAll_at (i := i) r e
/-- data without dicts, less than n deep, lists of at most 1000 -/
def OkD : Nat → PyData → Prop
  | 0, _ => False
  | _ + 1, .none => True
  | _ + 1, .bool _ => True
  | _ + 1, .int _ => True
  | _ + 1, .str _ => True
  | n + 1, .list ds => ds.length ≤ 1000 ∧ ∀ d ∈ ds, OkD n d
  | n + 1, .tuple ds => ds.length ≤ 1000 ∧ ∀ d ∈ ds, OkD n d
  | _ + 1, .dict _ => False
theorem qd {Q : VK} {H : Hp} {x : V} (h : Q (.bl true) H) : Q (.bl (decide (x = x))) H := by
  rw [decide_eq_true rfl]
  exact h
theorem all_rep : ∀ n : Nat, (List.replicate n true).all id = true
  | 0 => rfl
  | n + 1 => by rw [List.replicate_succ, List.all_cons, all_rep n]; rfl
theorem ty_lst {K : PySem.W.Frag} {H : Hp} {a : Addr} {xs : List V} (h : SqL K H a xs) : TyX K H (.ref a) (.type "list") := by
  rcases h with (h | ⟨o, h⟩) | ⟨o, _, _, h, c, _⟩
  · exact .base (.lst h)
  · exact .base (.frz h)
  · exact .kList h c
theorem ty_tup {K : PySem.W.Frag} {H : Hp} {a : Addr} {xs : List V} (h : SqT K H a xs) : TyX K H (.ref a) (.type "tuple") := by
  rcases h with (h | ⟨o, h⟩) | ⟨o, _, _, h, c, _⟩
  · exact .base (.tup h)
  · exact .fTuple h
  · exact .kTuple h c
theorem kitLT {K : PySem.W.Frag} {t : String} {b1 b2 : Bool} (h1 : kitB t "list" = some b1) (h2 : kitB t "tuple" = some b2) : PySem.W.kitAny K (.type t) [.type "list", .type "tuple"] = some (b1 || b2) := by
  cases b1 with
  | true => exact kitAny_cons (kit_ty h1) (fun z => nomatch z) (fun _ => rfl)
  | false =>
    refine kitAny_cons (kit_ty h1) (fun _ => ?_) (fun z => nomatch z)
    cases b2 with
    | true => exact kitAny_cons (kit_ty h2) (fun z => nomatch z) (fun _ => rfl)
    | false => exact kitAny_cons (kit_ty h2) (fun _ => rfl) (fun z => nomatch z)
theorem walk_zipT {K : PySem.W.Frag} {a b : Addr} {xs ys : List V} {n : Nat} (hn : n = min xs.length ys.length) : Walk (ItzT K a b) n (fun H => SqT K H a xs ∧ SqT K H b ys) (YPair (fun i => xs[i]?) (fun i => ys[i]?)) := by
  subst hn
  refine ⟨fun i _ hi q => ⟨xs, ys, xs[i]'(by omega), ys[i]'(by omega), q.1, q.2, List.getElem?_eq_getElem _, List.getElem?_eq_getElem _⟩, fun _ q => ⟨xs, ys, q.1, q.2, by omega⟩, fun i H v H' _ q y => ?_⟩
  obtain ⟨T, x, z, g1, g2, g3, g4, g5⟩ := y
  exact ⟨T, x, z, g1, g2, g3, g4 xs q.1, g5 ys q.2⟩
section
variable {P : Program} {w : World} {K : PySem.W.Frag} {mg : Str → Option Value} {base : Heap} {f : Addr} {fd : FuncData}
/-! ### _law_same, of equal things -/
abbrev sSame : Stmt := top 23
theorem scSame : FnScope ["_law_found", "_law_due", "_law_one", "_law_two"] ["_law_found", "_law_due"] (defScope sSame) := ⟨rfl, rfl, rfl, by decide +kernel, rfl, by decide +kernel, by decide +kernel⟩
def spSame (K : PySem.W.Frag) (n : Nat) : Sp := fun vs H Q _ => ∃ (x y : V) (d : PyData), vs = [x, y] ∧ Dp K H x d ∧ Dp K H y d ∧ OkD n d ∧ ∀ H', Same H H' → Q (.bl true) H'
structure SameB (mg : Str → Option Value) : Prop where
  m_isinstance : mg "isinstance" = none
  m_list : mg "list" = none
  m_tuple : mg "tuple" = none
  m_len : mg "len" = none
  m_all : mg "all" = none
  m_zip : mg "zip" = none
  m_str : mg "str" = none
  m_int : mg "int" = none
  m_bool : mg "bool" = none
theorem ok_same1 {n : Nat} (F : Fun K "_law_same" "_law_same" sSame f fd) (B : SameB mg) (G : FnG P w K mg base CX0 n "_law_same" ["_law_found", "_law_due"] (spSame K n)) :
    FnOk P w K mg base CX0 (n + 1) f fd ["_law_found", "_law_due"] (spSame K (n + 1)) := by
  obtain ⟨_, _, G__law_same, m__law_same, k__law_same, b__law_same⟩ := G
  obtain ⟨m_isinstance, m_list, m_tuple, m_len, m_all, m_zip, m_str, m_int, m_bool⟩ := B
  have sc := scSame
  refine F.ok sc (fun vs H Q E h => ?_) (fun cdv A outer s H vs Q E hr h => ?_)
  · obtain ⟨a, n, m, rfl, _⟩ := h
    rfl
  obtain ⟨x, y, d, rfl, hx, hy, ok, q⟩ := h
  refine ⟨_, (pss_cons (ps_if (pt_val (pe_callB call_isiT (by rfl) m_isinstance (by decide +kernel) (pa_cons (pv 1) (pa_cons (pe_tup (pa_cons (pe_bltn (v := .ty "list") (by rfl) m_list (by decide +kernel) rfl) (pa_cons (pe_bltn (v := .ty "tuple") (by rfl) m_tuple (by decide +kernel) rfl) pa_nil))) pa_nil)))) (pss_cons (ps_if (PW.pt (pw_or (pt_cmpR op_ne (pe_callB call_isi (by rfl) m_isinstance (by decide +kernel) (pa_cons (pv 0) (pa_cons (pe_bltn (v := .ty "list") (by rfl) m_list (by decide +kernel) rfl) pa_nil))) (pe_callB call_isi (by rfl) m_isinstance (by decide +kernel) (pa_cons (pv 1) (pa_cons (pe_bltn (v := .ty "list") (by rfl) m_list (by decide +kernel) rfl) pa_nil))) (nomark _)) (pw_or1 (pt_cmpR op_ne (pe_callB call_isi (by rfl) m_isinstance (by decide +kernel) (pa_cons (pv 0) (pa_cons (pe_bltn (v := .ty "tuple") (by rfl) m_tuple (by decide +kernel) rfl) pa_nil))) (pe_callB call_isi (by rfl) m_isinstance (by decide +kernel) (pa_cons (pv 1) (pa_cons (pe_bltn (v := .ty "tuple") (by rfl) m_tuple (by decide +kernel) rfl) pa_nil))) (nomark _))))) (pss_one (ps_ret pe_bl)) pss_nil)
      (pss_one (ps_ret (pe_and (pe_cmpR op_eq (pe_callB call_len_seq (by rfl) m_len (by decide +kernel) (pa_cons (pv 0) pa_nil)) (pe_callB call_len_seq (by rfl) m_len (by decide +kernel) (pa_cons (pv 1) pa_nil)) (nomark _)) (pe_one (pe_callB (cr_all rfl) (by rfl) m_all (by decide +kernel) (pa_cons (pe_lc (own := [("_law_one", 2), ("_law_two", 3)]) (g := gTup K 2 (gCons (gName 2) (gCons (gName 3) gNil))) (by rfl) sc.nd  (pi_zipA (by rfl) m_zip (pa_cons (pv 0) (pa_cons (pv 1) pa_nil))) (blkOk_by (own := [("_law_one", 2), ("_law_two", 3)]) (N := ["_law_found", "_law_due", "_law_one", "_law_two"]) (sc := defScope sSame) (by decide +kernel)) (fun _ _ _ _ _ => (pg_tup (by rfl) (pgs_cons (pg_name (i := 2) sc.nd rfl (.inl rfl)) (pgs_cons (pg_name (i := 3) sc.nd rfl (.inl rfl)) pgs_nil)))) (fun _ _ _ _ _ => pts_nil) (fun _ _ _ _ _ => (pe_call G__law_same (hr.mono (by omega)) (by rfl) m__law_same k__law_same b__law_same .nil pass0 (pa_cons (pv 2) (pa_cons (pv 3) pa_nil))))) pa_nil))))))) pss_nil)
      (pss_cons (ps_if (PW.pt (pw_or (pt_cmpR op_isN (pv 1) pe_non (nomark _)) (pw_or1 (pt_val (pe_callB call_isi (by rfl) m_isinstance (by decide +kernel) (pa_cons (pv 1) (pa_cons (pe_bltn (v := .ty "str") (by rfl) m_str (by decide +kernel) rfl) pa_nil))))))) (pss_one (ps_ret (pe_and (pe_cmpR op_eq (pe_callB call_isi (by rfl) m_isinstance (by decide +kernel) (pa_cons (pv 0) (pa_cons (pe_bltn (v := .ty "str") (by rfl) m_str (by decide +kernel) rfl) pa_nil))) (pe_callB call_isi (by rfl) m_isinstance (by decide +kernel) (pa_cons (pv 1) (pa_cons (pe_bltn (v := .ty "str") (by rfl) m_str (by decide +kernel) rfl) pa_nil))) (nomark _)) (pe_one (pe_cmpR op_eq (pv 0) (pv 1) (nomark _)))))) pss_nil)
      (pss_one (ps_ret (pe_and (pe_callB call_isi (by rfl) m_isinstance (by decide +kernel) (pa_cons (pv 0) (pa_cons (pe_bltn (v := .ty "int") (by rfl) m_int (by decide +kernel) rfl) pa_nil))) (pe_and (pe_cmpR op_eq (pe_callB call_isi (by rfl) m_isinstance (by decide +kernel) (pa_cons (pv 0) (pa_cons (pe_bltn (v := .ty "bool") (by rfl) m_bool (by decide +kernel) rfl) pa_nil))) (pe_callB call_isi (by rfl) m_isinstance (by decide +kernel) (pa_cons (pv 1) (pa_cons (pe_bltn (v := .ty "bool") (by rfl) m_bool (by decide +kernel) rfl) pa_nil))) (nomark _)) (pe_one (pe_cmpR op_eq (pv 0) (pv 1) (nomark _))))))))), ?_⟩
  refine ⟨_, rfl, by show 2 ≤ sizeLine; decide, fun p np => ?_⟩
  have s1 : Same H (upd H p (.tup [.ty "list", .ty "tuple"])) := same_upd np
  cases d with
  | none =>
    cases hx; cases hy
    refine ⟨_, p, _, .type "NoneType", _, false, rfl, upd_same, .cons (.ty _) (.cons (.ty _) .nil), .base .non, kitLT (b1 := false) (b2 := false) (by decide +kernel) (by decide +kernel), _, rfl, iteF ?_⟩
    refine ⟨_, rfl, rfl, _, rfl, iteT (iteT ?_)⟩
    exact ⟨_, rfl, _, _, .type "NoneType", _, false, rfl, .ty _, .base .non, kit_ty (by decide +kernel), _, rfl, _, _, .type "NoneType", _, false, rfl, .ty _, .base .non, kit_ty (by decide +kernel), rfl, _, rfl,
      iteT ⟨_, rfl, _, rfl, rfl, q _ s1⟩⟩
  | str z =>
    cases hx; cases hy
    refine ⟨_, p, _, .type "str", _, false, rfl, upd_same, .cons (.ty _) (.cons (.ty _) .nil), .base (.str z), kitLT (b1 := false) (b2 := false) (by decide +kernel) (by decide +kernel), _, rfl, iteF ?_⟩
    refine ⟨_, rfl, rfl, _, rfl, iteF ⟨_, rfl, _, _, .type "str", _, true, rfl, .ty _, .base (.str z), kit_ty (by decide +kernel), _, rfl, iteT ?_⟩⟩
    exact ⟨_, rfl, _, _, .type "str", _, true, rfl, .ty _, .base (.str z), kit_ty (by decide +kernel), _, rfl, _, _, .type "str", _, true, rfl, .ty _, .base (.str z), kit_ty (by decide +kernel), rfl, _, rfl,
      iteT ⟨_, rfl, _, rfl, rfl, qd (q _ s1)⟩⟩
  | int z =>
    cases hx; cases hy
    refine ⟨_, p, _, .type "int", _, false, rfl, upd_same, .cons (.ty _) (.cons (.ty _) .nil), .base (.int z), kitLT (b1 := false) (b2 := false) (by decide +kernel) (by decide +kernel), _, rfl, iteF ?_⟩
    refine ⟨_, rfl, rfl, _, rfl, iteF ⟨_, rfl, _, _, .type "int", _, false, rfl, .ty _, .base (.int z), kit_ty (by decide +kernel), _, rfl, iteF ?_⟩⟩
    exact ⟨_, rfl, _, _, .type "int", _, true, rfl, .ty _, .base (.int z), kit_ty (by decide +kernel), _, rfl, iteT ⟨_, rfl, _, _, .type "int", _, false, rfl, .ty _, .base (.int z), kit_ty (by decide +kernel),
      _, rfl, _, _, .type "int", _, false, rfl, .ty _, .base (.int z), kit_ty (by decide +kernel), rfl, _, rfl, iteT ⟨_, rfl, _, rfl, rfl, qd (q _ s1)⟩⟩⟩
  | bool z =>
    cases hx; cases hy
    refine ⟨_, p, _, .type "bool", _, false, rfl, upd_same, .cons (.ty _) (.cons (.ty _) .nil), .base (.bl z), kitLT (b1 := false) (b2 := false) (by decide +kernel) (by decide +kernel), _, rfl, iteF ?_⟩
    refine ⟨_, rfl, rfl, _, rfl, iteF ⟨_, rfl, _, _, .type "bool", _, false, rfl, .ty _, .base (.bl z), kit_ty (by decide +kernel), _, rfl, iteF ?_⟩⟩
    exact ⟨_, rfl, _, _, .type "bool", _, true, rfl, .ty _, .base (.bl z), kit_ty (by decide +kernel), _, rfl, iteT ⟨_, rfl, _, _, .type "bool", _, true, rfl, .ty _, .base (.bl z), kit_ty (by decide +kernel),
      _, rfl, _, _, .type "bool", _, true, rfl, .ty _, .base (.bl z), kit_ty (by decide +kernel), rfl, _, rfl, iteT ⟨_, rfl, _, rfl, rfl, qd (q _ s1)⟩⟩⟩
  | dict _ => exact ok.elim
  | list ds =>
    obtain ⟨w1, w2⟩ := (show ds.length ≤ 1000 ∧ ∀ d ∈ ds, OkD n d from ok)
    cases hx with | @lst a xs _ ha ax =>
    cases hy with | @lst b ys _ hb by_ =>
    have ha1 := s1.seq ha
    have hb1 := s1.seq hb
    have le : xs.length = ys.length := (dpAll_len ax).trans (dpAll_len by_).symm
    refine ⟨_, p, _, .type "list", _, true, rfl, upd_same, .cons (.ty _) (.cons (.ty _) .nil), ty_lst hb1, kitLT (b1 := true) (b2 := false) (by decide +kernel) (by decide +kernel), _, rfl, iteT ?_⟩
    refine ⟨_, rfl, _, _, .type "list", _, true, rfl, .ty _, ty_lst ha1, kit_ty (by decide +kernel), _, rfl, _, _, .type "list", _, true, rfl, .ty _, ty_lst hb1, kit_ty (by decide +kernel), rfl, _, rfl, iteF
      ⟨_, rfl, _, _, .type "list", _, false, rfl, .ty _, ty_lst ha1, kit_ty (by decide +kernel), _, rfl, _, _, .type "list", _, false, rfl, .ty _, ty_lst hb1, kit_ty (by decide +kernel), rfl, _, rfl, iteF ?_⟩⟩
    refine ⟨_, rfl, a, _, rfl, .inl ha1, _, rfl, b, _, rfl, .inl hb1, rfl, true, congrArg V.bl (decide_eq_true (by rw [le])), iteT ?_⟩
    refine ⟨_, rfl, _, rfl, a, b, xs, ys, rfl, .inl ⟨ha1, hb1, fun D nD => lc_it (walk_zip (xs := xs) (ys := ys) rfl) (fun i H' => Same (upd H p (.tup [.ty "list", .ty "tuple"])) H' ∧ H' D = some (.lst (List.replicate i (.bl true)))) ⟨same_upd nD, upd_same⟩
      (fun i H' _ h => ⟨h.1.seq ha1, h.1.seq hb1⟩) ?_ ?_⟩⟩
    · rintro i v H1 H2 hi ⟨sm, hD⟩ ⟨T, x, y, rfl, nT, rfl, ex, ey⟩
      obtain ⟨d, ed, dx⟩ := dpAll_at (dpAll_same (s1.trans sm) ds xs ax) ex
      obtain ⟨d', ed', dy⟩ := dpAll_at (dpAll_same (s1.trans sm) ds ys by_) ey
      obtain rfl : d = d' := Option.some.inj (ed.symm.trans ed')
      have sT := same_upd (o := .tup [x, y]) nT
      refine ⟨T, _, rfl, .inl (.inl upd_same), rfl, _, _, rfl, _, _, rfl, rfl, rfl, ?_⟩
      unfold tYes
      refine iteT ?_
      refine ⟨_, rfl, _, rfl, x, y, d, rfl, dp_same sT _ _ dx, dp_same sT _ _ dy, w2 d (List.mem_of_getElem? ed), fun H3 s3 => ⟨_, s3 _ _ (sT _ _ hD), ?_, ?_, ?_⟩⟩
      · rw [List.length_replicate]
        exact small1000 (by have := dpAll_len ax; omega)
      · intro b' o' h'
        have nb : b' ≠ D := fun z => by rw [z, nD] at h'; cases h'
        rw [upd_ne nb]
        exact s3 _ _ (sT _ _ (sm _ _ h'))
      · rw [upd_same, List.replicate_succ']
    · rintro H1 ⟨sm, hD⟩
      refine ⟨D, List.replicate (min xs.length ys.length) true, rfl, SqL.of (by rw [hD, List.map_replicate]), ?_⟩
      rw [all_rep]
      exact q _ (s1.trans sm)
  | tuple ds =>
    obtain ⟨w1, w2⟩ := (show ds.length ≤ 1000 ∧ ∀ d ∈ ds, OkD n d from ok)
    cases hx with | @tup a xs _ ha ax =>
    cases hy with | @tup b ys _ hb by_ =>
    have ha1 := seqT s1 ha
    have hb1 := seqT s1 hb
    have le : xs.length = ys.length := (dpAll_len ax).trans (dpAll_len by_).symm
    refine ⟨_, p, _, .type "tuple", _, true, rfl, upd_same, .cons (.ty _) (.cons (.ty _) .nil), ty_tup hb1, kitLT (b1 := false) (b2 := true) (by decide +kernel) (by decide +kernel), _, rfl, iteT ?_⟩
    refine ⟨_, rfl, _, _, .type "tuple", _, false, rfl, .ty _, ty_tup ha1, kit_ty (by decide +kernel), _, rfl, _, _, .type "tuple", _, false, rfl, .ty _, ty_tup hb1, kit_ty (by decide +kernel), rfl, _, rfl, iteF
      ⟨_, rfl, _, _, .type "tuple", _, true, rfl, .ty _, ty_tup ha1, kit_ty (by decide +kernel), _, rfl, _, _, .type "tuple", _, true, rfl, .ty _, ty_tup hb1, kit_ty (by decide +kernel), rfl, _, rfl, iteF ?_⟩⟩
    refine ⟨_, rfl, a, _, rfl, .inr ha1, _, rfl, b, _, rfl, .inr hb1, rfl, true, congrArg V.bl (decide_eq_true (by rw [le])), iteT ?_⟩
    refine ⟨_, rfl, _, rfl, a, b, xs, ys, rfl, .inr ⟨ha1, hb1, fun D nD => lc_it (walk_zipT (xs := xs) (ys := ys) rfl) (fun i H' => Same (upd H p (.tup [.ty "list", .ty "tuple"])) H' ∧ H' D = some (.lst (List.replicate i (.bl true)))) ⟨same_upd nD, upd_same⟩
      (fun i H' _ h => ⟨seqT h.1 ha1, seqT h.1 hb1⟩) ?_ ?_⟩⟩
    · rintro i v H1 H2 hi ⟨sm, hD⟩ ⟨T, x, y, rfl, nT, rfl, ex, ey⟩
      obtain ⟨d, ed, dx⟩ := dpAll_at (dpAll_same (s1.trans sm) ds xs ax) ex
      obtain ⟨d', ed', dy⟩ := dpAll_at (dpAll_same (s1.trans sm) ds ys by_) ey
      obtain rfl : d = d' := Option.some.inj (ed.symm.trans ed')
      have sT := same_upd (o := .tup [x, y]) nT
      refine ⟨T, _, rfl, .inl (.inl upd_same), rfl, _, _, rfl, _, _, rfl, rfl, rfl, ?_⟩
      unfold tYes
      refine iteT ?_
      refine ⟨_, rfl, _, rfl, x, y, d, rfl, dp_same sT _ _ dx, dp_same sT _ _ dy, w2 d (List.mem_of_getElem? ed), fun H3 s3 => ⟨_, s3 _ _ (sT _ _ hD), ?_, ?_, ?_⟩⟩
      · rw [List.length_replicate]
        exact small1000 (by have := dpAll_len ax; omega)
      · intro b' o' h'
        have nb : b' ≠ D := fun z => by rw [z, nD] at h'; cases h'
        rw [upd_ne nb]
        exact s3 _ _ (sT _ _ (sm _ _ h'))
      · rw [upd_same, List.replicate_succ']
    · rintro H1 ⟨sm, hD⟩
      refine ⟨D, List.replicate (min xs.length ys.length) true, rfl, SqL.of (by rw [hD, List.map_replicate]), ?_⟩
      rw [all_rep]
      exact q _ (s1.trans sm)
theorem ok_same (F : Fun K "_law_same" "_law_same" sSame f fd) (B : SameB mg) (m : mg "_law_same" = some (.ref f)) (b : Binds K fd ["_law_found", "_law_due"] []) :
    ∀ n, FnOk P w K mg base CX0 n f fd ["_law_found", "_law_due"] (spSame K n)
  | 0 => ⟨fun vs H Q E h => by obtain ⟨_, _, d, _, _, _, ok, _⟩ := h; exact ok.elim, fun A outer s H args us vs Q E _ _ _ _ h => by obtain ⟨_, _, d, _, _, _, ok, _⟩ := h; exact ok.elim⟩
  | n + 1 => ok_same1 F B ⟨f, fd, ok_same F B m b n, m, F.kp, b⟩
end
end Fd

set_option Elab.async false
set_option linter.all false
set_option maxRecDepth 100000
set_option maxHeartbeats 2000000
namespace Fd
open PySem PySem.Spec PyProof.Rows L2
section
variable {X : Cx}
/-- text * number -/
theorem op_mul_str : OpR X (binaryOp .Mult) (fun x y H Q => ∃ z n, x = .str z ∧ y = .int n ∧ MulOk z n ∧ Q (.str (Txt.mul z n)) H) := by
  intro pins s σ H x y v u Q I rx ry h
  obtain ⟨z, n, rfl, rfl, hz, q⟩ := h
  obtain ⟨t, rfl⟩ := rx
  obtain ⟨t', rfl⟩ := ry
  exact SB.mul hz fun t' tk => ⟨.str (Txt.mul z n), H, I.tok _, ⟨_, rfl⟩, q⟩
end
/-! ### words -/
/-- one to eight letters a to z -/
def IsNm (z : Str) : Prop := 1 ≤ z.cps.size ∧ z.cps.size ≤ 8 ∧ ∀ c ∈ z.cps.toList, 97 ≤ c ∧ c ≤ 122
abbrev ltrs : Str := Str.ofString "abcdefghijklmnoprstuvwxyz"
theorem ltrs_len : ltrs.cps.toList.length = 25 := by decide +kernel
theorem ltrs_all : ∀ c ∈ ltrs.cps.toList, 97 ≤ c ∧ c ≤ 122 := by decide +kernel
theorem ltrs_nodup : ltrs.cps.toList.Nodup := by decide +kernel
def ltr (i : Nat) : Nat := ltrs.cps.toList.getD i 0
theorem ltr_at {i : Nat} (h : i < 25) : ltrs.cps.toList[i]? = some (ltr i) := by
  have h' : i < ltrs.cps.toList.length := by rw [ltrs_len]; exact h
  unfold ltr
  rw [List.getD_eq_getElem?_getD, List.getElem?_eq_getElem h']
  rfl
theorem ltr_ok {i : Nat} (h : i < 25) : 97 ≤ ltr i ∧ ltr i ≤ 122 := ltrs_all _ (List.mem_of_getElem? (ltr_at h))
theorem ltr_inj {i j : Nat} (hi : i < 25) (hj : j < 25) (e : ltr i = ltr j) : i = j := nd_ix ltrs_nodup (ltr_at hi) (by rw [e]; exact ltr_at hj)
theorem ltr_atI {i : Int} (h0 : 0 ≤ i) (h : i < 25) : atI ltrs.cps.toList i = some (ltr i.toNat) := by
  have e : i = ((i.toNat : Nat) : Int) := by omega
  rw [e]
  exact atI_nat (by rw [Int.toNat_natCast]; exact ltr_at (by omega))
theorem ltrs_fit : ltrs.length ≤ sizeLine := by decide +kernel
theorem nodup_of {α : Type} {f : Nat → α} {m : Nat} (h : ∀ i j, i < j → j < m → f i ≠ f j) : ((List.range m).map f).Nodup := by
  refine List.pairwise_iff_getElem.mpr fun i j hi hj hij => ?_
  rw [List.length_map, List.length_range] at hi hj
  rw [List.getElem_map, List.getElem_map, List.getElem_range, List.getElem_range]
  exact h i j hij hj
/-- the k-th word of one letter told k + 1 times -/
def rep (c : Nat) (k : Nat) : Str := Txt.mul ⟨#[c]⟩ ((k : Int) + 1)
theorem fold_app (c : Nat) : ∀ (n : Nat) (acc : Array Nat), ((List.replicate n (#[c] : Array Nat)).foldl (· ++ ·) acc).toList = acc.toList ++ List.replicate n c
  | 0, acc => by simp
  | n + 1, acc => by
    rw [List.replicate_succ, List.foldl_cons, fold_app c n, Array.toList_append, List.replicate_succ, List.append_assoc]
    rfl
theorem rep_codes (c k : Nat) : (rep c k).cps.toList = List.replicate (k + 1) c := by
  unfold rep Txt.mul
  rw [if_neg (by omega)]
  by_cases h : k = 0
  · subst h
    rfl
  · have e : (((k : Int) + 1 == 1) || ((⟨#[c]⟩ : Str).length == 0)) = false := by
      rw [show ((k : Int) + 1 == 1) = false from beq_eq_false_iff_ne.mpr (by omega)]
      rfl
    rw [e, if_neg Bool.false_ne_true, show ((k : Int) + 1).toNat = k + 1 by omega]
    exact (fold_app c (k + 1) #[]).trans (List.nil_append _)
theorem rep_ok {c k : Nat} (hk : k < 7) : MulOk ⟨#[c]⟩ ((k : Int) + 1) := by
  refine ⟨?_, fun _ _ => ?_, fun _ _ => ?_⟩
  · rw [decide_eq_false (by omega), decide_eq_false (by omega)]
    rfl
  · show ¬ ((1 : Int) > (2 ^ 63 - 1) / ((k : Int) + 1))
    have : k = 0 ∨ k = 1 ∨ k = 2 ∨ k = 3 ∨ k = 4 ∨ k = 5 ∨ k = 6 := by omega
    rcases this with rfl | rfl | rfl | rfl | rfl | rfl | rfl <;> decide
  · rw [show (⟨#[c]⟩ : Str).length * ((k : Int) + 1).toNat = k + 1 by show 1 * _ = _; omega]
    have : k = 0 ∨ k = 1 ∨ k = 2 ∨ k = 3 ∨ k = 4 ∨ k = 5 ∨ k = 6 := by omega
    rcases this with rfl | rfl | rfl | rfl | rfl | rfl | rfl <;> decide +kernel
theorem rep_nm {c k : Nat} (hc : 97 ≤ c ∧ c ≤ 122) (hk : k < 7) : IsNm (rep c k) := by
  have l : (rep c k).cps.size = k + 1 := by rw [← Array.length_toList, rep_codes, List.length_replicate]
  refine ⟨by omega, by omega, fun x hx => ?_⟩
  rw [rep_codes] at hx
  rw [List.eq_of_mem_replicate hx]
  exact hc
theorem rep_ne {c i j : Nat} (h : i < j) : rep c i ≠ rep c j := fun e => by
  have := congrArg (fun z : Str => z.cps.toList.length) e
  simp only [rep_codes, List.length_replicate] at this
  omega
/-- a stem with one letter put in -/
def put1 (z : Str) (at_ : Int) (c : Nat) : Str := cutS z none (some at_) ++ ⟨#[c]⟩ ++ cutS z (some at_) none
theorem put1_codes {z : Str} {n : Nat} (h : n ≤ z.length) (c : Nat) : (put1 z (n : Int) c).cps.toList = z.cps.toList.take n ++ c :: z.cps.toList.drop n := by
  have l : z.cps.toList.length = z.length := Array.length_toList
  have e1 : (cutS z none (some (n : Int))).cps.toList = z.cps.toList.take n := by
    show ((z.cps.toList.drop (HT.sIx z.length 0 none)).take (HT.sIx z.length z.length (some (n : Int)) - HT.sIx z.length 0 none)) = _
    rw [HT.sIx_none, HT.sIx_nat, Nat.min_eq_left h]
    rfl
  have e2 : (cutS z (some (n : Int)) none).cps.toList = z.cps.toList.drop n := by
    show ((z.cps.toList.drop (HT.sIx z.length 0 (some (n : Int)))).take (HT.sIx z.length z.length none - HT.sIx z.length 0 (some (n : Int)))) = _
    rw [HT.sIx_none, HT.sIx_nat, Nat.min_eq_left h]
    exact List.take_of_length_le (by rw [List.length_drop, l]; exact Nat.le_refl _)
  show ((cutS z none (some (n : Int))).cps ++ #[c] ++ (cutS z (some (n : Int)) none).cps).toList = _
  rw [Array.toList_append, Array.toList_append, e1, e2, List.append_assoc]
  rfl
theorem put1_nm {z : Str} {n c : Nat} (h : n ≤ z.length) (hz : z.length ≤ 7) (hs : ∀ x ∈ z.cps.toList, 97 ≤ x ∧ x ≤ 122) (hc : 97 ≤ c ∧ c ≤ 122) : IsNm (put1 z (n : Int) c) := by
  have l0 : z.cps.toList.length = z.length := Array.length_toList
  have l : (put1 z (n : Int) c).cps.size = z.length + 1 := by
    rw [← Array.length_toList, put1_codes h, List.length_append, List.length_cons, List.length_take, List.length_drop, l0]
    omega
  refine ⟨by omega, by omega, fun x hx => ?_⟩
  rw [put1_codes h] at hx
  rcases List.mem_append.mp hx with q | q
  · exact hs _ (List.mem_of_mem_take q)
  · rcases List.mem_cons.mp q with q | q
    · rw [q]; exact hc
    · exact hs _ (List.mem_of_mem_drop q)
theorem put1_ne {z : Str} {n c c' : Nat} (h : n ≤ z.length) (hc : c ≠ c') : put1 z (n : Int) c ≠ put1 z (n : Int) c' := fun e => by
  have q := congrArg (fun z : Str => z.cps.toList) e
  simp only [put1_codes h] at q
  exact hc (List.cons.inj (List.append_cancel_left q)).1
abbrev one (c : Nat) : Str := ⟨#[c]⟩
theorem glue1 : ∀ (cs : List Nat) (acc : Array Nat), ((cs.map one).foldl (fun acc p => acc ++ (Str.ofString "").cps ++ p.cps) acc).toList = acc.toList ++ cs
  | [], acc => by simp
  | c :: cs, acc => by
    rw [List.map_cons, List.foldl_cons, glue1 cs, Array.toList_append, Array.toList_append, show (Str.ofString "").cps.toList = [] by decide +kernel, List.append_nil, List.append_assoc]
    rfl
theorem join1 : ∀ cs : List Nat, (Txt.join (Str.ofString "") (cs.map one)).cps.toList = cs
  | [] => rfl
  | c :: cs => glue1 cs #[c]
theorem But.free {a d : Addr} {H H' : Hp} {o : HO} (s : But a H H') (ha : H' a = some o) (h : H' d = none) : H d = none := by
  cases q : H d with
  | none => rfl
  | some u =>
    by_cases e : d = a
    · rw [e, ha] at h
      cases h
    · rw [s d u e q] at h
      cases h
theorem Box.is {H : Hp} {a : Addr} {n : Nat} (b : Box H a n) : ∃ o, H a = some o := by
  obtain ⟨b0, b1, b2, h, _⟩ := b
  exact ⟨_, h⟩
theorem Box.ne {H : Hp} {a d : Addr} {n : Nat} (b : Box H a n) (h : H d = none) : a ≠ d := by
  obtain ⟨o, e⟩ := b.is
  exact ne_of_none e h
theorem Box.upd {H : Hp} {a d : Addr} {n : Nat} {o : HO} (b : Box H a n) (h : a ≠ d) : Box (upd H d o) a n := by
  obtain ⟨b0, b1, b2, e, r⟩ := b
  exact ⟨b0, b1, b2, by rw [upd_ne h]; exact e, r⟩
theorem ifT {c : Prop} [Decidable c] {A B : Prop} (hc : c) (h : A) : if decide c = true then A else B := by
  rw [if_pos (decide_eq_true hc)]
  exact h
theorem ifF {c : Prop} [Decidable c] {A B : Prop} (hc : ¬ c) (h : B) : if decide c = true then A else B := by
  rw [decide_eq_false hc, if_neg Bool.false_ne_true]
  exact h
section
variable {P : Program} {w : World} {K : PySem.W.Frag} {mg : Str → Option Value} {base : Heap} {f : Addr} {fd : FuncData}
/-! ### _law_names -/
abbrev sNames : Stmt := top 24
theorem scNames : FnScope ["_law_box", "_law_many", "_law_letters", "_law_onset", "_law_way", "_law_stem", "_law_at", "_law_k"] ["_law_box", "_law_many"] (defScope sNames) := ⟨rfl, rfl, rfl, by decide +kernel, rfl, by decide +kernel, by decide +kernel⟩
def spNames : Sp := fun vs H Q _ => ∃ (a : Addr) (n m : Nat), vs = [.ref a, .int m] ∧ Box H a n ∧ n + 12 ≤ 1000000 ∧ m < 8 ∧
  ∀ (p : Addr) (ws : List Str) (H' : Hp), But a H H' → Box H' a (n + 12) → H p = none → H' p = some (.lst (ws.map V.str)) → ws.length = m → ws.Nodup → (∀ z ∈ ws, IsNm z) → Q (.ref p) H'
theorem ok_names {k : Nat} (F : Fun K "_law_names" "_law_names" sNames f fd) (G : FnG P w K mg base CX0 k "_law_take" ["_law_box", "_law_many"] spTake) (m_len : mg "len" = none) (m_range : mg "range" = none) :
    FnOk P w K mg base CX0 (k + 1) f fd ["_law_box", "_law_many"] spNames := by
  obtain ⟨_, _, G__law_take, m__law_take, k__law_take, b__law_take⟩ := G
  have sc := scNames
  refine F.ok sc (fun vs H Q E h => ?_) (fun cdv A outer s H vs Q E hr h => ?_)
  · obtain ⟨a, n, m, rfl, _⟩ := h
    rfl
  obtain ⟨a, n, m, rfl, hB, hn, hm, q⟩ := h
  refine ⟨_, (pss_cons (ps_asg (pe_tup (pa_cons pe_str (pa_cons (pe_call G__law_take (hr.mono (by omega)) (by rfl) m__law_take k__law_take b__law_take .nil pass0 (pa_cons (pv 0) (pa_cons pe_int pa_nil))) (pa_cons (pe_call G__law_take (hr.mono (by omega)) (by rfl) m__law_take k__law_take b__law_take .nil pass0 (pa_cons (pv 0) (pa_cons pe_int pa_nil))) pa_nil)))) (pg_tup (by rfl) (pgs_cons (pg_name (i := 2) sc.nd rfl (.inr rfl)) (pgs_cons (pg_name (i := 3) sc.nd rfl (.inr rfl)) (pgs_cons (pg_name (i := 4) sc.nd rfl (.inl rfl)) pgs_nil)))))
      (pss_cons (ps_set (i := 5) sc.nd rfl (.inr rfl) (pe_join pe_str (pe_lc (own := [("_law_k", 7)]) (by rfl) sc.nd  (pi_range1 (by rfl) m_range (pa_cons (pe_call G__law_take (hr.mono (by omega)) (by rfl) m__law_take k__law_take b__law_take .nil pass0 (pa_cons (pv 0) (pa_cons pe_int pa_nil))) pa_nil)) (blkOk_by (own := [("_law_k", 7)]) (N := ["_law_box", "_law_many", "_law_letters", "_law_onset", "_law_way", "_law_stem", "_law_at", "_law_k"]) (sc := defScope sNames) (by decide +kernel)) (fun _ _ _ _ _ => (pg_name (i := 7) sc.nd rfl (.inl rfl))) (fun _ _ _ _ _ => pts_nil) (fun _ _ _ _ _ => (pe_ix ix_str (pv 2) (pe_call G__law_take (hr.mono (by omega)) (by rfl) m__law_take k__law_take b__law_take .nil pass0 (pa_cons (pv 0) (pa_cons pe_int pa_nil))) (fun _ _ => rfl))))))
      (pss_cons (ps_if (PW.pt (pw_and (pt_cmpR op_lt (pv 1) pe_int (nomark _)) (pw_and1 (pt_cmpR op_eq (pv 4) pe_int (nomark _))))) (pss_one (ps_ret (pe_lc (own := [("_law_k", 7)]) (by rfl) sc.nd  (pi_range1 (by rfl) m_range (pa_cons (pv 1) pa_nil)) (blkOk_by (own := [("_law_k", 7)]) (N := ["_law_box", "_law_many", "_law_letters", "_law_onset", "_law_way", "_law_stem", "_law_at", "_law_k"]) (sc := defScope sNames) (by decide +kernel)) (fun _ _ _ _ _ => (pg_name (i := 7) sc.nd rfl (.inl rfl))) (fun _ _ _ _ _ => pts_nil) (fun _ _ _ _ _ => (pe_op op_mul_str (pe_ix ix_str (pv 2) (pv 3) (fun _ _ => rfl)) (pe_op op_add (pv 7) pe_int)))))) pss_nil)
      (pss_cons (ps_set (i := 6) sc.nd rfl (.inr rfl) (pe_ix ix_list (pe_lst (pa_cons pe_int (pa_cons (pe_call G__law_take (hr.mono (by omega)) (by rfl) m__law_take k__law_take b__law_take .nil pass0 (pa_cons (pv 0) (pa_cons (pe_op op_add (pe_callB call_len_str (by rfl) m_len (by decide +kernel) (pa_cons (pv 5) pa_nil)) pe_int) pa_nil))) (pa_cons (pe_callB call_len_str (by rfl) m_len (by decide +kernel) (pa_cons (pv 5) pa_nil)) pa_nil)))) (pv 4) (fun _ _ => rfl)))
      (pss_one (ps_ret (pe_lc (own := [("_law_k", 7)]) (by rfl) sc.nd  (pi_range1 (by rfl) m_range (pa_cons (pv 1) pa_nil)) (blkOk_by (own := [("_law_k", 7)]) (N := ["_law_box", "_law_many", "_law_letters", "_law_onset", "_law_way", "_law_stem", "_law_at", "_law_k"]) (sc := defScope sNames) (by decide +kernel)) (fun _ _ _ _ _ => (pg_name (i := 7) sc.nd rfl (.inl rfl))) (fun _ _ _ _ _ => pts_nil) (fun _ _ _ _ _ => (pe_op op_add_str (pe_op op_add_str (pe_slice sl_str (pv 5) po_none (po_some (pv 6))) (pe_ix ix_str (pv 2) (pe_op op_mod (pe_op op_add (pv 3) (pe_op op_mul pe_int (pv 7))) pe_int) (fun _ _ => rfl))) (pe_slice sl_str (pv 5) (po_some (pv 6)) po_none)))))))))), ?_⟩
  refine ⟨_, rfl, a, n, 25, rfl, hB, by omega, by decide, by decide, fun r1 H1 r10 r11 s1 B1 => ⟨_, rfl, a, n + 1, 3, rfl, B1, by omega, by decide, by decide, fun r2 H2 r20 r21 s2 B2 => ?_⟩⟩
  refine ⟨by show 3 ≤ sizeLine; decide, fun t nt => ⟨t, _, rfl, .inl (.inl upd_same), rfl, _, _, rfl, _, _, rfl, _, _, rfl, rfl, ?_⟩⟩
  have s3 := (s1.trans s2).trans (But.of (same_upd (o := .tup [.str ltrs, .int r1, .int r2]) nt))
  have B3 : Box (upd H2 t (.tup [.str ltrs, .int r1, .int r2])) a (n + 2) := B2.same (same_upd nt)
  refine ⟨⟨_, rfl⟩, _, rfl, a, n + 2, 8, rfl, B3, by omega, by decide, by decide, fun r3 H3 r30 r31 s4 B4 => ⟨r3, rfl, by omega, by omega, fun D nD => lc_it walk_range
    (fun i H' => But a H3 H' ∧ Box H' a (n + 3 + i) ∧ ∃ cs : List Nat, cs.length = i ∧ (∀ c ∈ cs, 97 ≤ c ∧ c ≤ 122) ∧ H' D = some (.lst ((cs.map one).map V.str))) ⟨But.of (same_upd nD), B4.same (same_upd nD), [], rfl, (by intro c hc; cases hc), upd_same⟩
    (fun _ _ _ _ => trivial) ?_ ?_⟩⟩
  · rintro i x H4 _ hi ⟨s5, B5, cs, hl, hc, hD⟩ ⟨rfl, rfl⟩
    refine ⟨rfl, ?_⟩
    unfold tYes
    refine iteT ⟨_, rfl, _, rfl, a, n + 3 + i, 25, rfl, B5, by omega, by decide, by decide, fun r4 H5 r40 r41 s6 B6 => ?_⟩
    have aD : D ≠ a := (B4.ne nD).symm
    have hD5 := s6 _ _ aD hD
    refine ⟨ltrs, r4, _, rfl, rfl, ltrs_fit, ltr_atI r40 r41, _, hD5, ?_, fun b o nb h => ?_, B6.upd aD.symm, cs ++ [ltr r4.toNat], by rw [List.length_append, hl]; rfl, fun c hc' => ?_, ?_⟩
    · rw [List.length_map, List.length_map, hl]
      exact small1000 (by omega)
    · by_cases hb : b = D
      · rw [hb, nD] at h
        cases h
      · rw [upd_ne hb]
        exact s6 _ _ nb (s5 _ _ nb h)
    · rcases List.mem_append.mp hc' with z | z
      · exact hc c z
      · rw [List.mem_singleton.mp z]
        exact ltr_ok (by omega)
    · rw [upd_same, List.map_append, List.map_append]
      rfl
  rintro H4 ⟨s5, B5, cs, hl, hc, hD⟩
  have r3l : r3.toNat ≤ 7 := by omega
  refine ⟨_, D, cs.map one, rfl, rfl, .inl (SqL.of hD), ?_, ?_⟩
  · have e1 : ((cs.map one).map (·.length)).sum = cs.length := by
      clear hl hc hD
      induction cs with
      | nil => rfl
      | cons c r ih => rw [List.map_cons, List.map_cons, List.sum_cons, ih, List.length_cons]; show 1 + _ = _; omega
    rw [e1, show (Str.ofString "").length = 0 by decide +kernel, Nat.mul_zero]
    omega
  generalize hst : Txt.join (Str.ofString "") (cs.map one) = stem
  have stc : stem.cps.toList = cs := by rw [← hst]; exact join1 cs
  have stl : stem.length = r3.toNat := by rw [show stem.length = stem.cps.toList.length from Array.length_toList.symm, stc, hl]
  have sta : ∀ x ∈ stem.cps.toList, 97 ≤ x ∧ x ≤ 122 := by rw [stc]; exact hc
  have B6 : Box H4 a (n + 10) := B5.le (by omega)
  have s6 := (s3.trans s4).trans s5
  obtain ⟨ob, hob⟩ := B6.is
  refine ⟨_, rfl, _, _, rfl, rfl, _, rfl, ifT (by omega) ⟨_, rfl, rfl, _, rfl, ite2 (fun c => ?_) (fun c => ?_)⟩⟩
  · have e2 : r2 = 0 := V.int.inj (of_decide_eq_true c)
    refine ⟨_, rfl, m, rfl, by omega, by omega, fun D2 nD2 => lc_it walk_range
      (fun i H' => But a H4 H' ∧ Box H' a (n + 10) ∧ H' D2 = some (.lst (((List.range i).map (rep (ltr r1.toNat))).map V.str))) ⟨But.of (same_upd nD2), B6.same (same_upd nD2), upd_same⟩
      (fun _ _ _ _ => trivial) ?_ ?_⟩
    · rintro i x H5 _ hi ⟨s7, B7, hD2⟩ ⟨rfl, ex⟩
      obtain rfl : x = V.int i := ex.trans (congrArg V.int (Int.zero_add _))
      have hi' : i < m := by simpa using hi
      refine ⟨rfl, ?_⟩
      unfold tYes
      refine iteT ⟨_, rfl, _, rfl, ltrs, r1, _, rfl, rfl, ltrs_fit, ltr_atI r10 r11, _, rfl, _, _, rfl, rfl, _, _, rfl, rfl, rep_ok (by omega), _, hD2, ?_, fun b o nb h => ?_, B7.upd (B6.ne nD2), ?_⟩
      · rw [List.length_map, List.length_map, List.length_range]
        exact small1000 (by omega)
      · rw [upd_ne (fun z => by rw [z, nD2] at h; cases h)]
        exact s7 _ _ nb h
      · rw [upd_same, List.range_succ, List.map_append, List.map_append]
        rfl
    · rintro H5 ⟨s7, B7, hD2⟩
      refine q D2 _ H5 (s6.trans s7) (B7.le (by omega)) (s6.free hob nD2) hD2 ?_ (nodup_of fun i j h1 h2 => rep_ne h1) fun z hz => ?_
      · rw [List.length_map, List.length_range, Int.toNat_natCast]
      · obtain ⟨i, hi, rfl⟩ := List.mem_map.mp hz
        have hi' : i < m := by simpa using hi
        exact rep_nm (ltr_ok (by omega)) (by omega)
  · have e2 : r2 ≠ 0 := fun z => c (decide_eq_true (by rw [z]))
    refine ⟨_, rfl, _, rfl, stem, rfl, Nat.le_of_lt (small1000 (by omega)), _, 1, rfl, rfl, a, n + 10, _, rfl, B6, by omega, by omega, by omega, fun r4 H5 r40 r41 s7 B7 => ?_⟩
    refine ⟨_, rfl, stem, rfl, Nat.le_of_lt (small1000 (by omega)), by show 3 ≤ sizeLine; decide, fun l nl => ?_⟩
    obtain ⟨na, hna, hat⟩ : ∃ na : Nat, na ≤ stem.length ∧ atI [V.int 0, V.int r4, V.int (stem.length : Nat)] r2 = some (.int (na : Int)) := by
      have : r2 = 1 ∨ r2 = 2 := by omega
      rcases this with rfl | rfl
      · exact ⟨r4.toNat, by omega, by rw [show ((r4.toNat : Nat) : Int) = r4 by omega]; rfl⟩
      · exact ⟨stem.length, Nat.le_refl _, rfl⟩
    refine ⟨_, rfl, l, _, r2, _, rfl, rfl, SqL.of upd_same, hat, ?_⟩
    have s8 : But a H4 (upd H5 l (.lst [.int 0, .int r4, .int (stem.length : Nat)])) := s7.trans (But.of (same_upd nl))
    have B8 : Box (upd H5 l (.lst [.int 0, .int r4, .int (stem.length : Nat)])) a (n + 11) := B7.same (same_upd nl)
    obtain ⟨ob8, hob8⟩ := B8.is
    refine ⟨_, rfl, m, rfl, by omega, by omega, fun D2 nD2 => lc_it walk_range
      (fun i H' => But a (upd H5 l (.lst [.int 0, .int r4, .int (stem.length : Nat)])) H' ∧ Box H' a (n + 11) ∧ H' D2 = some (.lst (((List.range i).map fun k => put1 stem (na : Int) (ltr ((r1.toNat + 7 * k) % 25))).map V.str)))
      ⟨But.of (same_upd nD2), B8.same (same_upd nD2), upd_same⟩ (fun _ _ _ _ => trivial) ?_ ?_⟩
    · rintro i x H6 _ hi ⟨s9, B9, hD2⟩ ⟨rfl, ex⟩
      obtain rfl : x = V.int i := ex.trans (congrArg V.int (Int.zero_add _))
      have hi' : i < m := by simpa using hi
      have ei : (r1 + 7 * (i : Int)) % 25 = (((r1.toNat + 7 * i) % 25 : Nat) : Int) := by omega
      refine ⟨rfl, ?_⟩
      unfold tYes
      refine iteT ⟨_, rfl, _, rfl, na, rfl, stem, rfl, Nat.le_of_lt (small1000 (by omega)), _, rfl, _, rfl, _, rfl, 7, i, rfl, rfl, .inl ⟨by decide, by decide⟩, r1, _, rfl, rfl, _, 25, rfl, rfl, (show (0 : Int) < 25 by decide),
        ltrs, _, _, rfl, rfl, ltrs_fit, ltr_atI (by omega) (by omega), _, _, rfl, rfl, ?_, _, rfl, _, rfl, na, rfl, stem, rfl, Nat.le_of_lt (small1000 (by omega)), _, _, rfl, rfl, ?_, _, hD2, ?_, fun b o nb h => ?_, B9.upd (B8.ne nD2), ?_⟩
      · have := cutS_length stem none (some (na : Int))
        exact Nat.le_of_lt (small1000 (by show (cutS stem none (some (na : Int))).length + 1 ≤ 1000; omega))
      · have h1 := cutS_length stem none (some (na : Int))
        have h2 := cutS_length stem (some (na : Int)) none
        have h3 : (cutS stem none (some (na : Int)) ++ one (ltr ((r1 + 7 * (i : Int)) % 25).toNat)).length = (cutS stem none (some (na : Int))).length + 1 := Array.size_append
        exact Nat.le_of_lt (small1000 (by show (cutS stem none (some (na : Int)) ++ one (ltr ((r1 + 7 * (i : Int)) % 25).toNat)).length + (cutS stem (some (na : Int)) none).length ≤ 1000; omega))
      · rw [List.length_map, List.length_map, List.length_range]
        exact small1000 (by omega)
      · rw [upd_ne (fun z => by rw [z, nD2] at h; cases h)]
        exact s9 _ _ nb h
      · rw [upd_same, List.range_succ, List.map_append, List.map_append]
        show some (HO.lst (_ ++ [V.str (put1 stem (na : Int) (ltr ((r1 + 7 * (i : Int)) % 25).toNat))])) = _
        rw [ei, Int.toNat_natCast]
        rfl
    · rintro H6 ⟨s9, B9, hD2⟩
      refine q D2 _ H6 ((s6.trans s8).trans s9) (B9.le (by omega)) ((s6.trans s8).free hob8 nD2) hD2 ?_ (nodup_of fun i j h1 h2 => put1_ne hna fun z => ?_) fun z hz => ?_
      · rw [List.length_map, List.length_range, Int.toNat_natCast]
      · have := ltr_inj (Nat.mod_lt _ (by decide)) (Nat.mod_lt _ (by decide)) z
        have h2' : j < m := by simpa using h2
        omega
      · obtain ⟨i, hi, rfl⟩ := List.mem_map.mp hz
        exact put1_nm hna (by omega) sta (ltr_ok (Nat.mod_lt _ (by decide)))
end
end Fd

set_option Elab.async false
set_option linter.all false
set_option maxRecDepth 100000
set_option maxHeartbeats 2000000
namespace Fd
open PySem PySem.Spec PyProof.Rows L2
/-! ### more rules -/
def gOr (g g' : TG) : TG := fun v σ H Q => g v σ H Q ∨ g' v σ H Q
section
variable {X : Cx}
/-- of several defs that may raise, the one that the i-th slot holds -/
def HeldX (P : Program) (w : World) (K : PySem.W.Frag) (mg : Str → Option Value) (base : Heap) (k : Nat) (f : Addr) (sp : Sp) : Prop :=
  ∃ (fd : FuncData) (ps : List Str), FnOk P w K mg base (L2.CX P w) k f fd ps sp ∧ PySem.W.keepIn K (.ref f) = true ∧ Binds K fd ps []
def tCallX (P : Program) (w : World) (K : PySem.W.Frag) (mg : Str → Option Value) (base : Heap) (k i : Nat) (E : L2.St → XK) (t : TA) : TE := fun σ H Q =>
  ∃ f sp, σ[i]? = some (some (.ref f)) ∧ HeldX P w K mg base k f sp ∧ t σ H fun vs H1 => sp vs H1 Q (E σ)
theorem pe_callX {k i : Nat} {E : L2.St → XK} {x : Str} {p pos : Pos} {e : Expr} {es : List Expr} {t : TA} (hr : Room k X.A) (hN : X.N[i]? = some x) (hv : Vis X.env.scope x)
    (hx : ∀ σ, PassesAt (L2.CX X.prog X.w) X σ (E σ)) (ha : PA X (e :: es) t) (hdb : (x == ("__debug__" : Str)) = false := by decide) (hcd : (x == ("__classdict__" : Str)) = false := by decide)
    (he : starEach (e :: es) X.env = (false, eval e X.env) :: starEach es X.env := by rfl) (hpl : (backTo pos (starEach es X.env)).any (·.1) = false := by rfl) :
    PE X (.Call (.Name x p) (e :: es) [] pos) (tCallX X.prog X.w X.K X.mg X.base k i E t) := by
  refine ⟨fun pins s σ H Q I h => ?_⟩
  obtain ⟨f, sp, hs, ⟨fd, ps, F, hk, hb⟩, ht⟩ := h
  have ld := (pe_var (pos := p) hN hv hdb hcd).run pins s σ H (fun v H1 => v = .ref f ∧ H1 = H) I ⟨.ref f, hs, rfl, rfl⟩
  refine wpAny_Call_Name_kw (thn ld fun u s1 hh => ?_)
  obtain ⟨v, H1, I1, r1, rfl, rfl⟩ := hh
  cases r1
  refine PySem.W.callWith_K (h₀ := X.base) I.ok.mod.kin hk (thn (ha.run pos pins s1 σ _ _ I1 ht) fun us s2 hh => ?_) he hpl
  obtain ⟨vs, H2, I2, r2, q2⟩ := hh
  exact ⟨I2.kIn, run_fnS F hr hb (hx σ) I2 r2 q2⟩
/-- a target by either of two readings -/
theorem pg_or {tg : Expr} {g g' : TG} (h : PG X tg g) (h' : PG X tg g') : PG X tg (gOr g g') :=
  ⟨fun pins s σ H v u Q I r q => q.elim (h.run pins s σ H v u Q I r) (h'.run pins s σ H v u Q I r)⟩
/-- what is walked, by either of two readings -/
theorem pi_or {tg it : Expr} {w w' : TI} (h : PI X tg it w) (h' : PI X tg it w') : PI X tg it (fun σ H R => w σ H R ∨ w' σ H R) :=
  ⟨fun pins s σ H R I q => q.elim (h.run pins s σ H R I) (h'.run pins s σ H R I)⟩
end
/-! ### a list or a tuple -/
def Sq (K : PySem.W.Frag) (H : Hp) (a : Addr) (xs : List V) : Prop := SqT K H a xs ∨ SqL K H a xs
theorem Sq.same {K : PySem.W.Frag} {H H' : Hp} {a : Addr} {xs : List V} (h : Sq K H a xs) (s : Same H H') : Sq K H' a xs := h.elim (fun z => .inl (seqT s z)) fun z => .inr (s.seq z)
theorem Sq.tup {K : PySem.W.Frag} {H : Hp} {a : Addr} {xs : List V} (h : H a = some (.tup xs)) : Sq K H a xs := .inl (SqT.of h)
theorem Sq.lst {K : PySem.W.Frag} {H : Hp} {a : Addr} {xs : List V} (h : H a = some (.lst xs)) : Sq K H a xs := .inr (SqL.of h)
theorem Sq.ty {K : PySem.W.Frag} {H : Hp} {a : Addr} {xs : List V} (h : Sq K H a xs) : TyX K H (.ref a) (.type "tuple") ∨ TyX K H (.ref a) (.type "list") := h.elim (fun z => .inl (ty_tup z)) fun z => .inr (ty_lst z)
theorem ixq {K : PySem.W.Frag} {H : Hp} {a : Addr} {xs : List V} {i : Int} {v : V} {Q : VK} (h : Sq K H a xs) (e : atI xs i = some v) (q : Q v H) : rIxT K (.ref a) (.int i) H Q ∨ rIxL K (.ref a) (.int i) H Q :=
  h.elim (fun z => .inl ⟨a, xs, i, v, rfl, rfl, z, e, q⟩) fun z => .inr ⟨a, xs, i, v, rfl, rfl, z, e, q⟩
/-- a fall by the word w from the heap H -/
def Falls (C : Addr) (E : XK) (H : Hp) (w : Str) : Prop := ∀ d, H d = none → E (.ref C) (some d) (upd H d (.xd [(("word" : Str), .str w)]))
section
variable {P : Program} {w : World} {K : PySem.W.Frag} {mg : Str → Option Value} {base : Heap} {f C fI : Addr} {fd : FuncData}
/-! ### _law_a_value -/
abbrev sAValue : Stmt := top 25
theorem scAValue : FnScope ["_law_box", "_law_some"] ["_law_box"] (defScope sAValue) := ⟨rfl, rfl, rfl, by decide +kernel, rfl, by decide +kernel, by decide +kernel⟩
def spAValue : Sp := fun vs H Q _ => ∃ (a : Addr) (n : Nat), vs = [.ref a] ∧ Box H a n ∧ n + 5 ≤ 1000000 ∧ ∀ r H', -1000000 ≤ r → r ≤ 1000000 → But a H H' → Box H' a (n + 5) → Q (.int r) H'
theorem ok_aValue {k : Nat} (F : Fun K "_law_a_value" "_law_a_value" sAValue f fd) (G : FnG P w K mg base CX0 k "_law_take" ["_law_box", "_law_many"] spTake) : FnOk P w K mg base CX0 (k + 1) f fd ["_law_box"] spAValue := by
  obtain ⟨_, _, G__law_take, m__law_take, k__law_take, b__law_take⟩ := G
  have sc := scAValue
  refine F.ok sc (fun vs H Q E h => ?_) (fun cdv A outer s H vs Q E hr h => ?_)
  · obtain ⟨a, n, rfl, _⟩ := h
    rfl
  obtain ⟨a, n, rfl, hB, hn, q⟩ := h
  refine ⟨_, (pss_cons (ps_set (i := 1) sc.nd rfl (.inl rfl) (pe_lst (pa_cons (pe_op op_sub (pe_call G__law_take (hr.mono (by omega)) (by rfl) m__law_take k__law_take b__law_take .nil pass0 (pa_cons (pv 0) (pa_cons pe_int pa_nil))) pe_int) (pa_cons (pe_call G__law_take (hr.mono (by omega)) (by rfl) m__law_take k__law_take b__law_take .nil pass0 (pa_cons (pv 0) (pa_cons pe_int pa_nil))) (pa_cons (pe_op op_sub (pe_op op_pow pe_int pe_int) (pe_call G__law_take (hr.mono (by omega)) (by rfl) m__law_take k__law_take b__law_take .nil pass0 (pa_cons (pv 0) (pa_cons pe_int pa_nil)))) (pa_cons (pe_op op_sub (pe_call G__law_take (hr.mono (by omega)) (by rfl) m__law_take k__law_take b__law_take .nil pass0 (pa_cons (pv 0) (pa_cons pe_int pa_nil))) (pe_op op_pow pe_int pe_int)) pa_nil))))))
      (pss_one (ps_ret (pe_ix ix_list (pv 1) (pe_ix ix_list (pe_lst (pa_cons pe_int (pa_cons pe_int (pa_cons pe_int (pa_cons pe_int (pa_cons pe_int (pa_cons pe_int (pa_cons pe_int pa_nil)))))))) (pe_call G__law_take (hr.mono (by omega)) (by rfl) m__law_take k__law_take b__law_take .nil pass0 (pa_cons (pv 0) (pa_cons pe_int pa_nil))) (fun _ _ => rfl)) (fun _ _ => rfl))))), ?_⟩
  refine ⟨_, rfl, a, n, 9, rfl, hB, by omega, by decide, by decide, fun r1 H1 r10 r11 s1 B1 => ⟨_, 3, rfl, rfl, _, rfl, a, n + 1, 4, rfl, B1, by omega, by decide, by decide, fun r2 H2 r20 r21 s2 B2 => ?_⟩⟩
  refine ⟨10, 6, rfl, rfl, ⟨by decide, by decide, by decide⟩, _, rfl, a, n + 2, 2, rfl, B2, by omega, by decide, by decide, fun r3 H3 r30 r31 s3 B3 => ⟨_, _, rfl, rfl, _, rfl, a, n + 3, 2, rfl, B3, by omega, by decide, by decide, fun r4 H4 r40 r41 s4 B4 => ?_⟩⟩
  refine ⟨10, 6, rfl, rfl, ⟨by decide, by decide, by decide⟩, _, _, rfl, rfl, by show 4 ≤ sizeLine; decide, fun l nl => ?_⟩
  have B5 := B4.same (same_upd (o := .lst [.int (r1 - 3), .int r2, .int (10 ^ (6 : Int).toNat - r3), .int (r4 - 10 ^ (6 : Int).toNat)]) nl)
  refine ⟨_, rfl, by show 7 ≤ sizeLine; decide, fun t nt => ?_⟩
  have B6 := B5.same (same_upd (o := .lst [.int 0, .int 0, .int 0, .int 1, .int 1, .int 2, .int 3]) nt)
  refine ⟨_, rfl, a, n + 4, 7, rfl, B6, by omega, by decide, by decide, fun r5 H5 r50 r51 s5 B7 => ?_⟩
  have ta : t ≠ a := (B5.ne nt).symm
  have la : l ≠ a := (B4.ne nl).symm
  have lt := s5 _ _ ta upd_same
  have ll := s5 l _ la (by rw [upd_ne (fun z => by rw [z, upd_same] at nt; cases nt), upd_same])
  have sm : But a H H5 := (((s1.trans s2).trans (s3.trans s4)).trans (But.of (same_upd nl))).trans ((But.of (same_upd nt)).trans s5)
  have pw : (10 : Int) ^ (6 : Int).toNat = 1000000 := by decide
  have : r5 = 0 ∨ r5 = 1 ∨ r5 = 2 ∨ r5 = 3 ∨ r5 = 4 ∨ r5 = 5 ∨ r5 = 6 := by omega
  rcases this with rfl | rfl | rfl | rfl | rfl | rfl | rfl
  · exact ⟨t, _, 0, .int 0, rfl, rfl, SqL.of lt, rfl, l, _, 0, _, rfl, rfl, SqL.of ll, rfl, q _ _ (by omega) (by omega) sm B7⟩
  · exact ⟨t, _, 1, .int 0, rfl, rfl, SqL.of lt, rfl, l, _, 0, _, rfl, rfl, SqL.of ll, rfl, q _ _ (by omega) (by omega) sm B7⟩
  · exact ⟨t, _, 2, .int 0, rfl, rfl, SqL.of lt, rfl, l, _, 0, _, rfl, rfl, SqL.of ll, rfl, q _ _ (by omega) (by omega) sm B7⟩
  · exact ⟨t, _, 3, .int 1, rfl, rfl, SqL.of lt, rfl, l, _, 1, _, rfl, rfl, SqL.of ll, rfl, q _ _ (by omega) (by omega) sm B7⟩
  · exact ⟨t, _, 4, .int 1, rfl, rfl, SqL.of lt, rfl, l, _, 1, _, rfl, rfl, SqL.of ll, rfl, q _ _ (by omega) (by omega) sm B7⟩
  · exact ⟨t, _, 5, .int 2, rfl, rfl, SqL.of lt, rfl, l, _, 2, _, rfl, rfl, SqL.of ll, rfl, q _ _ (by omega) (by omega) sm B7⟩
  · exact ⟨t, _, 6, .int 3, rfl, rfl, SqL.of lt, rfl, l, _, 3, _, rfl, rfl, SqL.of ll, rfl, q _ _ (by omega) (by omega) sm B7⟩
/-! ### is_number, is_value -/
abbrev sIsNum : Stmt := top 6
theorem scIsNum : FnScope ["thing"] ["thing"] (defScope sIsNum) := ⟨rfl, rfl, rfl, by decide +kernel, rfl, by decide +kernel, by decide +kernel⟩
def spIsNum (K : PySem.W.Frag) : Sp := fun vs H Q _ => ∃ x, vs = [x] ∧ ((∃ i, x = .int i ∧ Q (.bl true) H) ∨ ∃ a xs, x = .ref a ∧ Sq K H a xs ∧ Q (.bl false) H)
theorem ok_isNum {k : Nat} (F : Fun K "is_number" "is_number" sIsNum f fd) (m_isinstance : mg "isinstance" = none) (m_int : mg "int" = none) (m_bool : mg "bool" = none) :
    FnOk P w K mg base CX0 (k + 1) f fd ["thing"] (spIsNum K) := by
  have sc := scIsNum
  refine F.ok sc (fun vs H Q E h => ?_) (fun cdv A outer s H vs Q E hr h => ?_)
  · obtain ⟨x, rfl, _⟩ := h
    rfl
  obtain ⟨x, rfl, h⟩ := h
  refine ⟨_, (pss_one (ps_ret (pe_and (pe_callB call_isi (by rfl) m_isinstance (by decide +kernel) (pa_cons (pv 0) (pa_cons (pe_bltn (v := .ty "int") (by rfl) m_int (by decide +kernel) rfl) pa_nil))) (pe_one (pe_not (pe_callB call_isi (by rfl) m_isinstance (by decide +kernel) (pa_cons (pv 0) (pa_cons (pe_bltn (v := .ty "bool") (by rfl) m_bool (by decide +kernel) rfl) pa_nil)))))))), ?_⟩
  rcases h with ⟨i, rfl, q⟩ | ⟨a, xs, rfl, h, q⟩
  · exact ⟨_, rfl, _, _, .type "int", _, true, rfl, .ty _, .base (.int i), kit_ty (by decide +kernel), _, rfl, iteT ⟨_, rfl, _, _, .type "int", _, false, rfl, .ty _, .base (.int i), kit_ty (by decide +kernel), _, rfl, q⟩⟩
  · rcases h.ty with t | t
    · exact ⟨_, rfl, _, _, .type "tuple", _, false, rfl, .ty _, t, kit_ty (by decide +kernel), _, rfl, iteF q⟩
    · exact ⟨_, rfl, _, _, .type "list", _, false, rfl, .ty _, t, kit_ty (by decide +kernel), _, rfl, iteF q⟩
abbrev sIsVal : Stmt := top 7
theorem scIsVal : FnScope ["thing"] ["thing"] (defScope sIsVal) := ⟨rfl, rfl, rfl, by decide +kernel, rfl, by decide +kernel, by decide +kernel⟩
def inB (i : Int) : Bool := decide (-1000000 ≤ i) && decide (i ≤ 1000000)
def spIsVal : Sp := fun vs H Q _ => ∃ i : Int, vs = [.int i] ∧ Q (.bl (inB i)) H
theorem ok_isVal {k : Nat} {t t' : Tok} (F : Fun K "is_value" "is_value" sIsVal f fd) (G : FnG P w K mg base CX0 k "is_number" ["thing"] (spIsNum K)) (m_LEAST : mg "LEAST_VALUE" = some (.int (-1000000) t)) (m_MOST : mg "MOST_VALUE" = some (.int 1000000 t')) :
    FnOk P w K mg base CX0 (k + 1) f fd ["thing"] spIsVal := by
  obtain ⟨_, _, G_is_number, m_is_number, k_is_number, b_is_number⟩ := G
  have sc := scIsVal
  refine F.ok sc (fun vs H Q E h => ?_) (fun cdv A outer s H vs Q E hr h => ?_)
  · obtain ⟨x, rfl, _⟩ := h
    rfl
  obtain ⟨i, rfl, q⟩ := h
  refine ⟨_, (pss_one (ps_ret (pe_and (pe_call G_is_number (hr.mono (by omega)) (by rfl) m_is_number k_is_number b_is_number .nil pass0 (pa_cons (pv 0) pa_nil)) (pe_one (pe_chain op_le op_le (pe_glob (v := .int (-1000000)) (by rfl) m_LEAST ⟨_, rfl⟩) (pv 0) (pe_glob (v := .int 1000000) (by rfl) m_MOST ⟨_, rfl⟩)))))), ?_⟩
  refine ⟨_, rfl, _, rfl, .inl ⟨i, rfl, _, rfl, iteT ⟨_, rfl, _, _, rfl, rfl, _, rfl, ite2 (fun c => ?_) (fun c => ?_)⟩⟩⟩
  · refine ⟨_, _, rfl, rfl, ?_⟩
    unfold inB at q
    rw [c] at q
    exact q
  · unfold inB at q
    rw [Bool.eq_false_iff.mpr c] at q
    exact q
/-! ### the five sums -/
inductive BOp where
  | plus | minus | by_ | over | rest
def BOp.word : BOp → Str
  | .plus => "plus" | .minus => "minus" | .by_ => "by" | .over => "over" | .rest => "rest"
def BOp.run : BOp → Int → Int → Except Str Int
  | .plus, a, b => .ok (a + b)
  | .minus, a, b => .ok (a - b)
  | .by_, a, b => .ok (a * b)
  | .over, a, b => if b = 0 then .error "nought" else .ok (a.fdiv b)
  | .rest, a, b => if b = 0 then .error "nought" else .ok (a.fmod b)
/-- what comes of r: a value, or a fall -/
def Comes (C : Addr) (H : Hp) (r : Except Str Int) (Q : VK) (E : XK) : Prop := match r with
  | .ok i => Q (.int i) H
  | .error w => Falls C E H w
def spSum (C : Addr) (o : BOp) : Sp := fun vs H Q E => ∃ a b : Int, vs = [.int a, .int b] ∧ inB a = true ∧ inB b = true ∧ Comes C H (o.run a b) Q E
theorem inB_lo {i : Int} (h : inB i = true) : -1000000 ≤ i := of_decide_eq_true (Bool.and_eq_true_iff.mp h).1
theorem inB_hi {i : Int} (h : inB i = true) : i ≤ 1000000 := of_decide_eq_true (Bool.and_eq_true_iff.mp h).2
abbrev sPlus : Stmt := top 8
theorem ok_plus {k : Nat} (F : Fun K "plus" "plus" sPlus f fd) : FnOk P w K mg base (L2.CX P w) (k + 1) f fd ["first", "second"] (spSum C .plus) := by
  have sc : FnScope ["first", "second"] ["first", "second"] (defScope sPlus) := ⟨rfl, rfl, rfl, by decide +kernel, rfl, by decide +kernel, by decide +kernel⟩
  refine F.okX sc (fun vs H Q E h => ?_) (fun cdv A outer s H vs Q E hr h => ?_)
  · obtain ⟨a, b, rfl, _⟩ := h
    rfl
  obtain ⟨a, b, rfl, ha, hb, q⟩ := h
  exact ⟨_, (pss_one (ps_ret (pe_op op_add (pv 0) (pv 1)))), _, rfl, _, rfl, _, _, rfl, rfl, q⟩
abbrev sMinus : Stmt := top 9
theorem ok_minus {k : Nat} (F : Fun K "minus" "minus" sMinus f fd) : FnOk P w K mg base (L2.CX P w) (k + 1) f fd ["first", "second"] (spSum C .minus) := by
  have sc : FnScope ["first", "second"] ["first", "second"] (defScope sMinus) := ⟨rfl, rfl, rfl, by decide +kernel, rfl, by decide +kernel, by decide +kernel⟩
  refine F.okX sc (fun vs H Q E h => ?_) (fun cdv A outer s H vs Q E hr h => ?_)
  · obtain ⟨a, b, rfl, _⟩ := h
    rfl
  obtain ⟨a, b, rfl, ha, hb, q⟩ := h
  exact ⟨_, (pss_one (ps_ret (pe_op op_sub (pv 0) (pv 1)))), _, rfl, _, rfl, _, _, rfl, rfl, q⟩
abbrev sBy : Stmt := top 10
theorem ok_by {k : Nat} (F : Fun K "by" "by" sBy f fd) : FnOk P w K mg base (L2.CX P w) (k + 1) f fd ["first", "second"] (spSum C .by_) := by
  have sc : FnScope ["first", "second"] ["first", "second"] (defScope sBy) := ⟨rfl, rfl, rfl, by decide +kernel, rfl, by decide +kernel, by decide +kernel⟩
  refine F.okX sc (fun vs H Q E h => ?_) (fun cdv A outer s H vs Q E hr h => ?_)
  · obtain ⟨a, b, rfl, _⟩ := h
    rfl
  obtain ⟨a, b, rfl, ha, hb, q⟩ := h
  have := inB_lo ha
  have := inB_hi ha
  exact ⟨_, (pss_one (ps_ret (pe_op op_mul (pv 0) (pv 1)))), _, rfl, _, rfl, _, _, rfl, rfl, .inl ⟨by omega, by omega⟩, q⟩
abbrev sOver : Stmt := top 11
theorem ok_over {k : Nat} (T : PySem.FellX.FellTxt K mg C fI) (F : Fun K "over" "over" sOver f fd) : FnOk P w K mg base (L2.CX P w) (k + 2) f fd ["first", "second"] (spSum C .over) := by
  have sc : FnScope ["first", "second"] ["first", "second"] (defScope sOver) := ⟨rfl, rfl, rfl, by decide +kernel, rfl, by decide +kernel, by decide +kernel⟩
  refine F.okX sc (fun vs H Q E h => ?_) (fun cdv A outer s H vs Q E hr h => ?_)
  · obtain ⟨a, b, rfl, _⟩ := h
    rfl
  obtain ⟨a, b, rfl, ha, hb, q⟩ := h
  refine ⟨_, (pss_cons (ps_if (pt_cmpR op_eq (pv 1) pe_int (nomark _)) (pss_one (ps_raiseFell rfl T hr (takes_of rfl rfl rfl rfl) (by exact (pa_cons pe_str pa_nil)))) pss_nil)
      (pss_one (ps_ret (pe_op op_fdivN (pv 0) (pv 1))))), _, rfl, rfl, _, rfl, ite2 (fun c => ?_) (fun c => ?_)⟩
  · have e : b = 0 := V.int.inj (of_decide_eq_true c)
    subst e
    exact ⟨_, rfl, fun d nd => q d nd⟩
  · have e : b ≠ 0 := fun z => c (decide_eq_true (by rw [z]))
    have := inB_lo hb
    have := inB_hi hb
    rw [show BOp.run .over a b = .ok (a.fdiv b) from if_neg e] at q
    exact ⟨_, rfl, _, rfl, _, _, rfl, rfl, ⟨e, by omega⟩, q⟩
abbrev sRest : Stmt := top 12
theorem ok_rest {k : Nat} (T : PySem.FellX.FellTxt K mg C fI) (F : Fun K "rest" "rest" sRest f fd) : FnOk P w K mg base (L2.CX P w) (k + 2) f fd ["first", "second"] (spSum C .rest) := by
  have sc : FnScope ["first", "second"] ["first", "second"] (defScope sRest) := ⟨rfl, rfl, rfl, by decide +kernel, rfl, by decide +kernel, by decide +kernel⟩
  refine F.okX sc (fun vs H Q E h => ?_) (fun cdv A outer s H vs Q E hr h => ?_)
  · obtain ⟨a, b, rfl, _⟩ := h
    rfl
  obtain ⟨a, b, rfl, ha, hb, q⟩ := h
  refine ⟨_, (pss_cons (ps_if (pt_cmpR op_eq (pv 1) pe_int (nomark _)) (pss_one (ps_raiseFell rfl T hr (takes_of rfl rfl rfl rfl) (by exact (pa_cons pe_str pa_nil)))) pss_nil)
      (pss_one (ps_ret (pe_op op_modN (pv 0) (pv 1))))), _, rfl, rfl, _, rfl, ite2 (fun c => ?_) (fun c => ?_)⟩
  · have e : b = 0 := V.int.inj (of_decide_eq_true c)
    subst e
    exact ⟨_, rfl, fun d nd => q d nd⟩
  · have e : b ≠ 0 := fun z => c (decide_eq_true (by rw [z]))
    rw [show BOp.run .rest a b = .ok (a.fmod b) from if_neg e] at q
    exact ⟨_, rfl, _, rfl, _, _, rfl, rfl, e, q⟩
/-! ### place_in, first_of -/
abbrev sPlace : Stmt := top 17
def spPlace (K : PySem.W.Frag) (C : Addr) : Sp := fun vs H Q E => ∃ (a : Addr) (xs : List V) (i : Int), vs = [.ref a, .int i] ∧ Sq K H a xs ∧ (0 ≤ i ∧ i < xs.length → Q (.int i) H) ∧ (¬ (0 ≤ i ∧ i < xs.length) → Falls C E H "none")
theorem ok_place {k : Nat} (T : PySem.FellX.FellTxt K mg C fI) (F : Fun K "place_in" "place_in" sPlace f fd) (m_len : mg "len" = none) : FnOk P w K mg base (L2.CX P w) (k + 2) f fd ["row", "place"] (spPlace K C) := by
  have sc : FnScope ["row", "place"] ["row", "place"] (defScope sPlace) := ⟨rfl, rfl, rfl, by decide +kernel, rfl, by decide +kernel, by decide +kernel⟩
  refine F.okX sc (fun vs H Q E h => ?_) (fun cdv A outer s H vs Q E hr h => ?_)
  · obtain ⟨a, b, i, rfl, _⟩ := h
    rfl
  obtain ⟨a, xs, i, rfl, hs, q1, q2⟩ := h
  refine ⟨_, (pss_cons (ps_if (pt_not (pt_chain op_le op_lt pe_int (pv 1) (pe_callB call_len_seq (by rfl) m_len (by decide +kernel) (pa_cons (pv 0) pa_nil)))) (pss_one (ps_raiseFell rfl T hr (takes_of rfl rfl rfl rfl) (by exact (pa_cons pe_str pa_nil)))) pss_nil)
      (pss_one (ps_ret (pv 1)))), ?_⟩
  refine ⟨_, rfl, _, _, rfl, rfl, _, rfl, ite2 (fun c => ?_) (fun c => ?_)⟩
  · have c' : 0 ≤ i := of_decide_eq_true c
    refine ⟨_, rfl, a, xs, rfl, hs.symm, _, _, rfl, rfl, _, rfl, ?_⟩
    by_cases h : i < xs.length
    · rw [decide_eq_true h]
      exact iteF ⟨_, rfl, q1 ⟨c', h⟩⟩
    · rw [decide_eq_false h]
      exact iteT ⟨_, rfl, fun d nd => q2 (fun z => h z.2) d nd⟩
  · exact ⟨_, rfl, iteT ⟨_, rfl, fun d nd => q2 (fun z => c (decide_eq_true z.1)) d nd⟩⟩
/-- pairs of a text and something, each a tuple or a list -/
def Prs (K : PySem.W.Frag) (H : Hp) (ps : List V) (kvs : List (Str × V)) : Prop := Paired (fun v (kv : Str × V) => ∃ a, v = .ref a ∧ Sq K H a [.str kv.1, kv.2]) ps kvs
abbrev sFirst : Stmt := top 16
def spFirst (K : PySem.W.Frag) (C : Addr) : Sp := fun vs H Q E => ∃ (a : Addr) (ps : List V) (kvs : List (Str × V)) (x : Str), vs = [.ref a, .str x] ∧ Sq K H a ps ∧ Prs K H ps kvs ∧
  (∀ u, kvs.lookup x = some u → Q u H) ∧ (kvs.lookup x = none → Falls C E H "none")
theorem prs_at {K : PySem.W.Frag} {H : Hp} : ∀ {ps : List V} {kvs : List (Str × V)} {i : Nat} {v : V}, Prs K H ps kvs → ps[i]? = some v → ∃ kv, kvs[i]? = some kv ∧ ∃ a, v = .ref a ∧ Sq K H a [.str kv.1, kv.2]
  | _, _, i, v, .nil, e => by simp at e
  | _, _, 0, v, .cons r t, e => by cases (Option.some.inj e); exact ⟨_, rfl, r⟩
  | _, _, i + 1, v, .cons r t, e => prs_at (i := i) t e
theorem look_skip : ∀ {kvs : List (Str × V)} {i : Nat} {kv : Str × V} {x : Str}, (kvs.take i).lookup x = none → kvs[i]? = some kv → kv.1 ≠ x → (kvs.take (i + 1)).lookup x = none
  | [], i, kv, x, _, e, _ => by simp at e
  | p :: r, 0, kv, x, _, e, n => by
    obtain ⟨k, v⟩ := p
    cases (Option.some.inj e)
    show List.lookup x [(k, v)] = none
    rw [List.lookup_cons, show (x == k) = false from beq_eq_false_iff_ne.mpr (Ne.symm n)]
    rfl
  | p :: r, i + 1, kv, x, h, e, n => by
    obtain ⟨k, v⟩ := p
    rw [List.take_succ_cons, List.lookup_cons] at h ⊢
    by_cases q : (x == k) = true
    · rw [q] at h
      cases h
    · rw [Bool.eq_false_iff.mpr q] at h ⊢
      exact look_skip (i := i) h e n
theorem look_hit : ∀ {kvs : List (Str × V)} {i : Nat} {kv : Str × V} {x : Str}, (kvs.take i).lookup x = none → kvs[i]? = some kv → kv.1 = x → kvs.lookup x = some kv.2
  | [], i, kv, x, _, e, _ => by simp at e
  | p :: r, 0, kv, x, _, e, n => by
    obtain ⟨k, v⟩ := p
    cases (Option.some.inj e)
    rw [List.lookup_cons, show (x == k) = true from beq_iff_eq.mpr n.symm]
  | p :: r, i + 1, kv, x, h, e, n => by
    obtain ⟨k, v⟩ := p
    rw [List.take_succ_cons, List.lookup_cons] at h
    rw [List.lookup_cons]
    by_cases q : (x == k) = true
    · rw [q] at h
      cases h
    · rw [Bool.eq_false_iff.mpr q] at h ⊢
      exact look_hit (i := i) h e n
theorem prs_len {K : PySem.W.Frag} {H : Hp} : ∀ {ps : List V} {kvs : List (Str × V)}, Prs K H ps kvs → ps.length = kvs.length
  | _, _, .nil => rfl
  | _, _, .cons _ t => by rw [List.length_cons, List.length_cons, prs_len t]
theorem ok_first {k : Nat} (T : PySem.FellX.FellTxt K mg C fI) (F : Fun K "first_of" "first_of" sFirst f fd) : FnOk P w K mg base (L2.CX P w) (k + 2) f fd ["pairs", "name"] (spFirst K C) := by
  have sc : FnScope ["pairs", "name", "other", "held"] ["pairs", "name"] (defScope sFirst) := ⟨rfl, rfl, rfl, by decide +kernel, rfl, by decide +kernel, by decide +kernel⟩
  refine F.okX sc (fun vs H Q E h => ?_) (fun cdv A outer s H vs Q E hr h => ?_)
  · obtain ⟨a, b, c, i, rfl, _⟩ := h
    rfl
  obtain ⟨a, ps, kvs, x, rfl, hs, hp, q1, q2⟩ := h
  refine ⟨_, (pss_cons (ps_for (passes_of rfl) rfl (pi_or (pi_tup (pv 0)) (pi_list (pv 0))) (pg_or (pg_tup (by rfl) (pgs_cons (pg_name (i := 2) sc.nd rfl (.inl rfl)) (pgs_cons (pg_name (i := 3) sc.nd rfl (.inl rfl)) pgs_nil))) (pg_lst (by rfl) (pgs_cons (pg_name (i := 2) sc.nd rfl (.inl rfl)) (pgs_cons (pg_name (i := 3) sc.nd rfl (.inl rfl)) pgs_nil)))) (pss_one (ps_if (pt_cmpR op_eq (pv 2) (pv 1) (nomark _)) (pss_one (ps_ret (pv 3))) pss_nil)))
      (pss_one (ps_raiseFell rfl T hr (takes_of rfl rfl rfl rfl) (by exact (pa_cons pe_str pa_nil))))), ?_⟩
  have e0 : (kvs.take ps.length).lookup x = none → kvs.lookup x = none := fun h => by rw [prs_len hp, List.take_length] at h; exact h
  have key : ∀ (D : Ends) (v2 v3 : Option V) (b : Addr) (kv : Str × V), Sq K H b [.str kv.1, kv.2] → (kv.1 = x → D.rt kv.2 H) → (kv.1 ≠ x → D.nx [some (.ref a), some (.str x), some (.str kv.1), some kv.2] H) →
      gOr (gTup K 2 (gCons (gName 2) (gCons (gName 3) gNil))) (gLst K 2 (gCons (gName 2) (gCons (gName 3) gNil))) (.ref b) [some (.ref a), some (.str x), v2, v3] H
        fun σ2 H2 => tIfS (tTest (tOp rEq (tVar 2) (tVar 1))) (tRet (tVar 3)) tNext D σ2 H2 := fun D v2 v3 b kv hb h1 h2 => by
    have fin : tIfS (tTest (tOp rEq (tVar 2) (tVar 1))) (tRet (tVar 3)) tNext D [some (.ref a), some (.str x), some (.str kv.1), some kv.2] H := by
      refine ⟨_, rfl, _, rfl, rfl, _, rfl, ite2 (fun c => ?_) (fun c => ?_)⟩
      · exact ⟨_, rfl, h1 (V.str.inj (of_decide_eq_true c))⟩
      · exact h2 fun z => c (decide_eq_true (by rw [z]))
    rcases hb with hb | hb
    · exact .inl ⟨b, _, rfl, hb, rfl, _, _, rfl, _, _, rfl, rfl, fin⟩
    · exact .inr ⟨b, _, rfl, hb, rfl, _, _, rfl, _, _, rfl, rfl, fin⟩
  rcases hs with hs | hs
  · refine .inl ⟨_, rfl, a, rfl, ⟨_, hs⟩, for_it (walk_tup (K := K) (a := a) (xs := ps)) (fun i σ H' => H' = H ∧ (kvs.take i).lookup x = none ∧ ∃ v2 v3, σ = [some (.ref a), some (.str x), v2, v3]) ⟨rfl, rfl, none, none, rfl⟩
      (fun i σ H' _ h => by rw [h.1]; exact hs) ?_ ?_⟩
    · rintro i v σ H1 H2 hi ⟨e1, hn, v2, v3, rfl⟩ ⟨e2, ev⟩
      obtain ⟨kv, ek, b, rfl, hb⟩ := prs_at hp ev
      rw [e2, e1]
      exact key _ _ _ b kv hb (fun z => q1 _ (look_hit hn ek z)) (fun z => ⟨rfl, look_skip hn ek z, _, _, rfl⟩)
    · rintro σ H1 ⟨rfl, hn, v2, v3, rfl⟩
      exact ⟨_, rfl, fun d nd => q2 (e0 hn) d nd⟩
  · refine .inr ⟨_, rfl, a, rfl, ⟨_, hs⟩, for_it (walk_list (K := K) (a := a) (xs := ps)) (fun i σ H' => H' = H ∧ (kvs.take i).lookup x = none ∧ ∃ v2 v3, σ = [some (.ref a), some (.str x), v2, v3]) ⟨rfl, rfl, none, none, rfl⟩
      (fun i σ H' _ h => by rw [h.1]; exact hs) ?_ ?_⟩
    · rintro i v σ H1 H2 hi ⟨e1, hn, v2, v3, rfl⟩ ⟨e2, ev⟩
      obtain ⟨kv, ek, b, rfl, hb⟩ := prs_at hp ev
      rw [e2, e1]
      exact key _ _ _ b kv hb (fun z => q1 _ (look_hit hn ek z)) (fun z => ⟨rfl, look_skip hn ek z, _, _, rfl⟩)
    · rintro σ H1 ⟨rfl, hn, v2, v3, rfl⟩
      exact ⟨_, rfl, fun d nd => q2 (e0 hn) d nd⟩
end
end Fd

set_option Elab.async false
set_option linter.all false
set_option maxRecDepth 100000
set_option maxHeartbeats 2000000
namespace Fd
open PySem PySem.Spec PyProof.Rows L2
/-! ### looks and eyes, as data -/
inductive Lk where
  | num (i : Int) | name (x : Str) | many (x : Str) | item (x : Str) (a : Lk) | spot (k : Nat) | bin (o : BOp) (a b : Lk)
structure Ey where
  names : List (Str × Int)
  lists : List (Str × List Int)
  spot : List Int
  met : List Str
def far (r : Except Str Int) : Except Str Int := match r with
  | .ok i => if inB i = true then .ok i else .error "far"
  | .error w => .error w
def some_of {α : Type} (o : Option α) (f : α → Except Str Int) : Except Str Int := match o with
  | some x => f x
  | none => .error "none"
def then_ (r : Except Str Int) (f : Int → Except Str Int) : Except Str Int := match r with
  | .ok i => f i
  | .error w => .error w
def itemOf (l : List Int) (i : Int) : Except Str Int := if 0 ≤ i ∧ i < l.length then .ok (l.getD i.toNat 0) else .error "none"
def val (E : Ey) : Lk → Except Str Int
  | .num i => far (.ok i)
  | .name x => far (some_of (E.names.lookup x) .ok)
  | .many x => far (some_of (E.lists.lookup x) fun l => .ok l.length)
  | .item x a => far (some_of (E.lists.lookup x) fun l => then_ (val E a) (itemOf l))
  | .spot k => far (.ok (E.spot.getD k 0))
  | .bin o a b => far (then_ (val E a) fun i => then_ (val E b) fun j => o.run i j)
def raw (E : Ey) : Lk → Except Str Int
  | .num i => .ok i
  | .name x => some_of (E.names.lookup x) .ok
  | .many x => some_of (E.lists.lookup x) fun l => .ok l.length
  | .item x a => some_of (E.lists.lookup x) fun l => then_ (val E a) (itemOf l)
  | .spot k => .ok (E.spot.getD k 0)
  | .bin o a b => then_ (val E a) fun i => then_ (val E b) fun j => o.run i j
theorem val_raw (E : Ey) (L : Lk) : val E L = far (raw E L) := by cases L <;> rfl
theorem val_in {E : Ey} {L : Lk} {i : Int} (h : val E L = .ok i) : inB i = true := by
  rw [val_raw] at h
  unfold far at h
  split at h
  · split at h
    · rename_i q
      cases h
      exact q
    · cases h
  · cases h
def Lk.deep : Lk → Nat
  | .item _ a => a.deep + 1
  | .bin _ a b => max a.deep b.deep + 1
  | _ => 1
def spotWords : List Str := ["x", "y", "way", "number"]
inductive LkAt (K : PySem.W.Frag) (H : Hp) : V → Lk → Prop where
  | num (i : Int) : LkAt K H (.int i) (.num i)
  | name {a : Addr} {x : Str} (h : Sq K H a [.str "name", .str x]) : LkAt K H (.ref a) (.name x)
  | many {a : Addr} {x : Str} (h : Sq K H a [.str "many", .str x]) : LkAt K H (.ref a) (.many x)
  | item {a : Addr} {x : Str} {u : V} {L : Lk} (h : Sq K H a [.str "item", .str x, u]) (hu : LkAt K H u L) : LkAt K H (.ref a) (.item x L)
  | spot {a : Addr} {k : Nat} {z : Str} (hk : spotWords[k]? = some z) (h : Sq K H a [.str z]) : LkAt K H (.ref a) (.spot k)
  | bin {a : Addr} {o : BOp} {u v : V} {L M : Lk} (h : Sq K H a [.str o.word, u, v]) (hu : LkAt K H u L) (hv : LkAt K H v M) : LkAt K H (.ref a) (.bin o L M)
theorem LkAt.same {K : PySem.W.Frag} {H H' : Hp} (s : Same H H') {v : V} {L : Lk} (h : LkAt K H v L) : LkAt K H' v L := by
  induction h with
  | num i => exact .num i
  | name h => exact .name (h.same s)
  | many h => exact .many (h.same s)
  | item h _ ih => exact .item (h.same s) ih
  | spot hk h => exact .spot hk (h.same s)
  | bin h _ _ i1 i2 => exact .bin (h.same s) i1 i2
theorem LkAt.sq {K : PySem.W.Frag} {H : Hp} {v : V} {L : Lk} (h : LkAt K H v L) : (∃ i, v = .int i ∧ L = .num i) ∨ ∃ a xs, v = .ref a ∧ Sq K H a xs := by
  cases h with
  | num i => exact .inl ⟨i, rfl, rfl⟩
  | name h => exact .inr ⟨_, _, rfl, h⟩
  | many h => exact .inr ⟨_, _, rfl, h⟩
  | item h _ => exact .inr ⟨_, _, rfl, h⟩
  | spot _ h => exact .inr ⟨_, _, rfl, h⟩
  | bin h _ _ => exact .inr ⟨_, _, rfl, h⟩
def Rows (K : PySem.W.Frag) (H : Hp) (rs : List (Str × V)) (ls : List (Str × List Int)) : Prop := Paired (fun (kv : Str × V) (xl : Str × List Int) => kv.1 = xl.1 ∧ ∃ a, kv.2 = .ref a ∧ Sq K H a (xl.2.map V.int)) rs ls
structure EyAt (K : PySem.W.Frag) (H : Hp) (E : Ey) (n l s m : Addr) : Prop where
  nm : ∃ ps, Sq K H n ps ∧ Prs K H ps (E.names.map fun p => (p.1, V.int p.2))
  ls : ∃ ps rs, Sq K H l ps ∧ Prs K H ps rs ∧ Rows K H rs E.lists
  sp : Sq K H s (E.spot.map V.int)
  s4 : E.spot.length = 4
  mt : Sq K H m (E.met.map V.str)
def Eyes (K : PySem.W.Frag) (H : Hp) (e : Addr) (E : Ey) : Prop := ∃ n l s m, Sq K H e [.ref n, .ref l, .ref s, .ref m] ∧ EyAt K H E n l s m
theorem Prs.same {K : PySem.W.Frag} {H H' : Hp} (s : Same H H') {ps : List V} {kvs : List (Str × V)} (h : Prs K H ps kvs) : Prs K H' ps kvs := Paired.mapP h fun _ _ ⟨a, e, q⟩ => ⟨a, e, q.same s⟩
theorem Rows.same {K : PySem.W.Frag} {H H' : Hp} (s : Same H H') {rs : List (Str × V)} {ls : List (Str × List Int)} (h : Rows K H rs ls) : Rows K H' rs ls := Paired.mapP h fun _ _ ⟨e, a, q, z⟩ => ⟨e, a, q, z.same s⟩
theorem Eyes.same {K : PySem.W.Frag} {H H' : Hp} (s : Same H H') {e : Addr} {E : Ey} (h : Eyes K H e E) : Eyes K H' e E := by
  obtain ⟨n, l, s', m, h1, ⟨ps, h2, h3⟩, ⟨ps', rs, h4, h5, h6⟩, h7, h8, h9⟩ := h
  exact ⟨n, l, s', m, h1.same s, ⟨ps, h2.same s, h3.same s⟩, ⟨ps', rs, h4.same s, h5.same s, h6.same s⟩, h7.same s, h8, h9.same s⟩
theorem names_look (x : Str) : ∀ ns : List (Str × Int), (ns.map fun p => (p.1, V.int p.2)).lookup x = (ns.lookup x).map V.int
  | [] => rfl
  | (k, v) :: r => by
    rw [List.map_cons, List.lookup_cons, List.lookup_cons]
    by_cases h : (x == k) = true
    · rw [h]; rfl
    · rw [Bool.eq_false_iff.mpr h]
      exact names_look x r
theorem rows_look {K : PySem.W.Frag} {H : Hp} (x : Str) : ∀ {rs : List (Str × V)} {ls : List (Str × List Int)}, Rows K H rs ls → (rs.lookup x = none ∧ ls.lookup x = none) ∨ ∃ a l, rs.lookup x = some (.ref a) ∧ ls.lookup x = some l ∧ Sq K H a (l.map V.int)
  | _, _, .nil => .inl ⟨rfl, rfl⟩
  | (k, v) :: rs, (k', l) :: ls, .cons r t => by
    obtain ⟨e, a, ea, q⟩ := r
    dsimp only at e ea q
    subst e ea
    rw [List.lookup_cons, List.lookup_cons]
    by_cases h : (x == k) = true
    · rw [h]; exact .inr ⟨a, l, rfl, rfl, q⟩
    · rw [Bool.eq_false_iff.mpr h]
      exact rows_look x t
/-- what the top has written besides defs -/
structure Wr (K : PySem.W.Frag) (w : World) (mg : Str → Option Value) (sp sm : Addr) (fs : BOp → Addr) : Prop where
  mP : mg "SPOT_WORDS" = some (.ref sp)
  mS : mg "SUMS" = some (.ref sm)
  kP : ∃ its n sl, K.lookup sp = some ⟨.type "tuple", none, .seq its n, sl⟩ ∧ Vals (spotWords.map V.str) its.toList ∧ its.size ≤ sizeLine
  kS : ∀ o : BOp, KDct K w sm o.word (.ref (fs o))
theorem Wr.sqP {K : PySem.W.Frag} {w : World} {mg : Str → Option Value} {sp sm : Addr} {fs : BOp → Addr} (W : Wr K w mg sp sm fs) (H : Hp) : SqT K H sp (spotWords.map V.str) := by
  obtain ⟨its, n, sl, h1, h2, h3⟩ := W.kP
  exact .inr ⟨_, its, n, h1, rfl, rfl, h3, h2⟩
theorem gq {K : PySem.W.Frag} {H : Hp} {a : Addr} {xs : List V} {σ : L2.St} {n : Nat} {g : TGs} {Q : L2.St → Hp → Prop} (h : Sq K H a xs) (hl : xs.length = n) (q : g xs σ H Q) : gOr (gTup K n g) (gLst K n g) (.ref a) σ H Q :=
  h.elim (fun z => .inl ⟨a, xs, rfl, z, hl, q⟩) fun z => .inr ⟨a, xs, rfl, z, hl, q⟩
theorem comes_ok {C : Addr} {H : Hp} {r : Except Str Int} {Q : VK} {E : XK} {i : Int} (h : Comes C H r Q E) (e : r = .ok i) : Q (.int i) H := by subst e; exact h
theorem comes_err {C : Addr} {H : Hp} {r : Except Str Int} {Q : VK} {E : XK} {w : Str} (h : Comes C H r Q E) (e : r = .error w) : Falls C E H w := by subst e; exact h
theorem spot_in {k : Nat} {z : Str} (h : spotWords[k]? = some z) : inV (.str z) (spotWords.map V.str) = true ∧ (∀ m, m < k → spotWords[m]? ≠ some z) ∧ k < 4 ∧ z ≠ "name" ∧ z ≠ "many" ∧ z ≠ "item" := by
  have hk : k < 4 := by
    obtain ⟨h', _⟩ := List.getElem?_eq_some_iff.mp h
    exact h'
  have : k = 0 ∨ k = 1 ∨ k = 2 ∨ k = 3 := by omega
  rcases this with rfl | rfl | rfl | rfl
  · cases (Option.some.inj h); exact ⟨by decide +kernel, fun m hm => absurd hm (by omega), hk, by decide +kernel, by decide +kernel, by decide +kernel⟩
  · cases (Option.some.inj h)
    refine ⟨by decide +kernel, fun m hm => ?_, hk, by decide +kernel, by decide +kernel, by decide +kernel⟩
    have : m = 0 := by omega
    subst this; decide +kernel
  · cases (Option.some.inj h)
    refine ⟨by decide +kernel, fun m hm => ?_, hk, by decide +kernel, by decide +kernel, by decide +kernel⟩
    have : m = 0 ∨ m = 1 := by omega
    rcases this with rfl | rfl <;> decide +kernel
  · cases (Option.some.inj h)
    refine ⟨by decide +kernel, fun m hm => ?_, hk, by decide +kernel, by decide +kernel, by decide +kernel⟩
    have : m = 0 ∨ m = 1 ∨ m = 2 := by omega
    rcases this with rfl | rfl | rfl <;> decide +kernel
theorem bop_words (o : BOp) : inV (.str o.word) (spotWords.map V.str) = false ∧ o.word ≠ "name" ∧ o.word ≠ "many" ∧ o.word ≠ "item" := by
  cases o <;> exact ⟨by decide +kernel, by decide +kernel, by decide +kernel, by decide +kernel⟩
theorem iteB {b : Bool} {A B : Prop} (h : b = true) (a : A) : if b = true then A else B := by subst h; exact iteT a
theorem iteBF {b : Bool} {A B : Prop} (h : b = false) (a : B) : if b = true then A else B := by subst h; exact iteF a
theorem neS {a b : Str} (h : a ≠ b) : ¬ (V.str a = V.str b) := fun z => h (V.str.inj z)
section
variable {P : Program} {w : World} {K : PySem.W.Frag} {mg : Str → Option Value} {base : Heap} {f C fI sp sm : Addr} {fs : BOp → Addr} {fd : FuncData}
abbrev sOut : Stmt := top 15
theorem scOut : FnScope ["look", "eyes", "names", "lists", "spot", "met", "word", "row", "first", "second", "action"] ["look", "eyes"] (defScope sOut) := ⟨rfl, rfl, rfl, by decide +kernel, rfl, by decide +kernel, by decide +kernel⟩
def spOut (K : PySem.W.Frag) (C : Addr) (n : Nat) : Sp := fun vs H Q E => ∃ (v : V) (e : Addr) (L : Lk) (Y : Ey), vs = [v, .ref e] ∧ LkAt K H v L ∧ L.deep ≤ n ∧ Eyes K H e Y ∧ Comes C H (raw Y L) Q E
def spVal (K : PySem.W.Frag) (C : Addr) (n : Nat) : Sp := fun vs H Q E => ∃ (v : V) (e : Addr) (L : Lk) (Y : Ey), vs = [v, .ref e] ∧ LkAt K H v L ∧ L.deep ≤ n ∧ Eyes K H e Y ∧ Comes C H (val Y L) Q E
theorem ok_out {k n : Nat} (W : Wr K w mg sp sm fs) (T : PySem.FellX.FellTxt K mg C fI) (F : Fun K "outcome" "outcome" sOut f fd) (GN : FnG P w K mg base CX0 k "is_number" ["thing"] (spIsNum K))
    (GF : FnG P w K mg base (L2.CX P w) k "first_of" ["pairs", "name"] (spFirst K C)) (GP : FnG P w K mg base (L2.CX P w) k "place_in" ["row", "place"] (spPlace K C)) (GV : FnG P w K mg base (L2.CX P w) k "value_of" ["look", "eyes"] (spVal K C n))
    (GS : ∀ o : BOp, HeldX P w K mg base k (fs o) (spSum C o)) (m_len : mg "len" = none) : FnOk P w K mg base (L2.CX P w) (k + 1) f fd ["look", "eyes"] (spOut K C (n + 1)) := by
  obtain ⟨_, _, G_is_number, m_is_number, k_is_number, b_is_number⟩ := GN
  obtain ⟨_, _, G_first_of, m_first_of, k_first_of, b_first_of⟩ := GF
  obtain ⟨_, _, G_place_in, m_place_in, k_place_in, b_place_in⟩ := GP
  obtain ⟨_, _, G_value_of, m_value_of, k_value_of, b_value_of⟩ := GV
  have sc := scOut
  refine F.okX sc (fun vs H Q E h => ?_) (fun cdv A outer s H vs Q E hr h => ?_)
  · obtain ⟨v, e, L, Y, rfl, _⟩ := h
    rfl
  obtain ⟨v, e, L, Y, rfl, hL, hd, hE, q⟩ := h
  refine ⟨_, (pss_cons (ps_if (pt_val (pe_call G_is_number (hr.mono (by omega)) (by rfl) m_is_number k_is_number b_is_number .nil pass0 (pa_cons (pv 0) pa_nil))) (pss_one (ps_ret (pv 0))) pss_nil)
      (pss_cons (ps_asg (pv 1) (pg_or (pg_tup (by rfl) (pgs_cons (pg_name (i := 2) sc.nd rfl (.inl rfl)) (pgs_cons (pg_name (i := 3) sc.nd rfl (.inl rfl)) (pgs_cons (pg_name (i := 4) sc.nd rfl (.inl rfl)) (pgs_cons (pg_name (i := 5) sc.nd rfl (.inl rfl)) pgs_nil))))) (pg_lst (by rfl) (pgs_cons (pg_name (i := 2) sc.nd rfl (.inl rfl)) (pgs_cons (pg_name (i := 3) sc.nd rfl (.inl rfl)) (pgs_cons (pg_name (i := 4) sc.nd rfl (.inl rfl)) (pgs_cons (pg_name (i := 5) sc.nd rfl (.inl rfl)) pgs_nil)))))))
      (pss_cons (ps_set (i := 6) sc.nd rfl (.inl rfl) (pe_ix (IxR.or ix_tup ix_list) (pv 0) pe_int (fun _ _ => rfl)))
      (pss_cons (ps_if (pt_cmpR op_eq (pv 6) pe_str (nomark _)) (pss_one (ps_ret (pe_callS G_first_of (hr.mono (by omega)) (by rfl) m_first_of k_first_of b_first_of (fun σ => passAt (takes_of rfl rfl rfl rfl) σ) (pa_cons (pv 2) (pa_cons (pe_ix (IxR.or ix_tup ix_list) (pv 0) pe_int (fun _ _ => rfl)) pa_nil))))) pss_nil)
      (pss_cons (ps_if (pt_cmpR op_eq (pv 6) pe_str (nomark _)) (pss_one (ps_ret (pe_callB call_len_seq (by rfl) m_len (by decide +kernel) (pa_cons (pe_callS G_first_of (hr.mono (by omega)) (by rfl) m_first_of k_first_of b_first_of (fun σ => passAt (takes_of rfl rfl rfl rfl) σ) (pa_cons (pv 3) (pa_cons (pe_ix (IxR.or ix_tup ix_list) (pv 0) pe_int (fun _ _ => rfl)) pa_nil))) pa_nil)))) pss_nil)
      (pss_cons (ps_if (pt_cmpR op_eq (pv 6) pe_str (nomark _)) (pss_cons (ps_set (i := 7) sc.nd rfl (.inl rfl) (pe_callS G_first_of (hr.mono (by omega)) (by rfl) m_first_of k_first_of b_first_of (fun σ => passAt (takes_of rfl rfl rfl rfl) σ) (pa_cons (pv 3) (pa_cons (pe_ix (IxR.or ix_tup ix_list) (pv 0) pe_int (fun _ _ => rfl)) pa_nil))))
      (pss_one (ps_ret (pe_ix (IxR.or ix_tup ix_list) (pv 7) (pe_callS G_place_in (hr.mono (by omega)) (by rfl) m_place_in k_place_in b_place_in (fun σ => passAt (takes_of rfl rfl rfl rfl) σ) (pa_cons (pv 7) (pa_cons (pe_callS G_value_of (hr.mono (by omega)) (by rfl) m_value_of k_value_of b_value_of (fun σ => passAt (takes_of rfl rfl rfl rfl) σ) (pa_cons (pe_ix (IxR.or ix_tup ix_list) (pv 0) pe_int (fun _ _ => rfl)) (pa_cons (pv 1) pa_nil))) pa_nil))) (fun _ _ => rfl))))) pss_nil)
      (pss_cons (ps_if (pt_cmpR op_in_seq (pv 6) (pe_glob (v := .ref sp) (by rfl) W.mP rfl) (by rfl)) (pss_one (ps_ret (pe_ix (IxR.or ix_tup ix_list) (pv 4) (pe_bm PySem.F.plainAttrs_tuple PySem.F.slot_tuple_index PySem.F.type_tuple_index mt_tup_index (pe_glob (v := .ref sp) (by rfl) W.mP rfl) (pa_cons (pv 6) pa_nil)) (fun _ _ => rfl)))) pss_nil)
      (pss_cons (ps_set (i := 8) sc.nd rfl (.inl rfl) (pe_callS G_value_of (hr.mono (by omega)) (by rfl) m_value_of k_value_of b_value_of (fun σ => passAt (takes_of rfl rfl rfl rfl) σ) (pa_cons (pe_ix (IxR.or ix_tup ix_list) (pv 0) pe_int (fun _ _ => rfl)) (pa_cons (pv 1) pa_nil))))
      (pss_cons (ps_set (i := 9) sc.nd rfl (.inl rfl) (pe_callS G_value_of (hr.mono (by omega)) (by rfl) m_value_of k_value_of b_value_of (fun σ => passAt (takes_of rfl rfl rfl rfl) σ) (pa_cons (pe_ix (IxR.or ix_tup ix_list) (pv 0) pe_int (fun _ _ => rfl)) (pa_cons (pv 1) pa_nil))))
      (pss_cons (ps_set (i := 10) sc.nd rfl (.inl rfl) (pe_ix ix_kdict (pe_glob (v := .ref sm) (by rfl) W.mS rfl) (pv 6) (fun _ _ => rfl)))
      (pss_one (ps_ret (pe_callX (k := k) (i := 10) (hr.mono (by omega)) rfl (.inl rfl) (fun σ => passAt (takes_of rfl rfl rfl rfl) σ) (by exact (pa_cons (pv 8) (pa_cons (pv 9) pa_nil)))))))))))))))), ?_⟩
  obtain ⟨en, el, es, em, he, hY⟩ := id hE
  cases hL with
  | num i => exact ⟨_, rfl, _, rfl, .inl ⟨i, rfl, _, rfl, iteT ⟨_, rfl, q⟩⟩⟩
  | @name a x hs =>
    refine ⟨_, rfl, _, rfl, .inr ⟨a, _, rfl, hs, _, rfl, iteF ⟨_, rfl, gq he rfl ⟨_, _, rfl, _, _, rfl, _, _, rfl, _, _, rfl, rfl, _, rfl, ixq hs rfl ?_⟩⟩⟩⟩
    obtain ⟨ps, h1, h2⟩ := hY.nm
    refine ⟨_, rfl, rfl, _, rfl, ifT rfl ⟨_, rfl, _, rfl, ixq hs rfl ⟨en, ps, _, x, rfl, h1, h2, fun u hu => ?_, fun hn => ?_⟩⟩⟩
    · rw [names_look] at hu
      cases e : Y.names.lookup x with
      | none => rw [e] at hu; cases hu
      | some i => rw [e] at hu; cases hu; exact comes_ok q (show some_of (Y.names.lookup x) .ok = .ok i by rw [e]; rfl)
    · rw [names_look] at hn
      cases e : Y.names.lookup x with
      | some i => rw [e] at hn; cases hn
      | none => exact comes_err q (show some_of (Y.names.lookup x) .ok = .error "none" by rw [e]; rfl)
  | @many a x hs =>
    refine ⟨_, rfl, _, rfl, .inr ⟨a, _, rfl, hs, _, rfl, iteF ⟨_, rfl, gq he rfl ⟨_, _, rfl, _, _, rfl, _, _, rfl, _, _, rfl, rfl, _, rfl, ixq hs rfl ?_⟩⟩⟩⟩
    obtain ⟨ps, rs, h1, h2, h3⟩ := hY.ls
    refine ⟨_, rfl, rfl, _, rfl, ifF (neS (by decide +kernel)) ⟨_, rfl, rfl, _, rfl, ifT rfl ⟨_, rfl, _, rfl, ixq hs rfl ⟨el, ps, rs, x, rfl, h1, h2, fun u hu => ?_, fun hn => ?_⟩⟩⟩⟩
    · rcases rows_look x h3 with ⟨z, _⟩ | ⟨b, l, z, zl, zs⟩
      · rw [z] at hu; cases hu
      · rw [z] at hu
        cases hu
        refine ⟨b, _, rfl, zs.symm, ?_⟩
        rw [List.length_map]
        exact comes_ok q (show some_of (Y.lists.lookup x) (fun l => .ok l.length) = _ by rw [zl]; rfl)
    · rcases rows_look x h3 with ⟨_, z⟩ | ⟨b, l, z, zl, zs⟩
      · exact comes_err q (show some_of (Y.lists.lookup x) (fun l => .ok l.length) = .error "none" by rw [z]; rfl)
      · rw [z] at hn; cases hn
  | @item a x u L hs hu =>
    refine ⟨_, rfl, _, rfl, .inr ⟨a, _, rfl, hs, _, rfl, iteF ⟨_, rfl, gq he rfl ⟨_, _, rfl, _, _, rfl, _, _, rfl, _, _, rfl, rfl, _, rfl, ixq hs rfl ?_⟩⟩⟩⟩
    obtain ⟨ps, rs, h1, h2, h3⟩ := hY.ls
    refine ⟨_, rfl, rfl, _, rfl, ifF (neS (by decide +kernel)) ⟨_, rfl, rfl, _, rfl, ifF (neS (by decide +kernel)) ⟨_, rfl, rfl, _, rfl, ifT rfl ⟨_, rfl, _, rfl, ixq hs rfl ⟨el, ps, rs, x, rfl, h1, h2, fun u' hu' => ?_, fun hn => ?_⟩⟩⟩⟩⟩
    · rcases rows_look x h3 with ⟨z, _⟩ | ⟨b, l, z, zl, zs⟩
      · rw [z] at hu'; cases hu'
      · rw [z] at hu'
        cases hu'
        have q1 : Comes C H (then_ (val Y L) (itemOf l)) Q E := by
          have q0 : Comes C H (some_of (Y.lists.lookup x) fun l => then_ (val Y L) (itemOf l)) Q E := q
          rw [zl] at q0
          exact q0
        refine ⟨_, rfl, _, rfl, _, rfl, ixq hs rfl ⟨_, rfl, u, e, L, Y, rfl, hu, Nat.le_of_succ_le_succ hd, hE, ?_⟩⟩
        cases ev : val Y L with
        | error z => exact comes_err q1 (by rw [ev]; rfl)
        | ok i =>
          rw [ev] at q1
          refine ⟨b, _, i, rfl, zs, fun hi => ?_, fun hi => ?_⟩
          · rw [List.length_map] at hi
            have hl : i.toNat < l.length := by omega
            refine ixq zs (v := .int (l.getD i.toNat 0)) ?_ (comes_ok q1 (if_pos hi))
            have ei : i = ((i.toNat : Nat) : Int) := by omega
            rw [ei]
            exact atI_nat (by rw [Int.toNat_natCast, List.getElem?_map, List.getD_eq_getElem?_getD, List.getElem?_eq_getElem hl]; rfl)
          · rw [List.length_map] at hi
            exact comes_err q1 (if_neg hi)
    · rcases rows_look x h3 with ⟨_, z⟩ | ⟨b, l, z, zl, zs⟩
      · exact comes_err q (show some_of (Y.lists.lookup x) (fun l => then_ (val Y L) (itemOf l)) = .error "none" by rw [z]; rfl)
      · rw [z] at hn; cases hn
  | @spot a j z hk hs =>
    obtain ⟨w1, w2, w3, w4, w5, w6⟩ := spot_in hk
    obtain ⟨its, nn, sl, p1, p2, p3⟩ := W.kP
    refine ⟨_, rfl, _, rfl, .inr ⟨a, _, rfl, hs, _, rfl, iteF ⟨_, rfl, gq he rfl ⟨_, _, rfl, _, _, rfl, _, _, rfl, _, _, rfl, rfl, _, rfl, ixq hs rfl ?_⟩⟩⟩⟩
    refine ⟨_, rfl, rfl, _, rfl, ifF (neS w4) ⟨_, rfl, rfl, _, rfl, ifF (neS w5) ⟨_, rfl, rfl, _, rfl, ifF (neS w6) ⟨_, rfl, sp, _, rfl, .inr (W.sqP H), rfl, by decide +kernel, _, rfl, iteB w1 ?_⟩⟩⟩⟩
    refine ⟨_, rfl, .inr (.inl ⟨rfl, _, p1, rfl, rfl⟩), _, rfl, sp, spotWords, z, j, rfl, rfl, W.sqP H, hk, w2, ixq hY.sp (v := .int (Y.spot.getD j 0)) (atI_nat ?_) q⟩
    have h4 : j < Y.spot.length := by rw [hY.s4]; exact w3
    rw [List.getElem?_map, List.getD_eq_getElem?_getD, List.getElem?_eq_getElem h4]
    rfl
  | @bin a o u v L M hs hu hv =>
    obtain ⟨w1, w2, w3, w4⟩ := bop_words o
    refine ⟨_, rfl, _, rfl, .inr ⟨a, _, rfl, hs, _, rfl, iteF ⟨_, rfl, gq he rfl ⟨_, _, rfl, _, _, rfl, _, _, rfl, _, _, rfl, rfl, _, rfl, ixq hs rfl ?_⟩⟩⟩⟩
    refine ⟨_, rfl, rfl, _, rfl, ifF (neS w2) ⟨_, rfl, rfl, _, rfl, ifF (neS w3) ⟨_, rfl, rfl, _, rfl, ifF (neS w4) ⟨_, rfl, sp, _, rfl, .inr (W.sqP H), rfl, by decide +kernel, _, rfl, iteBF w1 ?_⟩⟩⟩⟩
    have hd' : max L.deep M.deep ≤ n := Nat.le_of_succ_le_succ hd
    have q1 : Comes C H (then_ (val Y L) fun i => then_ (val Y M) fun j => o.run i j) Q E := q
    refine ⟨_, rfl, ixq hs rfl ⟨_, rfl, u, e, L, Y, rfl, hu, by omega, hE, ?_⟩⟩
    cases ev : val Y L with
    | error z => exact comes_err q1 (by rw [ev]; rfl)
    | ok i =>
      rw [ev] at q1
      refine ⟨_, rfl, ixq hs rfl ⟨_, rfl, v, e, M, Y, rfl, hv, by omega, hE, ?_⟩⟩
      cases ew : val Y M with
      | error z => exact comes_err q1 (by show then_ (val Y M) _ = _; rw [ew]; rfl)
      | ok j =>
        have q2 : Comes C H (o.run i j) Q E := by
          have q0 : Comes C H (then_ (val Y M) fun j => o.run i j) Q E := q1
          rw [ew] at q0
          exact q0
        exact ⟨_, rfl, sm, o.word, _, rfl, rfl, W.kS o, fs o, spSum C o, rfl, GS o, _, rfl, _, rfl, i, j, rfl, val_in ev, val_in ew, q2⟩
end
end Fd

set_option Elab.async false
set_option linter.all false
set_option maxRecDepth 100000
set_option maxHeartbeats 2000000
namespace Fd
open PySem PySem.Spec PyProof.Rows L2
section
variable {P : Program} {w : World} {K : PySem.W.Frag} {mg : Str → Option Value} {base : Heap} {f C fI sp sm : Addr} {fs : BOp → Addr} {fd : FuncData}
abbrev sVal : Stmt := top 14
theorem ok_val {k n : Nat} (T : PySem.FellX.FellTxt K mg C fI) (F : Fun K "value_of" "value_of" sVal f fd) (GI : FnG P w K mg base CX0 k "is_value" ["thing"] spIsVal)
    (GO : FnG P w K mg base (L2.CX P w) k "outcome" ["look", "eyes"] (spOut K C n)) : FnOk P w K mg base (L2.CX P w) (k + 1) f fd ["look", "eyes"] (spVal K C n) := by
  obtain ⟨_, _, G_is_value, m_is_value, k_is_value, b_is_value⟩ := GI
  obtain ⟨_, _, G_outcome, m_outcome, k_outcome, b_outcome⟩ := GO
  have sc : FnScope ["look", "eyes", "value"] ["look", "eyes"] (defScope sVal) := ⟨rfl, rfl, rfl, by decide +kernel, rfl, by decide +kernel, by decide +kernel⟩
  refine F.okX sc (fun vs H Q E h => ?_) (fun cdv A outer s H vs Q E hr h => ?_)
  · obtain ⟨v, e, L, Y, rfl, _⟩ := h
    rfl
  obtain ⟨v, e, L, Y, rfl, hL, hd, hE, q⟩ := h
  refine ⟨_, (pss_cons (ps_set (i := 2) sc.nd rfl (.inl rfl) (pe_callS G_outcome (hr.mono (by omega)) (by rfl) m_outcome k_outcome b_outcome (fun σ => passAt (takes_of rfl rfl rfl rfl) σ) (pa_cons (pv 0) (pa_cons (pv 1) pa_nil))))
      (pss_cons (ps_if (pt_not (pt_val (pe_call G_is_value (hr.mono (by omega)) (by rfl) m_is_value k_is_value b_is_value .nil pass0 (pa_cons (pv 2) pa_nil)))) (pss_one (ps_raiseFell rfl T hr (takes_of rfl rfl rfl rfl) (by exact (pa_cons pe_str pa_nil)))) pss_nil)
      (pss_one (ps_ret (pv 2))))), ?_⟩
  rw [val_raw] at q
  refine ⟨_, rfl, _, rfl, v, e, L, Y, rfl, hL, hd, hE, ?_⟩
  cases er : raw Y L with
  | error z => exact comes_err q (by rw [er]; rfl)
  | ok i =>
    rw [er] at q
    refine ⟨_, rfl, i, rfl, _, rfl, ?_⟩
    by_cases hi : inB i = true
    · rw [hi]
      exact iteF ⟨_, rfl, comes_ok q (if_pos hi)⟩
    · rw [Bool.eq_false_iff.mpr hi]
      exact iteT ⟨_, rfl, fun d nd => comes_err q (if_neg hi) d nd⟩
/-- the defs of looks.py that the two call -/
structure Looks5 (P : Program) (w : World) (K : PySem.W.Frag) (mg : Str → Option Value) (base : Heap) (C fI sp sm : Addr) (fs : BOp → Addr) : Prop where
  T : PySem.FellX.FellTxt K mg C fI
  W : Wr K w mg sp sm fs
  N : FnG P w K mg base CX0 3 "is_number" ["thing"] (spIsNum K)
  I : FnG P w K mg base CX0 3 "is_value" ["thing"] spIsVal
  F : FnG P w K mg base (L2.CX P w) 3 "first_of" ["pairs", "name"] (spFirst K C)
  L : FnG P w K mg base (L2.CX P w) 3 "place_in" ["row", "place"] (spPlace K C)
  S : ∀ o : BOp, HeldX P w K mg base 3 (fs o) (spSum C o)
theorem FnG.mono {P : Program} {w : World} {K : PySem.W.Frag} {mg : Str → Option Value} {base : Heap} {CX : CXT} {j k : Nat} {x : Str} {ps : List Str} {sp : Sp} (G : FnG P w K mg base CX j x ps sp) (h : j ≤ k) : FnG P w K mg base CX k x ps sp := by
  obtain ⟨f, fd, F, r⟩ := G
  exact ⟨f, fd, F.mono h, r⟩
theorem HeldX.mono {P : Program} {w : World} {K : PySem.W.Frag} {mg : Str → Option Value} {base : Heap} {j k : Nat} {f : Addr} {sp : Sp} (G : HeldX P w K mg base j f sp) (h : j ≤ k) : HeldX P w K mg base k f sp := by
  obtain ⟨fd, ps, F, r⟩ := G
  exact ⟨fd, ps, F.mono h, r⟩
theorem ok_values {fo : Addr} {fod : FuncData} (L : Looks5 P w K mg base C fI sp sm fs) (m_len : mg "len" = none) (DV : Df K mg "value_of" sVal ["look", "eyes"] f fd) (DO : Df K mg "outcome" sOut ["look", "eyes"] fo fod) :
    ∀ n, FnG P w K mg base (L2.CX P w) (2 * n + 4) "value_of" ["look", "eyes"] (spVal K C n)
  | 0 => ⟨f, fd, ⟨fun vs H Q E h => by
      obtain ⟨v, e, L, Y, rfl, _⟩ := h
      rfl, fun A outer s H args us vs Q E _ _ _ _ h => by
      obtain ⟨v, e, L, Y, _, _, hd, _⟩ := h
      exact absurd hd (by cases L <;> simp [Lk.deep])⟩, DV.m, DV.F.kp, DV.b⟩
  | n + 1 => by
    have G := ok_values L m_len DV DO n
    have O : FnG P w K mg base (L2.CX P w) (2 * n + 5) "outcome" ["look", "eyes"] (spOut K C (n + 1)) :=
      DO.g (ok_out (k := 2 * n + 4) L.W L.T DO.F (L.N.mono (by omega)) (L.F.mono (by omega)) (L.L.mono (by omega)) G (fun o => (L.S o).mono (by omega)) m_len)
    exact DV.g (ok_val (k := 2 * n + 5) L.T DV.F (L.I.mono (by omega)) O)
/-! ### tests -/
end
inductive Ts where
  | like (a b : Lk) | less (a b : Lk) | not_ (t : Ts) | both (t u : Ts) | any_ (t u : Ts) | meets (x : Str)
def thenB {α β : Type} (r : Except Str α) (f : α → Except Str β) : Except Str β := match r with
  | .ok i => f i
  | .error w => .error w
def hold (Y : Ey) : Ts → Except Str Bool
  | .like a b => thenB (val Y a) fun i => thenB (val Y b) fun j => .ok (decide (i = j))
  | .less a b => thenB (val Y a) fun i => thenB (val Y b) fun j => .ok (decide (i < j))
  | .not_ t => thenB (hold Y t) fun b => .ok (!b)
  | .both t u => thenB (hold Y t) fun b => if b = true then hold Y u else .ok false
  | .any_ t u => thenB (hold Y t) fun b => if b = true then .ok true else hold Y u
  | .meets x => .ok (decide (x ∈ Y.met))
def Ts.deep : Ts → Nat
  | .like a b => max a.deep b.deep + 1
  | .less a b => max a.deep b.deep + 1
  | .not_ t => t.deep + 1
  | .both t u => max t.deep u.deep + 1
  | .any_ t u => max t.deep u.deep + 1
  | .meets _ => 1
inductive TsAt (K : PySem.W.Frag) (H : Hp) : V → Ts → Prop where
  | like {a : Addr} {u v : V} {L M : Lk} (h : Sq K H a [.str "like", u, v]) (hu : LkAt K H u L) (hv : LkAt K H v M) : TsAt K H (.ref a) (.like L M)
  | less {a : Addr} {u v : V} {L M : Lk} (h : Sq K H a [.str "below", u, v]) (hu : LkAt K H u L) (hv : LkAt K H v M) : TsAt K H (.ref a) (.less L M)
  | not_ {a : Addr} {u : V} {t : Ts} (h : Sq K H a [.str "not", u]) (hu : TsAt K H u t) : TsAt K H (.ref a) (.not_ t)
  | both {a : Addr} {u v : V} {t t' : Ts} (h : Sq K H a [.str "both", u, v]) (hu : TsAt K H u t) (hv : TsAt K H v t') : TsAt K H (.ref a) (.both t t')
  | any_ {a : Addr} {u v : V} {t t' : Ts} (h : Sq K H a [.str "any", u, v]) (hu : TsAt K H u t) (hv : TsAt K H v t') : TsAt K H (.ref a) (.any_ t t')
  | meets {a : Addr} {x : Str} (h : Sq K H a [.str "meets", .str x]) : TsAt K H (.ref a) (.meets x)
theorem TsAt.same {K : PySem.W.Frag} {H H' : Hp} (s : Same H H') {v : V} {t : Ts} (h : TsAt K H v t) : TsAt K H' v t := by
  induction h with
  | like h hu hv => exact .like (h.same s) (hu.same s) (hv.same s)
  | less h hu hv => exact .less (h.same s) (hu.same s) (hv.same s)
  | not_ h _ ih => exact .not_ (h.same s) ih
  | both h _ _ i1 i2 => exact .both (h.same s) i1 i2
  | any_ h _ _ i1 i2 => exact .any_ (h.same s) i1 i2
  | meets h => exact .meets (h.same s)
def ComesB (C : Addr) (H : Hp) (r : Except Str Bool) (Q : VK) (E : XK) : Prop := match r with
  | .ok b => Q (.bl b) H
  | .error w => Falls C E H w
theorem comesB_ok {C : Addr} {H : Hp} {r : Except Str Bool} {Q : VK} {E : XK} {i : Bool} (h : ComesB C H r Q E) (e : r = .ok i) : Q (.bl i) H := by subst e; exact h
theorem comesB_err {C : Addr} {H : Hp} {r : Except Str Bool} {Q : VK} {E : XK} {w : Str} (h : ComesB C H r Q E) (e : r = .error w) : Falls C E H w := by subst e; exact h
theorem in_met (x : Str) : ∀ m : List Str, inV (.str x) (m.map V.str) = decide (x ∈ m)
  | [] => by rw [decide_eq_false (by simp)]; rfl
  | y :: r => by
    show (y == x || inV (.str x) (r.map V.str)) = _
    rw [in_met x r]
    by_cases h : y = x
    · subst h
      rw [decide_eq_true (List.mem_cons_self), beq_self_eq_true]
      rfl
    · rw [beq_eq_false_iff_ne.mpr h, Bool.false_or]
      by_cases g : x ∈ r
      · rw [decide_eq_true g, decide_eq_true (List.mem_cons_of_mem _ g)]
      · rw [decide_eq_false g, decide_eq_false (fun z => (List.mem_cons.mp z).elim (fun e => h e.symm) g)]
theorem flat_met : ∀ m : List Str, (m.map V.str).all flatV = true
  | [] => rfl
  | _ :: r => by rw [List.map_cons, List.all_cons, flat_met r]; rfl
section
variable {P : Program} {w : World} {K : PySem.W.Frag} {mg : Str → Option Value} {base : Heap} {f C fI sp sm : Addr} {fs : BOp → Addr} {fd : FuncData}
abbrev sHolds : Stmt := top 18
def spHold (K : PySem.W.Frag) (C : Addr) (n : Nat) : Sp := fun vs H Q E => ∃ (v : V) (e : Addr) (t : Ts) (Y : Ey), vs = [v, .ref e] ∧ TsAt K H v t ∧ t.deep ≤ n ∧ Eyes K H e Y ∧ ComesB C H (hold Y t) Q E
theorem ok_hold {k n : Nat} (T : PySem.FellX.FellTxt K mg C fI) (F : Fun K "holds" "holds" sHolds f fd) (GV : FnG P w K mg base (L2.CX P w) k "value_of" ["look", "eyes"] (spVal K C n))
    (GH : FnG P w K mg base (L2.CX P w) k "holds" ["test", "eyes"] (spHold K C n)) : FnOk P w K mg base (L2.CX P w) (k + 1) f fd ["test", "eyes"] (spHold K C (n + 1)) := by
  obtain ⟨_, _, G_value_of, m_value_of, k_value_of, b_value_of⟩ := GV
  obtain ⟨_, _, G_holds, m_holds, k_holds, b_holds⟩ := GH
  have sc : FnScope ["test", "eyes", "word", "first", "second"] ["test", "eyes"] (defScope sHolds) := ⟨rfl, rfl, rfl, by decide +kernel, rfl, by decide +kernel, by decide +kernel⟩
  refine F.okX sc (fun vs H Q E h => ?_) (fun cdv A outer s H vs Q E hr h => ?_)
  · obtain ⟨v, e, L, Y, rfl, _⟩ := h
    rfl
  obtain ⟨v, e, t, Y, rfl, hT, hd, hE, q⟩ := h
  refine ⟨_, (pss_cons (ps_set (i := 2) sc.nd rfl (.inl rfl) (pe_ix (IxR.or ix_tup ix_list) (pv 0) pe_int (fun _ _ => rfl)))
      (pss_cons (ps_if (pt_cmpR op_eq (pv 2) pe_str (nomark _)) (pss_one (ps_ret (pe_cmpR op_in_seq (pe_ix (IxR.or ix_tup ix_list) (pv 0) pe_int (fun _ _ => rfl)) (pe_ix (IxR.or ix_tup ix_list) (pv 1) pe_int (fun _ _ => rfl)) (by rfl)))) pss_nil)
      (pss_cons (ps_if (pt_cmpR op_eq (pv 2) pe_str (nomark _)) (pss_one (ps_ret (pe_not (pe_callS G_holds (hr.mono (by omega)) (by rfl) m_holds k_holds b_holds (fun σ => passAt (takes_of rfl rfl rfl rfl) σ) (pa_cons (pe_ix (IxR.or ix_tup ix_list) (pv 0) pe_int (fun _ _ => rfl)) (pa_cons (pv 1) pa_nil)))))) pss_nil)
      (pss_cons (ps_if (pt_cmpR op_eq (pv 2) pe_str (nomark _)) (pss_one (ps_ret (pe_and (pe_callS G_holds (hr.mono (by omega)) (by rfl) m_holds k_holds b_holds (fun σ => passAt (takes_of rfl rfl rfl rfl) σ) (pa_cons (pe_ix (IxR.or ix_tup ix_list) (pv 0) pe_int (fun _ _ => rfl)) (pa_cons (pv 1) pa_nil))) (pe_one (pe_callS G_holds (hr.mono (by omega)) (by rfl) m_holds k_holds b_holds (fun σ => passAt (takes_of rfl rfl rfl rfl) σ) (pa_cons (pe_ix (IxR.or ix_tup ix_list) (pv 0) pe_int (fun _ _ => rfl)) (pa_cons (pv 1) pa_nil))))))) pss_nil)
      (pss_cons (ps_if (pt_cmpR op_eq (pv 2) pe_str (nomark _)) (pss_one (ps_ret (pe_or (pe_callS G_holds (hr.mono (by omega)) (by rfl) m_holds k_holds b_holds (fun σ => passAt (takes_of rfl rfl rfl rfl) σ) (pa_cons (pe_ix (IxR.or ix_tup ix_list) (pv 0) pe_int (fun _ _ => rfl)) (pa_cons (pv 1) pa_nil))) (pe_one (pe_callS G_holds (hr.mono (by omega)) (by rfl) m_holds k_holds b_holds (fun σ => passAt (takes_of rfl rfl rfl rfl) σ) (pa_cons (pe_ix (IxR.or ix_tup ix_list) (pv 0) pe_int (fun _ _ => rfl)) (pa_cons (pv 1) pa_nil))))))) pss_nil)
      (pss_cons (ps_set (i := 3) sc.nd rfl (.inl rfl) (pe_callS G_value_of (hr.mono (by omega)) (by rfl) m_value_of k_value_of b_value_of (fun σ => passAt (takes_of rfl rfl rfl rfl) σ) (pa_cons (pe_ix (IxR.or ix_tup ix_list) (pv 0) pe_int (fun _ _ => rfl)) (pa_cons (pv 1) pa_nil))))
      (pss_cons (ps_set (i := 4) sc.nd rfl (.inl rfl) (pe_callS G_value_of (hr.mono (by omega)) (by rfl) m_value_of k_value_of b_value_of (fun σ => passAt (takes_of rfl rfl rfl rfl) σ) (pa_cons (pe_ix (IxR.or ix_tup ix_list) (pv 0) pe_int (fun _ _ => rfl)) (pa_cons (pv 1) pa_nil))))
      (pss_one (ps_ret (pe_ifExp (pt_cmpR op_eq (pv 2) pe_str (nomark _)) (pe_cmpR op_eq (pv 3) (pv 4) (nomark _)) (pe_cmpR op_lt (pv 3) (pv 4) (nomark _)))))))))))), ?_⟩
  obtain ⟨en, el, es, em, he, hY⟩ := id hE
  cases hT with
  | @meets a x hs =>
    refine ⟨_, rfl, ixq hs rfl ⟨_, rfl, rfl, _, rfl, ifT rfl ⟨_, rfl, ixq hs rfl ⟨_, rfl, ixq he rfl ⟨em, _, rfl, hY.mt.symm, rfl, flat_met _, ?_⟩⟩⟩⟩⟩
    show Q (.bl (inV (.str x) (Y.met.map V.str))) H
    rw [in_met]
    exact q
  | @not_ a u t hs hu =>
    refine ⟨_, rfl, ixq hs rfl ⟨_, rfl, rfl, _, rfl, ifF (neS (by decide +kernel)) ⟨_, rfl, rfl, _, rfl, ifT rfl ⟨_, rfl, ixq hs rfl ⟨_, rfl, u, e, t, Y, rfl, hu, Nat.le_of_succ_le_succ hd, hE, ?_⟩⟩⟩⟩⟩
    have q1 : ComesB C H (thenB (hold Y t) fun b => .ok (!b)) Q E := q
    cases ev : hold Y t with
    | error z => exact comesB_err q1 (by rw [ev]; rfl)
    | ok b => exact ⟨_, rfl, comesB_ok q1 (by rw [ev]; rfl)⟩
  | @both a u v t t' hs hu hv =>
    have hd' : max t.deep t'.deep ≤ n := Nat.le_of_succ_le_succ hd
    refine ⟨_, rfl, ixq hs rfl ⟨_, rfl, rfl, _, rfl, ifF (neS (by decide +kernel)) ⟨_, rfl, rfl, _, rfl, ifF (neS (by decide +kernel)) ⟨_, rfl, rfl, _, rfl, ifT rfl ⟨_, rfl, ixq hs rfl ⟨_, rfl, u, e, t, Y, rfl, hu, by omega, hE, ?_⟩⟩⟩⟩⟩⟩
    have q1 : ComesB C H (thenB (hold Y t) fun b => if b = true then hold Y t' else .ok false) Q E := q
    cases ev : hold Y t with
    | error z => exact comesB_err q1 (by rw [ev]; rfl)
    | ok b =>
      rw [ev] at q1
      cases b with
      | true => exact ⟨_, rfl, iteT ⟨_, rfl, ixq hs rfl ⟨_, rfl, v, e, t', Y, rfl, hv, by omega, hE, q1⟩⟩⟩
      | false => exact ⟨_, rfl, iteF q1⟩
  | @any_ a u v t t' hs hu hv =>
    have hd' : max t.deep t'.deep ≤ n := Nat.le_of_succ_le_succ hd
    refine ⟨_, rfl, ixq hs rfl ⟨_, rfl, rfl, _, rfl, ifF (neS (by decide +kernel)) ⟨_, rfl, rfl, _, rfl, ifF (neS (by decide +kernel)) ⟨_, rfl, rfl, _, rfl, ifF (neS (by decide +kernel)) ⟨_, rfl, rfl, _, rfl, ifT rfl
      ⟨_, rfl, ixq hs rfl ⟨_, rfl, u, e, t, Y, rfl, hu, by omega, hE, ?_⟩⟩⟩⟩⟩⟩⟩
    have q1 : ComesB C H (thenB (hold Y t) fun b => if b = true then .ok true else hold Y t') Q E := q
    cases ev : hold Y t with
    | error z => exact comesB_err q1 (by rw [ev]; rfl)
    | ok b =>
      rw [ev] at q1
      cases b with
      | true => exact ⟨_, rfl, iteT q1⟩
      | false => exact ⟨_, rfl, iteF ⟨_, rfl, ixq hs rfl ⟨_, rfl, v, e, t', Y, rfl, hv, by omega, hE, q1⟩⟩⟩
  | @like a u v L M hs hu hv =>
    have hd' : max L.deep M.deep ≤ n := Nat.le_of_succ_le_succ hd
    have q1 : ComesB C H (thenB (val Y L) fun i => thenB (val Y M) fun j => .ok (decide (i = j))) Q E := q
    refine ⟨_, rfl, ixq hs rfl ⟨_, rfl, rfl, _, rfl, ifF (neS (by decide +kernel)) ⟨_, rfl, rfl, _, rfl, ifF (neS (by decide +kernel)) ⟨_, rfl, rfl, _, rfl, ifF (neS (by decide +kernel)) ⟨_, rfl, rfl, _, rfl, ifF (neS (by decide +kernel))
      ⟨_, rfl, ixq hs rfl ⟨_, rfl, u, e, L, Y, rfl, hu, by omega, hE, ?_⟩⟩⟩⟩⟩⟩⟩
    cases ev : val Y L with
    | error z => exact comesB_err q1 (by rw [ev]; rfl)
    | ok i =>
      refine ⟨_, rfl, ixq hs rfl ⟨_, rfl, v, e, M, Y, rfl, hv, by omega, hE, ?_⟩⟩
      cases ew : val Y M with
      | error z => exact comesB_err q1 (by rw [ev]; show thenB (val Y M) _ = _; rw [ew]; rfl)
      | ok j =>
        refine ⟨_, rfl, rfl, _, rfl, ifT rfl ⟨_, rfl, _, rfl, rfl, ?_⟩⟩
        have q2 := comesB_ok q1 (i := decide (i = j)) (by rw [ev]; show thenB (val Y M) _ = _; rw [ew]; rfl)
        by_cases h : i = j
        · subst h
          exact qd (by rw [decide_eq_true rfl] at q2; exact q2)
        · rw [decide_eq_false h] at q2
          show Q (.bl (decide (V.int i = V.int j))) H
          rw [decide_eq_false (fun z => h (V.int.inj z))]
          exact q2
  | @less a u v L M hs hu hv =>
    have hd' : max L.deep M.deep ≤ n := Nat.le_of_succ_le_succ hd
    have q1 : ComesB C H (thenB (val Y L) fun i => thenB (val Y M) fun j => .ok (decide (i < j))) Q E := q
    refine ⟨_, rfl, ixq hs rfl ⟨_, rfl, rfl, _, rfl, ifF (neS (by decide +kernel)) ⟨_, rfl, rfl, _, rfl, ifF (neS (by decide +kernel)) ⟨_, rfl, rfl, _, rfl, ifF (neS (by decide +kernel)) ⟨_, rfl, rfl, _, rfl, ifF (neS (by decide +kernel))
      ⟨_, rfl, ixq hs rfl ⟨_, rfl, u, e, L, Y, rfl, hu, by omega, hE, ?_⟩⟩⟩⟩⟩⟩⟩
    cases ev : val Y L with
    | error z => exact comesB_err q1 (by rw [ev]; rfl)
    | ok i =>
      refine ⟨_, rfl, ixq hs rfl ⟨_, rfl, v, e, M, Y, rfl, hv, by omega, hE, ?_⟩⟩
      cases ew : val Y M with
      | error z => exact comesB_err q1 (by rw [ev]; show thenB (val Y M) _ = _; rw [ew]; rfl)
      | ok j =>
        exact ⟨_, rfl, rfl, _, rfl, ifF (neS (by decide +kernel)) ⟨_, rfl, _, rfl, _, _, rfl, rfl, comesB_ok q1 (i := decide (i < j)) (by rw [ev]; show thenB (val Y M) _ = _; rw [ew]; rfl)⟩⟩
theorem ok_holds (T : PySem.FellX.FellTxt K mg C fI) (D : Df K mg "holds" sHolds ["test", "eyes"] f fd) (G : ∀ n, FnG P w K mg base (L2.CX P w) (2 * n + 4) "value_of" ["look", "eyes"] (spVal K C n)) :
    ∀ n, FnG P w K mg base (L2.CX P w) (2 * n + 4) "holds" ["test", "eyes"] (spHold K C n)
  | 0 => ⟨f, fd, ⟨fun vs H Q E h => by
      obtain ⟨v, e, L, Y, rfl, _⟩ := h
      rfl, fun A outer s H args us vs Q E _ _ _ _ h => by
      obtain ⟨v, e, L, Y, _, _, hd, _⟩ := h
      exact absurd hd (by cases L <;> simp [Ts.deep])⟩, D.m, D.F.kp, D.b⟩
  | n + 1 => FnG.mono (D.g (ok_hold (k := 2 * n + 4) T D.F (G n) (ok_holds T D G n))) (by omega)
end
end Fd

set_option Elab.async false
set_option linter.all false
set_option maxRecDepth 100000
set_option maxHeartbeats 2000000
namespace Fd
open PySem PySem.Spec PyProof.Rows L2
section
variable {P : Program} {w : World} {K : PySem.W.Frag} {mg : Str → Option Value} {base : Heap} {f C fI sp sm : Addr} {fs : BOp → Addr} {fd : FuncData}
abbrev sTold : Stmt := top 26
theorem scTold : FnScope ["_law_asked", "_law_thing", "_law_eyes", "_law_caught", "_law_told", "error"] ["_law_asked", "_law_thing", "_law_eyes"] (defScope sTold) := ⟨rfl, rfl, rfl, by decide +kernel, rfl, by decide +kernel, by decide +kernel⟩
def OkK (Q : VK) : VK := fun u H1 => ∀ p H2, Same H1 H2 → H2 p = some (.tup [u, .non]) → Q (.ref p) H2
def ErrK (C : Addr) (Q : VK) : XK := fun cls d H1 => cls = .ref C ∧ ∃ dd z, d = some dd ∧ H1 dd = some (.xd [(("word" : Str), .str z)]) ∧ ∀ p H2, Same H1 H2 → H2 p = some (.tup [.non, .str z]) → Q (.ref p) H2
def spTold (P : Program) (w : World) (K : PySem.W.Frag) (mg : Str → Option Value) (base : Heap) (C : Addr) (k : Nat) : Sp := fun vs H Q _ => ∃ (f : Addr) (v : V) (e : Addr) (sp : Sp), vs = [.ref f, v, .ref e] ∧ HeldX P w K mg base k f sp ∧
  ∀ (H0 : Hp) (Q' : VK) (E' : XK), Same H H0 → (∀ u H1, OkK Q u H1 → Q' u H1) → (∀ cls d H1, ErrK C Q cls d H1 → E' cls d H1) → sp [v, .ref e] H0 Q' E'
-- slots ["_law_asked", "_law_thing", "_law_eyes", "_law_caught", "_law_told", "error"]
theorem ok_told {k : Nat} (T : PySem.FellX.FellTxt K mg C fI) (EC : ErrC K C) (kr : PySem.W.kitOne K (.ref C) (.type "RuntimeError") = some true) (F : Fun K "_law_told_of" "_law_told_of" sTold f fd)
    (m_isinstance : mg "isinstance" = none) (m_RuntimeError : mg "RuntimeError" = none) : FnOk P w K mg base CX0 (k + 1) f fd ["_law_asked", "_law_thing", "_law_eyes"] (spTold P w K mg base C k) := by
  have sc := scTold
  refine F.ok sc (fun vs H Q E h => ?_) (fun cdv A outer s H vs Q E hr h => ?_)
  · obtain ⟨f, v, e, sp, rfl, _⟩ := h
    rfl
  obtain ⟨g, v, e, sp, rfl, hG, q⟩ := h
  refine ⟨_, (pss_cons (ps_asg (pe_tup (pa_cons pe_non (pa_cons pe_non pa_nil))) (pg_tup (by rfl) (pgs_cons (pg_name (i := 3) sc.nd rfl (.inl rfl)) (pgs_cons (pg_name (i := 4) sc.nd rfl (.inl rfl)) pgs_nil))))
      (pss_cons (ps_try_keep (i := 5) (tb := fun W => tAsg (tCallX P w K mg base k 0 (WE W) (tCons (tVar 1) (tCons (tVar 2) tNil))) (gName 4)) (ts := fun a cls d => tAsg (tVar 5) (gName 3)) (Wout := fun _ _ _ _ => False) rfl rfl sc.nd rfl rfl ⟨rfl, by decide, .inl T.gC⟩ takes0 (fun W pn xe tk _ => pss_one (ps_set (i := 4) sc.nd rfl (.inl rfl) (by exact (pe_callX (k := k) (i := 0) (hr.mono (by omega)) rfl (.inl rfl) (fun σ => passAt tk σ) (by exact (pa_cons (pv 1) (pa_cons (pv 2) pa_nil))))))) (fun a oe cls d pn hz hf => pss_one (ps_set (i := 3) sc.nd rfl (.inl rfl) (by exact (pv 5)))))
      (pss_cons (ps_if (pt_cmpR op_isN (pv 3) pe_non (nomark _)) (pss_one (ps_ret (pe_tup (pa_cons (pv 4) (pa_cons pe_non pa_nil))))) pss_nil)
      (pss_one (ps_ret (pe_ifExp (pt_val (pe_callB (call_isErr EC) (by rfl) m_isinstance (by decide +kernel) (pa_cons (pv 3) (pa_cons (pe_bltn (v := .ty "RuntimeError") (by rfl) m_RuntimeError (by decide +kernel) rfl) pa_nil)))) (pe_tup (pa_cons pe_non (pa_cons (pe_errF EC T.noN (pv 3)) pa_nil))) (pe_tup (pa_cons pe_non (pa_cons pe_str pa_nil))))))))), ?_⟩
  refine ⟨by show 2 ≤ sizeLine; decide, fun t nt => ⟨t, _, rfl, .inl (.inl upd_same), rfl, _, _, rfl, _, _, rfl, rfl, ?_⟩⟩
  refine ⟨g, sp, rfl, hG, _, rfl, _, rfl, q _ _ _ (same_upd nt) (fun u H1 ok => ?_) (fun cls d H1 er => ?_)⟩
  · exact ⟨_, rfl, rfl, _, rfl, iteT ⟨_, rfl, by show 2 ≤ sizeLine; decide, fun p np => ok p _ (same_upd np) upd_same⟩⟩
  · obtain ⟨rfl, dd, z, rfl, hd, er⟩ := er
    refine ⟨true, T.te, (by intro z; cases z), fun _ a na => ⟨_, rfl, fun na' => ?_⟩⟩
    have nda : dd ≠ a := ne_of_none hd na
    have s1 : Same H1 (upd H1 a (ErrO (.ref C) (some dd) a)) := same_upd na
    refine ⟨_, rfl, rfl, _, rfl, iteF ⟨_, rfl, a, dd, _, "RuntimeError", true, rfl, upd_same, s1 _ _ hd, kr, _, rfl, iteT ⟨_, rfl, a, dd, _, _, rfl, upd_same, s1 _ _ hd, rfl, by show 2 ≤ sizeLine; decide, fun p np => er p _ (s1.trans (same_upd np)) upd_same⟩⟩⟩
end
end Fd

set_option Elab.async false
set_option linter.all false
set_option maxRecDepth 100000
set_option maxHeartbeats 2000000
namespace Fd
open PySem PySem.Spec PyProof.Rows L2
/-! ### things built piece by piece, whatever else comes to be tracked meanwhile -/
/-- te comes to a value of which R holds -/
def Ev (R : Hp → V → Prop) (te : TE) (σ : L2.St) (H : Hp) : Prop := ∀ H1, Same H H1 → ∀ Q : VK, (∀ v H2, Same H1 H2 → R H2 v → Q v H2) → te σ H1 Q
abbrev EvV (v : V) (te : TE) (σ : L2.St) (H : Hp) : Prop := Ev (fun _ u => u = v) te σ H
abbrev EvLk (K : PySem.W.Frag) (L : Lk) (te : TE) (σ : L2.St) (H : Hp) : Prop := Ev (fun H v => LkAt K H v L) te σ H
section
variable {K : PySem.W.Frag} {σ : L2.St} {H : Hp} {ta tb tc : TE} {L M : Lk} {x : Str} {i j : Int} {v : V}
theorem ev_const : EvV v (tC v) σ H := fun H1 _ Q k => k v H1 (Same.refl _) rfl
theorem ev_slot {n : Nat} (h : σ[n]? = some (some v)) : EvV v (tVar n) σ H := fun H1 _ Q k => ⟨v, h, k v H1 (Same.refl _) rfl⟩
theorem ev_lkslot {n : Nat} (h : σ[n]? = some (some v)) (r : LkAt K H v L) : EvLk K L (tVar n) σ H := fun H1 s Q k => ⟨v, h, k v H1 (Same.refl _) (r.same s)⟩
theorem ev_num (h : EvV (.int i) ta σ H) : EvLk K (.num i) ta σ H := fun H1 s Q k => h H1 s Q fun u H2 s2 e => k u H2 s2 (by subst e; exact .num i)
theorem ev_op {r : R2} {u v z : V} (h1 : EvV u ta σ H) (h2 : EvV v tb σ H) (hr : ∀ (H : Hp) (Q : VK), Q z H → r u v H Q) : EvV z (tOp r ta tb) σ H := fun H1 s Q k =>
  h1 H1 s _ fun u' H2 s2 e => h2 H2 (s.trans s2) _ fun v' H3 s3 e' => by
    subst e e'
    exact hr H3 Q (k _ _ (s2.trans s3) rfl)
theorem ev_un {r : V → Hp → VK → Prop} {u z : V} (h1 : EvV u ta σ H) (hr : ∀ (H : Hp) (Q : VK), Q z H → r u H Q) : EvV z (tUn r ta) σ H := fun H1 s Q k =>
  h1 H1 s _ fun u' H2 s2 e => by
    subst e
    exact hr H2 Q (k _ _ s2 rfl)
theorem ev_add (h1 : EvV (.int i) ta σ H) (h2 : EvV (.int j) tb σ H) : EvV (.int (i + j)) (tOp (rI0 fun i j => .int (i + j)) ta tb) σ H := ev_op h1 h2 fun _ _ q => ⟨_, _, rfl, rfl, q⟩
theorem ev_sub (h1 : EvV (.int i) ta σ H) (h2 : EvV (.int j) tb σ H) : EvV (.int (i - j)) (tOp (rI0 fun i j => .int (i - j)) ta tb) σ H := ev_op h1 h2 fun _ _ q => ⟨_, _, rfl, rfl, q⟩
theorem ev_neg (h1 : EvV (.int i) ta σ H) : EvV (.int (-i)) (tUn (rU fun i => .int (-i)) ta) σ H := ev_un h1 fun _ _ q => ⟨_, rfl, q⟩
theorem ev_fdiv (hj : j ≠ 0 ∧ j.natAbs < 1073741824) (h1 : EvV (.int i) ta σ H) (h2 : EvV (.int j) tb σ H) : EvV (.int (i.fdiv j)) (tOp (rI CDivN fun i j => .int (i.fdiv j)) ta tb) σ H := ev_op h1 h2 fun _ _ q => ⟨_, _, rfl, rfl, hj, q⟩
theorem ev_fmod (hj : j ≠ 0) (h1 : EvV (.int i) ta σ H) (h2 : EvV (.int j) tb σ H) : EvV (.int (i.fmod j)) (tOp (rI (fun _ j => j ≠ 0) fun i j => .int (i.fmod j)) ta tb) σ H := ev_op h1 h2 fun _ _ q => ⟨_, _, rfl, rfl, hj, q⟩
/-- an item of a list in a slot -/
theorem ev_at {n : Nat} {a : Addr} {xs : List V} (h : σ[n]? = some (some (.ref a))) (hs : SqL K H a xs) (hb : EvV (.int i) tb σ H) (e : atI xs i = some v) : EvV v (tOp (rIxL K) (tVar n) tb) σ H := fun H1 s Q k =>
  ⟨_, h, hb H1 s _ fun u H2 s2 eu => by
    subst eu
    exact ⟨a, xs, i, v, rfl, rfl, (s.trans s2).seq hs, e, k _ _ s2 rfl⟩⟩
abbrev tT1 (z : Str) : TE := tTup (tCons (tC (.str z)) tNil)
abbrev tT2 (z : Str) (ta : TE) : TE := tTup (tCons (tC (.str z)) (tCons ta tNil))
abbrev tT3 (z : Str) (ta tb : TE) : TE := tTup (tCons (tC (.str z)) (tCons ta (tCons tb tNil)))
theorem ev_t1 {z : Str} : Ev (fun H v => ∃ a, v = .ref a ∧ Sq K H a [.str z]) (tT1 z) σ H := fun H1 s Q k => ⟨by show 1 ≤ sizeLine; decide, fun p np => k _ _ (same_upd np) ⟨p, rfl, .tup upd_same⟩⟩
theorem ev_t2 {z : Str} {R : Hp → V → Prop} (mono : ∀ H H' v, Same H H' → R H v → R H' v) (h1 : Ev R ta σ H) : Ev (fun H v => ∃ a u, v = .ref a ∧ Sq K H a [.str z, u] ∧ R H u) (tT2 z ta) σ H := fun H1 s Q k =>
  h1 H1 s _ fun u H2 s2 r => ⟨by show 2 ≤ sizeLine; decide, fun p np => k _ _ (s2.trans (same_upd np)) ⟨p, u, rfl, .tup upd_same, mono _ _ _ (same_upd np) r⟩⟩
theorem ev_t3 {z : Str} {R S : Hp → V → Prop} (m1 : ∀ H H' v, Same H H' → R H v → R H' v) (m2 : ∀ H H' v, Same H H' → S H v → S H' v) (h1 : Ev R ta σ H) (h2 : Ev S tb σ H) :
    Ev (fun H v => ∃ a u u', v = .ref a ∧ Sq K H a [.str z, u, u'] ∧ R H u ∧ S H u') (tT3 z ta tb) σ H := fun H1 s Q k =>
  h1 H1 s _ fun u H2 s2 r => h2 H2 (s.trans s2) _ fun u' H3 s3 r' => ⟨by show 3 ≤ sizeLine; decide, fun p np => k _ _ (s2.trans (s3.trans (same_upd np))) ⟨p, u, u', rfl, .tup upd_same, m1 _ _ _ (s3.trans (same_upd np)) r, m2 _ _ _ (same_upd np) r'⟩⟩
theorem Ev.imp {R S : Hp → V → Prop} (h : Ev R ta σ H) (f : ∀ H v, R H v → S H v) : Ev S ta σ H := fun H1 s Q k => h H1 s Q fun v H2 s2 r => k v H2 s2 (f _ _ r)
theorem ev_bin (o : BOp) (h1 : EvLk K L ta σ H) (h2 : EvLk K M tb σ H) : EvLk K (.bin o L M) (tT3 o.word ta tb) σ H :=
  (ev_t3 (K := K) (fun _ _ _ s r => r.same s) (fun _ _ _ s r => r.same s) h1 h2).imp fun H v ⟨a, u, u', e, q, r, r'⟩ => by subst e; exact .bin q r r'
theorem ev_plus (h1 : EvLk K L ta σ H) (h2 : EvLk K M tb σ H) : EvLk K (.bin .plus L M) (tT3 "plus" ta tb) σ H := ev_bin .plus h1 h2
theorem ev_minus (h1 : EvLk K L ta σ H) (h2 : EvLk K M tb σ H) : EvLk K (.bin .minus L M) (tT3 "minus" ta tb) σ H := ev_bin .minus h1 h2
theorem ev_by (h1 : EvLk K L ta σ H) (h2 : EvLk K M tb σ H) : EvLk K (.bin .by_ L M) (tT3 "by" ta tb) σ H := ev_bin .by_ h1 h2
theorem ev_over (h1 : EvLk K L ta σ H) (h2 : EvLk K M tb σ H) : EvLk K (.bin .over L M) (tT3 "over" ta tb) σ H := ev_bin .over h1 h2
theorem ev_rest (h1 : EvLk K L ta σ H) (h2 : EvLk K M tb σ H) : EvLk K (.bin .rest L M) (tT3 "rest" ta tb) σ H := ev_bin .rest h1 h2
theorem ev_name (h1 : EvV (.str x) ta σ H) : EvLk K (.name x) (tT2 "name" ta) σ H := (ev_t2 (K := K) (fun _ _ _ _ r => r) h1).imp fun H v ⟨a, u, e, q, r⟩ => by subst e r; exact .name q
theorem ev_many (h1 : EvV (.str x) ta σ H) : EvLk K (.many x) (tT2 "many" ta) σ H := (ev_t2 (K := K) (fun _ _ _ _ r => r) h1).imp fun H v ⟨a, u, e, q, r⟩ => by subst e r; exact .many q
theorem ev_item (h1 : EvV (.str x) ta σ H) (h2 : EvLk K L tb σ H) : EvLk K (.item x L) (tT3 "item" ta tb) σ H :=
  (ev_t3 (K := K) (fun _ _ _ _ r => r) (fun _ _ _ s r => r.same s) h1 h2).imp fun H v ⟨a, u, u', e, q, r, r'⟩ => by subst e r; exact .item q r'
theorem ev_x : EvLk K (.spot 0) (tT1 "x") σ H := (ev_t1 (K := K)).imp fun H v ⟨a, e, q⟩ => by subst e; exact .spot (k := 0) rfl q
theorem ev_y : EvLk K (.spot 1) (tT1 "y") σ H := (ev_t1 (K := K)).imp fun H v ⟨a, e, q⟩ => by subst e; exact .spot (k := 1) rfl q
theorem ev_way : EvLk K (.spot 2) (tT1 "way") σ H := (ev_t1 (K := K)).imp fun H v ⟨a, e, q⟩ => by subst e; exact .spot (k := 2) rfl q
theorem ev_number : EvLk K (.spot 3) (tT1 "number") σ H := (ev_t1 (K := K)).imp fun H v ⟨a, e, q⟩ => by subst e; exact .spot (k := 3) rfl q
end
/-! ### pairs of a look and what is due -/
def DuV : Except Str Int → V
  | .ok i => .int i
  | .error z => .str z
def PrAt (K : PySem.W.Frag) (H : Hp) (v : V) (p : Lk × Except Str Int) : Prop := ∃ a u, v = .ref a ∧ H a = some (.tup [u, DuV p.2]) ∧ LkAt K H u p.1
theorem PrAt.same {K : PySem.W.Frag} {H H' : Hp} {v : V} {p : Lk × Except Str Int} (s : Same H H') (h : PrAt K H v p) : PrAt K H' v p := by
  obtain ⟨a, u, e, q, r⟩ := h
  exact ⟨a, u, e, s _ _ q, r.same s⟩
abbrev PrsAt (K : PySem.W.Frag) (H : Hp) : List V → List (Lk × Except Str Int) → Prop := Paired (PrAt K H)
def EvL (K : PySem.W.Frag) (ps : List (Lk × Except Str Int)) (ta : TA) (σ : L2.St) (H : Hp) : Prop := ∀ H1, Same H H1 → ∀ Q : List V → Hp → Prop, (∀ vs H2, Same H1 H2 → PrsAt K H2 vs ps → Q vs H2) → ta σ H1 Q
section
variable {K : PySem.W.Frag} {σ : L2.St} {H : Hp} {ta tb : TE} {tr : TA} {L : Lk} {i : Int} {z : Str} {ps qs : List (Lk × Except Str Int)}
theorem evl_nil : EvL K [] tNil σ H := fun H1 _ Q k => k [] H1 (Same.refl _) .nil
theorem evl_cons {r : Except Str Int} (h1 : EvLk K L ta σ H) (h2 : EvV (DuV r) tb σ H) (t : EvL K ps tr σ H) : EvL K ((L, r) :: ps) (tCons (tTup (tCons ta (tCons tb tNil))) tr) σ H := fun H1 s Q k =>
  h1 H1 s _ fun u H2 s2 r1 => h2 H2 (s.trans s2) _ fun u' H3 s3 e => ⟨by show 2 ≤ sizeLine; decide, fun p np => t _ ((s.trans s2).trans (s3.trans (same_upd np))) _ fun vs H4 s4 r4 => by
    subst e
    exact k _ _ (s2.trans (s3.trans ((same_upd np).trans s4))) (.cons ⟨p, u, rfl, s4 _ _ upd_same, r1.same (s3.trans ((same_upd np).trans s4))⟩ r4)⟩
theorem evl_int (h1 : EvLk K L ta σ H) (h2 : EvV (.int i) tb σ H) (t : EvL K ps tr σ H) : EvL K ((L, .ok i) :: ps) (tCons (tTup (tCons ta (tCons tb tNil))) tr) σ H := evl_cons h1 h2 t
theorem evl_str (h1 : EvLk K L ta σ H) (t : EvL K ps tr σ H) : EvL K ((L, .error z) :: ps) (tCons (tTup (tCons ta (tCons (tC (.str z)) tNil))) tr) σ H := evl_cons h1 ev_const t
def SomeAt (K : PySem.W.Frag) (H : Hp) (a : Addr) (ps : List (Lk × Except Str Int)) : Prop := ∃ vs, H a = some (.lst vs) ∧ PrsAt K H vs ps
theorem prsAt_same {H' : Hp} {vs : List V} (s : Same H H') (h : PrsAt K H vs ps) : PrsAt K H' vs ps := Paired.mapP h fun _ _ r => r.same s
theorem prsAt_len {vs : List V} (h : PrsAt K H vs ps) : vs.length = ps.length := Paired.length h
theorem prsAt_app : ∀ {vs us : List V} {ps qs : List (Lk × Except Str Int)}, PrsAt K H vs ps → PrsAt K H us qs → PrsAt K H (vs ++ us) (ps ++ qs)
  | _, _, _, _, .nil, h => h
  | _, _, _, _, .cons r t, h => .cons r (prsAt_app t h)
theorem s_first {n : Nat} {D : Ends} {Hb : Hp} (sb : Same Hb H) (h : EvL K ps tr σ Hb) (hl : ps.length ≤ 100) (k : ∀ a H2, Same H H2 → SomeAt K H2 a ps → D.nx (σ.set n (some (.ref a))) H2) : tAsg (tLst tr) (gName n) D σ H :=
  h H sb _ fun vs H2 s2 r => ⟨by rw [prsAt_len r]; exact Nat.le_of_lt (small1000 (by omega)), fun p np => k p _ (s2.trans (same_upd np)) ⟨vs, upd_same, prsAt_same (same_upd np) r⟩⟩
theorem s_more {n : Nat} {D : Ends} {Hb : Hp} {a : Addr} (sb : Same Hb H) (hs : σ[n]? = some (some (.ref a))) (hq : SomeAt K H a qs) (h : EvL K ps tr σ Hb) (hl : qs.length + ps.length ≤ 100)
    (k : ∀ a H2, Same H H2 → SomeAt K H2 a (qs ++ ps) → D.nx (σ.set n (some (.ref a))) H2) : tAsg (tOp rCat (tVar n) (tLst tr)) (gName n) D σ H := by
  obtain ⟨us, hu, ru⟩ := hq
  refine ⟨_, hs, h H sb _ fun vs H2 s2 r => ⟨by rw [prsAt_len r]; exact Nat.le_of_lt (small1000 (by omega)), fun p np => ⟨a, p, us, vs, rfl, rfl, (s2.trans (same_upd np)) _ _ hu, upd_same, ?_, fun p2 np2 => ?_⟩⟩⟩
  · rw [prsAt_len r, prsAt_len ru]
    exact Nat.le_of_lt (small1000 (by omega))
  · have s3 := same_upd (o := .lst vs) np
    have s4 := same_upd (o := .lst (us ++ vs)) np2
    exact k p2 _ (s2.trans (s3.trans s4)) ⟨us ++ vs, upd_same, prsAt_app (prsAt_same (s2.trans (s3.trans s4)) ru) (prsAt_same (s3.trans s4) r)⟩
end
end Fd

set_option Elab.async false
set_option linter.all false
set_option maxRecDepth 100000
set_option maxHeartbeats 4000000
namespace Fd
open PySem PySem.Spec PyProof.Rows L2
/-! ### the reckoning -/
def Good (Y : Ey) (p : Lk × Except Str Int) : Prop := val Y p.1 = p.2 ∧ p.1.deep ≤ 6
def SomeG (K : PySem.W.Frag) (Y : Ey) (H : Hp) (a : Addr) (m : Nat) : Prop := ∃ ps, SomeAt K H a ps ∧ ps.length ≤ m ∧ ∀ p ∈ ps, Good Y p
theorem g_first {K : PySem.W.Frag} {σ : L2.St} {H Hb : Hp} {tr : TA} {ps : List (Lk × Except Str Int)} {Y : Ey} {n : Nat} {D : Ends} (sb : Same Hb H) (h : EvL K ps tr σ Hb) (hl : ps.length ≤ 8) (g : ∀ p ∈ ps, Good Y p)
    (k : ∀ a H2, Same H H2 → SomeG K Y H2 a 8 → D.nx (σ.set n (some (.ref a))) H2) : tAsg (tLst tr) (gName n) D σ H := s_first sb h (by omega) fun a H2 s2 r => k a H2 s2 ⟨ps, r, hl, g⟩
theorem g_more {K : PySem.W.Frag} {σ : L2.St} {H Hb : Hp} {tr : TA} {ps : List (Lk × Except Str Int)} {Y : Ey} {n m : Nat} {D : Ends} {a : Addr} (sb : Same Hb H) (hs : σ[n]? = some (some (.ref a))) (hq : SomeG K Y H a m) (hm : m ≤ 80)
    (h : EvL K ps tr σ Hb) (hl : ps.length ≤ 6) (g : ∀ p ∈ ps, Good Y p) (k : ∀ a H2, Same H H2 → SomeG K Y H2 a (m + 6) → D.nx (σ.set n (some (.ref a))) H2) : tAsg (tOp rCat (tVar n) (tLst tr)) (gName n) D σ H := by
  obtain ⟨qs, q1, q2, q3⟩ := hq
  refine s_more sb hs q1 h (by omega) fun a H2 s2 r => k a H2 s2 ⟨qs ++ ps, r, by rw [List.length_append]; omega, fun p hp => ?_⟩
  rcases List.mem_append.mp hp with z | z
  · exact q3 p z
  · exact g p z
theorem g_firstS {K : PySem.W.Frag} {σ : L2.St} {H Hb : Hp} {tr : TA} {ps : List (Lk × Except Str Int)} {Y : Ey} {n : Nat} {D : Ends} {rest : TS} (sb : Same Hb H) (h : EvL K ps tr σ Hb) (hl : ps.length ≤ 8) (g : ∀ p ∈ ps, Good Y p)
    (k : ∀ a H2, Same H H2 → SomeG K Y H2 a 8 → rest D (σ.set n (some (.ref a))) H2) : tSeq (tAsg (tLst tr) (gName n)) rest D σ H := g_first sb h hl g k
theorem g_moreS {K : PySem.W.Frag} {σ : L2.St} {H Hb : Hp} {tr : TA} {ps : List (Lk × Except Str Int)} {Y : Ey} {n m : Nat} {D : Ends} {rest : TS} {a : Addr} (sb : Same Hb H) (hs : n < σ.length) (hq : SomeG K Y H a m) (hm : m ≤ 80)
    (h : EvL K ps tr (σ.set n (some (.ref a))) Hb) (hl : ps.length ≤ 6) (g : ∀ p ∈ ps, Good Y p) (k : ∀ a H2, Same H H2 → SomeG K Y H2 a (m + 6) → rest D (σ.set n (some (.ref a))) H2) :
    tSeq (tAsg (tOp rCat (tVar n) (tLst tr)) (gName n)) rest D (σ.set n (some (.ref a))) H :=
  g_more sb (List.getElem?_set_self hs) hq hm h hl g fun a2 H2 s2 r => by
    show rest D ((σ.set n (some (.ref a))).set n (some (.ref a2))) H2
    rw [List.set_set]
    exact k a2 H2 s2 r
theorem slotF {σ : L2.St} {n m : Nat} {x : Option V} {v : Option V} (h : σ[m]? = some v) (hn : n ≠ m) : (σ.set n x)[m]? = some v := (List.getElem?_set_ne hn).trans h
theorem inB_of {i : Int} (h1 : -1000000 ≤ i) (h2 : i ≤ 1000000) : inB i = true := by
  unfold inB
  rw [decide_eq_true h1, decide_eq_true h2]
  rfl
theorem inB_not {i : Int} (h : i < -1000000 ∨ 1000000 < i) : inB i = false := by
  unfold inB
  rcases h with h | h
  · rw [decide_eq_false (by omega : ¬ -1000000 ≤ i)]; rfl
  · rw [decide_eq_false (by omega : ¬ i ≤ 1000000), Bool.and_false]
theorem far_ok {i : Int} (h1 : -1000000 ≤ i) (h2 : i ≤ 1000000) : far (.ok i) = .ok i := if_pos (inB_of h1 h2)
theorem far_no {i : Int} (h : i < -1000000 ∨ 1000000 < i) : far (.ok i) = .error "far" := if_neg (by rw [inB_not h]; exact Bool.false_ne_true)
section
variable {Y : Ey} {a b : Lk} {o : BOp} {i j k : Int} {z x : Str} {l : List Int}
theorem v_num (h1 : -1000000 ≤ i) (h2 : i ≤ 1000000) : val Y (.num i) = .ok i := far_ok h1 h2
theorem v_name (h : Y.names.lookup x = some i) (h1 : -1000000 ≤ i) (h2 : i ≤ 1000000) : val Y (.name x) = .ok i := by
  show far (some_of (Y.names.lookup x) .ok) = _
  rw [h]
  exact far_ok h1 h2
theorem v_gone (h : Y.names.lookup x = none) : val Y (.name x) = .error "none" := by
  show far (some_of (Y.names.lookup x) .ok) = _
  rw [h]
  rfl
theorem v_bin (ha : val Y a = .ok i) (hb : val Y b = .ok j) (hr : o.run i j = .ok k) (h1 : -1000000 ≤ k) (h2 : k ≤ 1000000) : val Y (.bin o a b) = .ok k := by
  show far (then_ (val Y a) fun i => then_ (val Y b) fun j => o.run i j) = _
  rw [ha, hb]
  show far (o.run i j) = _
  rw [hr]
  exact far_ok h1 h2
theorem v_binFar (ha : val Y a = .ok i) (hb : val Y b = .ok j) (hr : o.run i j = .ok k) (h : k < -1000000 ∨ 1000000 < k) : val Y (.bin o a b) = .error "far" := by
  show far (then_ (val Y a) fun i => then_ (val Y b) fun j => o.run i j) = _
  rw [ha, hb]
  show far (o.run i j) = _
  rw [hr]
  exact far_no h
theorem v_bin0 (ha : val Y a = .ok i) (hb : val Y b = .ok j) (hr : o.run i j = .error z) : val Y (.bin o a b) = .error z := by
  show far (then_ (val Y a) fun i => then_ (val Y b) fun j => o.run i j) = _
  rw [ha, hb]
  show far (o.run i j) = _
  rw [hr]
  rfl
theorem v_bin1 (ha : val Y a = .error z) : val Y (.bin o a b) = .error z := by
  show far (then_ (val Y a) fun i => then_ (val Y b) fun j => o.run i j) = _
  rw [ha]
  rfl
theorem v_bin2 (ha : val Y a = .ok i) (hb : val Y b = .error z) : val Y (.bin o a b) = .error z := by
  show far (then_ (val Y a) fun i => then_ (val Y b) fun j => o.run i j) = _
  rw [ha, hb]
  rfl
theorem v_item (h : Y.lists.lookup x = some l) (ha : val Y a = .ok i) (h0 : 0 ≤ i) (h1 : i < l.length) (hk : l.getD i.toNat 0 = k) (h2 : -1000000 ≤ k) (h3 : k ≤ 1000000) : val Y (.item x a) = .ok k := by
  show far (some_of (Y.lists.lookup x) fun l => then_ (val Y a) (itemOf l)) = _
  rw [h, ha]
  show far (itemOf l i) = _
  rw [show itemOf l i = .ok (l.getD i.toNat 0) from if_pos ⟨h0, h1⟩, hk]
  exact far_ok h2 h3
theorem v_itemNo (h : Y.lists.lookup x = some l) (ha : val Y a = .ok i) (h1 : ¬ (0 ≤ i ∧ i < l.length)) : val Y (.item x a) = .error "none" := by
  show far (some_of (Y.lists.lookup x) fun l => then_ (val Y a) (itemOf l)) = _
  rw [h, ha]
  show far (itemOf l i) = _
  rw [show itemOf l i = .error "none" from if_neg h1]
  rfl
theorem v_itemErr (h : Y.lists.lookup x = some l) (ha : val Y a = .error z) : val Y (.item x a) = .error z := by
  show far (some_of (Y.lists.lookup x) fun l => then_ (val Y a) (itemOf l)) = _
  rw [h, ha]
  rfl
theorem v_itemGone (h : Y.lists.lookup x = none) : val Y (.item x a) = .error "none" := by
  show far (some_of (Y.lists.lookup x) fun l => then_ (val Y a) (itemOf l)) = _
  rw [h]
  rfl
theorem v_many (h : Y.lists.lookup x = some l) (h1 : l.length ≤ 1000000) : val Y (.many x) = .ok l.length := by
  show far (some_of (Y.lists.lookup x) fun l => .ok l.length) = _
  rw [h]
  exact far_ok (by omega) (by omega)
theorem v_manyGone (h : Y.lists.lookup x = none) : val Y (.many x) = .error "none" := by
  show far (some_of (Y.lists.lookup x) fun l => .ok l.length) = _
  rw [h]
  rfl
end
theorem look_yes {β : Type} (x : Str) (v : β) (r : List (Str × β)) : ((x, v) :: r).lookup x = some v := by rw [List.lookup_cons, beq_self_eq_true]
theorem look_no1 {β : Type} {x y : Str} {v : β} (h : x ≠ y) : [(y, v)].lookup x = none := by
  rw [List.lookup_cons, beq_eq_false_iff_ne.mpr h]
  rfl
theorem look_no2 {β : Type} {x y z : Str} {v u : β} (h : x ≠ y) (h' : x ≠ z) : [(y, v), (z, u)].lookup x = none := by
  rw [List.lookup_cons, beq_eq_false_iff_ne.mpr h]
  exact look_no1 h'
theorem good_nil {Y : Ey} : ∀ p ∈ ([] : List (Lk × Except Str Int)), Good Y p := fun p h => by cases h
theorem good_cons {Y : Ey} {p : Lk × Except Str Int} {ps : List (Lk × Except Str Int)} (h : Good Y p) (t : ∀ q ∈ ps, Good Y q) : ∀ q ∈ p :: ps, Good Y q := fun q hq => by
  rcases List.mem_cons.mp hq with z | z
  · rw [z]; exact h
  · exact t q z
theorem gd {Y : Ey} {L : Lk} {r : Except Str Int} (e : val Y L = r) (d : Nat.ble L.deep 6 = true := by rfl) : Good Y (L, r) := ⟨e, Nat.le_of_ble_eq_true d⟩
theorem rr {x y : Int} (h : x = y) : (Except.ok x : Except Str Int) = .ok y := congrArg _ h
theorem fdiv_2 (x : Int) : x.fdiv 2 = x / 2 := Int.fdiv_eq_ediv_of_nonneg x (by decide)
theorem fdiv_m7 (x : Int) : x.fdiv (-7) = (-x) / 7 := by
  have h := Int.neg_fdiv_neg (-x) 7
  rw [Int.neg_neg] at h
  rw [h]
  exact Int.fdiv_eq_ediv_of_nonneg _ (by decide)
theorem fmod_7 (x : Int) : x.fmod 7 = x % 7 := Int.fmod_eq_emod_of_nonneg x (by decide)
theorem fmod_m7 (x : Int) : x.fmod (-7) = x + 7 * ((-x) / 7) := by
  rw [Int.fmod_def, fdiv_m7]
  omega
theorem okd2 {d e : PyData} {n : Nat} (h : OkD (n + 1) d) (h' : OkD (n + 1) e) : OkD (n + 2) (.tuple [d, e]) := ⟨Nat.le_of_ble_eq_true rfl, fun x hx => by
  rcases List.mem_cons.mp hx with z | z
  · rw [z]; exact h
  · rw [List.mem_singleton.mp z]; exact h'⟩
theorem paired_at {α β : Type} {R : α → β → Prop} : ∀ {xs : List α} {ys : List β} {i : Nat} {x : α}, Paired R xs ys → xs[i]? = some x → ∃ y, ys[i]? = some y ∧ R x y
  | _, _, i, x, .nil, e => by simp at e
  | _, _, 0, x, .cons r t, e => by cases (Option.some.inj e); exact ⟨_, rfl, r⟩
  | _, _, i + 1, x, .cons r t, e => paired_at (i := i) t e
theorem new_at {H : Hp} {p : Addr} {o : HO} (h : H p = none) : ∃ G, upd H p o = G ∧ Same H G ∧ G p = some o := ⟨_, rfl, same_upd h, upd_same⟩
theorem par3_ev {i j l : Nat} {D : Ends} {σ : L2.St} {H Hb : Hp} {ta tb tc : TE} {R S T : Hp → V → Prop} (sb : Same Hb H) (h1 : Ev R ta σ Hb) (h2 : Ev S tb σ Hb) (h3 : Ev T tc σ Hb)
    (k : ∀ u v w H1 H2 H3, Same H H1 → Same H1 H2 → Same H2 H3 → R H1 u → S H2 v → T H3 w → D.nx (((σ.set i (some u)).set j (some v)).set l (some w)) H3) : tPar3 i j l (tCons ta (tCons tb (tCons tc tNil))) D σ H :=
  h1 H sb _ fun u H1 s1 r1 => h2 H1 (sb.trans s1) _ fun v H2 s2 r2 => h3 H2 ((sb.trans s1).trans s2) _ fun w H3 s3 r3 => ⟨_, _, _, rfl, k u v w H1 H2 H3 s1 s2 s3 r1 r2 r3⟩
theorem par_ev {i j : Nat} {D : Ends} {σ : L2.St} {H Hb : Hp} {ta tb : TE} {R S : Hp → V → Prop} (sb : Same Hb H) (h1 : Ev R ta σ Hb) (h2 : Ev S tb σ Hb)
    (k : ∀ u v H1 H2, Same H H1 → Same H1 H2 → R H1 u → S H2 v → D.nx ((σ.set i (some u)).set j (some v)) H2) : tPar i j (tCons ta (tCons tb tNil)) D σ H :=
  h1 H sb _ fun u H1 s1 r1 => h2 H1 (sb.trans s1) _ fun v H2 s2 r2 => ⟨_, _, rfl, k u v H1 H2 s1 s2 r1 r2⟩
theorem ev_len {K : PySem.W.Frag} {σ : L2.St} {H : Hp} {n : Nat} {a : Addr} {xs : List V} (h : σ[n]? = some (some (.ref a))) (hs : SqL K H a xs) :
    EvV (.int xs.length) (tCB (fun ys H Q => ∃ p zs, ys = [V.ref p] ∧ (SqL K H p zs ∨ SqT K H p zs) ∧ Q (.int zs.length) H) (tCons (tVar n) tNil)) σ H := fun H1 s Q k =>
  ⟨_, h, a, xs, rfl, .inl (s.seq hs), k _ _ (Same.refl _) rfl⟩
theorem at_m1 {l : List Int} (h : 0 < l.length) : atI (l.map V.int) (-1) = some (.int (l.getD (l.length - 1) 0)) := by
  unfold atI ixN
  rw [if_neg (by decide), if_pos (by rw [List.length_map]; omega), Option.bind_some, List.length_map, show ((-1 : Int) + (l.length : Int)).toNat = l.length - 1 by omega, List.getElem?_map, List.getD_eq_getElem?_getD, List.getElem?_eq_getElem (by omega)]
  rfl
theorem at_0 {l : List Int} (h : 0 < l.length) : atI (l.map V.int) 0 = some (.int (l.getD 0 0)) :=
  atI_nat (j := 0) (by rw [List.getElem?_map, List.getD_eq_getElem?_getD, List.getElem?_eq_getElem h]; rfl)
section
variable {P : Program} {w : World} {K : PySem.W.Frag} {mg : Str → Option Value} {base : Heap} {f C fI fv fh : Addr} {fd : FuncData}
abbrev sRight : Stmt := top 27
theorem scRight : FnScope ["_law_box", "_law_words", "_law_far", "_law_low", "_law_values", "_law_eyes", "_law_own", "_law_gone", "_law_nought", "_law_beyond", "_law_size", "_law_some", "_law_look", "_law_due", "_law_turn"] ["_law_box"] (defScope sRight) := ⟨rfl, rfl, rfl, by decide +kernel, rfl, by decide +kernel, by decide +kernel⟩
def spRight : Sp := fun vs H Q _ => ∃ (a : Addr), vs = [.ref a] ∧ Box H a 0 ∧ ∀ H', But a H H' → Q (.bl true) H'
def tyE (K : PySem.W.Frag) (ws : List Str) (low : Int) (vals : List Int) : Ey := ⟨[(ws.getD 0 "", low), (ws.getD 0 "", 0)], [(ws.getD 1 "", vals)], [3, 4, 1, 2], [ws.getD 2 ""]⟩
def spTests (K : PySem.W.Frag) : Sp := fun vs H Q _ => ∃ (a e : Addr) (ws : List Str) (low : Int) (vals : List Int), vs = [.ref a, .ref e, .int low] ∧ H a = some (.lst (ws.map V.str)) ∧ ws.length = 4 ∧ ws.Nodup ∧ 1 ≤ low ∧ low ≤ 900 ∧
  Eyes K H e (tyE K ws low vals) ∧ ∀ H', Same H H' → Q (.bl true) H'
theorem ok_right {k : Nat} (F : Fun K "_law_right" "_law_right" sRight f fd) (GT : FnG P w K mg base CX0 k "_law_take" ["_law_box", "_law_many"] spTake) (GN : FnG P w K mg base CX0 k "_law_names" ["_law_box", "_law_many"] spNames)
    (GA : FnG P w K mg base CX0 k "_law_a_value" ["_law_box"] spAValue) (GS : FnG P w K mg base CX0 k "_law_same" ["_law_found", "_law_due"] (spSame K 5)) (GO : FnG P w K mg base CX0 k "_law_told_of" ["_law_asked", "_law_thing", "_law_eyes"] (spTold P w K mg base C 16))
    (GR : FnG P w K mg base CX0 k "_law_tests_right" ["_law_words", "_law_eyes", "_law_low"] (spTests K))
    (m_value_of : mg "value_of" = some (.ref fv)) (HV : HeldX P w K mg base 16 fv (spVal K C 6)) (m_len : mg "len" = none) (m_range : mg "range" = none) (m_isinstance : mg "isinstance" = none) (m_str : mg "str" = none) :
    FnOk P w K mg base CX0 (k + 1) f fd ["_law_box"] spRight := by
  obtain ⟨_, _, G__law_take, m__law_take, k__law_take, b__law_take⟩ := GT
  obtain ⟨_, _, G__law_names, m__law_names, k__law_names, b__law_names⟩ := GN
  obtain ⟨_, _, G__law_a_value, m__law_a_value, k__law_a_value, b__law_a_value⟩ := GA
  obtain ⟨_, _, G__law_same, m__law_same, k__law_same, b__law_same⟩ := GS
  obtain ⟨_, _, G__law_told_of, m__law_told_of, k__law_told_of, b__law_told_of⟩ := GO
  obtain ⟨_, _, G__law_tests_right, m__law_tests_right, k__law_tests_right, b__law_tests_right⟩ := GR
  have sc := scRight
  refine F.ok sc (fun vs H Q E h => ?_) (fun cdv A outer s H vs Q E hr h => ?_)
  · obtain ⟨a, rfl, _⟩ := h
    rfl
  obtain ⟨a, rfl, hB, q⟩ := h
  refine ⟨_, (pss_cons (ps_par3 (i := 1) (j := 2) (l := 3) (by rfl) sc.nd rfl rfl rfl (by decide) (by decide) (by decide) rfl rfl rfl (pa_cons (pe_call G__law_names (hr.mono (by omega)) (by rfl) m__law_names k__law_names b__law_names .nil pass0 (pa_cons (pv 0) (pa_cons pe_int pa_nil))) (pa_cons (pe_op op_pow pe_int pe_int) (pa_cons (pe_op op_add pe_int (pe_call G__law_take (hr.mono (by omega)) (by rfl) m__law_take k__law_take b__law_take .nil pass0 (pa_cons (pv 0) (pa_cons pe_int pa_nil)))) pa_nil))) (by rfl))
      (pss_cons (ps_setLc (i := 4) (own := [("_law_turn", 14)]) (by rfl) sc.nd rfl rfl (sw_true rfl rfl rfl (by decide +kernel)) (pi_range1 (by rfl) m_range (pa_cons (pe_op op_add pe_int (pe_call G__law_take (hr.mono (by omega)) (by rfl) m__law_take k__law_take b__law_take .nil pass0 (pa_cons (pv 0) (pa_cons pe_int pa_nil)))) pa_nil)) (blkOk_by (own := [("_law_turn", 14)]) (N := ["_law_box", "_law_words", "_law_far", "_law_low", "_law_values", "_law_eyes", "_law_own", "_law_gone", "_law_nought", "_law_beyond", "_law_size", "_law_some", "_law_look", "_law_due", "_law_turn"]) (sc := defScope sRight) (by decide +kernel)) (fun _ _ _ _ _ => (pg_name (i := 14) sc.nd rfl (.inl rfl))) (fun _ _ _ _ _ => pts_nil) (fun _ _ _ _ _ => (pe_call G__law_a_value (hr.mono (by omega)) (by rfl) m__law_a_value k__law_a_value b__law_a_value .nil pass0 (pa_cons (pv 0) pa_nil))))
      (pss_cons (ps_set (i := 5) sc.nd rfl (.inl rfl) (pe_tup (pa_cons (pe_lst (pa_cons (pe_tup (pa_cons (pe_ix ix_list (pv 1) pe_int (fun _ _ => rfl)) (pa_cons (pv 3) pa_nil))) (pa_cons (pe_tup (pa_cons (pe_ix ix_list (pv 1) pe_int (fun _ _ => rfl)) (pa_cons pe_int pa_nil))) pa_nil))) (pa_cons (pe_lst (pa_cons (pe_tup (pa_cons (pe_ix ix_list (pv 1) pe_int (fun _ _ => rfl)) (pa_cons (pv 4) pa_nil))) pa_nil)) (pa_cons (pe_tup (pa_cons pe_int (pa_cons pe_int (pa_cons pe_int (pa_cons pe_int pa_nil))))) (pa_cons (pe_lst (pa_cons (pe_ix ix_list (pv 1) pe_int (fun _ _ => rfl)) pa_nil)) pa_nil))))))
      (pss_cons (ps_par3 (i := 6) (j := 7) (l := 8) (by rfl) sc.nd rfl rfl rfl (by decide) (by decide) (by decide) rfl rfl rfl (pa_cons (pe_tup (pa_cons pe_str (pa_cons (pe_ix ix_list (pv 1) pe_int (fun _ _ => rfl)) pa_nil))) (pa_cons (pe_tup (pa_cons pe_str (pa_cons (pe_ix ix_list (pv 1) pe_int (fun _ _ => rfl)) pa_nil))) (pa_cons (pe_tup (pa_cons pe_str (pa_cons pe_int (pa_cons pe_int pa_nil)))) pa_nil))) (by rfl))
      (pss_cons (ps_par (i := 9) (j := 10) (by rfl) sc.nd rfl rfl (by decide) rfl rfl (pa_cons (pe_tup (pa_cons pe_str (pa_cons (pv 2) (pa_cons (pv 6) pa_nil)))) (pa_cons (pe_callB call_len_seq (by rfl) m_len (by decide +kernel) (pa_cons (pv 4) pa_nil)) pa_nil)) (by rfl))
      (pss_cons (ps_set (i := 11) sc.nd rfl (.inl rfl) (pe_lst (pa_cons (pe_tup (pa_cons (pv 6) (pa_cons (pv 3) pa_nil))) (pa_cons (pe_tup (pa_cons (pe_tup (pa_cons pe_str (pa_cons (pe_op op_sub (pv 2) (pv 3)) (pa_cons (pv 6) pa_nil)))) (pa_cons (pv 2) pa_nil))) (pa_cons (pe_tup (pa_cons (pv 9) (pa_cons pe_str pa_nil))) (pa_cons (pe_tup (pa_cons (pe_tup (pa_cons pe_str (pa_cons (pe_op op_sub (pv 3) (pv 2)) (pa_cons (pv 6) pa_nil)))) (pa_cons (pe_op op_sub pe_int (pv 2)) pa_nil))) pa_nil))))))
      (pss_cons (ps_set (i := 11) sc.nd rfl (.inl rfl) (pe_op op_cat (pv 11) (pe_lst (pa_cons (pe_tup (pa_cons (pe_tup (pa_cons pe_str (pa_cons (pe_op op_sub pe_int (pv 2)) (pa_cons (pv 6) pa_nil)))) (pa_cons pe_str pa_nil))) (pa_cons (pe_tup (pa_cons (pe_tup (pa_cons pe_str (pa_cons pe_int (pa_cons pe_int pa_nil)))) (pa_cons (pv 2) pa_nil))) (pa_cons (pe_tup (pa_cons (pe_tup (pa_cons pe_str (pa_cons pe_int (pa_cons pe_int pa_nil)))) (pa_cons pe_str pa_nil))) pa_nil))))))
      (pss_cons (ps_set (i := 11) sc.nd rfl (.inl rfl) (pe_op op_cat (pv 11) (pe_lst (pa_cons (pe_tup (pa_cons (pe_tup (pa_cons pe_str (pa_cons (pv 9) (pa_cons (pv 6) pa_nil)))) (pa_cons pe_str pa_nil))) (pa_cons (pe_tup (pa_cons (pe_tup (pa_cons pe_str (pa_cons pe_int (pa_cons (pv 9) pa_nil)))) (pa_cons pe_str pa_nil))) (pa_cons (pe_tup (pa_cons (pe_tup (pa_cons pe_str (pa_cons (pe_op op_sub pe_int (pv 3)) (pa_cons pe_int pa_nil)))) (pa_cons (pe_op op_fdivN (pe_op op_sub pe_int (pv 3)) pe_int) pa_nil))) pa_nil))))))
      (pss_cons (ps_set (i := 11) sc.nd rfl (.inl rfl) (pe_op op_cat (pv 11) (pe_lst (pa_cons (pe_tup (pa_cons (pe_tup (pa_cons pe_str (pa_cons (pv 3) (pa_cons (pe_un un_neg pe_int) pa_nil)))) (pa_cons (pe_op op_fdivN (pv 3) (pe_un un_neg pe_int)) pa_nil))) (pa_cons (pe_tup (pa_cons (pe_tup (pa_cons pe_str (pa_cons (pe_op op_sub pe_int (pv 3)) (pa_cons pe_int pa_nil)))) (pa_cons (pe_op op_modN (pe_op op_sub pe_int (pv 3)) pe_int) pa_nil))) (pa_cons (pe_tup (pa_cons (pe_tup (pa_cons pe_str (pa_cons (pv 3) (pa_cons (pe_un un_neg pe_int) pa_nil)))) (pa_cons (pe_op op_modN (pv 3) (pe_un un_neg pe_int)) pa_nil))) pa_nil))))))
      (pss_cons (ps_set (i := 11) sc.nd rfl (.inl rfl) (pe_op op_cat (pv 11) (pe_lst (pa_cons (pe_tup (pa_cons (pe_tup (pa_cons pe_str (pa_cons (pe_op op_sub pe_int (pv 2)) (pa_cons (pe_un un_neg pe_int) pa_nil)))) (pa_cons (pv 2) pa_nil))) (pa_cons (pe_tup (pa_cons (pv 8) (pa_cons pe_str pa_nil))) (pa_cons (pe_tup (pa_cons (pe_tup (pa_cons pe_str (pa_cons (pv 6) (pa_cons (pe_tup (pa_cons pe_str (pa_cons (pv 6) (pa_cons (pv 6) pa_nil)))) pa_nil)))) (pa_cons pe_str pa_nil))) pa_nil))))))
      (pss_cons (ps_set (i := 11) sc.nd rfl (.inl rfl) (pe_op op_cat (pv 11) (pe_lst (pa_cons (pe_tup (pa_cons (pe_tup (pa_cons pe_str (pa_cons (pv 9) (pa_cons pe_int pa_nil)))) (pa_cons pe_str pa_nil))) (pa_cons (pe_tup (pa_cons (pe_tup (pa_cons pe_str (pa_cons (pv 7) (pa_cons pe_int pa_nil)))) (pa_cons pe_str pa_nil))) (pa_cons (pe_tup (pa_cons (pe_tup (pa_cons pe_str (pa_cons (pv 8) (pa_cons (pv 7) pa_nil)))) (pa_cons pe_str pa_nil))) pa_nil))))))
      (pss_cons (ps_set (i := 11) sc.nd rfl (.inl rfl) (pe_op op_cat (pv 11) (pe_lst (pa_cons (pe_tup (pa_cons (pe_tup (pa_cons pe_str (pa_cons (pv 7) (pa_cons (pv 8) pa_nil)))) (pa_cons pe_str pa_nil))) (pa_cons (pe_tup (pa_cons (pe_tup (pa_cons pe_str (pa_cons (pv 8) (pa_cons (pv 7) pa_nil)))) (pa_cons pe_str pa_nil))) (pa_cons (pe_tup (pa_cons (pe_tup (pa_cons pe_str (pa_cons (pv 6) (pa_cons (pv 9) pa_nil)))) (pa_cons pe_str pa_nil))) pa_nil))))))
      (pss_cons (ps_set (i := 11) sc.nd rfl (.inl rfl) (pe_op op_cat (pv 11) (pe_lst (pa_cons (pe_tup (pa_cons (pe_tup (pa_cons pe_str (pa_cons (pe_ix ix_list (pv 1) pe_int (fun _ _ => rfl)) (pa_cons pe_int pa_nil)))) (pa_cons (pe_ix ix_list (pv 4) pe_int (fun _ _ => rfl)) pa_nil))) (pa_cons (pe_tup (pa_cons (pe_tup (pa_cons pe_str (pa_cons (pe_ix ix_list (pv 1) pe_int (fun _ _ => rfl)) (pa_cons (pe_op op_sub (pv 10) pe_int) pa_nil)))) (pa_cons (pe_ix ix_list (pv 4) (pe_un un_neg pe_int) (fun _ _ => rfl)) pa_nil))) pa_nil)))))
      (pss_cons (ps_set (i := 11) sc.nd rfl (.inl rfl) (pe_op op_cat (pv 11) (pe_lst (pa_cons (pe_tup (pa_cons (pe_tup (pa_cons pe_str (pa_cons (pe_ix ix_list (pv 1) pe_int (fun _ _ => rfl)) (pa_cons (pv 10) pa_nil)))) (pa_cons pe_str pa_nil))) (pa_cons (pe_tup (pa_cons (pe_tup (pa_cons pe_str (pa_cons (pe_ix ix_list (pv 1) pe_int (fun _ _ => rfl)) (pa_cons (pe_un un_neg pe_int) pa_nil)))) (pa_cons pe_str pa_nil))) pa_nil)))))
      (pss_cons (ps_set (i := 11) sc.nd rfl (.inl rfl) (pe_op op_cat (pv 11) (pe_lst (pa_cons (pe_tup (pa_cons (pe_tup (pa_cons pe_str (pa_cons (pe_ix ix_list (pv 1) pe_int (fun _ _ => rfl)) (pa_cons (pv 8) pa_nil)))) (pa_cons pe_str pa_nil))) (pa_cons (pe_tup (pa_cons (pe_tup (pa_cons pe_str (pa_cons (pe_ix ix_list (pv 1) pe_int (fun _ _ => rfl)) (pa_cons (pv 8) pa_nil)))) (pa_cons pe_str pa_nil))) pa_nil)))))
      (pss_cons (ps_set (i := 11) sc.nd rfl (.inl rfl) (pe_op op_cat (pv 11) (pe_lst (pa_cons (pe_tup (pa_cons (pe_tup (pa_cons pe_str (pa_cons (pe_ix ix_list (pv 1) pe_int (fun _ _ => rfl)) (pa_cons (pv 9) pa_nil)))) (pa_cons pe_str pa_nil))) (pa_cons (pe_tup (pa_cons (pe_tup (pa_cons pe_str (pa_cons (pe_ix ix_list (pv 1) pe_int (fun _ _ => rfl)) (pa_cons (pv 7) pa_nil)))) (pa_cons pe_str pa_nil))) pa_nil)))))
      (pss_cons (ps_set (i := 11) sc.nd rfl (.inl rfl) (pe_op op_cat (pv 11) (pe_lst (pa_cons (pe_tup (pa_cons (pe_tup (pa_cons pe_str (pa_cons (pe_ix ix_list (pv 1) pe_int (fun _ _ => rfl)) pa_nil))) (pa_cons (pv 10) pa_nil))) (pa_cons (pe_tup (pa_cons (pe_tup (pa_cons pe_str (pa_cons (pe_ix ix_list (pv 1) pe_int (fun _ _ => rfl)) pa_nil))) (pa_cons pe_str pa_nil))) (pa_cons (pe_tup (pa_cons (pe_tup (pa_cons pe_str (pa_cons (pe_ix ix_list (pv 1) pe_int (fun _ _ => rfl)) pa_nil))) (pa_cons pe_str pa_nil))) pa_nil))))))
      (pss_cons (ps_set (i := 11) sc.nd rfl (.inl rfl) (pe_op op_cat (pv 11) (pe_lst (pa_cons (pe_tup (pa_cons (pe_tup (pa_cons pe_str pa_nil)) (pa_cons pe_int pa_nil))) (pa_cons (pe_tup (pa_cons (pe_tup (pa_cons pe_str pa_nil)) (pa_cons pe_int pa_nil))) (pa_cons (pe_tup (pa_cons (pe_tup (pa_cons pe_str pa_nil)) (pa_cons pe_int pa_nil))) (pa_cons (pe_tup (pa_cons (pe_tup (pa_cons pe_str pa_nil)) (pa_cons pe_int pa_nil))) (pa_cons (pe_tup (pa_cons (pv 2) (pa_cons (pv 2) pa_nil))) (pa_cons (pe_tup (pa_cons (pe_op op_sub pe_int (pv 2)) (pa_cons (pe_op op_sub pe_int (pv 2)) pa_nil))) pa_nil)))))))))
      (pss_cons (ps_for PassesOwn.never rfl (pi_list (pv 11)) (pg_tup (by rfl) (pgs_cons (pg_name (i := 12) sc.nd rfl (.inl rfl)) (pgs_cons (pg_name (i := 13) sc.nd rfl (.inl rfl)) pgs_nil))) (pss_one (ps_if (pt_not (pt_val (pe_call G__law_same (hr.mono (by omega)) (by rfl) m__law_same k__law_same b__law_same .nil pass0 (pa_cons (pe_call G__law_told_of (hr.mono (by omega)) (by rfl) m__law_told_of k__law_told_of b__law_told_of .nil pass0 (pa_cons (pe_glob (v := .ref fv) (by rfl) m_value_of rfl) (pa_cons (pv 12) (pa_cons (pv 5) pa_nil)))) (pa_cons (pe_ifExp (pt_val (pe_callB call_isi (by rfl) m_isinstance (by decide +kernel) (pa_cons (pv 13) (pa_cons (pe_bltn (v := .ty "str") (by rfl) m_str (by decide +kernel) rfl) pa_nil)))) (pe_tup (pa_cons pe_non (pa_cons (pv 13) pa_nil))) (pe_tup (pa_cons (pv 13) (pa_cons pe_non pa_nil)))) pa_nil))))) (pss_one (ps_ret pe_bl)) pss_nil)))
      (pss_one (ps_ret (pe_call G__law_tests_right (hr.mono (by omega)) (by rfl) m__law_tests_right k__law_tests_right b__law_tests_right .nil pass0 (pa_cons (pv 1) (pa_cons (pv 5) (pa_cons (pv 3) pa_nil))))))))))))))))))))))))), ?_⟩
  refine ⟨_, rfl, a, 0, 4, rfl, hB, by omega, by omega, fun p ws H1 s1 B1 np hp hl hnd hnm => ?_⟩
  refine ⟨10, 6, rfl, rfl, ⟨by decide, by decide, by decide⟩, _, rfl, a, 12, 900, rfl, B1, by omega, by decide, by decide, fun r H2 r0 r1 s2 B2 => ⟨1, r, rfl, rfl, _, _, _, rfl, ?_⟩⟩
  obtain ⟨w0, w1, w2, w3, rfl⟩ : ∃ w0 w1 w2 w3, ws = [w0, w1, w2, w3] := by
    match ws, hl with
    | [a, b, c, d], _ => exact ⟨a, b, c, d, rfl⟩
  have pa : p ≠ a := fun z => by
    obtain ⟨o, ho⟩ := hB.is
    rw [← z, np] at ho
    cases ho
  refine ⟨_, rfl, a, 13, 8, rfl, B2, by omega, by decide, by decide, fun r' H3 r'0 r'1 s3 B3 => ⟨1, r', rfl, rfl, 1 + r', rfl, by omega, by omega, fun D nD => lc_it walk_range
    (fun i H' => But a H3 H' ∧ Box H' a (14 + 5 * i) ∧ ∃ vals : List Int, vals.length = i ∧ (∀ v ∈ vals, inB v = true) ∧ H' D = some (.lst (vals.map V.int))) ⟨But.of (same_upd nD), B3.same (same_upd nD), [], rfl, (by intro c hc; cases hc), upd_same⟩
    (fun _ _ _ _ => trivial) ?_ ?_⟩⟩
  · rintro i x H4 _ hi ⟨s4, B4, vals, vl, vb, hD⟩ ⟨rfl, rfl⟩
    refine ⟨rfl, ?_⟩
    unfold tYes
    refine iteT ⟨_, rfl, a, 14 + 5 * i, rfl, B4, by omega, fun v H5 v0 v1 s5 B5 => ?_⟩
    have aD : D ≠ a := (B3.ne nD).symm
    refine ⟨_, s5 _ _ aD hD, ?_, fun b o nb h => ?_, (B5.upd aD.symm).le (by omega), vals ++ [v], by rw [List.length_append, vl]; rfl, fun u hu => ?_, ?_⟩
    · rw [List.length_map, vl]
      exact small1000 (by omega)
    · rw [upd_ne (fun z => by rw [z, nD] at h; cases h)]
      exact s5 _ _ nb (s4 _ _ nb h)
    · rcases List.mem_append.mp hu with z | z
      · exact vb u z
      · rw [List.mem_singleton.mp z]
        exact inB_of v0 v1
    · rw [upd_same, List.map_append]
      rfl
  rintro H4 ⟨s4, B4, vals, vl, vb, hD⟩
  have vl1 : 0 < vals.length := by omega
  have vl8 : vals.length ≤ 8 := by omega
  have hp4 : H4 p = some (.lst [.str w0, .str w1, .str w2, .str w3]) := s4 _ _ pa (s3 _ _ pa (s2 _ _ pa hp))
  have sA : But a H H4 := ((s1.trans s2).trans s3).trans s4
  dsimp only
  rw [show (10 : Int) ^ (6 : Int).toNat = 1000000 by decide]
  generalize hlow : 1 + r = low
  have l0 : 1 ≤ low := by omega
  have l1 : low ≤ 900 := by omega
  have z1 : 1 ≤ sizeLine := by decide
  have z2 : 2 ≤ sizeLine := by decide
  have z4 : 4 ≤ sizeLine := by decide
  refine ⟨_, rfl, p, _, 0, .str w0, rfl, rfl, SqL.of hp4, rfl, _, rfl, z2, fun t1 n1 => ?_⟩
  obtain ⟨G1, e1, q1, h1⟩ := new_at (o := .tup [.str w0, .int low]) n1
  rw [e1]
  refine ⟨_, rfl, p, _, 0, .str w0, rfl, rfl, SqL.of (q1 _ _ hp4), rfl, z2, fun t2 n2 => ?_⟩
  obtain ⟨G2, e2, q2, h2⟩ := new_at (o := .tup [.str w0, .int 0]) n2
  rw [e2]
  refine ⟨z2, fun t3 n3 => ?_⟩
  obtain ⟨G3, e3, q3, h3⟩ := new_at (o := .lst [.ref t1, .ref t2]) n3
  rw [e3]
  have p3 := q3 _ _ (q2 _ _ (q1 _ _ hp4))
  have d3 := q3 _ _ (q2 _ _ (q1 _ _ hD))
  refine ⟨_, rfl, p, _, 1, .str w1, rfl, rfl, SqL.of p3, rfl, _, rfl, z2, fun t4 n4 => ?_⟩
  obtain ⟨G4, e4, q4, h4⟩ := new_at (o := .tup [.str w1, .ref D]) n4
  rw [e4]
  refine ⟨z1, fun t5 n5 => ?_⟩
  obtain ⟨G5, e5, q5, h5⟩ := new_at (o := .lst [.ref t4]) n5
  rw [e5]
  refine ⟨z4, fun t6 n6 => ?_⟩
  obtain ⟨G6, e6, q6, h6⟩ := new_at (o := .tup [.int 3, .int 4, .int 1, .int 2]) n6
  rw [e6]
  refine ⟨_, rfl, p, _, 2, .str w2, rfl, rfl, SqL.of (q6 _ _ (q5 _ _ (q4 _ _ p3))), rfl, z1, fun t7 n7 => ?_⟩
  obtain ⟨G7, e7, q7, h7⟩ := new_at (o := .lst [.str w2]) n7
  rw [e7]
  refine ⟨z4, fun ee n8 => ?_⟩
  obtain ⟨G8, e8, q8, h8⟩ := new_at (o := .tup [.ref t3, .ref t5, .ref t6, .ref t7]) n8
  rw [e8]
  have q38 : Same G3 G8 := (q4.trans q5).trans (q6.trans (q7.trans q8))
  have p8 := q38 _ _ p3
  have d8 := q38 _ _ d3
  have hE : Eyes K G8 ee (tyE K [w0, w1, w2, w3] low vals) := ⟨t3, t5, t6, t7, .tup h8,
    ⟨[.ref t1, .ref t2], .lst (q38 _ _ h3), .cons ⟨t1, rfl, .tup (q38 _ _ (q3 _ _ (q2 _ _ h1)))⟩ (.cons ⟨t2, rfl, .tup (q38 _ _ (q3 _ _ h2))⟩ .nil)⟩,
    ⟨[.ref t4], [(w1, .ref D)], .lst ((q6.trans (q7.trans q8)) _ _ h5), .cons ⟨t4, rfl, .tup ((q5.trans (q6.trans (q7.trans q8))) _ _ h4)⟩ .nil, .cons ⟨rfl, D, rfl, .lst d8⟩ .nil⟩,
    .tup ((q7.trans q8) _ _ h6), rfl, .lst (q8 _ _ h7)⟩
  have sB : But a H G8 := sA.trans (But.of (((q1.trans q2).trans q3).trans q38))
  clear q4 q5 q6 q7 q8 e1 e2 e3 e4 e5 e6 e7 e8
  -- own, gone, nought; beyond, size
  refine par3_ev (R := fun H v => LkAt K H v (.name w0)) (S := fun H v => LkAt K H v (.name w3)) (T := fun H v => LkAt K H v (.bin .over (.num 1) (.num 0))) (Same.refl G8) (ev_name (ev_at (n := 1) (i := 0) rfl (SqL.of p8) ev_const rfl)) (ev_name (ev_at (n := 1) (i := 3) rfl (SqL.of p8) ev_const rfl))
    (ev_over (ev_num ev_const) (ev_num ev_const)) fun u6 u7 u8 G9 G10 G11 q9 q10 q11 r6 r7 r8 => ?_
  have r6' : LkAt K G11 u6 (.name w0) := r6.same (q10.trans q11)
  have d11 : SqL K G11 D (vals.map V.int) := (q9.trans (q10.trans q11)).seq (SqL.of d8)
  refine par_ev (R := fun H v => LkAt K H v (.bin .plus (.num 1000000) (.name w0))) (S := fun _ v => v = .int (vals.map V.int).length) (Same.refl G11) (ev_plus (ev_num (ev_slot (n := 2) rfl)) (ev_lkslot (n := 6) rfl r6')) (ev_len (n := 4) rfl d11) fun u9 u10 G12 Hb q12 q13 r9 r10 => ?_
  subst r10
  have qb : Same G8 Hb := q9.trans (q10.trans (q11.trans (q12.trans q13)))
  have h6 : LkAt K Hb u6 (.name w0) := r6'.same (q12.trans q13)
  have h7 : LkAt K Hb u7 (.name w3) := r7.same (q11.trans (q12.trans q13))
  have h8 : LkAt K Hb u8 (.bin .over (.num 1) (.num 0)) := r8.same (q12.trans q13)
  have h9 : LkAt K Hb u9 (.bin .plus (.num 1000000) (.name w0)) := r9.same q13
  have hw : SqL K Hb p [.str w0, .str w1, .str w2, .str w3] := SqL.of (qb _ _ p8)
  have hv : SqL K Hb D (vals.map V.int) := SqL.of (qb _ _ d8)
  rw [List.length_map]
  obtain ⟨Y, hYe⟩ : ∃ Y, tyE K [w0, w1, w2, w3] low vals = Y := ⟨_, rfl⟩
  have hnd' : w0 ≠ w1 ∧ w0 ≠ w2 ∧ w0 ≠ w3 ∧ w1 ≠ w2 ∧ w1 ≠ w3 ∧ w2 ≠ w3 := by
    simp only [List.nodup_cons, List.mem_cons, List.not_mem_nil, or_false, not_or] at hnd
    exact ⟨hnd.1.1, hnd.1.2.1, hnd.1.2.2, hnd.2.1.1, hnd.2.1.2, hnd.2.2.1⟩
  obtain ⟨n01, n02, n03, n12, n13, n23⟩ := hnd'
  have nOwn : Y.names.lookup w0 = some low := by rw [← hYe]; exact look_yes _ _ _
  have nG3 : Y.names.lookup w3 = none := by rw [← hYe]; exact look_no2 (Ne.symm n03) (Ne.symm n03)
  have nG1 : Y.names.lookup w1 = none := by rw [← hYe]; exact look_no2 (Ne.symm n01) (Ne.symm n01)
  have lIt : Y.lists.lookup w1 = some vals := by rw [← hYe]; exact look_yes _ _ _
  have lG3 : Y.lists.lookup w3 = none := by rw [← hYe]; exact look_no1 (Ne.symm n13)
  have lG0 : Y.lists.lookup w0 = none := by rw [← hYe]; exact look_no1 n01
  have sSp : Y.spot = [3, 4, 1, 2] := by rw [← hYe]; rfl
  have vOwn : val Y (.name w0) = .ok low := v_name nOwn (by omega) (by omega)
  have vGone : val Y (.name w3) = .error "none" := v_gone nG3
  have vN0 : val Y (.bin .over (.num 1) (.num 0)) = .error "nought" := v_bin0 (v_num (by decide) (by decide)) (v_num (by decide) (by decide)) rfl
  have vBey : val Y (.bin .plus (.num 1000000) (.name w0)) = .error "far" := v_binFar (v_num (by decide) (by decide)) vOwn rfl (.inr (by omega))
  have vSpot : ∀ k i, [(3 : Int), 4, 1, 2].getD k 0 = i → inB i = true → val Y (.spot k) = .ok i := fun k i h1 h2 => by
    show far (.ok (Y.spot.getD k 0)) = _
    rw [sSp, h1]
    exact if_pos h2
  have vFst : inB (vals.getD 0 0) = true := vb _ (by rw [List.getD_eq_getElem?_getD, List.getElem?_eq_getElem vl1]; exact List.getElem_mem _)
  have vLst : inB (vals.getD (vals.length - 1) 0) = true := vb _ (by rw [List.getD_eq_getElem?_getD, List.getElem?_eq_getElem (by omega)]; exact List.getElem_mem _)
  have hE2 : Eyes K Hb ee Y := by rw [← hYe]; exact hE.same qb
  clear hE
  dsimp only
  obtain ⟨σ0, hσ⟩ : ∃ σ0 : L2.St, σ0 = [some (.ref a), some (.ref p), some (.int 1000000), some (.int low), some (.ref D), some (.ref ee), some u6, some u7, some u8, some u9, some (.int (vals.length : Int)), none, none, none, none] := ⟨_, rfl⟩
  have f0 : σ0[0]? = some (some (.ref a)) := by rw [hσ]; rfl
  have f1 : σ0[1]? = some (some (.ref p)) := by rw [hσ]; rfl
  have f2 : σ0[2]? = some (some (.int 1000000)) := by rw [hσ]; rfl
  have f3 : σ0[3]? = some (some (.int low)) := by rw [hσ]; rfl
  have f4 : σ0[4]? = some (some (.ref D)) := by rw [hσ]; rfl
  have f5 : σ0[5]? = some (some (.ref ee)) := by rw [hσ]; rfl
  have f6 : σ0[6]? = some (some u6) := by rw [hσ]; rfl
  have f7 : σ0[7]? = some (some u7) := by rw [hσ]; rfl
  have f8 : σ0[8]? = some (some u8) := by rw [hσ]; rfl
  have f9 : σ0[9]? = some (some u9) := by rw [hσ]; rfl
  have f10 : σ0[10]? = some (some (.int (vals.length : Int))) := by rw [hσ]; rfl
  have hsl : 11 < σ0.length := by rw [hσ]; exact Nat.lt_of_lt_of_le (by decide : 11 < 15) (Nat.le_of_eq rfl)
  show tSeq _ _ _ [some (.ref a), some (.ref p), some (.int 1000000), some (.int low), some (.ref D), some (.ref ee), some u6, some u7, some u8, some u9, some (.int (vals.length : Int)), none, none, none, none] Hb
  rw [← hσ]
  refine g_firstS (K := K) (Y := Y) (ps := [((.name w0), .ok low), ((.bin .plus (.num (1000000 - low)) (.name w0)), .ok 1000000), ((.bin .plus (.num 1000000) (.name w0)), .error "far"), ((.bin .minus (.num (low - 1000000)) (.name w0)), .ok ((0) - 1000000))]) (Same.refl Hb) ?_ (Nat.le_of_ble_eq_true rfl) ?_ fun a1 K1 c1 g1 => ?_
  · exact (evl_int (ev_lkslot f6 h6) (ev_slot f3) (evl_int (ev_plus (ev_num (ev_sub (ev_slot f2) (ev_slot f3))) (ev_lkslot f6 h6)) (ev_slot f2) (evl_str (ev_lkslot f9 h9) (evl_int (ev_minus (ev_num (ev_sub (ev_slot f3) (ev_slot f2))) (ev_lkslot f6 h6)) (ev_sub ev_const (ev_slot f2)) evl_nil))))
  · exact (good_cons (gd vOwn) (good_cons (gd (v_bin (v_num (by omega) (by omega)) vOwn (rr (by omega)) (by decide) (by decide))) (good_cons (gd vBey) (good_cons (gd (v_bin (v_num (by omega) (by omega)) vOwn (rr (by omega)) (by decide) (by decide))) good_nil))))
  refine g_moreS (K := K) (Y := Y) (ps := [((.bin .minus (.num ((0) - 1000000)) (.name w0)), .error "far"), ((.bin .by_ (.num (1000)) (.num (1000))), .ok 1000000), ((.bin .by_ (.num (1001)) (.num (1000))), .error "far")]) c1 hsl g1 (by decide) ?_ (Nat.le_of_ble_eq_true rfl) ?_ fun a2 K2 b2 g2 => ?_
  · exact (evl_str (ev_minus (ev_num (ev_sub ev_const (ev_slot (slotF f2 (by decide))))) (ev_lkslot (slotF f6 (by decide)) h6)) (evl_int (ev_by (ev_num ev_const) (ev_num ev_const)) (ev_slot (slotF f2 (by decide))) (evl_str (ev_by (ev_num ev_const) (ev_num ev_const)) evl_nil)))
  · exact (good_cons (gd (v_binFar (v_num (by decide) (by decide)) vOwn rfl (.inl (by omega)))) (good_cons (gd (v_bin (v_num (by decide) (by decide)) (v_num (by decide) (by decide)) (rr (by decide)) (by decide) (by decide))) (good_cons (gd (v_binFar (v_num (by decide) (by decide)) (v_num (by decide) (by decide)) rfl (.inr (by decide)))) good_nil)))
  have c2 := c1.trans b2
  clear g1 b2
  refine g_moreS (K := K) (Y := Y) (ps := [((.bin .minus (.bin .plus (.num 1000000) (.name w0)) (.name w0)), .error "far"), ((.bin .by_ (.num (0)) (.bin .plus (.num 1000000) (.name w0))), .error "far"), ((.bin .over (.num ((0) - low)) (.num (2))), .ok (Int.fdiv ((0) - low) (2)))]) c2 hsl g2 (by decide) ?_ (Nat.le_of_ble_eq_true rfl) ?_ fun a3 K3 b3 g3 => ?_
  · exact (evl_str (ev_minus (ev_lkslot (slotF f9 (by decide)) h9) (ev_lkslot (slotF f6 (by decide)) h6)) (evl_str (ev_by (ev_num ev_const) (ev_lkslot (slotF f9 (by decide)) h9)) (evl_int (ev_over (ev_num (ev_sub ev_const (ev_slot (slotF f3 (by decide))))) (ev_num ev_const)) (ev_fdiv (by decide) (ev_sub ev_const (ev_slot (slotF f3 (by decide)))) ev_const) evl_nil)))
  · exact (good_cons (gd (v_bin1 vBey)) (good_cons (gd (v_bin2 (v_num (by decide) (by decide)) vBey)) (good_cons (gd (v_bin (v_num (by omega) (by omega)) (v_num (by decide) (by decide)) rfl (by rw [fdiv_2]; omega) (by rw [fdiv_2]; omega))) good_nil)))
  have c3 := c2.trans b3
  clear g2 b3
  refine g_moreS (K := K) (Y := Y) (ps := [((.bin .over (.num low) (.num (-7))), .ok (Int.fdiv low (-7))), ((.bin .rest (.num ((0) - low)) (.num (7))), .ok (Int.fmod ((0) - low) (7))), ((.bin .rest (.num low) (.num (-7))), .ok (Int.fmod low (-7)))]) c3 hsl g3 (by decide) ?_ (Nat.le_of_ble_eq_true rfl) ?_ fun a4 K4 b4 g4 => ?_
  · exact (evl_int (ev_over (ev_num (ev_slot (slotF f3 (by decide)))) (ev_num (ev_neg ev_const))) (ev_fdiv (by decide) (ev_slot (slotF f3 (by decide))) (ev_neg ev_const)) (evl_int (ev_rest (ev_num (ev_sub ev_const (ev_slot (slotF f3 (by decide))))) (ev_num ev_const)) (ev_fmod (by decide) (ev_sub ev_const (ev_slot (slotF f3 (by decide)))) ev_const) (evl_int (ev_rest (ev_num (ev_slot (slotF f3 (by decide)))) (ev_num (ev_neg ev_const))) (ev_fmod (by decide) (ev_slot (slotF f3 (by decide))) (ev_neg ev_const)) evl_nil)))
  · exact (good_cons (gd (v_bin (v_num (by omega) (by omega)) (v_num (by decide) (by decide)) rfl (by rw [fdiv_m7]; omega) (by rw [fdiv_m7]; omega))) (good_cons (gd (v_bin (v_num (by omega) (by omega)) (v_num (by decide) (by decide)) rfl (by rw [fmod_7]; omega) (by rw [fmod_7]; omega))) (good_cons (gd (v_bin (v_num (by omega) (by omega)) (v_num (by decide) (by decide)) rfl (by rw [fmod_m7]; omega) (by rw [fmod_m7]; omega))) good_nil)))
  have c4 := c3.trans b4
  clear g3 b4
  refine g_moreS (K := K) (Y := Y) (ps := [((.bin .over (.num ((0) - 1000000)) (.num (-1))), .ok 1000000), ((.bin .over (.num 1) (.num 0)), .error "nought"), ((.bin .rest (.name w0) (.bin .minus (.name w0) (.name w0))), .error "nought")]) c4 hsl g4 (by decide) ?_ (Nat.le_of_ble_eq_true rfl) ?_ fun a5 K5 b5 g5 => ?_
  · exact (evl_int (ev_over (ev_num (ev_sub ev_const (ev_slot (slotF f2 (by decide))))) (ev_num (ev_neg ev_const))) (ev_slot (slotF f2 (by decide))) (evl_str (ev_lkslot (slotF f8 (by decide)) h8) (evl_str (ev_rest (ev_lkslot (slotF f6 (by decide)) h6) (ev_minus (ev_lkslot (slotF f6 (by decide)) h6) (ev_lkslot (slotF f6 (by decide)) h6))) evl_nil)))
  · exact (good_cons (gd (v_bin (v_num (by decide) (by decide)) (v_num (by decide) (by decide)) rfl (by decide) (by decide))) (good_cons (gd vN0) (good_cons (gd (v_bin0 vOwn (v_bin vOwn vOwn (rr (Int.sub_self low)) (by decide) (by decide)) rfl)) good_nil)))
  have c5 := c4.trans b5
  clear g4 b5
  refine g_moreS (K := K) (Y := Y) (ps := [((.bin .over (.bin .plus (.num 1000000) (.name w0)) (.num (0))), .error "far"), ((.bin .over (.name w3) (.num (0))), .error "none"), ((.bin .rest (.bin .over (.num 1) (.num 0)) (.name w3)), .error "nought")]) c5 hsl g5 (by decide) ?_ (Nat.le_of_ble_eq_true rfl) ?_ fun a6 K6 b6 g6 => ?_
  · exact (evl_str (ev_over (ev_lkslot (slotF f9 (by decide)) h9) (ev_num ev_const)) (evl_str (ev_over (ev_lkslot (slotF f7 (by decide)) h7) (ev_num ev_const)) (evl_str (ev_rest (ev_lkslot (slotF f8 (by decide)) h8) (ev_lkslot (slotF f7 (by decide)) h7)) evl_nil)))
  · exact (good_cons (gd (v_bin1 vBey)) (good_cons (gd (v_bin1 vGone)) (good_cons (gd (v_bin1 vN0)) good_nil)))
  have c6 := c5.trans b6
  clear g5 b6
  refine g_moreS (K := K) (Y := Y) (ps := [((.bin .plus (.name w3) (.bin .over (.num 1) (.num 0))), .error "none"), ((.bin .plus (.bin .over (.num 1) (.num 0)) (.name w3)), .error "nought"), ((.bin .by_ (.name w0) (.bin .plus (.num 1000000) (.name w0))), .error "far")]) c6 hsl g6 (by decide) ?_ (Nat.le_of_ble_eq_true rfl) ?_ fun a7 K7 b7 g7 => ?_
  · exact (evl_str (ev_plus (ev_lkslot (slotF f7 (by decide)) h7) (ev_lkslot (slotF f8 (by decide)) h8)) (evl_str (ev_plus (ev_lkslot (slotF f8 (by decide)) h8) (ev_lkslot (slotF f7 (by decide)) h7)) (evl_str (ev_by (ev_lkslot (slotF f6 (by decide)) h6) (ev_lkslot (slotF f9 (by decide)) h9)) evl_nil)))
  · exact (good_cons (gd (v_bin1 vGone)) (good_cons (gd (v_bin1 vN0)) (good_cons (gd (v_bin2 vOwn vBey)) good_nil)))
  have c7 := c6.trans b7
  clear g6 b7
  refine g_moreS (K := K) (Y := Y) (ps := [((.item w1 (.num (0))), .ok (vals.getD 0 0)), ((.item w1 (.num ((vals.length : Int) - (1)))), .ok (vals.getD (vals.length - 1) 0))]) c7 hsl g7 (by decide) ?_ (Nat.le_of_ble_eq_true rfl) ?_ fun a8 K8 b8 g8 => ?_
  · exact (evl_int (ev_item (ev_at (v := .str w1) (slotF f1 (by decide)) hw ev_const rfl) (ev_num ev_const)) (ev_at (slotF f4 (by decide)) hv ev_const (at_0 vl1)) (evl_int (ev_item (ev_at (v := .str w1) (slotF f1 (by decide)) hw ev_const rfl) (ev_num (ev_sub (ev_slot (slotF f10 (by decide))) ev_const))) (ev_at (slotF f4 (by decide)) hv (ev_neg ev_const) (at_m1 vl1)) evl_nil))
  · exact (good_cons (gd (v_item lIt (v_num (by decide) (by decide)) (by decide) (by omega) rfl (inB_lo vFst) (inB_hi vFst))) (good_cons (gd (v_item lIt (v_num (by omega) (by omega)) (by omega) (by omega) (by rw [show ((vals.length : Int) - 1).toNat = vals.length - 1 by omega]) (inB_lo vLst) (inB_hi vLst))) good_nil))
  have c8 := c7.trans b8
  clear g7 b8
  refine g_moreS (K := K) (Y := Y) (ps := [((.item w1 (.num (vals.length : Int))), .error "none"), ((.item w1 (.num (-1))), .error "none")]) c8 hsl g8 (by decide) ?_ (Nat.le_of_ble_eq_true rfl) ?_ fun a9 K9 b9 g9 => ?_
  · exact (evl_str (ev_item (ev_at (v := .str w1) (slotF f1 (by decide)) hw ev_const rfl) (ev_num (ev_slot (slotF f10 (by decide))))) (evl_str (ev_item (ev_at (v := .str w1) (slotF f1 (by decide)) hw ev_const rfl) (ev_num (ev_neg ev_const))) evl_nil))
  · exact (good_cons (gd (v_itemNo lIt (v_num (by omega) (by omega)) (by omega))) (good_cons (gd (v_itemNo lIt (v_num (by decide) (by decide)) (by omega))) good_nil))
  have c9 := c8.trans b9
  clear g8 b9
  refine g_moreS (K := K) (Y := Y) (ps := [((.item w3 (.bin .over (.num 1) (.num 0))), .error "none"), ((.item w1 (.bin .over (.num 1) (.num 0))), .error "nought")]) c9 hsl g9 (by decide) ?_ (Nat.le_of_ble_eq_true rfl) ?_ fun a10 K10 b10 g10 => ?_
  · exact (evl_str (ev_item (ev_at (v := .str w3) (slotF f1 (by decide)) hw ev_const rfl) (ev_lkslot (slotF f8 (by decide)) h8)) (evl_str (ev_item (ev_at (v := .str w1) (slotF f1 (by decide)) hw ev_const rfl) (ev_lkslot (slotF f8 (by decide)) h8)) evl_nil))
  · exact (good_cons (gd (v_itemGone lG3)) (good_cons (gd (v_itemErr lIt vN0)) good_nil))
  have c10 := c9.trans b10
  clear g9 b10
  refine g_moreS (K := K) (Y := Y) (ps := [((.item w1 (.bin .plus (.num 1000000) (.name w0))), .error "far"), ((.item w1 (.name w3)), .error "none")]) c10 hsl g10 (by decide) ?_ (Nat.le_of_ble_eq_true rfl) ?_ fun a11 K11 b11 g11 => ?_
  · exact (evl_str (ev_item (ev_at (v := .str w1) (slotF f1 (by decide)) hw ev_const rfl) (ev_lkslot (slotF f9 (by decide)) h9)) (evl_str (ev_item (ev_at (v := .str w1) (slotF f1 (by decide)) hw ev_const rfl) (ev_lkslot (slotF f7 (by decide)) h7)) evl_nil))
  · exact (good_cons (gd (v_itemErr lIt vBey)) (good_cons (gd (v_itemErr lIt vGone)) good_nil))
  have c11 := c10.trans b11
  clear g10 b11
  refine g_moreS (K := K) (Y := Y) (ps := [((.many w1), .ok (vals.length : Int)), ((.many w0), .error "none"), ((.name w1), .error "none")]) c11 hsl g11 (by decide) ?_ (Nat.le_of_ble_eq_true rfl) ?_ fun a12 K12 b12 g12 => ?_
  · exact (evl_int (ev_many (ev_at (v := .str w1) (slotF f1 (by decide)) hw ev_const rfl)) (ev_slot (slotF f10 (by decide))) (evl_str (ev_many (ev_at (v := .str w0) (slotF f1 (by decide)) hw ev_const rfl)) (evl_str (ev_name (ev_at (v := .str w1) (slotF f1 (by decide)) hw ev_const rfl)) evl_nil)))
  · exact (good_cons (gd (v_many lIt (by omega))) (good_cons (gd (v_manyGone lG0)) (good_cons (gd (v_gone nG1)) good_nil)))
  have c12 := c11.trans b12
  clear g11 b12
  refine g_moreS (K := K) (Y := Y) (ps := [((.spot 0), .ok (3)), ((.spot 1), .ok (4)), ((.spot 2), .ok (1)), ((.spot 3), .ok (2)), ((.num 1000000), .ok 1000000), ((.num ((0) - 1000000)), .ok ((0) - 1000000))]) c12 hsl g12 (by decide) ?_ (Nat.le_of_ble_eq_true rfl) ?_ fun a13 K13 b13 g13 => ?_
  · exact (evl_int ev_x ev_const (evl_int ev_y ev_const (evl_int ev_way ev_const (evl_int ev_number ev_const (evl_int (ev_num (ev_slot (slotF f2 (by decide)))) (ev_slot (slotF f2 (by decide))) (evl_int (ev_num (ev_sub ev_const (ev_slot (slotF f2 (by decide))))) (ev_sub ev_const (ev_slot (slotF f2 (by decide)))) evl_nil))))))
  · exact (good_cons (gd (vSpot 0 3 rfl (by decide))) (good_cons (gd (vSpot 1 4 rfl (by decide))) (good_cons (gd (vSpot 2 1 rfl (by decide))) (good_cons (gd (vSpot 3 2 rfl (by decide))) (good_cons (gd (v_num (by decide) (by decide))) (good_cons (gd (v_num (by decide) (by decide))) good_nil))))))
  have c13 := c12.trans b13
  clear g12 b13
  subst hσ
  obtain ⟨ps, ⟨vs, hvs, hpr⟩, hlen, hgood⟩ := g13
  show tSeq _ _ _ [some (.ref a), some (.ref p), some (.int 1000000), some (.int low), some (.ref D), some (.ref ee), some u6, some u7, some u8, some u9, some (.int (vals.length : Int)), some (.ref a13), none, none, none] K13
  refine ⟨_, rfl, a13, rfl, ⟨_, SqL.of hvs⟩, for_it (walk_list (K := K) (a := a13) (xs := vs)) (fun i σ H' => Same K13 H' ∧ ∃ x12 x13, σ = [some (.ref a), some (.ref p), some (.int 1000000), some (.int low), some (.ref D), some (.ref ee), some u6, some u7, some u8, some u9, some (.int (vals.length : Int)), some (.ref a13), x12, x13, none])
    ⟨Same.refl _, none, none, rfl⟩ (fun i σ H' _ h => h.1.seq (SqL.of hvs)) ?_ ?_⟩
  · rintro i v σ H5 H5' hi ⟨sm, x12, x13, rfl⟩ ⟨rfl, ev⟩
    obtain ⟨⟨L, r⟩, ep, b, u, rfl, hb, hL⟩ := paired_at hpr ev
    obtain ⟨hval, hdeep⟩ := hgood _ (List.mem_of_getElem? ep)
    dsimp only at hval hdeep hb hL
    have hL5 := hL.same sm
    have hE5 : Eyes K H5' ee Y := hE2.same (c13.trans sm)
    refine ⟨b, _, rfl, .inl (.inl (sm _ _ hb)), rfl, _, _, rfl, _, _, rfl, rfl, ?_⟩
    refine ⟨_, rfl, _, rfl, fv, u, ee, spVal K C 6, rfl, HV, fun H0 Q' E' s0 ok er => ⟨u, ee, L, Y, rfl, hL5.same s0, hdeep, hE5.same s0, ?_⟩⟩
    rw [hval]
    cases r with
    | ok j =>
      refine ok _ _ fun p2 H2 s2' h2' => ?_
      refine ⟨_, rfl, _, _, .type "int", _, false, rfl, .ty _, .base (.int j), kit_ty (by decide +kernel), _, rfl, iteF ⟨_, rfl, z2, fun t nt => ?_⟩⟩
      refine ⟨.ref p2, .ref t, .tuple [.int j, .none], rfl, .tup (SqT.of (same_upd nt _ _ h2')) (.cons (.int j) (.cons .non .nil)), .tup (SqT.of upd_same) (.cons (.int j) (.cons .non .nil)), okd2 trivial trivial, fun H3 s3' => ?_⟩
      exact ⟨_, rfl, iteF ⟨sm.trans (s0.trans (s2'.trans ((same_upd nt).trans s3'))), _, _, rfl⟩⟩
    | error z =>
      refine fun d nd => er _ _ _ ⟨rfl, d, z, rfl, upd_same, fun p2 H2 s2' h2' => ?_⟩
      refine ⟨_, rfl, _, _, .type "str", _, true, rfl, .ty _, .base (.str z), kit_ty (by decide +kernel), _, rfl, iteT ⟨_, rfl, z2, fun t nt => ?_⟩⟩
      refine ⟨.ref p2, .ref t, .tuple [.none, .str z], rfl, .tup (SqT.of (same_upd nt _ _ h2')) (.cons .non (.cons (.str z) .nil)), .tup (SqT.of upd_same) (.cons .non (.cons (.str z) .nil)), okd2 trivial trivial, fun H3 s3' => ?_⟩
      exact ⟨_, rfl, iteF ⟨sm.trans (s0.trans ((same_upd nd).trans (s2'.trans ((same_upd nt).trans s3')))), _, _, rfl⟩⟩
  · rintro σ H5 ⟨sm, x12, x13, rfl⟩
    have sm' := qb.trans (c13.trans sm)
    refine ⟨_, rfl, _, rfl, _, rfl, p, ee, [w0, w1, w2, w3], low, vals, rfl, sm' _ _ p8, rfl, hnd, l0, l1, ?_, fun H6 s6 => q _ (sB.trans (But.of (sm'.trans s6)))⟩
    rw [hYe]
    exact hE2.same (c13.trans sm)
end
end Fd

set_option Elab.async false
set_option linter.all false
set_option maxRecDepth 100000
set_option maxHeartbeats 4000000
namespace Fd
open PySem PySem.Spec PyProof.Rows L2
/-- what is a tuple stays one -/
def SameT (H H' : Hp) : Prop := ∀ b xs, H b = some (.tup xs) → H' b = some (.tup xs)
theorem Same.t {H H' : Hp} (s : Same H H') : SameT H H' := fun b xs h => s _ _ h
/-- a test made of tuples, its looks over an older heap -/
inductive TsT (K : PySem.W.Frag) (Hb H : Hp) : V → Ts → Prop where
  | like {a : Addr} {u v : V} {L M : Lk} (h : H a = some (.tup [.str "like", u, v])) (hu : LkAt K Hb u L) (hv : LkAt K Hb v M) : TsT K Hb H (.ref a) (.like L M)
  | less {a : Addr} {u v : V} {L M : Lk} (h : H a = some (.tup [.str "below", u, v])) (hu : LkAt K Hb u L) (hv : LkAt K Hb v M) : TsT K Hb H (.ref a) (.less L M)
  | not_ {a : Addr} {u : V} {t : Ts} (h : H a = some (.tup [.str "not", u])) (hu : TsT K Hb H u t) : TsT K Hb H (.ref a) (.not_ t)
  | both {a : Addr} {u v : V} {t t' : Ts} (h : H a = some (.tup [.str "both", u, v])) (hu : TsT K Hb H u t) (hv : TsT K Hb H v t') : TsT K Hb H (.ref a) (.both t t')
  | any_ {a : Addr} {u v : V} {t t' : Ts} (h : H a = some (.tup [.str "any", u, v])) (hu : TsT K Hb H u t) (hv : TsT K Hb H v t') : TsT K Hb H (.ref a) (.any_ t t')
  | meets {a : Addr} {x : Str} (h : H a = some (.tup [.str "meets", .str x])) : TsT K Hb H (.ref a) (.meets x)
theorem TsT.st {K : PySem.W.Frag} {Hb H H' : Hp} (s : SameT H H') {v : V} {t : Ts} (h : TsT K Hb H v t) : TsT K Hb H' v t := by
  induction h with
  | like h hu hv => exact .like (s _ _ h) hu hv
  | less h hu hv => exact .less (s _ _ h) hu hv
  | not_ h _ ih => exact .not_ (s _ _ h) ih
  | both h _ _ i1 i2 => exact .both (s _ _ h) i1 i2
  | any_ h _ _ i1 i2 => exact .any_ (s _ _ h) i1 i2
  | meets h => exact .meets (s _ _ h)
theorem TsT.at {K : PySem.W.Frag} {Hb H : Hp} (s : Same Hb H) {v : V} {t : Ts} (h : TsT K Hb H v t) : TsAt K H v t := by
  induction h with
  | like h hu hv => exact .like (.tup h) (hu.same s) (hv.same s)
  | less h hu hv => exact .less (.tup h) (hu.same s) (hv.same s)
  | not_ h _ ih => exact .not_ (.tup h) ih
  | both h _ _ i1 i2 => exact .both (.tup h) i1 i2
  | any_ h _ _ i1 i2 => exact .any_ (.tup h) i1 i2
  | meets h => exact .meets (.tup h)
abbrev EvTs (K : PySem.W.Frag) (t : Ts) (te : TE) (σ : L2.St) (Hb : Hp) : Prop := Ev (fun H v => TsT K Hb H v t) te σ Hb
abbrev EvB (K : PySem.W.Frag) (L : Lk) (te : TE) (σ : L2.St) (Hb : Hp) : Prop := Ev (fun _ v => LkAt K Hb v L) te σ Hb
section
variable {K : PySem.W.Frag} {σ : L2.St} {H : Hp} {ta tb : TE} {L M : Lk} {t u : Ts} {x : Str} {i : Int} {v : V}
theorem evb_slot {n : Nat} (h : σ[n]? = some (some v)) (r : LkAt K H v L) : EvB K L (tVar n) σ H := fun H1 s Q k => ⟨v, h, k v H1 (Same.refl _) r⟩
theorem evb_num (h : EvV (.int i) ta σ H) : EvB K (.num i) ta σ H := fun H1 s Q k => h H1 s Q fun u H2 s2 e => k u H2 s2 (by subst e; exact .num i)
theorem ev_u2 {z : Str} {R : Hp → V → Prop} (mono : ∀ H H' v, Same H H' → R H v → R H' v) (h1 : Ev R ta σ H) : Ev (fun H v => ∃ a u, v = .ref a ∧ H a = some (.tup [.str z, u]) ∧ R H u) (tT2 z ta) σ H := fun H1 s Q k =>
  h1 H1 s _ fun u H2 s2 r => ⟨by show 2 ≤ sizeLine; decide, fun p np => k _ _ (s2.trans (same_upd np)) ⟨p, u, rfl, upd_same, mono _ _ _ (same_upd np) r⟩⟩
theorem ev_u3 {z : Str} {R S : Hp → V → Prop} (m1 : ∀ H H' v, Same H H' → R H v → R H' v) (m2 : ∀ H H' v, Same H H' → S H v → S H' v) (h1 : Ev R ta σ H) (h2 : Ev S tb σ H) :
    Ev (fun H v => ∃ a u u', v = .ref a ∧ H a = some (.tup [.str z, u, u']) ∧ R H u ∧ S H u') (tT3 z ta tb) σ H := fun H1 s Q k =>
  h1 H1 s _ fun u H2 s2 r => h2 H2 (s.trans s2) _ fun u' H3 s3 r' => ⟨by show 3 ≤ sizeLine; decide, fun p np => k _ _ (s2.trans (s3.trans (same_upd np))) ⟨p, u, u', rfl, upd_same, m1 _ _ _ (s3.trans (same_upd np)) r, m2 _ _ _ (same_upd np) r'⟩⟩
theorem ev_like (h1 : EvB K L ta σ H) (h2 : EvB K M tb σ H) : EvTs K (.like L M) (tT3 "like" ta tb) σ H :=
  (ev_u3 (fun _ _ _ _ r => r) (fun _ _ _ _ r => r) h1 h2).imp fun H v ⟨a, u, u', e, q, r, r'⟩ => by subst e; exact .like q r r'
theorem ev_below (h1 : EvB K L ta σ H) (h2 : EvB K M tb σ H) : EvTs K (.less L M) (tT3 "below" ta tb) σ H :=
  (ev_u3 (fun _ _ _ _ r => r) (fun _ _ _ _ r => r) h1 h2).imp fun H v ⟨a, u, u', e, q, r, r'⟩ => by subst e; exact .less q r r'
theorem ev_both (h1 : EvTs K t ta σ H) (h2 : EvTs K u tb σ H) : EvTs K (.both t u) (tT3 "both" ta tb) σ H :=
  (ev_u3 (fun _ _ _ s r => r.st (Same.t s)) (fun _ _ _ s r => r.st (Same.t s)) h1 h2).imp fun H v ⟨a, u, u', e, q, r, r'⟩ => by subst e; exact .both q r r'
theorem ev_any (h1 : EvTs K t ta σ H) (h2 : EvTs K u tb σ H) : EvTs K (.any_ t u) (tT3 "any" ta tb) σ H :=
  (ev_u3 (fun _ _ _ s r => r.st (Same.t s)) (fun _ _ _ s r => r.st (Same.t s)) h1 h2).imp fun H v ⟨a, u, u', e, q, r, r'⟩ => by subst e; exact .any_ q r r'
theorem ev_not (h1 : EvTs K t ta σ H) : EvTs K (.not_ t) (tT2 "not" ta) σ H := (ev_u2 (fun _ _ _ s r => r.st (Same.t s)) h1).imp fun H v ⟨a, u, e, q, r⟩ => by subst e; exact .not_ q r
theorem ev_meets (h1 : EvV (.str x) ta σ H) : EvTs K (.meets x) (tT2 "meets" ta) σ H := (ev_u2 (fun _ _ _ _ r => r) h1).imp fun H v ⟨a, u, e, q, r⟩ => by subst e r; exact .meets q
end
def DuB : Except Str Bool → V
  | .ok i => .bl i
  | .error z => .str z
abbrev PT2 := Ts × Except Str Bool
def PrT (K : PySem.W.Frag) (Hb H : Hp) (v : V) (p : PT2) : Prop := ∃ a u, v = .ref a ∧ H a = some (.tup [u, DuB p.2]) ∧ TsT K Hb H u p.1
abbrev PrsT (K : PySem.W.Frag) (Hb H : Hp) : List V → List PT2 → Prop := Paired (PrT K Hb H)
def EvLT (K : PySem.W.Frag) (ps : List PT2) (ta : TA) (σ : L2.St) (Hb : Hp) : Prop := ∀ H1, Same Hb H1 → ∀ Q : List V → Hp → Prop, (∀ vs H2, Same H1 H2 → PrsT K Hb H2 vs ps → Q vs H2) → ta σ H1 Q
def GoodT (Y : Ey) (p : PT2) : Prop := hold Y p.1 = p.2 ∧ p.1.deep ≤ 6
def SomeT (K : PySem.W.Frag) (Y : Ey) (Hb H : Hp) (a : Addr) (m : Nat) : Prop := Hb a = none ∧ Same Hb H ∧ ∃ (vs : List V) (ps : List PT2), H a = some (.lst vs) ∧ PrsT K Hb H vs ps ∧ ps.length ≤ m ∧ ∀ p ∈ ps, GoodT Y p
section
variable {K : PySem.W.Frag} {σ : L2.St} {H Hb : Hp} {ta tb : TE} {tr : TA} {t : Ts} {z : Str} {ps : List PT2} {Y : Ey}
theorem prsT_st {H' : Hp} {vs : List V} (s : SameT H H') (h : PrsT K Hb H vs ps) : PrsT K Hb H' vs ps := Paired.mapP h fun _ _ ⟨a, u, e, q, r⟩ => ⟨a, u, e, s _ _ q, r.st s⟩
theorem prsT_app : ∀ {vs us : List V} {ps qs : List PT2}, PrsT K Hb H vs ps → PrsT K Hb H us qs → PrsT K Hb H (vs ++ us) (ps ++ qs)
  | _, _, _, _, .nil, h => h
  | _, _, _, _, .cons r t, h => .cons r (prsT_app t h)
theorem evt_nil : EvLT K [] tNil σ H := fun H1 _ Q k => k [] H1 (Same.refl _) .nil
theorem evt_cons {r : Except Str Bool} (h1 : EvTs K t ta σ H) (h2 : EvV (DuB r) tb σ H) (tl : EvLT K ps tr σ H) : EvLT K ((t, r) :: ps) (tCons (tTup (tCons ta (tCons tb tNil))) tr) σ H := fun H1 s Q k =>
  h1 H1 s _ fun u H2 s2 r1 => h2 H2 (s.trans s2) _ fun u' H3 s3 e => ⟨by show 2 ≤ sizeLine; decide, fun p np => tl _ ((s.trans s2).trans (s3.trans (same_upd np))) _ fun vs H4 s4 r4 => by
    subst e
    exact k _ _ (s2.trans (s3.trans ((same_upd np).trans s4))) (.cons ⟨p, u, rfl, s4 _ _ upd_same, r1.st (Same.t (s3.trans ((same_upd np).trans s4)))⟩ r4)⟩
theorem evt_bl {b : Bool} (h1 : EvTs K t ta σ H) (tl : EvLT K ps tr σ H) : EvLT K ((t, .ok b) :: ps) (tCons (tTup (tCons ta (tCons (tC (.bl b)) tNil))) tr) σ H := evt_cons h1 ev_const tl
theorem evt_str (h1 : EvTs K t ta σ H) (tl : EvLT K ps tr σ H) : EvLT K ((t, .error z) :: ps) (tCons (tTup (tCons ta (tCons (tC (.str z)) tNil))) tr) σ H := evt_cons h1 ev_const tl
theorem t_first {n : Nat} {D : Ends} {rest : TS} (sb : Same Hb H) (h : EvLT K ps tr σ Hb) (hl : ps.length ≤ 8) (g : ∀ p ∈ ps, GoodT Y p)
    (k : ∀ a H2, SomeT K Y Hb H2 a 8 → rest D (σ.set n (some (.ref a))) H2) : tSeq (tAsg (tLst tr) (gName n)) rest D σ H :=
  h H sb _ fun vs H2 s2 r => ⟨by rw [Paired.length r]; exact Nat.le_of_lt (small1000 (by omega)), fun p np => k p _ ⟨(sb.trans s2).free np, (sb.trans s2).trans (same_upd np), vs, ps, upd_same, prsT_st (Same.t (same_upd np)) r, hl, g⟩⟩
theorem t_more {n m : Nat} {D : Ends} {rest : TS} {a : Addr} (hs : n < σ.length) (hq : SomeT K Y Hb H a m) (hm : m ≤ 80) (h : EvLT K ps tr (σ.set n (some (.ref a))) Hb) (hl : ps.length ≤ 6) (g : ∀ p ∈ ps, GoodT Y p)
    (k : ∀ a H2, SomeT K Y Hb H2 a (m + 6) → rest D (σ.set n (some (.ref a))) H2) : tSeq (tAsg (tOp rCat (tVar n) (tLst tr)) (gName n)) rest D (σ.set n (some (.ref a))) H := by
  obtain ⟨na, sb, us, qs, h1, h2, h3, h4⟩ := hq
  refine ⟨_, List.getElem?_set_self hs, h H sb _ fun vs H2 s2 r => ⟨by rw [Paired.length r]; exact Nat.le_of_lt (small1000 (by omega)), fun p np => ?_⟩⟩
  have s3 := same_upd (o := .lst vs) np
  refine ⟨a, p, us, vs, rfl, rfl, (s2.trans s3) _ _ h1, upd_same, ?_, fun p2 np2 => ?_⟩
  · rw [Paired.length r, Paired.length h2]
    exact Nat.le_of_lt (small1000 (by omega))
  show rest D ((σ.set n (some (.ref a))).set n (some (.ref p2))) _
  rw [List.set_set]
  have s4 := same_upd (o := .lst (us ++ vs)) np2
  refine k p2 _ ⟨((sb.trans s2).trans s3).free np2, ((sb.trans s2).trans s3).trans s4, us ++ vs, qs ++ ps, upd_same, prsT_app (prsT_st (Same.t (s2.trans (s3.trans s4))) h2) (prsT_st (Same.t (s3.trans s4)) r), by rw [List.length_append]; omega, fun q hq => ?_⟩
  rcases List.mem_append.mp hq with z | z
  · exact h4 q z
  · exact g q z
theorem t_app {n m : Nat} {D : Ends} {rest : TS} {a : Addr} {te : TE} {p : PT2} (hs : n < σ.length) (hq : SomeT K Y Hb H a m) (hm : m ≤ 80) (h : EvLT K [p] (tCons te tNil) (σ.set n (some (.ref a))) Hb) (g : GoodT Y p)
    (k : ∀ H2, SomeT K Y Hb H2 a (m + 1) → rest D (σ.set n (some (.ref a))) H2) : tSeq (tDrop (tBM K "list" rAppend (tVar n) (tCons te tNil))) rest D (σ.set n (some (.ref a))) H := by
  obtain ⟨na, sb, us, qs, h1, h2, h3, h4⟩ := hq
  refine ⟨_, List.getElem?_set_self hs, .inl ⟨rfl, _, SqL.of h1⟩, h H sb _ fun vs H2 s2 r => ?_⟩
  cases r with
  | @cons v _ _ _ r1 r2 =>
    cases r2
    have h1' := s2 _ _ h1
    refine ⟨a, us, v, rfl, rfl, h1', ?_, k _ ?_⟩
    · rw [Paired.length h2]
      exact small1000 (by omega)
    have st : SameT H2 (upd H2 a (.lst (us ++ [v]))) := fun b xs e => by
      rw [upd_ne (fun z => by rw [z, h1'] at e; cases e)]
      exact e
    refine ⟨na, fun b o e => ?_, us ++ [v], qs ++ [p], upd_same, prsT_app (prsT_st (fun b xs e => st b xs (s2 _ _ e)) h2) (prsT_st st (.cons r1 .nil)), by rw [List.length_append]; show qs.length + 1 ≤ m + 1; omega, fun q hq => ?_⟩
    · rw [upd_ne (ne_of_none e na)]
      exact s2 _ _ (sb _ _ e)
    · rcases List.mem_append.mp hq with z | z
      · exact h4 q z
      · rw [List.mem_singleton.mp z]
        exact g
end
theorem gt {Y : Ey} {t : Ts} {r : Except Str Bool} (e : hold Y t = r) (d : Nat.ble t.deep 6 = true := by rfl) : GoodT Y (t, r) := ⟨e, Nat.le_of_ble_eq_true d⟩
theorem gt_nil {Y : Ey} : ∀ p ∈ ([] : List PT2), GoodT Y p := fun p h => by cases h
theorem gt_cons {Y : Ey} {p : PT2} {ps : List PT2} (h : GoodT Y p) (t : ∀ q ∈ ps, GoodT Y q) : ∀ q ∈ p :: ps, GoodT Y q := fun q hq => by
  rcases List.mem_cons.mp hq with z | z
  · rw [z]; exact h
  · exact t q z
section
variable {Y : Ey} {L M : Lk} {i j : Int} {z : Str} {t u : Ts} {b c : Bool}
theorem h_like (h1 : val Y L = .ok i) (h2 : val Y M = .ok j) (e : decide (i = j) = b) : hold Y (.like L M) = .ok b := by
  show thenB (val Y L) (fun i => thenB (val Y M) fun j => .ok (decide (i = j))) = _
  rw [h1, h2, ← e]
  rfl
theorem h_like1 (h1 : val Y L = .error z) : hold Y (.like L M) = .error z := by
  show thenB (val Y L) (fun i => thenB (val Y M) fun j => .ok (decide (i = j))) = _
  rw [h1]
  rfl
theorem h_less (h1 : val Y L = .ok i) (h2 : val Y M = .ok j) (e : decide (i < j) = b) : hold Y (.less L M) = .ok b := by
  show thenB (val Y L) (fun i => thenB (val Y M) fun j => .ok (decide (i < j))) = _
  rw [h1, h2, ← e]
  rfl
theorem h_less1 (h1 : val Y L = .error z) : hold Y (.less L M) = .error z := by
  show thenB (val Y L) (fun i => thenB (val Y M) fun j => .ok (decide (i < j))) = _
  rw [h1]
  rfl
theorem h_less2 (h1 : val Y L = .ok i) (h2 : val Y M = .error z) : hold Y (.less L M) = .error z := by
  show thenB (val Y L) (fun i => thenB (val Y M) fun j => .ok (decide (i < j))) = _
  rw [h1, h2]
  rfl
theorem h_both {r : Except Str Bool} (h1 : hold Y t = .ok true) (h2 : hold Y u = r) : hold Y (.both t u) = r := by
  show thenB (hold Y t) (fun b => if b = true then hold Y u else .ok false) = _
  rw [h1, ← h2]
  rfl
theorem h_bothF (h1 : hold Y t = .ok false) : hold Y (.both t u) = .ok false := by
  show thenB (hold Y t) (fun b => if b = true then hold Y u else .ok false) = _
  rw [h1]
  rfl
theorem h_any {r : Except Str Bool} (h1 : hold Y t = .ok false) (h2 : hold Y u = r) : hold Y (.any_ t u) = r := by
  show thenB (hold Y t) (fun b => if b = true then .ok true else hold Y u) = _
  rw [h1, ← h2]
  rfl
theorem h_anyT (h1 : hold Y t = .ok true) : hold Y (.any_ t u) = .ok true := by
  show thenB (hold Y t) (fun b => if b = true then .ok true else hold Y u) = _
  rw [h1]
  rfl
theorem h_not (h1 : hold Y t = .ok b) : hold Y (.not_ t) = .ok (!b) := by
  show thenB (hold Y t) (fun b => .ok (!b)) = _
  rw [h1]
  rfl
theorem h_notE (h1 : hold Y t = .error z) : hold Y (.not_ t) = .error z := by
  show thenB (hold Y t) (fun b => .ok (!b)) = _
  rw [h1]
  rfl
end
section
variable {P : Program} {w : World} {K : PySem.W.Frag} {mg : Str → Option Value} {base : Heap} {f C fI fv fh : Addr} {fd : FuncData}
abbrev sTests : Stmt := top 28
theorem scTests : FnScope ["_law_words", "_law_eyes", "_law_low", "_law_own", "_law_gone", "_law_nought", "_law_beyond", "_law_tests", "_law_test", "_law_due"] ["_law_words", "_law_eyes", "_law_low"] (defScope sTests) := ⟨rfl, rfl, rfl, by decide +kernel, rfl, by decide +kernel, by decide +kernel⟩
-- slots ["_law_words", "_law_eyes", "_law_low", "_law_own", "_law_gone", "_law_nought", "_law_beyond", "_law_tests", "_law_test", "_law_due"]
theorem ok_tests {k : Nat} (F : Fun K "_law_tests_right" "_law_tests_right" sTests f fd) (GS : FnG P w K mg base CX0 k "_law_same" ["_law_found", "_law_due"] (spSame K 5)) (GO : FnG P w K mg base CX0 k "_law_told_of" ["_law_asked", "_law_thing", "_law_eyes"] (spTold P w K mg base C 16))
    (m_holds : mg "holds" = some (.ref fh)) (HH : HeldX P w K mg base 16 fh (spHold K C 6)) (m_isinstance : mg "isinstance" = none) (m_str : mg "str" = none) :
    FnOk P w K mg base CX0 (k + 1) f fd ["_law_words", "_law_eyes", "_law_low"] (spTests K) := by
  obtain ⟨_, _, G__law_same, m__law_same, k__law_same, b__law_same⟩ := GS
  obtain ⟨_, _, G__law_told_of, m__law_told_of, k__law_told_of, b__law_told_of⟩ := GO
  have sc := scTests
  refine F.ok sc (fun vs H Q E h => ?_) (fun cdv A outer s H vs Q E hr h => ?_)
  · obtain ⟨a, e, ws, low, vals, rfl, _⟩ := h
    rfl
  obtain ⟨p, ee, ws, low, vals, rfl, hp, hl, hnd, l0, l1, hE, q⟩ := h
  refine ⟨_, (pss_cons (ps_par3 (i := 3) (j := 4) (l := 5) (by rfl) sc.nd rfl rfl rfl (by decide) (by decide) (by decide) rfl rfl rfl (pa_cons (pe_tup (pa_cons pe_str (pa_cons (pe_ix ix_list (pv 0) pe_int (fun _ _ => rfl)) pa_nil))) (pa_cons (pe_tup (pa_cons pe_str (pa_cons (pe_ix ix_list (pv 0) pe_int (fun _ _ => rfl)) pa_nil))) (pa_cons (pe_tup (pa_cons pe_str (pa_cons pe_int (pa_cons pe_int pa_nil)))) pa_nil))) (by rfl))
      (pss_cons (ps_set (i := 6) sc.nd rfl (.inl rfl) (pe_tup (pa_cons pe_str (pa_cons (pe_op op_pow pe_int pe_int) (pa_cons (pv 3) pa_nil)))))
      (pss_cons (ps_set (i := 7) sc.nd rfl (.inl rfl) (pe_lst (pa_cons (pe_tup (pa_cons (pe_tup (pa_cons pe_str (pa_cons (pv 3) (pa_cons (pv 4) pa_nil)))) (pa_cons pe_str pa_nil))) (pa_cons (pe_tup (pa_cons (pe_tup (pa_cons pe_str (pa_cons (pv 5) (pa_cons (pv 4) pa_nil)))) (pa_cons pe_str pa_nil))) (pa_cons (pe_tup (pa_cons (pe_tup (pa_cons pe_str (pa_cons (pv 2) (pa_cons (pv 3) pa_nil)))) (pa_cons pe_bl pa_nil))) pa_nil)))))
      (pss_cons (ps_set (i := 7) sc.nd rfl (.inl rfl) (pe_op op_cat (pv 7) (pe_lst (pa_cons (pe_tup (pa_cons (pe_tup (pa_cons pe_str (pa_cons (pv 3) (pa_cons (pv 2) pa_nil)))) (pa_cons pe_bl pa_nil))) (pa_cons (pe_tup (pa_cons (pe_tup (pa_cons pe_str (pa_cons (pe_tup (pa_cons pe_str (pa_cons pe_int (pa_cons pe_int pa_nil)))) (pa_cons (pe_tup (pa_cons pe_str (pa_cons (pv 5) (pa_cons pe_int pa_nil)))) pa_nil)))) (pa_cons pe_bl pa_nil))) pa_nil)))))
      (pss_cons (ps_expr (pe_bm PySem.F.plainAttrs_list PySem.F.slot_list_append PySem.F.type_list_append mt_append (pv 7) (pa_cons (pe_tup (pa_cons (pe_tup (pa_cons pe_str (pa_cons (pe_tup (pa_cons pe_str (pa_cons pe_int (pa_cons pe_int pa_nil)))) (pa_cons (pe_tup (pa_cons pe_str (pa_cons (pv 5) (pa_cons pe_int pa_nil)))) pa_nil)))) (pa_cons pe_bl pa_nil))) pa_nil)))
      (pss_cons (ps_expr (pe_bm PySem.F.plainAttrs_list PySem.F.slot_list_append PySem.F.type_list_append mt_append (pv 7) (pa_cons (pe_tup (pa_cons (pe_tup (pa_cons pe_str (pa_cons (pe_tup (pa_cons pe_str (pa_cons pe_int (pa_cons pe_int pa_nil)))) (pa_cons (pe_tup (pa_cons pe_str (pa_cons (pv 5) (pa_cons pe_int pa_nil)))) pa_nil)))) (pa_cons pe_str pa_nil))) pa_nil)))
      (pss_cons (ps_set (i := 7) sc.nd rfl (.inl rfl) (pe_op op_cat (pv 7) (pe_lst (pa_cons (pe_tup (pa_cons (pe_tup (pa_cons pe_str (pa_cons (pe_tup (pa_cons pe_str (pa_cons (pe_ix ix_list (pv 0) pe_int (fun _ _ => rfl)) pa_nil))) (pa_cons (pe_tup (pa_cons pe_str (pa_cons (pv 4) (pa_cons pe_int pa_nil)))) pa_nil)))) (pa_cons pe_str pa_nil))) (pa_cons (pe_tup (pa_cons (pe_tup (pa_cons pe_str (pa_cons (pe_ix ix_list (pv 0) pe_int (fun _ _ => rfl)) pa_nil))) (pa_cons pe_bl pa_nil))) pa_nil)))))
      (pss_cons (ps_set (i := 7) sc.nd rfl (.inl rfl) (pe_op op_cat (pv 7) (pe_lst (pa_cons (pe_tup (pa_cons (pe_tup (pa_cons pe_str (pa_cons (pe_tup (pa_cons pe_str (pa_cons (pe_ix ix_list (pv 0) pe_int (fun _ _ => rfl)) pa_nil))) pa_nil))) (pa_cons pe_bl pa_nil))) (pa_cons (pe_tup (pa_cons (pe_tup (pa_cons pe_str (pa_cons (pe_tup (pa_cons pe_str (pa_cons (pv 6) (pa_cons pe_int pa_nil)))) pa_nil))) (pa_cons pe_str pa_nil))) pa_nil)))))
      (pss_cons (ps_expr (pe_bm PySem.F.plainAttrs_list PySem.F.slot_list_append PySem.F.type_list_append mt_append (pv 7) (pa_cons (pe_tup (pa_cons (pe_tup (pa_cons pe_str (pa_cons (pe_ix ix_list (pv 0) pe_int (fun _ _ => rfl)) pa_nil))) (pa_cons pe_bl pa_nil))) pa_nil)))
      (pss_cons (ps_for PassesOwn.never rfl (pi_list (pv 7)) (pg_tup (by rfl) (pgs_cons (pg_name (i := 8) sc.nd rfl (.inl rfl)) (pgs_cons (pg_name (i := 9) sc.nd rfl (.inl rfl)) pgs_nil))) (pss_one (ps_if (pt_not (pt_val (pe_call G__law_same (hr.mono (by omega)) (by rfl) m__law_same k__law_same b__law_same .nil pass0 (pa_cons (pe_call G__law_told_of (hr.mono (by omega)) (by rfl) m__law_told_of k__law_told_of b__law_told_of .nil pass0 (pa_cons (pe_glob (v := .ref fh) (by rfl) m_holds rfl) (pa_cons (pv 8) (pa_cons (pv 1) pa_nil)))) (pa_cons (pe_ifExp (pt_val (pe_callB call_isi (by rfl) m_isinstance (by decide +kernel) (pa_cons (pv 9) (pa_cons (pe_bltn (v := .ty "str") (by rfl) m_str (by decide +kernel) rfl) pa_nil)))) (pe_tup (pa_cons pe_non (pa_cons (pv 9) pa_nil))) (pe_tup (pa_cons (pv 9) (pa_cons pe_non pa_nil)))) pa_nil))))) (pss_one (ps_ret pe_bl)) pss_nil)))
      (pss_one (ps_ret pe_bl)))))))))))), ?_⟩
  obtain ⟨w0, w1, w2, w3, rfl⟩ : ∃ w0 w1 w2 w3, ws = [w0, w1, w2, w3] := by
    match ws, hl with
    | [a, b, c, d], _ => exact ⟨a, b, c, d, rfl⟩
  have z2 : 2 ≤ sizeLine := by decide
  refine par3_ev (R := fun H v => LkAt K H v (.name w0)) (S := fun H v => LkAt K H v (.name w3)) (T := fun H v => LkAt K H v (.bin .over (.num 1) (.num 0))) (Same.refl H) (ev_name (ev_at (n := 0) (i := 0) rfl (SqL.of hp) ev_const rfl)) (ev_name (ev_at (n := 0) (i := 3) rfl (SqL.of hp) ev_const rfl))
    (ev_over (ev_num ev_const) (ev_num ev_const)) fun u6 u7 u8 G9 G10 G11 q9 q10 q11 r6 r7 r8 => ?_
  have r6' : LkAt K G11 u6 (.name w0) := r6.same (q10.trans q11)
  refine ⟨10, 6, rfl, rfl, ⟨by decide, by decide, by decide⟩, _, rfl, by show 3 ≤ sizeLine; decide, fun u9 n9 => ?_⟩
  obtain ⟨Hb, e9, q12, h9'⟩ := new_at (o := .tup [.str "plus", .int (10 ^ (6 : Int).toNat), u6]) n9
  rw [e9]
  have qb : Same H Hb := q9.trans (q10.trans (q11.trans q12))
  have h6 : LkAt K Hb u6 (.name w0) := r6'.same q12
  have h7 : LkAt K Hb u7 (.name w3) := r7.same (q11.trans q12)
  have h8 : LkAt K Hb u8 (.bin .over (.num 1) (.num 0)) := r8.same q12
  have h9 : LkAt K Hb (.ref u9) (.bin .plus (.num 1000000) (.name w0)) := .bin (.tup h9') (.num _) h6
  have hw : SqL K Hb p [.str w0, .str w1, .str w2, .str w3] := SqL.of (qb _ _ hp)
  obtain ⟨Y, hYe⟩ : ∃ Y, tyE K [w0, w1, w2, w3] low vals = Y := ⟨_, rfl⟩
  have hnd' : w0 ≠ w1 ∧ w0 ≠ w2 ∧ w0 ≠ w3 ∧ w1 ≠ w2 ∧ w1 ≠ w3 ∧ w2 ≠ w3 := by
    simp only [List.nodup_cons, List.mem_cons, List.not_mem_nil, or_false, not_or] at hnd
    exact ⟨hnd.1.1, hnd.1.2.1, hnd.1.2.2, hnd.2.1.1, hnd.2.1.2, hnd.2.2.1⟩
  obtain ⟨n01, n02, n03, n12, n13, n23⟩ := hnd'
  have nOwn : Y.names.lookup w0 = some low := by rw [← hYe]; exact look_yes _ _ _
  have nG3 : Y.names.lookup w3 = none := by rw [← hYe]; exact look_no2 (Ne.symm n03) (Ne.symm n03)
  have sMt : Y.met = [w2] := by rw [← hYe]; rfl
  have vOwn : val Y (.name w0) = .ok low := v_name nOwn (by omega) (by omega)
  have vGone : val Y (.name w3) = .error "none" := v_gone nG3
  have vN0 : val Y (.bin .over (.num 1) (.num 0)) = .error "nought" := v_bin0 (v_num (by decide) (by decide)) (v_num (by decide) (by decide)) rfl
  have vBey : val Y (.bin .plus (.num 1000000) (.name w0)) = .error "far" := v_binFar (v_num (by decide) (by decide)) vOwn rfl (.inr (by omega))
  have mW2 : hold Y (.meets w2) = .ok true := by
    show Except.ok (decide (w2 ∈ Y.met)) = _
    rw [sMt, decide_eq_true (List.mem_singleton.mpr rfl)]
  have mW3 : hold Y (.meets w3) = .ok false := by
    show Except.ok (decide (w3 ∈ Y.met)) = _
    rw [sMt, decide_eq_false (fun z => n23 (List.mem_singleton.mp z).symm)]
  have mW0 : hold Y (.meets w0) = .ok false := by
    show Except.ok (decide (w0 ∈ Y.met)) = _
    rw [sMt, decide_eq_false (fun z => n02 (List.mem_singleton.mp z))]
  have hE2 : Eyes K Hb ee Y := by rw [← hYe]; exact hE.same qb
  obtain ⟨σ0, hσ⟩ : ∃ σ0 : L2.St, σ0 = [some (.ref p), some (.ref ee), some (.int low), some u6, some u7, some u8, some (.ref u9), none, none, none] := ⟨_, rfl⟩
  have f0 : σ0[0]? = some (some (.ref p)) := by rw [hσ]; rfl
  have f2 : σ0[2]? = some (some (.int low)) := by rw [hσ]; rfl
  have f3 : σ0[3]? = some (some u6) := by rw [hσ]; rfl
  have f4 : σ0[4]? = some (some u7) := by rw [hσ]; rfl
  have f5 : σ0[5]? = some (some u8) := by rw [hσ]; rfl
  have f6 : σ0[6]? = some (some (.ref u9)) := by rw [hσ]; rfl
  have hsl : 7 < σ0.length := by rw [hσ]; exact Nat.lt_of_lt_of_le (by decide : 7 < 10) (Nat.le_of_eq rfl)
  dsimp only
  show tSeq _ _ _ [some (.ref p), some (.ref ee), some (.int low), some u6, some u7, some u8, some (.ref u9), none, none, none] Hb
  rw [← hσ]
  refine t_first (K := K) (Y := Y) (ps := [((.less (.name w0) (.name w3)), .error "none"), ((.like (.bin .over (.num 1) (.num 0)) (.name w3)), .error "nought"), ((.like (.num low) (.name w0)), .ok true)]) (Same.refl Hb) ?_ (Nat.le_of_ble_eq_true rfl) ?_ fun a1 K1 g1 => ?_
  · exact (evt_str (ev_below (evb_slot f3 h6) (evb_slot f4 h7)) (evt_str (ev_like (evb_slot f5 h8) (evb_slot f4 h7)) (evt_bl (ev_like (evb_num (ev_slot f2)) (evb_slot f3 h6)) evt_nil)))
  · exact (gt_cons (gt (h_less2 vOwn vGone)) (gt_cons (gt (h_like1 vN0)) (gt_cons (gt (h_like (v_num (by omega) (by omega)) vOwn (decide_eq_true rfl))) gt_nil)))
  refine t_more (K := K) (Y := Y) (ps := [((.less (.name w0) (.num low)), .ok false), ((.both (.less (.num 1) (.num 0)) (.like (.bin .over (.num 1) (.num 0)) (.num 1))), .ok false)]) hsl g1 (by decide) ?_ (Nat.le_of_ble_eq_true rfl) ?_ fun a2 K2 g2 => ?_
  · exact (evt_bl (ev_below (evb_slot (slotF f3 (by decide)) h6) (evb_num (ev_slot (slotF f2 (by decide))))) (evt_bl (ev_both (ev_below (evb_num ev_const) (evb_num ev_const)) (ev_like (evb_slot (slotF f5 (by decide)) h8) (evb_num ev_const))) evt_nil))
  · exact (gt_cons (gt (h_less vOwn (v_num (by omega) (by omega)) (decide_eq_false (Int.lt_irrefl _)))) (gt_cons (gt (h_bothF (h_less (v_num (by decide) (by decide)) (v_num (by decide) (by decide)) rfl))) gt_nil))
  refine t_app (K := K) (Y := Y) (p := ((.any_ (.like (.num 0) (.num 0)) (.like (.bin .over (.num 1) (.num 0)) (.num 1))), .ok true)) hsl g2 (by decide) ?_ ?_ fun K3 g3 => ?_
  · exact (evt_bl (ev_any (ev_like (evb_num ev_const) (evb_num ev_const)) (ev_like (evb_slot (slotF f5 (by decide)) h8) (evb_num ev_const))) evt_nil)
  · exact (gt (h_anyT (h_like (v_num (by decide) (by decide)) (v_num (by decide) (by decide)) rfl)))
  refine t_app (K := K) (Y := Y) (p := ((.both (.like (.num 0) (.num 0)) (.like (.bin .over (.num 1) (.num 0)) (.num 1))), .error "nought")) hsl g3 (by decide) ?_ ?_ fun K4 g4 => ?_
  · exact (evt_str (ev_both (ev_like (evb_num ev_const) (evb_num ev_const)) (ev_like (evb_slot (slotF f5 (by decide)) h8) (evb_num ev_const))) evt_nil)
  · exact (gt (h_both (h_like (v_num (by decide) (by decide)) (v_num (by decide) (by decide)) rfl) (h_like1 vN0)))
  refine t_more (K := K) (Y := Y) (ps := [((.any_ (.meets w3) (.less (.name w3) (.num 1))), .error "none"), ((.meets w2), .ok true)]) hsl g4 (by decide) ?_ (Nat.le_of_ble_eq_true rfl) ?_ fun a5 K5 g5 => ?_
  · exact (evt_str (ev_any (ev_meets (ev_at (v := .str w3) (slotF f0 (by decide)) hw ev_const rfl)) (ev_below (evb_slot (slotF f4 (by decide)) h7) (evb_num ev_const))) (evt_bl (ev_meets (ev_at (v := .str w2) (slotF f0 (by decide)) hw ev_const rfl)) evt_nil))
  · exact (gt_cons (gt (h_any mW3 (h_less1 vGone))) (gt_cons (gt mW2) gt_nil))
  refine t_more (K := K) (Y := Y) (ps := [((.not_ (.meets w2)), .ok false), ((.not_ (.like (.bin .plus (.num 1000000) (.name w0)) (.num 1))), .error "far")]) hsl g5 (by decide) ?_ (Nat.le_of_ble_eq_true rfl) ?_ fun a6 K6 g6 => ?_
  · exact (evt_bl (ev_not (ev_meets (ev_at (v := .str w2) (slotF f0 (by decide)) hw ev_const rfl))) (evt_str (ev_not (ev_like (evb_slot (slotF f6 (by decide)) h9) (evb_num ev_const))) evt_nil))
  · exact (gt_cons (gt (h_not mW2)) (gt_cons (gt (h_notE (h_like1 vBey))) gt_nil))
  refine t_app (K := K) (Y := Y) (p := ((.meets w0), .ok false)) hsl g6 (by decide) ?_ ?_ fun K7 g7 => ?_
  · exact (evt_bl (ev_meets (ev_at (v := .str w0) (slotF f0 (by decide)) hw ev_const rfl)) evt_nil)
  · exact (gt mW0)
  subst hσ
  obtain ⟨na, c7, vs, ps, hvs, hpr, hlen, hgood⟩ := g7
  show tSeq _ _ _ [some (.ref p), some (.ref ee), some (.int low), some u6, some u7, some u8, some (.ref u9), some (.ref a6), none, none] K7
  refine ⟨_, rfl, a6, rfl, ⟨_, SqL.of hvs⟩, for_it (walk_list (K := K) (a := a6) (xs := vs)) (fun i σ H' => Same K7 H' ∧ ∃ x8 x9, σ = [some (.ref p), some (.ref ee), some (.int low), some u6, some u7, some u8, some (.ref u9), some (.ref a6), x8, x9])
    ⟨Same.refl _, none, none, rfl⟩ (fun i σ H' _ h => h.1.seq (SqL.of hvs)) ?_ ?_⟩
  · rintro i v σ H5 H5' hi ⟨sm, x12, x13, rfl⟩ ⟨rfl, ev⟩
    obtain ⟨⟨t, r⟩, ep, b, u, rfl, hb, hL⟩ := paired_at hpr ev
    obtain ⟨hval, hdeep⟩ := hgood _ (List.mem_of_getElem? ep)
    dsimp only at hval hdeep hb hL
    have hL5 := (hL.at c7).same sm
    have hE5 : Eyes K H5' ee Y := hE2.same (c7.trans sm)
    refine ⟨b, _, rfl, .inl (.inl (sm _ _ hb)), rfl, _, _, rfl, _, _, rfl, rfl, ?_⟩
    refine ⟨_, rfl, _, rfl, fh, u, ee, spHold K C 6, rfl, HH, fun H0 Q' E' s0 ok er => ⟨u, ee, t, Y, rfl, hL5.same s0, hdeep, hE5.same s0, ?_⟩⟩
    rw [hval]
    cases r with
    | ok j =>
      refine ok _ _ fun p2 H2 s2' h2' => ?_
      refine ⟨_, rfl, _, _, .type "bool", _, false, rfl, .ty _, .base (.bl j), kit_ty (by decide +kernel), _, rfl, iteF ⟨_, rfl, z2, fun t nt => ?_⟩⟩
      refine ⟨.ref p2, .ref t, .tuple [.bool j, .none], rfl, .tup (SqT.of (same_upd nt _ _ h2')) (.cons (.bl j) (.cons .non .nil)), .tup (SqT.of upd_same) (.cons (.bl j) (.cons .non .nil)), okd2 trivial trivial, fun H3 s3' => ?_⟩
      exact ⟨_, rfl, iteF ⟨sm.trans (s0.trans (s2'.trans ((same_upd nt).trans s3'))), _, _, rfl⟩⟩
    | error z =>
      refine fun d nd => er _ _ _ ⟨rfl, d, z, rfl, upd_same, fun p2 H2 s2' h2' => ?_⟩
      refine ⟨_, rfl, _, _, .type "str", _, true, rfl, .ty _, .base (.str z), kit_ty (by decide +kernel), _, rfl, iteT ⟨_, rfl, z2, fun t nt => ?_⟩⟩
      refine ⟨.ref p2, .ref t, .tuple [.none, .str z], rfl, .tup (SqT.of (same_upd nt _ _ h2')) (.cons .non (.cons (.str z) .nil)), .tup (SqT.of upd_same) (.cons .non (.cons (.str z) .nil)), okd2 trivial trivial, fun H3 s3' => ?_⟩
      exact ⟨_, rfl, iteF ⟨sm.trans (s0.trans ((same_upd nd).trans (s2'.trans ((same_upd nt).trans s3')))), _, _, rfl⟩⟩
  · rintro σ H5 ⟨sm, x12, x13, rfl⟩
    exact q _ (qb.trans (c7.trans sm))
end
end Fd

set_option Elab.async false
set_option linter.all false
set_option maxRecDepth 100000
set_option maxHeartbeats 4000000
namespace Fd
open PySem PySem.Spec PyProof.Rows L2
section
variable {P : Program} {w : World} {K : PySem.W.Frag} {mg : Str → Option Value} {base : Heap} {f C fI fv fh : Addr} {fd : FuncData}
abbrev sLaw : Stmt := top 29
theorem scLaw : FnScope ["_law_script", "_law_cells", "_law_k"] ["_law_script"] (defScope sLaw) := ⟨rfl, rfl, rfl, by decide +kernel, rfl, by decide +kernel, by decide +kernel⟩
def spLaw (K : PySem.W.Frag) : Sp := fun vs H Q _ => ∃ (a : Addr) (ns : List Int), vs = [.ref a] ∧ SqL K H a (ns.map V.int) ∧ ns.length ≤ 63 ∧ ∀ H', Q (.bl true) H'
theorem ok_law {k : Nat} (F : Fun K "law" "law" sLaw f fd) (GF : FnG P w K mg base CX0 k "_law_folded" ["_law_script", "_law_many"] (spFolded K)) (GD : FnG P w K mg base CX0 k "_law_draws" ["_law_script", "_law_k"] (spDraws K))
    (GR : FnG P w K mg base CX0 k "_law_right" ["_law_box"] spRight) (m_len : mg "len" = none) (m_range : mg "range" = none) (m_all : mg "all" = none) : FnOk P w K mg base CX0 (k + 1) f fd ["_law_script"] (spLaw K) := by
  obtain ⟨_, _, G__law_folded, m__law_folded, k__law_folded, b__law_folded⟩ := GF
  obtain ⟨_, _, G__law_draws, m__law_draws, k__law_draws, b__law_draws⟩ := GD
  obtain ⟨_, _, G__law_right, m__law_right, k__law_right, b__law_right⟩ := GR
  have sc := scLaw
  refine F.ok sc (fun vs H Q E h => ?_) (fun cdv A outer s H vs Q E hr h => ?_)
  · obtain ⟨a, ns, rfl, _⟩ := h
    rfl
  obtain ⟨a, ns, rfl, hS, hl, q⟩ := h
  refine ⟨_, (pss_cons (ps_set (i := 1) sc.nd rfl (.inr rfl) (pe_call G__law_folded (hr.mono (by omega)) (by rfl) m__law_folded k__law_folded b__law_folded .nil pass0 (pa_cons (pv 0) (pa_cons pe_int pa_nil))))
      (pss_one (ps_ret (pe_callB (cr_all rfl) (by rfl) m_all (by decide +kernel) (pa_cons (pe_lc (own := [("_law_k", 2)]) (by rfl) sc.nd  (pi_range1 (by rfl) m_range (pa_cons (pe_callB call_len_seq (by rfl) m_len (by decide +kernel) (pa_cons (pv 1) pa_nil)) pa_nil)) (blkOk_by (own := [("_law_k", 2)]) (N := ["_law_script", "_law_cells", "_law_k"]) (sc := defScope sLaw) (by decide +kernel)) (fun _ _ _ _ _ => (pg_name (i := 2) sc.nd rfl (.inl rfl))) (fun _ _ _ _ _ => pts_nil) (fun _ _ _ _ _ => (pe_call G__law_right (hr.mono (by omega)) (by rfl) m__law_right k__law_right b__law_right .nil pass0 (pa_cons (pe_call G__law_draws (hr.mono (by omega)) (by rfl) m__law_draws k__law_draws b__law_draws .nil pass0 (pa_cons (pv 1) (pa_cons (pv 2) pa_nil))) pa_nil)))) pa_nil))))), ?_⟩
  refine ⟨_, rfl, a, 5, ns, rfl, hS, hl, by decide, by decide, fun p ms H1 s1 hp mn ml => ?_⟩
  refine ⟨_, rfl, p, _, rfl, .inl (SqL.of hp), _, rfl, by omega, by rw [List.length_map]; omega, fun D nD => lc_it walk_range (fun i H' => Same H1 H' ∧ H' D = some (.lst (List.replicate i (.bl true)))) ⟨same_upd nD, upd_same⟩ (fun _ _ _ _ => trivial) ?_ ?_⟩
  · rintro i x H2 _ hi ⟨s2, hD⟩ ⟨rfl, ex⟩
    obtain rfl : x = V.int i := ex.trans (congrArg V.int (Int.zero_add _))
    have hi' : i < ms.length := by
      rw [List.length_map] at hi
      omega
    refine ⟨rfl, ?_⟩
    unfold tYes
    refine iteT ⟨_, rfl, _, rfl, p, i, ms, rfl, SqL.of (s2 _ _ hp), by omega, fun b H3 s3 nb B => ⟨b, rfl, B, fun H4 s4 => ?_⟩⟩
    have s24 : ∀ c o, c ≠ b → _ := fun c o (hc : c ≠ b) (h : _) => s4 c o hc (s3 c o h)
    have bD : D ≠ b := fun z => by rw [← z, hD] at nb; cases nb
    refine ⟨_, s24 _ _ bD hD, ?_, fun c o h => ?_, ?_⟩
    · rw [List.length_replicate]
      exact small1000 (by omega)
    · rw [upd_ne (fun z => by rw [z, nD] at h; cases h)]
      exact s24 _ _ (ne_of_none (s2 _ _ h) nb) (s2 _ _ h)
    · rw [upd_same, List.replicate_succ']
  · rintro H2 ⟨s2, hD⟩
    refine ⟨D, List.replicate _ true, rfl, SqL.of (by rw [hD, List.map_replicate]), ?_⟩
    rw [all_rep]
    exact q _
end
end Fd

open PySem PySem.W PyProof.Rows
set_option Elab.async false
set_option linter.all false
set_option maxRecDepth 100000
set_option maxHeartbeats 8000000
namespace Fd
open PySem PySem.Spec PyProof.Rows L2
theorem kit_rt {K : PySem.W.Frag} {C : Addr} (h : PySem.W.subIn K (.ref C) (.type "RuntimeError") = some true) : PySem.W.kitOne K (.ref C) (.type "RuntimeError") = some true := by
  unfold PySem.W.kitOne
  rw [if_neg (by intro z; exact nomatch (beq_iff_eq.mp z))]
  show (if PySem.W.kitMeta "RuntimeError" = true then PySem.W.subIn K (.ref C) (.type "RuntimeError") else none) = some true
  rw [if_pos (by decide +kernel), h]
def pick (a b c d e : Addr) : BOp → Addr
  | .plus => a | .minus => b | .by_ => c | .over => d | .rest => e
theorem all_mk {l : PySem.W.OpenLaw} {w : World} {K : PySem.W.Frag} {h : Heap} {mg : Str → Option Value} {fa C fI sp sm f1 f2 f3 f4 f5 f6 f7 f8 f9 f10 f11 f12 f13 f14 f15 f16 f17 f18 f19 f20 f21 f22 : Addr} (X : K.In h) (G : h.Ns mainGlobals mg) (hfa : mg "law" = some (.ref fa))
    {od0 an0 od1 an1 od2 an2 od3 an3 od4 an4 od5 an5 od6 an6 od7 an7 od8 an8 od9 an9 od10 an10 od11 an11 od12 an12 od13 an13 od14 an14 od15 an15 od16 an16 od17 an17 od18 an18 od19 an19 od20 an20 od21 an21 od22 an22 : Option Addr} {sl0 sl1 sl2 sl3 sl4 sl5 sl6 sl7 sl8 sl9 sl10 sl11 sl12 sl13 sl14 sl15 sl16 sl17 sl18 sl19 sl20 sl21 sl22 slP : Array (Option Value)} {oc0 dc0 pm0 cd0 ct0 oc1 kV1 dc1 pm1 cd1 ct1 oc2 kV2 dc2 pm2 cd2 ct2 oc3 kV3 dc3 pm3 cd3 ct3 oc4 kV4 dc4 pm4 cd4 ct4 oc5 kV5 dc5 pm5 cd5 ct5 oc6 kV6 dc6 pm6 cd6 ct6 oc7 kV7 dc7 pm7 cd7 ct7 oc8 kV8 dc8 pm8 cd8 ct8 oc9 kV9 dc9 pm9 cd9 ct9 oc10 kV10 dc10 pm10 cd10 ct10 oc11 kV11 dc11 pm11 cd11 ct11 oc12 kV12 dc12 pm12 cd12 ct12 oc13 kV13 dc13 pm13 cd13 ct13 oc14 kV14 dc14 pm14 cd14 ct14 oc15 kV15 dc15 pm15 cd15 ct15 oc16 kV16 dc16 pm16 cd16 ct16 oc17 kV17 dc17 pm17 cd17 ct17 oc18 kV18 dc18 pm18 cd18 ct18 oc19 kV19 dc19 pm19 cd19 ct19 oc20 kV20 dc20 pm20 cd20 ct20 oc21 kV21 dc21 pm21 cd21 ct21 oc22 kV22 dc22 pm22 cd22 ct22 : Value}
    {nm q : Str} {N : Addr} {bs : List Value} {sn : List Str} {sub : List Value} {ab : Bool} {col : Option Bool} {dd : Option Addr} {m0 m1 m2 m3 m5 : Option Value} {es : Array DictEntry} {nS nP : Nat} {its : Array Value} {t1 t2 : Tok}
    (a1 : PySem.W.nsIn K mainGlobals "is_number" = some (some (.ref f1)))
    (l1 : K.lookup f1 = some ⟨oc1, od1, .func (PySem.W.fnOf "is_number" "is_number" (defArgs sIsNum) (defBody sIsNum) (defScope sIsNum) .none kV1 dc1 pm1 an1 cd1 ct1), sl1⟩)
    (c1 : PySem.W.codeIn K cd1 "is_number" = true)
    (k1 : PySem.W.keepIn K (.ref f1) = true)
    (a2 : PySem.W.nsIn K mainGlobals "is_value" = some (some (.ref f2)))
    (l2 : K.lookup f2 = some ⟨oc2, od2, .func (PySem.W.fnOf "is_value" "is_value" (defArgs sIsVal) (defBody sIsVal) (defScope sIsVal) .none kV2 dc2 pm2 an2 cd2 ct2), sl2⟩)
    (c2 : PySem.W.codeIn K cd2 "is_value" = true)
    (k2 : PySem.W.keepIn K (.ref f2) = true)
    (a3 : PySem.W.nsIn K mainGlobals "plus" = some (some (.ref f3)))
    (l3 : K.lookup f3 = some ⟨oc3, od3, .func (PySem.W.fnOf "plus" "plus" (defArgs sPlus) (defBody sPlus) (defScope sPlus) .none kV3 dc3 pm3 an3 cd3 ct3), sl3⟩)
    (c3 : PySem.W.codeIn K cd3 "plus" = true)
    (k3 : PySem.W.keepIn K (.ref f3) = true)
    (a4 : PySem.W.nsIn K mainGlobals "minus" = some (some (.ref f4)))
    (l4 : K.lookup f4 = some ⟨oc4, od4, .func (PySem.W.fnOf "minus" "minus" (defArgs sMinus) (defBody sMinus) (defScope sMinus) .none kV4 dc4 pm4 an4 cd4 ct4), sl4⟩)
    (c4 : PySem.W.codeIn K cd4 "minus" = true)
    (k4 : PySem.W.keepIn K (.ref f4) = true)
    (a5 : PySem.W.nsIn K mainGlobals "by" = some (some (.ref f5)))
    (l5 : K.lookup f5 = some ⟨oc5, od5, .func (PySem.W.fnOf "by" "by" (defArgs sBy) (defBody sBy) (defScope sBy) .none kV5 dc5 pm5 an5 cd5 ct5), sl5⟩)
    (c5 : PySem.W.codeIn K cd5 "by" = true)
    (k5 : PySem.W.keepIn K (.ref f5) = true)
    (a6 : PySem.W.nsIn K mainGlobals "over" = some (some (.ref f6)))
    (l6 : K.lookup f6 = some ⟨oc6, od6, .func (PySem.W.fnOf "over" "over" (defArgs sOver) (defBody sOver) (defScope sOver) .none kV6 dc6 pm6 an6 cd6 ct6), sl6⟩)
    (c6 : PySem.W.codeIn K cd6 "over" = true)
    (k6 : PySem.W.keepIn K (.ref f6) = true)
    (a7 : PySem.W.nsIn K mainGlobals "rest" = some (some (.ref f7)))
    (l7 : K.lookup f7 = some ⟨oc7, od7, .func (PySem.W.fnOf "rest" "rest" (defArgs sRest) (defBody sRest) (defScope sRest) .none kV7 dc7 pm7 an7 cd7 ct7), sl7⟩)
    (c7 : PySem.W.codeIn K cd7 "rest" = true)
    (k7 : PySem.W.keepIn K (.ref f7) = true)
    (a8 : PySem.W.nsIn K mainGlobals "value_of" = some (some (.ref f8)))
    (l8 : K.lookup f8 = some ⟨oc8, od8, .func (PySem.W.fnOf "value_of" "value_of" (defArgs sVal) (defBody sVal) (defScope sVal) .none kV8 dc8 pm8 an8 cd8 ct8), sl8⟩)
    (c8 : PySem.W.codeIn K cd8 "value_of" = true)
    (k8 : PySem.W.keepIn K (.ref f8) = true)
    (a9 : PySem.W.nsIn K mainGlobals "outcome" = some (some (.ref f9)))
    (l9 : K.lookup f9 = some ⟨oc9, od9, .func (PySem.W.fnOf "outcome" "outcome" (defArgs sOut) (defBody sOut) (defScope sOut) .none kV9 dc9 pm9 an9 cd9 ct9), sl9⟩)
    (c9 : PySem.W.codeIn K cd9 "outcome" = true)
    (k9 : PySem.W.keepIn K (.ref f9) = true)
    (a10 : PySem.W.nsIn K mainGlobals "first_of" = some (some (.ref f10)))
    (l10 : K.lookup f10 = some ⟨oc10, od10, .func (PySem.W.fnOf "first_of" "first_of" (defArgs sFirst) (defBody sFirst) (defScope sFirst) .none kV10 dc10 pm10 an10 cd10 ct10), sl10⟩)
    (c10 : PySem.W.codeIn K cd10 "first_of" = true)
    (k10 : PySem.W.keepIn K (.ref f10) = true)
    (a11 : PySem.W.nsIn K mainGlobals "place_in" = some (some (.ref f11)))
    (l11 : K.lookup f11 = some ⟨oc11, od11, .func (PySem.W.fnOf "place_in" "place_in" (defArgs sPlace) (defBody sPlace) (defScope sPlace) .none kV11 dc11 pm11 an11 cd11 ct11), sl11⟩)
    (c11 : PySem.W.codeIn K cd11 "place_in" = true)
    (k11 : PySem.W.keepIn K (.ref f11) = true)
    (a12 : PySem.W.nsIn K mainGlobals "holds" = some (some (.ref f12)))
    (l12 : K.lookup f12 = some ⟨oc12, od12, .func (PySem.W.fnOf "holds" "holds" (defArgs sHolds) (defBody sHolds) (defScope sHolds) .none kV12 dc12 pm12 an12 cd12 ct12), sl12⟩)
    (c12 : PySem.W.codeIn K cd12 "holds" = true)
    (k12 : PySem.W.keepIn K (.ref f12) = true)
    (a13 : PySem.W.nsIn K mainGlobals "_law_folded" = some (some (.ref f13)))
    (l13 : K.lookup f13 = some ⟨oc13, od13, .func (PySem.W.fnOf "_law_folded" "_law_folded" (defArgs sFolded) (defBody sFolded) (defScope sFolded) .none kV13 dc13 pm13 an13 cd13 ct13), sl13⟩)
    (c13 : PySem.W.codeIn K cd13 "_law_folded" = true)
    (k13 : PySem.W.keepIn K (.ref f13) = true)
    (a14 : PySem.W.nsIn K mainGlobals "_law_draws" = some (some (.ref f14)))
    (l14 : K.lookup f14 = some ⟨oc14, od14, .func (PySem.W.fnOf "_law_draws" "_law_draws" (defArgs sDraws) (defBody sDraws) (defScope sDraws) .none kV14 dc14 pm14 an14 cd14 ct14), sl14⟩)
    (c14 : PySem.W.codeIn K cd14 "_law_draws" = true)
    (k14 : PySem.W.keepIn K (.ref f14) = true)
    (a15 : PySem.W.nsIn K mainGlobals "_law_take" = some (some (.ref f15)))
    (l15 : K.lookup f15 = some ⟨oc15, od15, .func (PySem.W.fnOf "_law_take" "_law_take" (defArgs sTake) (defBody sTake) (defScope sTake) .none kV15 dc15 pm15 an15 cd15 ct15), sl15⟩)
    (c15 : PySem.W.codeIn K cd15 "_law_take" = true)
    (k15 : PySem.W.keepIn K (.ref f15) = true)
    (a16 : PySem.W.nsIn K mainGlobals "_law_same" = some (some (.ref f16)))
    (l16 : K.lookup f16 = some ⟨oc16, od16, .func (PySem.W.fnOf "_law_same" "_law_same" (defArgs sSame) (defBody sSame) (defScope sSame) .none kV16 dc16 pm16 an16 cd16 ct16), sl16⟩)
    (c16 : PySem.W.codeIn K cd16 "_law_same" = true)
    (k16 : PySem.W.keepIn K (.ref f16) = true)
    (a17 : PySem.W.nsIn K mainGlobals "_law_names" = some (some (.ref f17)))
    (l17 : K.lookup f17 = some ⟨oc17, od17, .func (PySem.W.fnOf "_law_names" "_law_names" (defArgs sNames) (defBody sNames) (defScope sNames) .none kV17 dc17 pm17 an17 cd17 ct17), sl17⟩)
    (c17 : PySem.W.codeIn K cd17 "_law_names" = true)
    (k17 : PySem.W.keepIn K (.ref f17) = true)
    (a18 : PySem.W.nsIn K mainGlobals "_law_a_value" = some (some (.ref f18)))
    (l18 : K.lookup f18 = some ⟨oc18, od18, .func (PySem.W.fnOf "_law_a_value" "_law_a_value" (defArgs sAValue) (defBody sAValue) (defScope sAValue) .none kV18 dc18 pm18 an18 cd18 ct18), sl18⟩)
    (c18 : PySem.W.codeIn K cd18 "_law_a_value" = true)
    (k18 : PySem.W.keepIn K (.ref f18) = true)
    (a19 : PySem.W.nsIn K mainGlobals "_law_told_of" = some (some (.ref f19)))
    (l19 : K.lookup f19 = some ⟨oc19, od19, .func (PySem.W.fnOf "_law_told_of" "_law_told_of" (defArgs sTold) (defBody sTold) (defScope sTold) .none kV19 dc19 pm19 an19 cd19 ct19), sl19⟩)
    (c19 : PySem.W.codeIn K cd19 "_law_told_of" = true)
    (k19 : PySem.W.keepIn K (.ref f19) = true)
    (a20 : PySem.W.nsIn K mainGlobals "_law_right" = some (some (.ref f20)))
    (l20 : K.lookup f20 = some ⟨oc20, od20, .func (PySem.W.fnOf "_law_right" "_law_right" (defArgs sRight) (defBody sRight) (defScope sRight) .none kV20 dc20 pm20 an20 cd20 ct20), sl20⟩)
    (c20 : PySem.W.codeIn K cd20 "_law_right" = true)
    (k20 : PySem.W.keepIn K (.ref f20) = true)
    (a21 : PySem.W.nsIn K mainGlobals "_law_tests_right" = some (some (.ref f21)))
    (l21 : K.lookup f21 = some ⟨oc21, od21, .func (PySem.W.fnOf "_law_tests_right" "_law_tests_right" (defArgs sTests) (defBody sTests) (defScope sTests) .none kV21 dc21 pm21 an21 cd21 ct21), sl21⟩)
    (c21 : PySem.W.codeIn K cd21 "_law_tests_right" = true)
    (k21 : PySem.W.keepIn K (.ref f21) = true)
    (a22 : PySem.W.nsIn K mainGlobals "law" = some (some (.ref f22)))
    (l22 : K.lookup f22 = some ⟨oc22, od22, .func (PySem.W.fnOf "law" "law" (defArgs sLaw) (defBody sLaw) (defScope sLaw) .none kV22 dc22 pm22 an22 cd22 ct22), sl22⟩)
    (c22 : PySem.W.codeIn K cd22 "law" = true)
    (k22 : PySem.W.keepIn K (.ref f22) = true)
    (z_len : PySem.W.nsIn K mainGlobals "len" = some none)
    (z_abs : PySem.W.nsIn K mainGlobals "abs" = some none)
    (z_int : PySem.W.nsIn K mainGlobals "int" = some none)
    (z_divmod : PySem.W.nsIn K mainGlobals "divmod" = some none)
    (z_list : PySem.W.nsIn K mainGlobals "list" = some none)
    (z_enumerate : PySem.W.nsIn K mainGlobals "enumerate" = some none)
    (z_isinstance : PySem.W.nsIn K mainGlobals "isinstance" = some none)
    (z_tuple : PySem.W.nsIn K mainGlobals "tuple" = some none)
    (z_all : PySem.W.nsIn K mainGlobals "all" = some none)
    (z_zip : PySem.W.nsIn K mainGlobals "zip" = some none)
    (z_str : PySem.W.nsIn K mainGlobals "str" = some none)
    (z_bool : PySem.W.nsIn K mainGlobals "bool" = some none)
    (z_range : PySem.W.nsIn K mainGlobals "range" = some none)
    (z_RuntimeError : PySem.W.nsIn K mainGlobals "RuntimeError" = some none)
    (aLV : PySem.W.nsIn K mainGlobals "LEAST_VALUE" = some (some (.int (-1000000) t1)))
    (aMV : PySem.W.nsIn K mainGlobals "MOST_VALUE" = some (some (.int 1000000 t2)))
    (aP : PySem.W.nsIn K mainGlobals "SPOT_WORDS" = some (some (.ref sp)))
    (lP : K.lookup sp = some ⟨.type "tuple", none, .seq its nP, slP⟩)
    (vP : Vals (spotWords.map V.str) its.toList)
    (gP : its.size ≤ sizeLine)
    (aS : PySem.W.nsIn K mainGlobals "SUMS" = some (some (.ref sm)))
    (lS : K.lookup sm = some ⟨.type "dict", none, .dict es nS, #[]⟩)
    (kS : PySem.W.KeysLit w.params es.toList)
    (n_plus : PySem.W.nsIn K sm "plus" = some (some (.ref f3)))
    (n_minus : PySem.W.nsIn K sm "minus" = some (some (.ref f4)))
    (n_by : PySem.W.nsIn K sm "by" = some (some (.ref f5)))
    (n_over : PySem.W.nsIn K sm "over" = some (some (.ref f6)))
    (n_rest : PySem.W.nsIn K sm "rest" = some (some (.ref f7)))
    (aC : PySem.W.nsIn K mainGlobals "Fell" = some (some (.ref C)))
    (xL : K.lookup C = some (excClassObj nm q C N bs [.type "RuntimeError", .type "Exception", .type "BaseException", .type "object"] true sn sub ab col dd m0 m1 m2 m3 m5 "RuntimeError.__new__"))
    (sa : PySem.W.findIn K (.ref C) "__setattr__" = some (some (.builtin "object.__setattr__")))
    (ga : PySem.W.findIn K (.ref C) "__getattribute__" = some (some (.builtin "BaseException.__getattribute__")))
    (gg : PySem.W.findIn K (.ref C) "__getattr__" = some none)
    (nb : PySem.W.findIn K (.ref C) "word" = some none)
    (ac : PySem.W.findIn K (.ref C) "__class__" = some (some (.builtin "object.__class__")))
    (sg : PySem.W.specialIn K (.builtin "object.__class__") "__get__" = some (some (.builtin "getset_descriptor.__get__")))
    (tk : PySem.W.takesIn K (.builtin "object.__class__") = some true)
    (mo : PySem.W.mroIn K C (.type "object") = some true)
    (sr : PySem.W.subIn K (.ref C) (.type "RuntimeError") = some true)
    (aI : PySem.W.findIn K (.ref C) "__init__" = some (some (.ref fI)))
    (tI : PySem.W.typeIn K (.ref fI) = some (.type "function"))
    (lI : K.lookup fI = some ⟨oc0, od0, .func (PySem.W.fnOf "__init__" "Fell.__init__" (PySem.FellX.iA ⟨4, 17, 4, 21⟩ ⟨4, 23, 4, 27⟩) (PySem.FellX.iB ⟨5, 8, 5, 12⟩ ⟨5, 8, 5, 17⟩ ⟨5, 20, 5, 24⟩ ⟨5, 8, 5, 24⟩) PySem.FellX.iS .none .none dc0 pm0 an0 cd0 ct0), sl0⟩)
    (cI : PySem.W.codeIn K cd0 "Fell.__init__" = true)
    (kC : PySem.W.keepIn K (.ref C) = true)
    (eC : PySem.W.subIn K (.ref C) (.type "BaseException") = some true)
    (tC : PySem.W.typeIn K (.ref C) = some (.type "type"))
    (hC : PySem.W.hasDictIn K C = true)
    (sC : PySem.W.subIn K (.ref C) (.ref C) = some true)
    : ∃ fd : FuncData, (∀ (s : Shared) (v : Value), BindsTo s fd ⟨[v], []⟩ [("_law_script", v)]) ∧ ∀ base : Heap, K.In base → base.Ns mainGlobals mg → FnOk l.prog w K mg base CX0 40 fa fd ["_law_script"] (spLaw K) := by
  have e := hfa.symm.trans (PySem.W.mg_of X G a22)
  cases e
  have T : PySem.FellX.FellTxt K mg C fI :=
    { gC := PySem.W.mg_of X G aC, cls := ⟨nm, q, N, bs, _, sn, sub, ab, col, dd, m0, m1, m2, m3, m5, xL, rfl⟩, sa := sa, ga := ga, gg := gg, noN := nb, iC := aI, tC := tI, kC := kC, exC := eC, tyC := tC, hdC := hC,
      te := PySem.W.exm_ref eC hC tC sC, fn := ⟨_, _, _, _, _, _, _, _, _, _, _, _, _, _, lI, cI⟩ }
  have EC : ErrC K C := { ga := ga, gg := gg, exC := eC, hdC := hC, ac := ac, sg := sg, tk := tk, mo := mo }
  have F1 := fun_mk (st := sIsNum) l1 c1 k1
  have D1 : Df K mg "is_number" sIsNum ["thing"] f1 _ := ⟨F1, PySem.W.mg_of X G a1, F1.binds fun _ _ _ _ _ _ us hl => match us, hl with | [_], _ => rfl⟩
  have F2 := fun_mk (st := sIsVal) l2 c2 k2
  have D2 : Df K mg "is_value" sIsVal ["thing"] f2 _ := ⟨F2, PySem.W.mg_of X G a2, F2.binds fun _ _ _ _ _ _ us hl => match us, hl with | [_], _ => rfl⟩
  have F3 := fun_mk (st := sPlus) l3 c3 k3
  have D3 : Df K mg "plus" sPlus ["first", "second"] f3 _ := ⟨F3, PySem.W.mg_of X G a3, F3.binds fun _ _ _ _ _ _ us hl => match us, hl with | [_, _], _ => rfl⟩
  have F4 := fun_mk (st := sMinus) l4 c4 k4
  have D4 : Df K mg "minus" sMinus ["first", "second"] f4 _ := ⟨F4, PySem.W.mg_of X G a4, F4.binds fun _ _ _ _ _ _ us hl => match us, hl with | [_, _], _ => rfl⟩
  have F5 := fun_mk (st := sBy) l5 c5 k5
  have D5 : Df K mg "by" sBy ["first", "second"] f5 _ := ⟨F5, PySem.W.mg_of X G a5, F5.binds fun _ _ _ _ _ _ us hl => match us, hl with | [_, _], _ => rfl⟩
  have F6 := fun_mk (st := sOver) l6 c6 k6
  have D6 : Df K mg "over" sOver ["first", "second"] f6 _ := ⟨F6, PySem.W.mg_of X G a6, F6.binds fun _ _ _ _ _ _ us hl => match us, hl with | [_, _], _ => rfl⟩
  have F7 := fun_mk (st := sRest) l7 c7 k7
  have D7 : Df K mg "rest" sRest ["first", "second"] f7 _ := ⟨F7, PySem.W.mg_of X G a7, F7.binds fun _ _ _ _ _ _ us hl => match us, hl with | [_, _], _ => rfl⟩
  have F8 := fun_mk (st := sVal) l8 c8 k8
  have D8 : Df K mg "value_of" sVal ["look", "eyes"] f8 _ := ⟨F8, PySem.W.mg_of X G a8, F8.binds fun _ _ _ _ _ _ us hl => match us, hl with | [_, _], _ => rfl⟩
  have F9 := fun_mk (st := sOut) l9 c9 k9
  have D9 : Df K mg "outcome" sOut ["look", "eyes"] f9 _ := ⟨F9, PySem.W.mg_of X G a9, F9.binds fun _ _ _ _ _ _ us hl => match us, hl with | [_, _], _ => rfl⟩
  have F10 := fun_mk (st := sFirst) l10 c10 k10
  have D10 : Df K mg "first_of" sFirst ["pairs", "name"] f10 _ := ⟨F10, PySem.W.mg_of X G a10, F10.binds fun _ _ _ _ _ _ us hl => match us, hl with | [_, _], _ => rfl⟩
  have F11 := fun_mk (st := sPlace) l11 c11 k11
  have D11 : Df K mg "place_in" sPlace ["row", "place"] f11 _ := ⟨F11, PySem.W.mg_of X G a11, F11.binds fun _ _ _ _ _ _ us hl => match us, hl with | [_, _], _ => rfl⟩
  have F12 := fun_mk (st := sHolds) l12 c12 k12
  have D12 : Df K mg "holds" sHolds ["test", "eyes"] f12 _ := ⟨F12, PySem.W.mg_of X G a12, F12.binds fun _ _ _ _ _ _ us hl => match us, hl with | [_, _], _ => rfl⟩
  have F13 := fun_mk (st := sFolded) l13 c13 k13
  have D13 : Df K mg "_law_folded" sFolded ["_law_script", "_law_many"] f13 _ := ⟨F13, PySem.W.mg_of X G a13, F13.binds fun _ _ _ _ _ _ us hl => match us, hl with | [_, _], _ => rfl⟩
  have F14 := fun_mk (st := sDraws) l14 c14 k14
  have D14 : Df K mg "_law_draws" sDraws ["_law_script", "_law_k"] f14 _ := ⟨F14, PySem.W.mg_of X G a14, F14.binds fun _ _ _ _ _ _ us hl => match us, hl with | [_, _], _ => rfl⟩
  have F15 := fun_mk (st := sTake) l15 c15 k15
  have D15 : Df K mg "_law_take" sTake ["_law_box", "_law_many"] f15 _ := ⟨F15, PySem.W.mg_of X G a15, F15.binds fun _ _ _ _ _ _ us hl => match us, hl with | [_, _], _ => rfl⟩
  have F16 := fun_mk (st := sSame) l16 c16 k16
  have D16 : Df K mg "_law_same" sSame ["_law_found", "_law_due"] f16 _ := ⟨F16, PySem.W.mg_of X G a16, F16.binds fun _ _ _ _ _ _ us hl => match us, hl with | [_, _], _ => rfl⟩
  have F17 := fun_mk (st := sNames) l17 c17 k17
  have D17 : Df K mg "_law_names" sNames ["_law_box", "_law_many"] f17 _ := ⟨F17, PySem.W.mg_of X G a17, F17.binds fun _ _ _ _ _ _ us hl => match us, hl with | [_, _], _ => rfl⟩
  have F18 := fun_mk (st := sAValue) l18 c18 k18
  have D18 : Df K mg "_law_a_value" sAValue ["_law_box"] f18 _ := ⟨F18, PySem.W.mg_of X G a18, F18.binds fun _ _ _ _ _ _ us hl => match us, hl with | [_], _ => rfl⟩
  have F19 := fun_mk (st := sTold) l19 c19 k19
  have D19 : Df K mg "_law_told_of" sTold ["_law_asked", "_law_thing", "_law_eyes"] f19 _ := ⟨F19, PySem.W.mg_of X G a19, F19.binds fun _ _ _ _ _ _ us hl => match us, hl with | [_, _, _], _ => rfl⟩
  have F20 := fun_mk (st := sRight) l20 c20 k20
  have D20 : Df K mg "_law_right" sRight ["_law_box"] f20 _ := ⟨F20, PySem.W.mg_of X G a20, F20.binds fun _ _ _ _ _ _ us hl => match us, hl with | [_], _ => rfl⟩
  have F21 := fun_mk (st := sTests) l21 c21 k21
  have D21 : Df K mg "_law_tests_right" sTests ["_law_words", "_law_eyes", "_law_low"] f21 _ := ⟨F21, PySem.W.mg_of X G a21, F21.binds fun _ _ _ _ _ _ us hl => match us, hl with | [_, _, _], _ => rfl⟩
  have F22 := fun_mk (st := sLaw) l22 c22 k22
  have m_len := PySem.W.mg_none_of X G z_len
  have m_abs := PySem.W.mg_none_of X G z_abs
  have m_int := PySem.W.mg_none_of X G z_int
  have m_divmod := PySem.W.mg_none_of X G z_divmod
  have m_list := PySem.W.mg_none_of X G z_list
  have m_enumerate := PySem.W.mg_none_of X G z_enumerate
  have m_isinstance := PySem.W.mg_none_of X G z_isinstance
  have m_tuple := PySem.W.mg_none_of X G z_tuple
  have m_all := PySem.W.mg_none_of X G z_all
  have m_zip := PySem.W.mg_none_of X G z_zip
  have m_str := PySem.W.mg_none_of X G z_str
  have m_bool := PySem.W.mg_none_of X G z_bool
  have m_range := PySem.W.mg_none_of X G z_range
  have m_RuntimeError := PySem.W.mg_none_of X G z_RuntimeError
  have W : Wr K w mg sp sm (pick f3 f4 f5 f6 f7) := ⟨PySem.W.mg_of X G aP, PySem.W.mg_of X G aS, ⟨its, nP, slP, lP, vP, gP⟩, fun o => by
    cases o
    · exact ⟨es, nS, _, lS, kS, n_plus, rfl⟩
    · exact ⟨es, nS, _, lS, kS, n_minus, rfl⟩
    · exact ⟨es, nS, _, lS, kS, n_by, rfl⟩
    · exact ⟨es, nS, _, lS, kS, n_over, rfl⟩
    · exact ⟨es, nS, _, lS, kS, n_rest, rfl⟩⟩
  refine ⟨PySem.W.fnOf "law" "law" (defArgs sLaw) (defBody sLaw) (defScope sLaw) .none kV22 dc22 pm22 an22 cd22 ct22, fun s v => .of_eq rfl, fun base _ _ => ?_⟩
  have gN : FnG l.prog w K mg base CX0 1 "is_number" ["thing"] (spIsNum K) := D1.g (ok_isNum D1.F m_isinstance m_int m_bool)
  have gI : FnG l.prog w K mg base CX0 2 "is_value" ["thing"] spIsVal := D2.g (ok_isVal D2.F gN (PySem.W.mg_of X G aLV) (PySem.W.mg_of X G aMV))
  have LL : Looks5 l.prog w K mg base C fI sp sm (pick f3 f4 f5 f6 f7) := ⟨T, W, gN.mono (by decide), gI.mono (by decide), (D10.g (ok_first (k := 0) T D10.F)).mono (by decide), (D11.g (ok_place (k := 0) T D11.F m_len)).mono (by decide), fun o => by
    cases o
    · exact ⟨_, _, (ok_plus (k := 2) D3.F), D3.F.kp, D3.b⟩
    · exact ⟨_, _, (ok_minus (k := 2) D4.F), D4.F.kp, D4.b⟩
    · exact ⟨_, _, (ok_by (k := 2) D5.F), D5.F.kp, D5.b⟩
    · exact ⟨_, _, (ok_over (k := 1) T D6.F), D6.F.kp, D6.b⟩
    · exact ⟨_, _, (ok_rest (k := 1) T D7.F), D7.F.kp, D7.b⟩⟩
  have gV := ok_values LL m_len D8 D9
  have gH := ok_holds T D12 gV
  have hV : HeldX l.prog w K mg base 16 f8 (spVal K C 6) := by
    obtain ⟨f, fd, F, m, k, b⟩ := gV 6
    have e : f = f8 := Value.ref.inj (Option.some.inj (m.symm.trans D8.m))
    subst e
    exact ⟨fd, _, F, k, b⟩
  have hH : HeldX l.prog w K mg base 16 f12 (spHold K C 6) := by
    obtain ⟨f, fd, F, m, k, b⟩ := gH 6
    have e : f = f12 := Value.ref.inj (Option.some.inj (m.symm.trans D12.m))
    subst e
    exact ⟨fd, _, F, k, b⟩
  have gT : FnG l.prog w K mg base CX0 1 "_law_take" ["_law_box", "_law_many"] spTake := D15.g (ok_take D15.F m_divmod)
  have gNm : FnG l.prog w K mg base CX0 2 "_law_names" ["_law_box", "_law_many"] spNames := D17.g (ok_names D17.F gT m_len m_range)
  have gA : FnG l.prog w K mg base CX0 2 "_law_a_value" ["_law_box"] spAValue := D18.g (ok_aValue D18.F gT)
  have gD : FnG l.prog w K mg base CX0 1 "_law_draws" ["_law_script", "_law_k"] (spDraws K) := D14.g (ok_draws D14.F m_len m_abs m_int)
  have gF : FnG l.prog w K mg base CX0 1 "_law_folded" ["_law_script", "_law_many"] (spFolded K) := D13.g (ok_folded D13.F m_list m_enumerate)
  have gS : FnG l.prog w K mg base CX0 5 "_law_same" ["_law_found", "_law_due"] (spSame K 5) := D16.g (ok_same D16.F ⟨m_isinstance, m_list, m_tuple, m_len, m_all, m_zip, m_str, m_int, m_bool⟩ D16.m D16.b 5)
  have gO : FnG l.prog w K mg base CX0 17 "_law_told_of" ["_law_asked", "_law_thing", "_law_eyes"] (spTold l.prog w K mg base C 16) := D19.g (ok_told T EC (kit_rt sr) D19.F m_isinstance m_RuntimeError)
  have gX : FnG l.prog w K mg base CX0 18 "_law_tests_right" ["_law_words", "_law_eyes", "_law_low"] (spTests K) := D21.g (ok_tests (k := 17) D21.F (gS.mono (by decide)) gO D12.m hH m_isinstance m_str)
  have gR : FnG l.prog w K mg base CX0 19 "_law_right" ["_law_box"] spRight := D20.g (ok_right (k := 18) D20.F (gT.mono (by decide)) (gNm.mono (by decide)) (gA.mono (by decide)) (gS.mono (by decide)) (gO.mono (by decide)) gX D8.m hV m_len m_range m_isinstance m_str)
  exact (ok_law (k := 19) F22 (gF.mono (by decide)) (gD.mono (by decide)) gR m_len m_range m_all).mono (by decide)
end Fd
open PySem PySem.W PyProof.Rows
set_option maxRecDepth 100000 in
set_option maxHeartbeats 0 in
theorem PySem.Challenge.cw_figuredeeds_k05_looks_that_fall_holds : PySem.Challenge.rw_figuredeeds_k05_looks_that_fall.Holds := by
  w_on; o_law; k_head; (case hw => w_witness2)
  k_fill
  refine L2.walk_of (l := PySem.Challenge.rw_figuredeeds_k05_looks_that_fall) (n := 63) (k := 40) (x := "_law_script") (CX := fun _ => L2.CX0) (sp := fun w => Fd.spLaw _) rfl (by decide) rfl ⟨rfl, by decide, by decide⟩ (fun w h Y => PySem.W.kIn_of Y) ?F (fun _ _ a ns hl _ hS => ⟨a, ns, rfl, hS, hl, fun _ => rfl⟩) (fun _ _ _ _ _ h => h)
  case F =>
    intro w mg fa h KX G hmg
    refine' Fd.all_mk KX G hmg ?a1 ?l1 ?c1 ?k1 ?a2 ?l2 ?c2 ?k2 ?a3 ?l3 ?c3 ?k3 ?a4 ?l4 ?c4 ?k4 ?a5 ?l5 ?c5 ?k5 ?a6 ?l6 ?c6 ?k6 ?a7 ?l7 ?c7 ?k7 ?a8 ?l8 ?c8 ?k8 ?a9 ?l9 ?c9 ?k9 ?a10 ?l10 ?c10 ?k10 ?a11 ?l11 ?c11 ?k11 ?a12 ?l12 ?c12 ?k12 ?a13 ?l13 ?c13 ?k13 ?a14 ?l14 ?c14 ?k14 ?a15 ?l15 ?c15 ?k15 ?a16 ?l16 ?c16 ?k16 ?a17 ?l17 ?c17 ?k17 ?a18 ?l18 ?c18 ?k18 ?a19 ?l19 ?c19 ?k19 ?a20 ?l20 ?c20 ?k20 ?a21 ?l21 ?c21 ?k21 ?a22 ?l22 ?c22 ?k22 ?z_len ?z_abs ?z_int ?z_divmod ?z_list ?z_enumerate ?z_isinstance ?z_tuple ?z_all ?z_zip ?z_str ?z_bool ?z_range ?z_RuntimeError ?aLV ?aMV ?aP ?lP ?vP ?gP ?aS ?lS ?kS ?n_plus ?n_minus ?n_by ?n_over ?n_rest ?aC ?xL ?sa ?ga ?gg ?nb ?ac ?sg ?tk ?mo ?sr ?aI ?tI ?lI ?cI ?kC ?eC ?tC ?hC ?sC
    (case a1 => k_is)
    (case l1 => k_is)
    (case c1 => k_is)
    (case k1 => k_is)
    (case a2 => k_is)
    (case l2 => k_is)
    (case c2 => k_is)
    (case k2 => k_is)
    (case a3 => k_is)
    (case l3 => k_is)
    (case c3 => k_is)
    (case k3 => k_is)
    (case a4 => k_is)
    (case l4 => k_is)
    (case c4 => k_is)
    (case k4 => k_is)
    (case a5 => k_is)
    (case l5 => k_is)
    (case c5 => k_is)
    (case k5 => k_is)
    (case a6 => k_is)
    (case l6 => k_is)
    (case c6 => k_is)
    (case k6 => k_is)
    (case a7 => k_is)
    (case l7 => k_is)
    (case c7 => k_is)
    (case k7 => k_is)
    (case a8 => k_is)
    (case l8 => k_is)
    (case c8 => k_is)
    (case k8 => k_is)
    (case a9 => k_is)
    (case l9 => k_is)
    (case c9 => k_is)
    (case k9 => k_is)
    (case a10 => k_is)
    (case l10 => k_is)
    (case c10 => k_is)
    (case k10 => k_is)
    (case a11 => k_is)
    (case l11 => k_is)
    (case c11 => k_is)
    (case k11 => k_is)
    (case a12 => k_is)
    (case l12 => k_is)
    (case c12 => k_is)
    (case k12 => k_is)
    (case a13 => k_is)
    (case l13 => k_is)
    (case c13 => k_is)
    (case k13 => k_is)
    (case a14 => k_is)
    (case l14 => k_is)
    (case c14 => k_is)
    (case k14 => k_is)
    (case a15 => k_is)
    (case l15 => k_is)
    (case c15 => k_is)
    (case k15 => k_is)
    (case a16 => k_is)
    (case l16 => k_is)
    (case c16 => k_is)
    (case k16 => k_is)
    (case a17 => k_is)
    (case l17 => k_is)
    (case c17 => k_is)
    (case k17 => k_is)
    (case a18 => k_is)
    (case l18 => k_is)
    (case c18 => k_is)
    (case k18 => k_is)
    (case a19 => k_is)
    (case l19 => k_is)
    (case c19 => k_is)
    (case k19 => k_is)
    (case a20 => k_is)
    (case l20 => k_is)
    (case c20 => k_is)
    (case k20 => k_is)
    (case a21 => k_is)
    (case l21 => k_is)
    (case c21 => k_is)
    (case k21 => k_is)
    (case a22 => k_is)
    (case l22 => k_is)
    (case c22 => k_is)
    (case k22 => k_is)
    (case z_len => k_is)
    (case z_abs => k_is)
    (case z_int => k_is)
    (case z_divmod => k_is)
    (case z_list => k_is)
    (case z_enumerate => k_is)
    (case z_isinstance => k_is)
    (case z_tuple => k_is)
    (case z_all => k_is)
    (case z_zip => k_is)
    (case z_str => k_is)
    (case z_bool => k_is)
    (case z_range => k_is)
    (case z_RuntimeError => k_is)
    (case aLV => k_is)
    (case aMV => k_is)
    (case aP => k_is)
    (case lP => k_is)
    (case vP => exact .cons ⟨_, rfl⟩ (.cons ⟨_, rfl⟩ (.cons ⟨_, rfl⟩ (.cons ⟨_, rfl⟩ .nil))))
    (case gP => decide)
    (case aS => k_is)
    (case lS => k_is)
    (case kS => exact ⟨⟨_, _, rfl, rfl⟩, ⟨_, _, rfl, rfl⟩, ⟨_, _, rfl, rfl⟩, ⟨_, _, rfl, rfl⟩, ⟨_, _, rfl, rfl⟩, trivial⟩)
    (case n_plus => k_is)
    (case n_minus => k_is)
    (case n_by => k_is)
    (case n_over => k_is)
    (case n_rest => k_is)
    (case aC => k_is)
    (case xL => k_is)
    (case sa => k_is)
    (case ga => k_is)
    (case gg => k_is)
    (case nb => k_is)
    (case ac => k_is)
    (case sg => k_is)
    (case tk => k_is)
    (case mo => k_is)
    (case sr => k_is)
    (case aI => k_is)
    (case tI => k_is)
    (case lI => k_is)
    (case cI => k_is)
    (case kC => k_is)
    (case eC => k_is)
    (case tC => k_is)
    (case hC => k_is)
    (case sC => first | rfl | k_is)

