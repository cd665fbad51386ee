import PyProof.Rows.All
import Wide.All
import OpenK.AllK
import Wide.FinOn
import PyProof.EqAt
import PyProof.EqKinds
import PyProof.TupleCall
import KE.KExcInit
import KE.KExcIs
import HandS.ForMost
import HandS.ForExc
import HandS.IsInst
import HandS.ExcValue
import HandS.ExcField
import HandS.Head0
import HandS.Head1
import HandS.Head2
import KE.KDictDisplayH
import HandS.HeadHook1
import HandS.Walk
import HandS.Dict
import HandS.Style
import HandS.TupAny
import HandS.Wide
import HandS.Zip
import HandS.Codes
import HandS.CallLocal
import HandS.WordsList
import PyProof.ReprLen
import PyProof.ReprRoads
import PyProof.Rows.ReprShort
import PyProof.Rows.NestShow
import HandS.Ends
import HandS.Words
import PySem.Challenge.RW_figuredeeds_k02_what_tests_are
set_option Elab.async false
set_option linter.all false
set_option maxRecDepth 100000
set_option maxHeartbeats 2000000
namespace PySem
namespace FellX
open PySem.W PySem.Calls PyProof.Rows PySem.HandSPX Builtin Builtin.ObjectAttr
abbrev rtTail : List Value := [.type "RuntimeError", .type "Exception", .type "BaseException", .type "object"]
/-- a first field of a fresh error whose class stands straight under RuntimeError -/
theorem rt_osa {prog : Program} {w : World} {A : Around} {R : Result → Shared → Prop} {hp : Heap} {gs : Array GenState} {dr : Drawn} {n : Nat} {os : OsState}
    {K : W.Frag} {f : Str} {tk : Tok} {v : Value} {x C : Addr} {fv : Array Value} {cd : ClassData} (X : K.In hp)
    (hx : hp.get? x = some { cls := .ref C, data := .fields fv }) (hcd : W.clsIn K C = some cd) (hm : cd.mro = .ref C :: rtTail) (hh : cd.hasDict = true)
    (ha : W.findIn K (.ref C) f = some none)
    (hq : ∀ h' tk' dx, (∀ b o, b ≠ x → hp.get? b = some o → h'.get? b = some o) → hp.objs.size ≤ dx → dx ≠ x →
      h'.get? x = some { cls := .ref C, dict := some dx, data := .fields fv } → h'.Ns1 dx (fun y => if y = f then some v else none) →
      R (.ok (.ret .none)) ⟨h', gs, dr, tk', os⟩) :
    codeAny (model prog w) A (.call (.builtin "object.__setattr__") ⟨[.ref x, .str f tk, v], []⟩) R ⟨hp, gs, dr, n, os⟩ := by
  have J : W.InstAt hp x { cls := .ref C, data := .fields fv } C none := ⟨hx, rfl, rfl, trivial⟩
  have S := F.store_object
  have hob : cd.mro.contains (.type "object") = true := by
    rw [hm, List.contains_cons, show rtTail.contains (.type "object") = true by decide +kernel, Bool.or_true]
  have xs : x ≠ hp.objs.size := Nat.ne_of_lt (Heap.lt_size hx)
  have su : W.Looks (model prog w) hp (isInstance (.ref x) (.type "object")) true := J.type.andThen
    (W.looks_mroIn X (by unfold W.mroIn; rw [hcd, Option.bind_some, if_neg (by rw [hm]; intro z; cases z), hob]))
  refine codeAny_call_builtin S.slot.plain S.entry
    (@W.check_slot (model prog w) _ _ ⟨hp, gs, dr, n, os⟩ "object.__setattr__" "object" "__setattr__" (.ref x) [.str f tk, v] [] _ S.kind S.split su
      (S.args (.ref x) (.str f tk) v) ?_)
  have lm : W.Looks (model prog w) hp (mroOf (.ref C)) cd.mro := (W.looks_clsIn X hcd).andThen .now
  have lt : W.Looks (model prog w) hp (storeTaker? none) none := .now
  have lc : W.Looks (model prog w) hp (classData C) cd := W.looks_clsIn X hcd
  rw [W.osa_eq, refuse_eq]
  refine wpAny_bind (wpAny_bind (J.type.at (wpAny_bind (lm.at ?_))))
  rw [hm, refuseLoop_ref, show refuseLoop (Value.ref x) "__setattr__" rtTail = pure () from F.store_RuntimeError.passes _]
  refine wpAny_pure (wpAny_bind (J.type.at (wpAny_bind
    ((W.looks_findIn X ha).at (wpAny_bind (lt.at ?_))))))
  show wpAny _ _ (storeInOwnDict (.ref x) (.ref C) (.str f tk) f v false) _ _ _
  obtain ⟨_, _, mro, _, _, hd, _, _, _, _, _⟩ := cd
  dsimp only at hh
  subst hh
  unfold storeInOwnDict ownDictForStores
  repeat (first
    | with_reducible refine store_in_new ?_ ?_
    | with_reducible refine wpAny_loadPart_at hx ?_
    | with_reducible refine lc.at ?_
    | wp_step)
  · exact ⟨_, #[], _, (Heap.get?_update_ne _ _ _ _ xs.symm).trans (Heap.get?_push_at rfl rfl), rfl,
      fun e he => absurd he (by simp), fun _ => rfl⟩
  · intro h' tk' hn' hs
    have hx' : (hp.push { cls := .type "dict", data := .dict #[] }).get? x = some { cls := .ref C, data := .fields fv } :=
      Heap.get?_push_of_some _ hx
    refine hq h' tk' hp.objs.size (fun b o nb e => ?_) (Nat.le_refl _) xs.symm ?_ hn'
    · exact (hs.2 b (Nat.ne_of_lt (Heap.lt_size e))).trans
        ((Heap.get?_update_ne _ _ _ _ nb).trans (Heap.get?_push_of_some _ e))
    · exact (hs.2 x xs).trans (Heap.get?_update_self _ hx' rfl)
end FellX
end PySem
namespace PySem
namespace FellX
open PySem.W PySem.Calls PyProof.Rows PySem.HandSPX
/-! ### the text of __init__ -/
def iA (p1 p2 : Pos) : Arguments := { posonlyargs := [], args := [{ arg := "self", annotation := none, pos := p1 }, { arg := "word", annotation := none, pos := p2 }], vararg := none, kwonlyargs := [], kw_defaults := [], kwarg := none, defaults := [] }
def iB (q1 q2 q3 q4 : Pos) : List Stmt := [.Assign [.Attribute (.Name "self" q1) "word" q2] (.Name "word" q3) q4]
def iS : Scope := { kind := .function, names := [(PySem.Str.ofString "self", .local), (PySem.Str.ofString "word", .local)], isGenerator := false, isCoroutine := false, more := [] }
/-- what the written part says of Fell, at C, and of its __init__, at fI -/
structure FellTxt (K : Frag) (mg : Str → Option Value) (C fI : Addr) : Prop where
  gC : mg "Fell" = some (.ref C)
  cls : ∃ nm q N bs bm sn sub ab col dd k0 k1 k2 k3 k5, K.lookup C = some (excClassObj nm q C N bs bm true sn sub ab col dd k0 k1 k2 k3 k5 "RuntimeError.__new__") ∧ bm = rtTail
  sa : findIn K (.ref C) "__setattr__" = some (some (.builtin "object.__setattr__"))
  ga : findIn K (.ref C) "__getattribute__" = some (some (.builtin "BaseException.__getattribute__"))
  gg : findIn K (.ref C) "__getattr__" = some none
  noN : findIn K (.ref C) "word" = some none
  iC : findIn K (.ref C) "__init__" = some (some (.ref fI))
  tC : typeIn K (.ref fI) = some (.type "function")
  kC : keepIn K (.ref C) = true
  exC : subIn K (.ref C) (.type "BaseException") = some true
  tyC : typeIn K (.ref C) = some (.type "type")
  hdC : hasDictIn K C = true
  te : exmOne K (.ref C) (.ref C) = some true
  fn : ∃ (oc : Value) (od : Option Addr) (doc pm : Value) (an : Option Addr) (cdv ct : Value) (osl : Array (Option Value)) (p1 p2 q1 q2 q3 q4 : Pos),
    K.lookup fI = some ⟨oc, od, .func (fnOf "__init__" "Fell.__init__" (iA p1 p2) (iB q1 q2 q3 q4) iS .none .none doc pm an cdv ct), osl⟩ ∧ codeIn K cdv "Fell.__init__" = true
theorem one_size (v : Value) : [v].length ≤ sizeLine := by
  rw [sizeLine_eq]
  exact (by decide : 1 ≤ 16777216)
theorem kept_but {K : Frag} {h h' : Heap} {x : Addr} (X : K.In h) (hx : K.lookup x = none) (k : ∀ b o, b ≠ x → h.get? b = some o → h'.get? b = some o) : K.In h' := fun a o e =>
  k a o (fun z => by rw [z, hx] at e; cases e) (X a o e)
theorem ldC {M : Model} {s : Shared} {name : Str} {scope : Scope} {L a : Addr} {cd : Value} {m : Str → Option Value} {x : Str} {pos : Pos} {v : Value} {Q : Value → Shared → Prop} {A : Around} {E : Value → Shared → Prop} (hn : s.heap.Ns L m) (hv : m x = some v) (h : Q v s)
    (hk : scope.kind = .function := by rfl) (hl : (envOfC name scope L a cd).kindOf x = some .local := by rfl) (hd : (x == ("__debug__" : Str)) = false := by decide) :
    wpAny M A (eval (.Name x pos) (envOfC name scope L a cd)) Q E s := wpAny_Name (wpAny_loadName_local hk hl hn hv h) hd
/-- what __init__ leaves of a fresh exception at x -/
structure InitEnd (h h' : Heap) (x C dx t1 : Addr) (v : Value) : Prop where
  keep : ∀ b o, b ≠ x → h.get? b = some o → h'.get? b = some o
  obj : h'.get? x = some { cls := .ref C, dict := some dx, data := .fields #[.ref t1, .none, .none, .none, .bool false, .none] }
  dbig : h.objs.size ≤ dx
  dne : dx ≠ x
  ns : h'.Ns1 dx (fun y => if y = "word" then some v else none)
/-- a made Fell -/
structure OwnMade (h h' : Heap) (e C d : Addr) (v : Value) : Prop where
  keep : ∀ b o, h.get? b = some o → h'.get? b = some o
  new : h.objs.size ≤ e
  obj : ∃ oe vs, h'.get? e = some oe ∧ oe.cls = .ref C ∧ oe.dict = some d ∧ oe.data = .fields vs ∧ vs[1]? = some .none
  dbig : h.objs.size ≤ d
  dne : d ≠ e
  ns : h'.Ns1 d (fun y => if y = "word" then some v else none)
section
variable {prog : Program} {w : World} {A : Around} {E : Value → Shared → Prop} {R : Result → Shared → Prop} {s : Shared} {K : Frag} {mg : Str → Option Value} {C fI : Addr}
theorem fell_init (T : FellTxt K mg C fI) {x t0 : Addr} {v : Value} (X : K.In s.heap) (hlim : s.heap.NoLimit) (hx : s.heap.get? x = some (excO C t0)) (hnx : K.lookup x = none) (hroom : A.depth < recursionLimit)
    (hq : ∀ h' tk dx, InitEnd s.heap h' x C dx t0 v → R (.ok (.ret .none)) { s with heap := h', toks := tk }) :
    codeAny (model prog w) A (.call (.ref fI) ⟨[.ref x, v], []⟩) R s := by
  obtain ⟨oc, od, doc, pm, an, cdv, ct, osl, p1, p2, q1, q2, q3, q4, ho, hcd⟩ := T.fn
  obtain ⟨nm, q, N, bs, bm, sn, sub, ab, col, dd, k0, k1, k2, k3, k5, hC, hbm⟩ := T.cls
  have hcl : clsIn K C = some { name := nm, bases := bs, mro := .ref C :: bm, ns := N, qualname := q, hasDict := true, slotNames := sn, subclasses := sub, abstract := ab, collection := col, hasDel := false } := by unfold clsIn; rw [hC] <;> rfl
  refine Att.call_fn (binds := [("self", .ref x), ("word", v)]) X hlim ho hcd hroom (BindsTo.of_eq (by first | rfl | with_unfolding_all rfl)) (by first | rfl | decide | with_unfolding_all rfl) (fun s₁ IC => ?_) rfl rfl rfl
  obtain ⟨h₁, tk₁, rfl⟩ := IC.toInCall.same
  have k : ∀ b o, s.heap.get? b = some o → h₁.get? b = some o := IC.toInCall.keep
  have hn := IC.toInCall.ns
  have hxL : s.heap.objs.size ≠ x := Nat.ne_of_gt (Heap.lt_size hx)
  have X₁ : K.In h₁ := X.keeps k
  have hx₁ := k _ _ hx
  -- self.by = by
  show wpAny _ _ (execs _ _) _ _ _
  refine wpAny_execs_cons (plainObj_wpAny_Assign_Attribute ?_)
  refine ldC (v := v) hn (by first | rfl | with_unfolding_all rfl | kernel_rfl) (ldC (v := .ref x) hn (by first | rfl | with_unfolding_all rfl | kernel_rfl) ?_)
  refine set_plain X₁ (ox := excO C t0) (od := none) ⟨hx₁, rfl, rfl, trivial⟩ T.sa ?_
  refine rt_osa X₁ hx₁ hcl (show (Value.ref C :: bm) = .ref C :: rtTail by rw [hbm]) rfl T.noN (fun h₃ tk₃ dx k₃ dn dne hx₃ hn₃ => ?_)
  show wpAny _ _ (execs _ _) _ _ _
  have z : s.heap.objs.size < h₁.objs.size := hn.lt
  exact wpAny_execs_nil (hq h₃ tk₃ dx ⟨fun b o hb e => k₃ b o hb (k b o e), hx₃, Nat.le_of_lt (Nat.lt_of_lt_of_le z dn), dne, hn₃⟩)
theorem fell_made (T : FellTxt K mg C fI) {v : Value} (X : K.In s.heap) (hlim : s.heap.NoLimit) (hroom : A.depth + 1 < recursionLimit)
    (hq : ∀ h' tk e d, OwnMade s.heap h' e C d v → R (.ok (.ret (.ref e))) { s with heap := h', toks := tk }) :
    codeAny (model prog w) A (.call (.ref C) ⟨[v], []⟩) R s := by
  obtain ⟨nm, q, N, bs, bm, sn, sub, ab, col, dd, k0, k1, k2, k3, k5, hC, hbm⟩ := T.cls
  obtain ⟨hp, g, dr, tk, os⟩ := s
  have k : ∀ b o, hp.get? b = some o → ((hp.push (kdv_tup [v])).push (excO C hp.objs.size)).get? b = some o := fun b o e => Heap.get?_push_of_some _ (Heap.get?_push_of_some _ e)
  have hget : ((hp.push (kdv_tup [v])).push (excO C hp.objs.size)).get? (hp.objs.size + 1) = some (excO C hp.objs.size) := by heap_get
  have hnx : K.lookup (hp.objs.size + 1) = none := by
    cases e : K.lookup (hp.objs.size + 1) with
    | none => rfl
    | some o =>
      have z : hp.get? (hp.objs.size + 1) = some o := X _ _ e
      exact absurd (Nat.lt_of_succ_lt (Heap.lt_size z)) (Nat.lt_irrefl _)
  refine call_own F.excBase_RuntimeError (fun X => by rw [hbm]) (X _ _ hC) (looks_findIn X T.iC) (fun self => bind_fn X self T.tC) (one_size v) ?_
  refine fell_init (s := ⟨(hp.push (kdv_tup [v])).push (excO C hp.objs.size), g, dr, tk, os⟩) T (X.keeps k) (hlim.keeps k) hget hnx ?_ fun h' tk' dx ⟨k', hx, dn, dne, hns⟩ => ?_
  · show A.depth + 1 < recursionLimit
    exact hroom
  · have old : ∀ b o, hp.get? b = some o → h'.get? b = some o := fun b o e => k' b o (Nat.ne_of_lt (Nat.lt_succ_of_lt (Heap.lt_size e))) (k b o e)
    have z : hp.objs.size + 1 + 1 ≤ dx := by
      first
        | (simpa only [Heap.size_push] using dn)
        | exact dn
        | (have q := dn; rw [Heap.size_push, Heap.size_push] at q; exact q)
    exact ⟨rfl, hq h' tk' (hp.objs.size + 1) dx ⟨old, Nat.le_succ _, ⟨_, _, hx, rfl, rfl, rfl, rfl⟩, Nat.le_trans (Nat.le_trans (Nat.le_succ _) (Nat.le_succ _)) z, dne, hns⟩⟩
end
end FellX
end PySem
namespace L2
open PySem PySem.Spec PyProof.Rows
theorem relO_fell {v : V} {v' : Value} (r : RelV v v') (f : Str) : RelO (List.lookup f [(("word" : Str), v)]) (if f = "word" then some v' else none) := by
  by_cases hw : f = "word"
  · subst hw
    rw [if_pos rfl]
    have q : List.lookup ("word" : Str) [(("word" : Str), v)] = some v := by simp [List.lookup]
    rw [q]
    exact r
  · rw [if_neg hw]
    have qw : (f == ("word" : Str)) = false := by simpa using hw
    have q2 : List.lookup f [(("word" : Str), v)] = none := by simp [List.lookup, qw]
    rw [q2]
    trivial
section
variable {X : Cx} {C fI : Addr}
/-- Fell(e) -/
def tMkFell (C : Addr) (ta : TA) : St → Hp → XK → Prop := fun σ H Q => ta σ H fun vs H1 => ∃ v, vs = [v] ∧ ∀ d, H1 d = none → Q (.ref C) (some d) (upd H1 d (.xd [(("word" : Str), v)]))
theorem pmk_fell {a : Expr} {ta : TA} {p pos : Pos} {k : Nat} (T : PySem.FellX.FellTxt X.K X.mg C fI) (hr : Room k X.A) (ha : PA X [a] ta) (hg : Gl X "Fell" := by rfl)
    (he : starEach (a :: []) X.env = (false, eval a X.env) :: starEach [] X.env := by rfl) (hpl : (backTo pos (starEach [] X.env)).any (·.1) = false := by rfl) :
    PMk X (.Call (.Name "Fell" p) [a] [] pos) (tMkFell C ta) := by
  intro pins s σ H Q I h
  refine wpAny_Call_Name_kw (ld_glob I hg T.gC ?_)
  refine PySem.W.callWith_K (h₀ := X.base) I.ok.mod.kin T.kC (thn (ha.run pos pins s σ H _ I h) fun us s1 hh => ?_) he hpl
  obtain ⟨vs, H1, I1, r1, v, ev, q1⟩ := hh
  subst ev
  refine ⟨I1.kIn, ?_⟩
  cases r1 with
  | cons rv rn =>
    rename_i v' us'
    cases rn
    show wpAny _ _ (call (.ref C) [v']) _ _ _
    have hlim := I1.nolimit
    obtain ⟨hp, g, dr, tk, os⟩ := s1
    refine wpAny_call (PySem.FellX.fell_made T I1.kIn hlim (by have := hr.dp; omega) fun h' tk' e d M => ?_)
    show MkP X pins σ Q (.ref e) ⟨h', g, dr, tk', os⟩
    obtain ⟨oe, fv, hoe, hc, hd, hdat, h1⟩ := M.obj
    have hns := M.ns
    obtain ⟨G', g1, g2⟩ := restrict h' fun b => decide (b ≠ e)
    have gk : ∀ b, b ≠ e → G'.get? b = h'.get? b := fun b hb => g1 b (decide_eq_true hb)
    have ge : G'.get? e = none := g2 e (by simp)
    have old : ∀ b o, hp.get? b = some o → G'.get? b = some o := fun b o q => (gk b (Nat.ne_of_lt (Nat.lt_of_lt_of_le (Heap.lt_size q) M.new))).trans (M.keep b o q)
    have ob : ObjOk X.prog X.w (upd H1 d (.xd [(("word" : Str), v)])) G' d (.xd [(("word" : Str), v)]) :=
      ⟨_, hns.at (fun o q => (gk d M.dne).trans q), fun f => relO_fell rv f⟩
    have J : Inv X pins σ (upd H1 d (.xd [(("word" : Str), v)])) ⟨G', g, dr, tk', os⟩ := I1.laid (t' := tk') old M.dbig ob
    refine ⟨e, oe, fv, ⟨G', g, dr, tk', os⟩, _, .ref C, some d, rfl, J, fun b o q => ?_, ge, hoe, ⟨hc, hd⟩, hdat, h1, ?_, rfl, I1.bare, raises_own T.exC T.tyC, q1 d (I1.hok.fresh M.dbig)⟩
    · by_cases hb : b = e
      · have q' : G'.get? b = some o := q
        rw [hb, ge] at q'; cases q'
      · exact (gk b hb).symm.trans q
    · rw [upd_ne (Ne.symm M.dne)]
      exact I1.hok.fresh M.new
/-- raise Fell(e) -/
def tRaiseFell (C : Addr) (W : WX) (ta : TA) : TS := fun _ σ H => tMkFell C ta σ H fun cls d H' => W cls d σ H'
theorem ps_raiseFell {a : Expr} {ta : TA} {W : WX} {p pos pos2 : Pos} {k : Nat} (hc : X.calm = true) (T : PySem.FellX.FellTxt X.K X.mg C fI) (hr : Room k X.A) (tk : Takes X W) (ha : PA X [a] ta) (hg : Gl X "Fell" := by rfl)
    (he : starEach (a :: []) X.env = (false, eval a X.env) :: starEach [] X.env := by rfl) (hpl : (backTo pos (starEach [] X.env)).any (·.1) = false := by rfl) :
    PS X (.Raise (some (.Call (.Name "Fell" p) [a] [] pos)) none pos2) (tRaiseFell C W ta) := ps_raise hc tk (pmk_fell T hr ha hg he hpl)
/-- low.by, low the exception that the suite holds (at a; its class cls, its dict d) -/
def tWord (C : Addr) (a : Addr) (cls : Value) (d : Option Addr) (te : TE) : TE := fun σ H Q => te σ H fun x H1 => x = .ref a ∧ cls = .ref C ∧ ∃ (dd : Addr) (v : V), d = some dd ∧ H1 dd = some (.xd [(("word" : Str), v)]) ∧ Q v H1
theorem pe_word {a : Addr} {oe : Obj} {cls : Value} {d : Option Addr} {pn : List (Addr × Obj)} {e : Expr} {te : TE} {pos : Pos} (T : PySem.FellX.FellTxt X.K X.mg C fI) (hz : Zc cls d oe) (hf : ∃ vs, oe.data = .fields vs) (he : PE (X.suite a ((a, oe) :: pn)) e te)
    (hb : attributeBase e "word" X.env (eval e X.env) = eval e X.env := by rfl) :
    PE (X.suite a ((a, oe) :: pn)) (.Attribute e "word" pos) (tWord C a cls d te) := by
  refine ⟨fun pins s σ H Q I h => ?_⟩
  refine attr_of hb (thn (he.run pins s σ H _ I h) fun u s1 hh => ?_)
  obtain ⟨x, H1, I1, rx, ex, ec, dd, v, ed, ea, q⟩ := hh
  subst ex
  obtain rfl : u = Value.ref a := rx
  subst ec
  subst ed
  obtain ⟨ha, _⟩ := I1.pin (a, oe) (List.mem_append_left _ List.mem_cons_self)
  obtain ⟨vs, hd⟩ := hf
  have hx : ObjOk X.prog X.w H1 s1.heap dd (.xd [(("word" : Str), v)]) := I1.hok dd _ ea
  obtain ⟨mA, hns, hr⟩ := hx
  obtain ⟨od, ho, hl⟩ := lookIn_ns hns
  have l : List.lookup ("word" : Str) [(("word" : Str), v)] = some v := by simp [List.lookup]
  obtain ⟨u, hu, ru⟩ := RelO.some_of (v := v) (o := mA "word") (by rw [← l]; exact hr "word")
  have J : PySem.W.InstAt s1.heap a oe C (some od) := ⟨ha, hz.1, by unfold PySem.W.notCls; rw [hd] <;> rfl, by rw [hz.2]; exact ho⟩
  exact HandSPX.exc_get I1.kIn J T.ga T.gg T.exC (PySem.W.findObj_own T.hdC T.noN rfl (by rw [hl, hu])) (handed_of ru) ⟨v, H1, I1.tok _, ru, q⟩
end
end L2


set_option Elab.async false
set_option linter.all false
set_option maxRecDepth 100000
set_option maxHeartbeats 2000000
/-! A try whose suite keeps the error by another name: behind it the error is tracked, its class and its fields are read. -/
namespace L2
open PySem PySem.Spec PyProof.Rows
/-- a caught error at a: its class, its own dict -/
def ErrO (cls : Value) (d : Option Addr) (a : Addr) : HO :=
  .ext fun h => ∃ (oe : Obj) (vs : Array Value), h.get? a = some oe ∧ Zc cls d oe ∧ oe.data = .fields vs
theorem errO_at {P : Program} {w : World} {H : Hp} {h : Heap} {a : Addr} {cls : Value} {d : Option Addr}
    (hk : HOk P w H h) (e : H a = some (ErrO cls d a)) : ∃ (oe : Obj) (vs : Array Value), h.get? a = some oe ∧ Zc cls d oe ∧ oe.data = .fields vs :=
  (show ObjOk P w H h a (ErrO cls d a) from hk a _ e).1
section
variable {X : Cx} {pins : List (Addr × Obj)} {σ : St} {H : Hp} {s : Shared}
/-- what was pinned is tracked from here on -/
theorem Inv.track {a : Addr} {oe : Obj} {cls : Value} {d : Option Addr} (I : Inv X ((a, oe) :: pins) σ H s) (hz : Zc cls d oe) (hf : ∃ vs, oe.data = .fields vs)
    (h0 : ∀ o, X.s_0.heap.get? a = some o → a ∉ X.ex → False) (hp : ∀ p ∈ X.pn ++ pins, p.1 ≠ a) : Inv X pins σ (upd H a (ErrO cls d a)) s := by
  have mem : (a, oe) ∈ X.pn ++ (a, oe) :: pins := List.mem_append_right _ List.mem_cons_self
  obtain ⟨ga, na, nl, nf, nc⟩ := I.pin _ mem
  dsimp only at ga na nl nf nc
  obtain ⟨vs, hv⟩ := hf
  have ne : ∀ {b : Addr} {o : HO}, H b = some o → b ≠ a := fun q => ne_of_none q na
  refine ⟨I.ok, I.os, I.bare, ⟨I.base.keep, I.base.slot, fun b o e n hx => ?_, I.base.there, fun b xs q => ?_, fun b o u q => ?_, fun b ps q => ?_⟩,
    I.loc, I.cell, ?_, fun x c e => ?_, fun p hm => ?_, ?_, I.len⟩
  · by_cases hb : b = a
    · subst hb
      exact (h0 o e hx).elim
    · rw [upd_ne hb]
      exact I.base.free b o e n hx
  · have q' := I.base.tups b xs q
    rw [upd_ne (ne q')]
    exact q'
  · have q' := I.base.frzs b o u q
    rw [upd_ne (ne q')]
    exact q'
  · obtain ⟨more, q'⟩ := I.base.tbls b ps q
    exact ⟨more, by rw [upd_ne (ne q')]; exact q'⟩
  · rw [upd_ne nl.symm]
    exact I.free
  · have nca : c ≠ a := fun z => by
      obtain ⟨v, o, go, hd⟩ := I.cell x c e
      rw [z, ga] at go
      cases go
      exact nc _ hd
    rw [upd_ne nca]
    exact I.freeC x c e
  · have hm' : p ∈ X.pn ++ (a, oe) :: pins := by
      rcases List.mem_append.mp hm with z | z
      · exact List.mem_append_left _ z
      · exact List.mem_append_right _ (List.mem_cons_of_mem _ z)
    obtain ⟨g1, n1, r1⟩ := I.pin p hm'
    exact ⟨g1, by rw [upd_ne (hp p hm)]; exact n1, r1⟩
  · exact I.hok.laidN (fun _ _ q => q) na ⟨⟨oe, vs, ga, hz, hv⟩, ⟨oe, ga⟩, fun _ _ ⟨o, v, q, r⟩ k => ⟨o, v, k o q, r⟩⟩
end
/-- what «except x as n» wishes of an error of the body, the error being tracked behind the suite -/
def wKeep (K : PySem.W.Frag) (c : Value) (i : Nat) (ts : Addr → Value → Option Addr → TS) (Wout : WX) (D : Ends) : WX := fun cls d σ H =>
  ∃ b, PySem.W.exmOne K cls c = some b ∧ (b = false → Wout cls d σ H) ∧ (b = true → ∀ a, H a = none →
    ts a cls d ({ nx := fun σ' H' => H' a = none → D.nx (σ'.set i none) (upd H' a (ErrO cls d a)), rt := fun _ _ => False, bk := fun _ _ => False, ct := fun _ _ => False } : Ends) (σ.set i (some (.ref a))) H)
section
variable {X : Cx} {x n : Str} {c : Value} {i : Nat} {body suite : List Stmt} {b₀ : Stmt} {np pos pos' : Pos} {tb : WX → TS} {ts : Addr → Value → Option Addr → TS} {Wout : WX}
theorem ps_try_keep (hs : X.stack = X.env :: X.outer) (hf : X.env.frame = some X.env.locals) (hN : X.N.Nodup) (hi : X.N[i]? = some n)
    (hln : X.env.kindOf n = some .local) (hc : Names X x c) (tk : Takes X Wout)
    (hb : ∀ (W : WX) (pn : List (Addr × Obj)) (xe : Value → Shared → Prop), Takes (X.tr pn xe) W →
      PassesOwn (model X.prog X.w) X.A X.env xe → PSs (X.tr pn xe) body (tb W))
    (hsu : ∀ (a : Addr) (oe : Obj) (cls : Value) (d : Option Addr) (pn : List (Addr × Obj)), Zc cls d oe → (∃ vs, oe.data = .fields vs) →
      PSs (X.suite a ((a, oe) :: pn)) (b₀ :: suite) (ts a cls d)) :
    PS X (.Try body [.ExceptHandler (some (.Name x np)) (some n) (b₀ :: suite) pos'] [] [] pos) (fun D σ H => tb (wKeep X.K c i ts Wout D) D σ H) := by
  refine ⟨fun pins s σ H D I h => ?_⟩
  have fr : X.A.frames = some (X.env :: X.outer) := by rw [I.ok.frames, hs]
  refine wpAny_Try_except ?_
  refine wpAny_mono ((hb (wKeep X.K c i ts Wout D) (X.pn ++ pins)
    (fun e s₁ => wpAny (model X.prog X.w) X.A (noteFrame e X.env) (fun _ s₂ =>
      wpAny (model X.prog X.w) X.A (setFlight e none) (fun _ s₃ =>
        wpAny (model X.prog X.w) X.A (handleBy e X.env [.ExceptHandler (some (.Name x np)) (some n) (b₀ :: suite) pos'])
          (SP X pins D) X.xe s₃) X.xe s₂) X.xe s₁)
    (fun u s' xx => ?_) PassesOwn.looking).run [] s σ H D (I.toTry _) h) (fun f s1 end1 => ?_) (fun e s1 he => he)
  · obtain ⟨a, B, sI, pi', σ1, H1, cls, d, rfl, I1', nb, up, sky, na, os, ag, b, hb1, hno, hyes⟩ := xx
    have I1 : Inv X pins σ1 H1 sI := I1'.ofTry I.ok
    have sk : Sky B (X.env :: X.outer) a (Zc cls d) X.env.locals s'.heap := by rw [← hs]; exact sky
    show wpAny (model X.prog X.w) X.A (noteFrame (.ref a) X.env) _ _ _
    refine Sky.land Zc.steady fr hf sk fun h3 fl up3 => ?_
    have I3 : Inv X pins σ1 H1 { s' with heap := h3 } := I1.landed nb fl.1 (up.trans up3) os ag
    obtain ⟨o3, v3, g3, z3, d3⟩ := fl.there
    have nfr : a ∉ frs (X.env :: X.outer) := fun hm => by
      obtain ⟨_, o', e', hnf⟩ := fl.2.2.1.mem hm
      rw [g3] at e'
      cases e'
      exact hnf _ d3
    have nL : a ≠ X.env.locals := fun z => nfr (List.mem_filterMap.mpr ⟨X.env, List.mem_cons_self, by rw [hf, z]⟩)
    have nF : a ∉ X.fs := fun hm => by
      obtain ⟨e, he, q⟩ := List.mem_filterMap.mp hm
      exact nfr (List.mem_filterMap.mpr ⟨e, List.mem_cons_of_mem _ he, q⟩)
    have nB : B.get? a = none := by
      rcases sky with z | z | z
      · exact z.2.1
      · exact z.2.1
      · exact z.2.1
    have gone : ∀ {b : Addr} {o : Obj}, sI.heap.get? b = some o → b ∉ frs X.stack → b ≠ a := fun {b o} q hb z => by
      have q' := nb b o q hb
      rw [z, nB] at q'
      cases q'
    have h0 : ∀ o, X.s_0.heap.get? a = some o → a ∉ X.ex → False := fun o q hx => by
      obtain ⟨o', q'⟩ := I1.base.there a o q hx
      exact gone q' (by rw [hs]; exact nfr) rfl
    have hp : ∀ p ∈ X.pn ++ pins, p.1 ≠ a := fun p hm => by
      obtain ⟨g, _, nl, nf, _⟩ := I1.pin p hm
      refine gone g fun hq => ?_
      rcases List.mem_cons.mp (I1.stkSub _ hq) with z | z
      · exact nl z
      · exact nf z
    have S3 := I3.suite g3 d3 na nL nF
    refine wpAny_handleBy_cons (codeAny_handlers_test ?_) (by intro q; cases q)
    have LT : PySem.W.Looks (model X.prog X.w) h3 (typeOf (.ref a)) cls := fun _ _ _ _ k q =>
      wpAny_typeOf_ref (k _ _ g3) (by rw [z3.1]; exact q)
    have LM := PySem.W.exm_one (M := model X.prog X.w) I3.kIn LT hb1
    have nameIs : ∀ {Q : Value → Shared → Prop} {E : Value → Shared → Prop}, Q c { s' with heap := h3 } →
        wpAny (model X.prog X.w) (X.A.mark (some (.ref a))) (eval (.Name x np) X.env) Q E { s' with heap := h3 } := fun {Q E} q => by
      obtain ⟨hg, hdbg, hm | ⟨hm, hv, hnn⟩⟩ := hc
      · exact ld_glob (X := X.suite a ((a, o3) :: (X.pn ++ pins))) S3 hg hm q hdbg
      · exact ld_blt (X := X.suite a ((a, o3) :: (X.pn ++ pins))) S3 hg hm hv q hnn hdbg
    refine nameIs (LM.here ?_)
    cases b with
    | true =>
      refine codeAny_handlers_suite_as ?_
      refine HandSPX.lands_againZ fl fun h4 fl4 up4 => ?_
      have I4 : Inv X pins σ1 H1 { s' with heap := h4 } := I1.landed nb fl4.1 ((up.trans up3).trans up4) os ag
      obtain ⟨o4, v4, g4, z4, d4⟩ := fl4.there
      have S4 := I4.suite g4 d4 na nL nF
      refine store_ok (X := X.suite a ((a, o4) :: (X.pn ++ pins))) (v := .ref a) S4 hN hi (.inl hln) rfl (fun s5 S5 => ?_) (.inr hln)
      refine wpAny_mono ((hsu a o4 cls d (X.pn ++ pins) z4 ⟨_, d4⟩).run [] s5 _ H1 _ S5 (hyes rfl a na)) (fun f s6 e6 => ?_) (fun _ _ z => False.elim z)
      cases f with
      | next =>
        obtain ⟨σ6, H6, S6, q6⟩ := e6
        have K6 : Inv X ((a, o4) :: pins) σ6 H6 s6 := ⟨I.ok, S6.os, S6.bare, S6.base, S6.loc, S6.cell, S6.free, S6.freeC, fun p hm => S6.pin p (by
          rw [List.append_nil]
          rcases List.mem_append.mp hm with z | z
          · exact List.mem_cons_of_mem _ (List.mem_append_left _ z)
          · rcases List.mem_cons.mp z with z | z
            · rw [z]; exact List.mem_cons_self
            · exact List.mem_cons_of_mem _ (List.mem_append_right _ z)), S6.hok, S6.len⟩
        have n6 : H6 a = none := (S6.pin (a, o4) (List.mem_append_left _ List.mem_cons_self)).2.1
        exact gone_ok K6 hN hi hln fun s7 K7 => ⟨_, _, K7.track z4 ⟨_, d4⟩ h0 hp, q6 n6⟩
      | brk => obtain ⟨_, _, _, q6⟩ := e6; exact q6.elim
      | cont => obtain ⟨_, _, _, q6⟩ := e6; exact q6.elim
      | ret u => obtain ⟨_, _, _, _, _, q6⟩ := e6; exact q6.elim
    | false =>
      show wpAny _ X.A (handleBy (.ref a) X.env []) _ _ _
      refine wpAny_handleBy_nil ?_
      obtain ⟨k1, k2, k3, oe, vs, T, oT, ts', he, hz, hd, h1, hr⟩ := id fl
      unfold PySem.passOn
      refine wpAny_bind (wpAny_field he hd h1 ?_)
      rw [if_neg (show ¬ ((Value.ref T == Value.none) = true) from by simp)]
      have fin : wpAny (model X.prog X.w) X.A (setFlight (.ref a) X.env.frame) (fun _ s4 =>
          wpAny (model X.prog X.w) X.A (throw (.ref a) : Sem Flow) (SP X pins D) X.xe s4) X.xe { s' with heap := h3 } := by
        rw [hf]
        refine HandSPX.setFlight_upZ fl fun h4 hh4 up4 => wpAny_throw (tk _ _ ?_)
        exact ⟨a, B, sI, pins, σ1, H1, cls, d, rfl, I1, nb, (up.trans up3).trans up4,
          .inr (.inr (by rw [hs]; exact hh4)), na, os, ag, hno rfl⟩
      first
        | exact wpAny_bind (wpAny_pure (wpAny_bind fin))
        | exact wpAny_bind fin
  · cases f with
    | next => obtain ⟨σ', H', J', q⟩ := end1; exact wpAny_execs_nil ⟨σ', H', J'.ofTry I.ok, q⟩
    | brk => obtain ⟨σ', H', J', q⟩ := end1; exact ⟨σ', H', J'.ofTry I.ok, q⟩
    | cont => obtain ⟨σ', H', J', q⟩ := end1; exact ⟨σ', H', J'.ofTry I.ok, q⟩
    | ret u => obtain ⟨v, σ', H', J', r, q⟩ := end1; exact ⟨v, σ', H', J'.ofTry I.ok, r, q⟩
end
/-! ### what a tracked error tells -/
/-- what its class says -/
structure ErrC (K : PySem.W.Frag) (C : Addr) : Prop extends XfC K C where
  ac : PySem.W.findIn K (.ref C) "__class__" = some (some (.builtin "object.__class__"))
  sg : PySem.W.specialIn K (.builtin "object.__class__") "__get__" = some (some (.builtin "getset_descriptor.__get__"))
  tk : PySem.W.takesIn K (.builtin "object.__class__") = some true
  mo : PySem.W.mroIn K C (.type "object") = some true
section
variable {X : Cx} {pins : List (Addr × Obj)} {σ : St} {H : Hp} {s : Shared} {C a d : Addr} {fs : List (Str × V)}
theorem errO_inst (I : Inv X pins σ H s) (ea : H a = some (ErrO (.ref C) (some d) a)) (ed : H d = some (.xd fs)) :
    ∃ (oe : Obj) (od : Obj), PySem.W.InstAt s.heap a oe C (some od) ∧ ∃ mA : Str → Option Value, (∀ n, PySem.W.lookIn n od = some (mA n)) ∧ ∀ f, RelO (fs.lookup f) (mA f) := by
  obtain ⟨oe, vs, g, hz, hv⟩ := errO_at I.hok ea
  obtain ⟨mA, hns, hr⟩ := (show ObjOk X.prog X.w H s.heap d (.xd fs) from I.hok d _ ed)
  obtain ⟨od, ho, hl⟩ := lookIn_ns hns
  exact ⟨oe, od, ⟨g, hz.1, by unfold PySem.W.notCls; rw [hv] <;> rfl, by rw [hz.2]; exact ho⟩, mA, hl, hr⟩
/-- e.f of a tracked error -/
def tErrF (C : Addr) (f : Str) (te : TE) : TE := fun σ H Q => te σ H fun x H1 => ∃ (a d : Addr) (fs : List (Str × V)) (v : V),
  x = .ref a ∧ H1 a = some (ErrO (.ref C) (some d) a) ∧ H1 d = some (.xd fs) ∧ fs.lookup f = some v ∧ Q v H1
theorem pe_errF {e : Expr} {te : TE} {pos : Pos} {n : Str} (T : ErrC X.K C) (hno : PySem.W.findIn X.K (.ref C) n = some none) (he : PE X e te)
    (hb : attributeBase e n X.env (eval e X.env) = eval e X.env := by rfl) : PE X (.Attribute e n pos) (tErrF C n te) := by
  refine ⟨fun pins s σ H Q I h => attr_of hb (thn (he.run pins s σ H _ I h) fun u s1 hh => ?_)⟩
  obtain ⟨x, H1, I1, rx, a, d, fs, v, rfl, ea, ed, l, q⟩ := hh
  obtain rfl : u = Value.ref a := rx
  obtain ⟨oe, od, J, mA, hl, hr⟩ := errO_inst I1 ea ed
  obtain ⟨u, hu, ru⟩ := RelO.some_of (v := v) (o := mA n) (by rw [← l]; exact hr n)
  exact HandSPX.exc_get I1.kIn J T.ga T.gg T.exC (PySem.W.findObj_own T.hdC hno rfl (by rw [hl, hu])) (handed_of ru) ⟨v, H1, I1.tok _, ru, q⟩
/-- isinstance(e, T) of a tracked error, T a built-in class -/
def rIsErr (K : PySem.W.Frag) (C : Addr) : List V → Hp → VK → Prop := fun xs H Q => ∃ (a d : Addr) (fs : List (Str × V)) (n : String) (b : Bool),
  xs = [.ref a, .ty n] ∧ H a = some (ErrO (.ref C) (some d) a) ∧ H d = some (.xd fs) ∧ PySem.W.kitOne K (.ref C) (.type n) = some b ∧ Q (.bl b) H
theorem call_isErr (T : ErrC X.K C) : CallR X (.builtin "isinstance") (rIsErr X.K C) := by
  intro pins s σ H xs us Q I r h
  obtain ⟨a, d, fs, n, b, rfl, ea, ed, e, q⟩ := h
  obtain ⟨u1, u2, rfl, r1, r2⟩ := vals2 r
  cases (show u1 = Value.ref a from r1)
  cases (show u2 = Value.type n from r2)
  obtain ⟨oe, od, J, _⟩ := errO_inst I ea ed
  have hcl : (PySem.W.clsIn X.K C).isSome = true := by
    obtain ⟨cd, hc, _⟩ := PySem.W.any_some T.hdC
    rw [hc]
    rfl
  exact PySem.W.kia_one (PySem.W.kitx_exc hcl T.ga T.gg T.exC T.ac T.sg T.tk T.mo) I.kIn J e (fun z => nomatch z) fun tk => ⟨.bl b, H, I.tok tk, rfl, q⟩
end
end L2

set_option Elab.async false
set_option linter.all false
set_option maxRecDepth 100000
set_option maxHeartbeats 2000000
/-! A module's top with one expression in its midst that the kernel can't run (it leans on the world's hashes): real steps ahead of it and behind it, the expression by wp. -/
namespace Fw
open PySem PySem.W PySem.Calls PyProof.Rows
/-! ### real steps -/
section
variable {tb : String → Option Builtin} {p : Program} {w : World} {n₀ : Nat} {ann : Option Value}
theorem go_one {s s' : Shared} {t t' : Thread} (h1 : through t = false) (h2 : stepOk n₀ ann t = true) (h3 : step (denote tb) p w s t = .go s' t') {m : Nat} {r : Shared × Thread} (h : topGo tb p w n₀ ann m s' t' = some r) : topGo tb p w n₀ ann (m + 1) s t = some r := by
  unfold topGo
  rw [h1, h2, h3]
  exact h
/-- one step of a topGo, looked at -/
theorem go_out {s : Shared} {t : Thread} {m : Nat} {r : Shared × Thread} (h : topGo tb p w n₀ ann (m + 1) s t = some r) : through t = false ∧ stepOk n₀ ann t = true ∧ ∃ s' t', step (denote tb) p w s t = .go s' t' ∧ topGo tb p w n₀ ann m s' t' = some r := by
  unfold topGo at h
  cases h1 : through t with
  | true => rw [h1] at h; exact nomatch h
  | false =>
    cases h2 : stepOk n₀ ann t with
    | false => rw [h1, h2] at h; exact nomatch h
    | true =>
      rw [h1, h2] at h
      cases h3 : step (denote tb) p w s t with
      | halt o x => rw [h3] at h; exact nomatch h
      | go s' t' => rw [h3] at h; exact ⟨rfl, rfl, s', t', rfl, h⟩
theorem go_trans : ∀ {n m : Nat} {s s1 : Shared} {t t1 : Thread} {r : Shared × Thread}, topGo tb p w n₀ ann n s t = some (s1, t1) → topGo tb p w n₀ ann m s1 t1 = some r → ∃ k, topGo tb p w n₀ ann k s t = some r
  | 0, m, s, s1, t, t1, r, h, q => by
    cases (show some (s, t) = some (s1, t1) from h)
    exact ⟨m, q⟩
  | n + 1, m, s, s1, t, t1, r, h, q => by
    obtain ⟨h1, h2, s', t', h3, h4⟩ := go_out h
    obtain ⟨k, hk⟩ := go_trans h4 q
    exact ⟨k + 1, go_one h1 h2 h3 hk⟩
/-- what real steps of the top leave alone -/
theorem go_keeps : ∀ {n : Nat} {s s' : Shared} {t t' : Thread}, topGo tb p w n₀ ann n s t = some (s', t') → s'.heap.life = s.heap.life ∧ s'.os = s.os ∧
    ∀ b o, b < n₀ → b ≠ mainNs → b ≠ cStatics → ann ≠ some (.ref b) → s.heap.get? b = some o → s'.heap.get? b = some o
  | 0, s, s', t, t', h => by
    cases (show some (s, t) = some (s', t') from h)
    exact ⟨rfl, rfl, fun _ _ _ _ _ _ e => e⟩
  | n + 1, s, s', t, t', h => by
    obtain ⟨h1, h2, s1, t1, h3, h4⟩ := go_out h
    obtain ⟨l, os, fr⟩ := go_keeps h4
    obtain ⟨hc, hk⟩ := Bool.and_eq_true_iff.mp h2
    refine ⟨l.trans (step_life (denote tb) p w s s1 t t1 h3), os.trans (step_os_same h3 (by revert hk; cases t.cur <;> simp)), fun b o q1 q2 q3 q4 q5 => fr b o q1 q2 q3 q4 ?_⟩
    have e := step_heap (denote tb) p w s s1 t t1 h3
    cases hcur : t.cur with
    | update a _ f _ =>
      rw [hcur] at e hk
      rw [e]
      have ne : b ≠ a := fun z => by
        subst z
        simp only [Bool.or_eq_true, Nat.ble_eq, beq_iff_eq] at hk
        rcases hk with ((z | z) | z) | z
        · omega
        · exact q2 z
        · exact q3 z
        · exact q4 z
      rw [Heap.get?_update_ne _ _ _ _ ne]
      exact q5
    | alloc x _ =>
      rw [hcur] at e
      rw [e]
      exact Heap.get?_push_of_some x q5
    | _ =>
      rw [hcur] at e
      rw [e]
      exact q5
section
variable {α : Type} {B : List Frame} {K' : α → Sem Fin} {H' : Value → Sem Fin} {gd : Bool → Bool} {lv : List Value → List Value} {res : α → Flow}
/-- a piece that comes to its end: the same steps with what stands behind it -/
theorem seg_goes (hB : splitAtGen B = none) : ∀ (n : Nat) {s s' : Shared} {t t' : Thread} {f : Flow} {c' : Code} {p' : Pos}, Rel2 (fun a => .pure (.done (res a))) K' deadEnd H' gd lv B t t' →
    segRun tb p w n₀ ann B.length n s t = some (f, s', c', p') → ∃ a m, res a = f ∧ topGo tb p w n₀ ann m s t' = some (s', ⟨K' a, c', p', B⟩)
  | 0, _, _, _, _, _, _, _, _, h => nomatch (show (none : Option (Flow × Shared × Code × Pos)) = some _ from h)
  | n + 1, s, s', t, t', f, c', p', R, h => by
    obtain ⟨cur, code, pos, st⟩ := t
    obtain ⟨cur', code', pos', st'⟩ := t'
    obtain ⟨ec, ep, R⟩ := R
    dsimp only at ec ep R
    subst ec ep
    replace h : (match endAt B.length ⟨cur, code, pos, st⟩ with
      | some g => some (g, s, code, pos)
      | none => match stepOk n₀ ann ⟨cur, code, pos, st⟩ with
        | false => none
        | true => match step (denote tb) p w s ⟨cur, code, pos, st⟩ with
          | .go s' t' => segRun tb p w n₀ ann B.length n s' t'
          | .halt _ _ => none) = some (f, s', c', p') := h
    cases he : endAt B.length ⟨cur, code, pos, st⟩ with
    | some g =>
      rw [he] at h
      cases h
      rcases R with ⟨u1, u2, x, u3, u4⟩ | ⟨u1, F⟩
      · have v1 := u1.symm
        have v2 := u2.symm
        subst v1 v2 u3 u4
        cases x with
        | pure a =>
          have z : some (res a) = some f := by
            rw [← he]
            simp only [endAt, Sem.wrap, beq_self_eq_true]
          exact ⟨a, 0, Option.some.inj z, rfl⟩
        | _ => exact absurd he (by simp [endAt, Sem.wrap])
      · have e : (st.length == B.length) = false := beq_eq_false_iff_ne.mpr (Nat.ne_of_gt F.longer.1)
        simp only [endAt, e] at he
        exact nomatch he
    | none =>
      rw [he] at h
      cases hk : stepOk n₀ ann ⟨cur, code, pos, st⟩ with
      | false => rw [hk] at h; exact nomatch h
      | true =>
        rw [hk] at h
        cases hs : step (denote tb) p w s ⟨cur, code, pos, st⟩ with
        | halt o x => rw [hs] at h; exact nomatch h
        | go s2 t2 =>
          rw [hs] at h
          have h : segRun tb p w n₀ ann B.length n s2 t2 = some (f, s', c', p') := h
          rcases R with ⟨u1, u2, x, u3, u4⟩ | ⟨u1, F⟩
          · have v1 := u1.symm
            have v2 := u2.symm
            subst v1 v2 u3 u4
            have np : ∀ a, x ≠ .pure a := fun a z => by
              subst z
              simp [endAt, Sem.wrap] at he
            have nr : ∀ e, x ≠ .raise e := fun e z => by
              subst z
              obtain ⟨x1, x2, x3, x4, x5⟩ := s
              simp only [Sem.wrap, step] at hs
              exact nomatch hs
            obtain ⟨k1, k2⟩ := okOuter (K' := K') (H' := H') np nr hk
            obtain ⟨t3, k3, R3⟩ := step_outer (K' := K') (H' := H') hB np hs
            obtain ⟨a, m, ea, hm⟩ := seg_goes hB n R3 h
            exact ⟨a, m + 1, ea, go_one k2 k1 k3 hm⟩
          · subst u1
            obtain ⟨k1, k2⟩ := okInner hB F hk
            obtain ⟨t3, k3, R3⟩ := step_inner hB F hs
            obtain ⟨a, m, ea, hm⟩ := seg_goes hB n R3 h
            exact ⟨a, m + 1, ea, go_one k2 k1 k3 hm⟩
end
end
theorem clean0 : leftWithCleanup (#[] : Array GenState) = false := by simp [leftWithCleanup]
theorem step_halt_done {den : Code → Sem Fin} {p : Program} {w : World} {s S : Shared} {t : Thread} {f : Flow} (h : step den p w s t = .halt (.done f) S) : through t = true := by
  obtain ⟨heap, gens, drawn, toks, os⟩ := s
  obtain ⟨cur, code, pos, stack⟩ := t
  cases cur <;> simp only [step, finish] at h <;> (repeat' split at h) <;> simp_all [through]
/-! ### a run that ends -/
section
variable {p : Program} {w : World} {n₀ : Nat} {ann : Option Value}
/-- the run from here ends, at S, each thread on the way calm -/
def Halts (p : Program) (w : World) (s : Shared) (t : Thread) (S : Shared) : Prop :=
  ∃ n f, runN (denote table) p w n s t = .halted (.done f) S ∧ ∀ k s1 t1, runN (denote table) p w k s t = .running s1 t1 → t1.calm = true
theorem halts_step {s s' S : Shared} {t t' : Thread} (hc : t.calm = true) (hs : step (denote table) p w s t = .go s' t') (h : Halts p w s' t' S) : Halts p w s t S := by
  obtain ⟨n, f, h1, h2⟩ := h
  refine ⟨n + 1, f, by simp only [runN, hs]; exact h1, fun k s1 t1 q => ?_⟩
  cases k with
  | zero => cases (show Run.running s t = .running s1 t1 from q); exact hc
  | succ k =>
    simp only [runN, hs] at q
    exact h2 k s1 t1 q
theorem halts_go : ∀ {m : Nat} {s s' S : Shared} {t t' : Thread}, topGo table p w n₀ ann m s t = some (s', t') → Halts p w s' t' S → Halts p w s t S
  | 0, s, s', S, t, t', h, q => by
    cases (show some (s, t) = some (s', t') from h)
    exact q
  | m + 1, s, s', S, t, t', h, q => by
    obtain ⟨h1, h2, s1, t1, h3, h4⟩ := go_out h
    exact halts_step (Bool.and_eq_true_iff.mp h2).1 h3 (halts_go h4 q)
theorem halts_through {s : Shared} {t : Thread} (h : through t = true) (hg : s.gens = #[]) : Halts p w s t s := by
  obtain ⟨cur, code, pos, st⟩ := t
  obtain ⟨h1, h2⟩ := Bool.and_eq_true_iff.mp h
  have h1 : st = [] := List.isEmpty_iff.mp h1
  subst h1
  cases cur with
  | pure fin =>
    cases fin with
    | done f =>
      obtain ⟨hp, gs, d, tk, os⟩ := s
      have hg : gs = #[] := hg
      subst hg
      have e : step (denote table) p w ⟨hp, #[], d, tk, os⟩ ⟨.pure (.done f), code, pos, []⟩ = .halt (.done f) ⟨hp, #[], d, tk, os⟩ := by
        show finish (.done f) ⟨hp, #[], d, tk, os⟩ = _
        unfold finish
        rw [if_neg (by rw [clean0]; exact Bool.false_ne_true)]
      refine ⟨1, f, by simp only [runN, e], fun k s1 t1 q => ?_⟩
      cases k with
      | zero =>
        cases (show Run.running _ _ = .running s1 t1 from q)
        rfl
      | succ k =>
        simp only [runN, e] at q
        exact nomatch q
    | again c => exact nomatch h2
  | _ => exact nomatch h2
theorem halts_top : ∀ {N : Nat} {s S : Shared} {t : Thread}, topRun table p w n₀ ann N s t = some S → S.gens = #[] → Halts p w s t S
  | 0, _, _, _, h, _ => nomatch (show (none : Option Shared) = some _ from h)
  | N + 1, s, S, t, h, hg => by
    unfold topRun at h
    cases h1 : through t with
    | true =>
      rw [h1] at h
      cases (show some s = some S from h)
      exact halts_through h1 hg
    | false =>
      cases h2 : stepOk n₀ ann t with
      | false => rw [h1, h2] at h; exact nomatch h
      | true =>
        rw [h1, h2] at h
        cases h3 : step (denote table) p w s t with
        | halt o x => rw [h3] at h; exact nomatch h
        | go s' t' =>
          rw [h3] at h
          exact halts_step (Bool.and_eq_true_iff.mp h2).1 h3 (halts_top h hg)
theorem forget_bare {s S : Shared} (h : s.forget = S.forget) (hg : S.gens = #[]) : s = S := by
  obtain ⟨hp, gs, d, tk, os⟩ := s
  obtain ⟨hp', gs', d', tk', os'⟩ := S
  have hg : gs' = #[] := hg
  subst hg
  have h : (⟨hp, gs.map GenState.forget, d, tk, os⟩ : Shared) = ⟨hp', #[], d', tk', os'⟩ := by
    have z : (⟨hp, gs.map GenState.forget, d, tk, os⟩ : Shared) = ⟨hp', (#[] : Array GenState).map GenState.forget, d', tk', os'⟩ := h
    rw [z, Array.map_empty]
  injection h with h1 h2 h3 h4 h5
  have hz : gs = #[] := by
    have := congrArg Array.size h2
    simp only [Array.size_map] at this
    exact Array.eq_empty_of_size_eq_zero this
  subst h1 h3 h4 h5 hz
  rfl
theorem halts_runs {s S : Shared} {cur : Sem Fin} {c : Code} {pos : Pos} {st : List Frame} (h : Halts p w s ⟨cur, c, pos, st⟩ S) (hg : S.gens = #[]) : ∃ f, Runs (model p w) ⟨c, none, none, [], none⟩ pos cur st s (.ret (.ok f)) S := by
  obtain ⟨n, f, h1, h2⟩ := h
  obtain ⟨s', h3, h4⟩ := runN_calm_runNI (denote table) p w h1 h2
  have e := forget_bare (s := s') (S := S) (by first | exact h4 | exact h4.symm) hg
  subst e
  exact ⟨f, (halts_iff (M := model p w) (r := .ok f)).mp ⟨n, h3⟩ |>.1⟩
theorem runs_halts {s S : Shared} {cur : Sem Fin} {c : Code} {pos : Pos} {st : List Frame} {f : Flow} (h : Runs (model p w) ⟨c, none, none, [], none⟩ pos cur st s (.ret (.ok f)) S) (hg : S.gens = #[]) : Halts p w s ⟨cur, c, pos, st⟩ S := by
  have hl : leftWithCleanup S.gens = false := by rw [hg]; exact clean0
  obtain ⟨n, hn⟩ := (halts_iff (M := model p w) (r := .ok f)).mpr ⟨h, hl⟩
  obtain ⟨s'', h1, h2, h3⟩ := runNI_real (denote table) p w (show runNI (denote table) p w n s ⟨cur, c, pos, st⟩ = .halted (.done f) S from hn) rfl
  have e := forget_bare h2 hg
  subst e
  exact ⟨n, f, h1, h3⟩
/-- an expression by wp, with what stands behind it -/
theorem halts_mid {α : Type} {m : Sem α} {K : α → Sem Fin} {H : Value → Sem Fin} {gd : Bool → Bool} {lv : List Value → List Value} {s S : Shared} {c : Code} {pos : Pos} {B : List Frame} {Q : α → Pos → Shared → Prop} (hg : S.gens = #[])
    (hw : Sem.wp (model p w) ((⟨c, none, none, [], none⟩ : Ctx).over B) m Q (fun _ _ _ => False) pos s) (hk : ∀ a p' s', Q a p' s' → Halts p w s' ⟨K a, c, p', B⟩ S) : Halts p w s ⟨m.wrap K H gd lv, c, pos, B⟩ S := by
  obtain ⟨e, s'', hr, f, he, hS⟩ := runs_wrap_of_wp (M := model p w) (Γ := ⟨c, none, none, [], none⟩) (fs := B) (Φ := fun e s'' => ∃ f, e = .ret (.ok f) ∧ s'' = S) K H gd lv m hw
    (fun a p' s' q => by
      obtain ⟨f, r⟩ := halts_runs (hk a p' s' q) hg
      exact ⟨_, _, r, f, rfl, rfl⟩) (fun _ _ _ q => q.elim)
  subst he hS
  exact runs_halts hr hg
/-- the end, seen by the scheduler -/
theorem halts_sched {s S : Shared} {t : Thread} (h : Halts p w s t S) (hr : s.asleep) : ∃ n t', schedN (denote table) p w n (.single s t) = .running (.single S t') ∧ through t' = true := by
  obtain ⟨n, f, h1, h2⟩ := h
  have last : ∀ (n : Nat) (s : Shared) (t : Thread), runN (denote table) p w n s t = .halted (.done f) S → ∃ k s' t', runN (denote table) p w k s t = .running s' t' ∧ step (denote table) p w s' t' = .halt (.done f) S := by
    intro n
    induction n with
    | zero => intro s t h; exact nomatch h
    | succ n ih =>
      intro s t h
      cases hs : step (denote table) p w s t with
      | go s' t' =>
        simp only [runN, hs] at h
        obtain ⟨k, s1, t1, q1, q2⟩ := ih s' t' h
        exact ⟨k + 1, s1, t1, by simp only [runN, hs]; exact q1, q2⟩
      | halt o s' =>
        simp only [runN, hs] at h
        cases h
        exact ⟨0, s, t, rfl, hs⟩
  obtain ⟨k, s', t', q1, q2⟩ := last n s t h1
  have e := step_halt_same (denote table) p w s' S t' _ q2
  subst e
  refine ⟨k, t', ?_, ?_⟩
  · have goes : ∀ (k j : Nat) (s : Shared) (t : Thread) (s1 : Shared) (t1 : Thread), j < k → (∃ s2 t2, runN (denote table) p w k s t = .running s2 t2) → runN (denote table) p w j s t = .running s1 t1 → ∃ s3 t3, step (denote table) p w s1 t1 = .go s3 t3 := by
      intro k
      induction k with
      | zero => intro j s t s1 t1 hj; omega
      | succ k ih =>
        intro j s t s1 t1 hj ⟨s2, t2, r⟩ q
        cases hs : step (denote table) p w s t with
        | halt o x => simp only [runN, hs] at r; exact nomatch r
        | go s' t' =>
          cases j with
          | zero =>
            cases (show Run.running s t = .running s1 t1 from q)
            exact ⟨s', t', hs⟩
          | succ j =>
            simp only [runN, hs] at r q
            exact ih j s' t' s1 t1 (by omega) ⟨s2, t2, r⟩ q
    rw [schedN_prefix (denote table) p w k s t hr fun j s1 t1 hj r => ⟨h2 j s1 t1 r, fun z => by
      obtain ⟨s3, t3, q3⟩ := goes k j s t s1 t1 hj ⟨_, _, q1⟩ r
      rw [q3] at z
      exact nomatch z⟩, q1]
    rfl
  · exact step_halt_done q2
end
end Fw

set_option Elab.async false
set_option linter.all false
set_option maxRecDepth 100000
set_option maxHeartbeats 2000000
/-! An open row from its top, world by world: the top's end is told for each world by itself, no bound of steps is asked. -/
namespace Fw
open PySem PySem.W PySem.Calls PyProof.Rows HandSHeadRun
/-- the top's end at a world -/
structure TopEnd (p q : Program) (loose : List Str) (Xt : Shared → Bool) {α : Type} (Yf : Shared → α) (Ya : World → α) (w : World) (s₀ s₁ : Shared) : Prop where
  run : Halts p w s₀ (topStub p) s₁
  ns : s₀.heap.isNs mainGlobals = true
  g0 : s₀.gens = #[]
  g1 : s₁.gens = #[]
  life : s₁.heap.life = s₀.heap.life
  os : s₁.os = s₀.os
  keeps : ∀ b o, b < s₀.heap.objs.size → b ≠ mainNs → b ≠ cStatics → s₀.heap.nsMap mainGlobals "__annotations__" ≠ some (.ref b) → s₀.heap.get? b = some o → s₁.heap.get? b = some o
  looks : looksF p s₀.heap s₁ = true
  seen : openSeen q loose (importedModules p.main.body) Xt true s₁ = openGood q loose
  obs : Yf s₁ = Ya w
def TopsE (p q : Program) (loose : List Str) (Xt : Shared → Bool) {α : Type} (Yf : Shared → α) (Ya : World → α) : Prop :=
  ∀ w : World, ∃ (N : Nat) (s₀ s₁ : Shared), fencedOpening table p w N = some s₀ ∧ TopEnd p q loose Xt Yf Ya w s₀ s₁
section
variable {p q : Program} {loose : List Str} {Xt : Shared → Bool} {XP : (Str → Option Value) → Heap → Prop} {α : Type} {Yf : Shared → α} {Ya : World → α}
/-- what stands behind the top -/
structure Stands (p q : Program) (loose : List Str) (XP : (Str → Option Value) → Heap → Prop) (w : World) (a b : Shared) : Prop where
  ran : TopRan p w a b
  sleeps : b.asleep
  bare : b.gens = #[]
  ns : b.heap.isNs mainGlobals = true
  gr : Ground q loose [] XP w b (b.heap.nsMap mainGlobals) (b.heap.nsMap builtinsNs) b.heap
theorem stands (T : TopsE p q loose Xt Yf Ya) (hX : ∀ s, Xt s = true → XP (s.heap.nsMap mainGlobals) s.heap) (hch : chainsOk q = true) (w : World) :
    (∃ s, AfterRun (opening p) w s) ∧ ∀ s, AfterRun (opening p) w s → ∃ a, fenceModules? p s = some a ∧ a.gens = #[] ∧ ∃ b, Stands p q loose XP w a b ∧ Yf b = Ya w := by
  obtain ⟨N, a, b, hf, E⟩ := T w
  obtain ⟨s, hi, hfe⟩ := Option.bind_eq_some_iff.mp hf
  have A := AfterImport.of_importEnds hi
  refine ⟨⟨s, A⟩, fun s' hs' => ?_⟩
  have es : s' = s := AfterImport.unique hs' A
  subst es
  have za : a.asleep := Shared.asleep_of_life (fence_lifeW hfe) A.life
  have lk : (staticsOk (importedModules p.main.body) a.heap b.heap && namesBound p b.heap && gensDone b && laidKept a.heap b.heap) = true := E.looks
  obtain ⟨lk, k4⟩ := Bool.and_eq_true_iff.mp lk
  obtain ⟨lk, k3⟩ := Bool.and_eq_true_iff.mp lk
  obtain ⟨k1, k2⟩ := Bool.and_eq_true_iff.mp lk
  obtain ⟨G, _, hns, c1, c2, c3, c4⟩ := ground_of_open (w := w) hX hch E.seen
  refine ⟨a, hfe, E.g0, b, ⟨⟨halts_sched E.run za, E.life, Shared.rest_eq E.os, fun x o hx nx => ?_, c1, statics_of_ok k1, c2, c3, c4, gens_of_done k3, names_of_bound k2, laid_of_kept k4⟩, Shared.asleep_of_life E.life za, E.g1, hns, G⟩, E.obs⟩
  exact E.keeps x o (Heap.lt_size hx) (fun z => nx (.inl z)) (fun z => nx (.inr (.inl z))) (fun z => nx (.inr (.inr ((Pin.globalOf_eq E.ns _).trans z)))) hx
end
/-- the row, from its top's ends and the walk of its call -/
theorem holdsE {r : OpenRow} {q : Program} {loose : List Str} {Xt : Shared → Bool} {XP : (Str → Option Value) → Heap → Prop} {H : Hook} {d : DefRec} {kwd : List (Str × Expr)}
    (T : TopsE r.prog q loose Xt H.obs H.val) (hX : ∀ s, Xt s = true → XP (s.heap.nsMap mainGlobals) s.heap) (hXk : ∀ mg h h', XP mg h → (∀ b o, h.get? b = some o → h'.get? b = some o) → XP mg h')
    (hdef : defOf q r.name = some (d, kwd)) (hp : r.prog.theDef r.name = some (d.params, d.body, d.scope)) (hk : kwWritten? d.params.kwonlyargs d.params.kw_defaults = some kwd) (hRf : ∀ s, Xt s = true → RecFacts r.records s.heap)
    (hwr : (!r.writes || r.records.isEmpty) = true) (k1 : r.wellSaid = true) (ok : (chainsOk q && opensWell r.prog && (frees r.toRowW && r.within.isEmpty)) = true) (hb : r.prog.bare) (hw : r.toRowW.promised)
    (call : WalkO q loose XP H.says r.toRowW d kwd fun f vs => PySem.call f vs) : r.Holds := by
  obtain ⟨ok12, ok34⟩ := Bool.and_eq_true_iff.mp ok
  obtain ⟨hch, opens⟩ := Bool.and_eq_true_iff.mp ok12
  obtain ⟨ok3, ok4⟩ := Bool.and_eq_true_iff.mp ok34
  obtain ⟨hsame, hu, ha, hap, hm⟩ := frees_parts ok3
  refine ⟨k1, hw, ⟨hb, opens, by show r.toRowW.makers.map _ = []; rw [hm]; rfl⟩, hw.witness, fun w => ⟨(stands T hX hch w).1, fun s' hs' => ?_⟩⟩
  obtain ⟨a, hf, ga, b, S, y⟩ := (stands (XP := fun mg h => XP mg h ∧ RecFacts r.toRowW.records h) T (fun s hs => ⟨hX s hs, hRf s hs⟩) hch w).2 s' hs'
  have G2 := S.gr
  have RF := G2.X.2
  have G1 : Ground q loose [] XP w b (b.heap.nsMap mainGlobals) (b.heap.nsMap builtinsNs) b.heap :=
    ⟨G2.T, G2.B, G2.D, G2.TE, G2.TD, G2.W, G2.X.1, G2.cls, G2.has, G2.apart, G2.once, G2.K⟩
  refine ⟨a, hf, ga, b, S.ran, fun n hn => ?_, RF.1, RF.2.1, ?_⟩
  · have en : n = r.name := by
      split at hn <;> simp_all
    subst en
    exact pinned_of_view S.ns G1 hdef hp hk
  have G := RF.ground (R := r.toRowW.records) G1
  refine ClaimW.callFrom_of_specG (c := r.toRowW.claim) S.sleeps S.bare fun args hpre hlay ord hord => ?_
  obtain ⟨⟨vs, s₁⟩, laid⟩ := Option.isSome_iff_exists.mp (layAllW_isSome (P := w.params) (ord := ord) G.has args r.toRowW.args b (pre_splitW hpre).1)
  have keeps := layAllW_keeps _ _ _ laid
  have rest := layAllW_rest _ _ _ laid
  obtain ⟨as, hrd, hin, hold⟩ := reads_layAllW hord _ _ _ laid hlay s₁.heap (fun _ _ e => e)
  have L : Laid r.toRowW.records w b s₁ args vs as := ⟨⟨ord, hord, laid⟩, hrd, hin, hold, keeps, rest.1.trans S.bare, rest.2.2.1⟩
  have Gk := G.keeps hXk keeps
  obtain ⟨fa, o, pm, cd, doc, dV, kV, h1, h2, h3, h4, h5⟩ := Gk.fn hdef
  have W := call w b s₁ _ _ Gk (H.keeps _ _ _ (H.of w b y) keeps) fa o pm cd doc dV kV h2 h3 h4 h5 (defOf_name hdef ▸ h1) L.gens args vs as hpre hlay L.reads L.well (L.low G.low)
  have idf := ident_freeW hu ha hap
  have wi : r.toRowW.claim.within = [] := List.isEmpty_iff.mp ok4
  refine ⟨vs, s₁, laid, wpAny_bind (wpAny_nsGet Gk.T.g ?_)⟩
  rw [h1]
  refine wpAny_bind (wpAny_mono W (fun v s' g => ?_) fun e s' g => ?_)
  · have z := g.laid (c := r.toRowW.claim) hsame wi idf L
    exact wpAny_pure ⟨_, rfl, z.1, z.2.1, z.2.2, fun qq => ⟨namesKept_of S.ran S.ns r.keeps keeps g.2.1.old, noTable hwr qq⟩⟩
  · have z := g.laid (c := r.toRowW.claim) hsame wi idf L
    exact ⟨z.1, z.2.1, z.2.2, fun qq => ⟨namesKept_of S.ran S.ns r.keeps keeps g.2.1.old, noTable hwr qq⟩⟩
end Fw

set_option Elab.async false
set_option linter.all false
set_option maxRecDepth 100000
set_option maxHeartbeats 2000000
/-! A display of 18 pairs whose keys are tuples of two texts, whose values are tuples of texts: what it leaves, object by object. -/
namespace Fw
open PySem PySem.W PySem.Calls PyProof.Rows
abbrev PK : Type := Str × Str × List Str
def key (p : PK) : List Str := [p.1, p.2.1]
def toksV : Nat → List Str → List Value
  | _, [] => []
  | t, x :: r => .str x t :: toksV (t + 1) r
/-- a tuple of texts, their tokens from t on -/
def tO (t : Nat) (zs : List Str) : Obj := { cls := .type "tuple", data := .seq (toksV t zs).toArray }
def dO (es : List DictEntry) : Obj := { cls := .type "dict", data := .dict es.toArray es.length }
def lo : Nat → List PK → List Obj
  | _, [] => []
  | t, p :: r => tO t (key p) :: tO (t + 2) p.2.2 :: lo (t + p.2.2.length + 5) r
def lt : Nat → List PK → Nat
  | t, [] => t
  | t, p :: r => lt (t + p.2.2.length + 5) r
def lx : Nat → List PK → List (List Str × Addr × Value)
  | _, [] => []
  | a, p :: r => (key p, a, .ref (a + 1)) :: lx (a + 2) r
theorem lo_app : ∀ (a b : List PK) (t : Nat), lo t (a ++ b) = lo t a ++ lo (lt t a) b
  | [], _, _ => rfl
  | p :: a, b, t => by
    show _ :: _ :: lo _ (a ++ b) = _
    rw [lo_app a b]
    rfl
theorem lt_app : ∀ (a b : List PK) (t : Nat), lt t (a ++ b) = lt (lt t a) b
  | [], _, _ => rfl
  | p :: a, b, t => lt_app a b _
theorem lo_len : ∀ (a : List PK) (t : Nat), (lo t a).length = 2 * a.length
  | [], _ => rfl
  | p :: a, t => by
    show (lo _ a).length + 1 + 1 = 2 * (a.length + 1)
    rw [lo_len a]
    omega
theorem lx_app : ∀ (a b : List PK) (i : Nat), lx i (a ++ b) = lx i a ++ lx (i + 2 * a.length) b
  | [], _, _ => rfl
  | p :: a, b, i => by
    show _ :: lx (i + 2) (a ++ b) = _
    rw [lx_app a b, show i + 2 + 2 * a.length = i + 2 * (p :: a).length by rw [List.length_cons]; omega]
    rfl
theorem lx_keys : ∀ (a : List PK) (i : Nat), (lx i a).map (·.1) = a.map key
  | [], _ => rfl
  | p :: a, i => by
    show _ :: (lx _ a).map _ = _
    rw [lx_keys a]
    rfl
theorem lx_len : ∀ (a : List PK) (i : Nat), (lx i a).length = a.length
  | [], _ => rfl
  | p :: a, i => congrArg (· + 1) (lx_len a _)
/-! ### a heap with objects behind -/
def ext (h : Heap) (l : List Obj) : Heap := ⟨h.objs ++ l.toArray, h.life⟩
theorem ext_nil (h : Heap) : ext h [] = h := by
  obtain ⟨o, l⟩ := h
  show (⟨o ++ ([] : List Obj).toArray, l⟩ : Heap) = ⟨o, l⟩
  rw [show o ++ ([] : List Obj).toArray = o by simp]
theorem ext_push (h : Heap) (l : List Obj) (o : Obj) : (ext h l).push o = ext h (l ++ [o]) := by
  show (⟨(h.objs ++ l.toArray).push o, h.life⟩ : Heap) = ⟨h.objs ++ (l ++ [o]).toArray, h.life⟩
  rw [show (h.objs ++ l.toArray).push o = h.objs ++ (l ++ [o]).toArray by simp]
theorem ext_size (h : Heap) (l : List Obj) : (ext h l).objs.size = h.objs.size + l.length := by
  show (h.objs ++ l.toArray).size = _
  simp
theorem ext_get {h : Heap} {l : List Obj} {i : Nat} {o : Obj} (e : l[i]? = some o) (ho : ∀ c d s, o ≠ ⟨c, d, .freed, s⟩) : (ext h l).get? (h.objs.size + i) = some o := by
  have g : (h.objs ++ l.toArray)[h.objs.size + i]? = some o := by
    rw [Array.getElem?_append_right (by omega), show h.objs.size + i - h.objs.size = i by omega]
    simpa using e
  unfold Heap.get? ext
  rw [g]
  obtain ⟨c, d, dt, s⟩ := o
  cases dt <;> first | rfl | exact absurd rfl (ho c d s)
theorem ext_upd (h : Heap) (o : Obj) (l : List Obj) (f : Obj → Obj) : (ext h (o :: l)).update h.objs.size f = ext h (f o :: l) := by
  show (⟨(h.objs ++ (o :: l).toArray).modify h.objs.size f, h.life⟩ : Heap) = ⟨h.objs ++ (f o :: l).toArray, h.life⟩
  congr 1
  apply Array.ext_getElem?
  intro i
  rw [Array.getElem?_modify]
  by_cases e : h.objs.size = i
  · subst e
    rw [if_pos rfl, Array.getElem?_append_right (Nat.le_refl _), Array.getElem?_append_right (Nat.le_refl _)]
    simp
  · rw [if_neg e]
    by_cases q : i < h.objs.size
    · rw [Array.getElem?_append_left q, Array.getElem?_append_left q]
    · rw [Array.getElem?_append_right (by omega), Array.getElem?_append_right (by omega)]
      obtain ⟨k, hk⟩ : ∃ k, i - h.objs.size = k + 1 := ⟨i - h.objs.size - 1, by omega⟩
      rw [hk]
      simp
section
variable {prog : Program} {w : World} {A : Around} {E : Value → Shared → Prop} {env : Env}
theorem items_of : ∀ (zs : List Str) (t : Nat), ItemsAre (strKind prog w) zs (toksV t zs)
  | [], _ => .nil
  | x :: r, t => .cons (by show Value.isStrOf x (.str x t) = true; simp [Value.isStrOf]) (items_of r (t + 1))
theorem tO_key {h : Heap} {l : List Obj} {i t : Nat} {zs : List Str} (e : l[i]? = some (tO t zs)) : IsTupleKey (strKind prog w) (ext h l) zs (h.objs.size + i) :=
  ⟨_, _, _, ext_get e (fun c d s z => by injection z with _ _ z _; exact nomatch z), rfl, rfl, by simpa using items_of zs t⟩
theorem lx_is {h : Heap} {l : List Obj} : ∀ (L : List PK) (t i : Nat), (∀ j o, (lo t L)[j]? = some o → l[i + j]? = some o) → ∀ x ∈ lx (h.objs.size + i) L, IsTupleKey (strKind prog w) (ext h l) x.1 x.2.1
  | [], _, _, _, x, hx => nomatch hx
  | p :: r, t, i, hl, x, hx => by
    rcases List.mem_cons.mp hx with z | z
    · subst z
      exact tO_key (hl 0 _ rfl)
    · refine lx_is r (t + p.2.2.length + 5) (i + 2) (fun j o e => ?_) x z
      rw [show i + 2 + j = i + (j + 2) by omega]
      exact hl (j + 2) o e
/-- texts, written -/
inductive CS : List Expr → List Str → Prop where
  | nil : CS [] []
  | cons {x : Str} {k : Nat} {pos : Pos} {es : List Expr} {zs : List Str} : CS es zs → CS (.Constant (.str x) k pos :: es) (x :: zs)
theorem wp_items {pos : Pos} : ∀ {es : List Expr} {zs : List Str} {s : Shared} {Q : List Value → Shared → Prop}, CS es zs → Q (toksV s.toks zs) { s with toks := s.toks + zs.length } → wpAny (model prog w) A (spliced (backTo pos (starEach es env))) Q E s
  | _, _, s, Q, .nil, h => wpAny_items_nil h
  | _, _, s, Q, .cons (zs := zs) c, h => wpAny_items_cons (wpAny_Constant_str (wp_items c (by
      show Q (_ :: toksV (s.toks + 1) zs) { s with toks := s.toks + 1 + zs.length }
      rw [show s.toks + 1 + zs.length = s.toks + (zs.length + 1) by omega]
      exact h)))
theorem toksV_len : ∀ (zs : List Str) (t : Nat), (toksV t zs).length = zs.length
  | [], _ => rfl
  | x :: r, t => congrArg (· + 1) (toksV_len r _)
theorem wp_tuple {es : List Expr} {zs : List Str} {k : Nat} {pos : Pos} {s : Shared} {Q : Value → Shared → Prop} (c : CS es zs) (hz : zs.length ≤ 100) (h : Q (.ref s.heap.objs.size) { s with heap := s.heap.push (tO s.toks zs), toks := s.toks + zs.length }) :
    wpAny (model prog w) A (eval (.Tuple es k pos) env) Q E s :=
  wpAny_Tuple (wp_items c ⟨by rw [toksV_len]; exact Nat.le_trans hz (by decide), h⟩)
/-- the pairs, as they are evaluated -/
inductive PairsAre (env : Env) (pos : Pos) : List (Sem Value × Sem Value) → List PK → Prop where
  | nil : PairsAre env pos [] []
  | cons {ke ve : List Expr} {kk vk : Nat} {kp vp : Pos} {p : PK} {ps : List (Sem Value × Sem Value)} {r : List PK} : CS ke (key p) → CS ve p.2.2 → p.2.2.length ≤ 100 → PairsAre env pos ps r →
    PairsAre env pos ((eval (.Tuple ke kk kp) env, (do let x ← eval (.Tuple ve vk vp) env; standAt pos; pure x)) :: ps) (p :: r)
/-- the state behind some of the pairs: the dict first, then keys and values -/
def mid (w : World) (prog : Program) (s : Shared) (L : List PK) : Shared := { s with heap := ext s.heap (dO ((lx (s.heap.objs.size + 1) L).map (entryOfKey (tupleKind (strKind prog w)))) :: lo s.toks L), toks := lt s.toks L }
/-- d[k] = v of a new key: the entry is the last -/
theorem wp_new {s : Shared} {L : List PK} {p : PK} {h : Heap} {t : Nat} {Q : Unit → Shared → Prop} (hu : A.units < cLine) (hs : s.heap = ext h (dO ((lx (h.objs.size + 1) L).map (entryOfKey (tupleKind (strKind prog w)))) :: lo t (L ++ [p])))
    (hn : ((L ++ [p]).map key).Nodup) (hz : L.length ≤ 1000) (q : Q () { s with heap := ext h (dO ((lx (h.objs.size + 1) (L ++ [p])).map (entryOfKey (tupleKind (strKind prog w)))) :: lo t (L ++ [p])), toks := s.toks + 3 }) :
    wpAny (model prog w) A (dictSet h.objs.size (.ref (h.objs.size + 1 + 2 * L.length)) (.ref (h.objs.size + 1 + 2 * L.length + 1))) Q E s := by
  obtain ⟨hp, g, d, tk, os⟩ := s
  have hs : hp = _ := hs
  have is : ∀ x ∈ lx (h.objs.size + 1) (L ++ [p]), IsTupleKey (strKind prog w) hp x.1 x.2.1 := by
    rw [hs]
    exact lx_is (L ++ [p]) t 1 fun j o e => by rw [show 1 + j = j + 1 by omega]; exact e
  have mine : IsTupleKey (strKind prog w) hp (key p) (h.objs.size + 1 + 2 * L.length) := is (key p, _, _) (by
    rw [lx_app]
    exact List.mem_append_right _ (List.mem_cons_self ..))
  have hd : hp.get? h.objs.size = some (dO ((lx (h.objs.size + 1) L).map (entryOfKey (tupleKind (strKind prog w))))) := by
    rw [hs]
    exact ext_get (h := h) (i := 0) rfl (fun c d s z => by injection z with _ _ z _; exact nomatch z)
  have nk : ∀ (j : Nat) (x : Addr × Value), (lx (h.objs.size + 1) L)[j]? ≠ some (key p, x) := fun j x z => by
    rw [List.map_append, List.nodup_append] at hn
    have m1 : key p ∈ L.map key := by
      rw [← lx_keys L (h.objs.size + 1)]
      exact List.mem_map.mpr ⟨_, List.mem_of_getElem? z, rfl⟩
    exact hn.2.2 _ m1 _ (List.mem_singleton.mpr rfl) rfl
  unfold dictSet
  try with_reducible refine wpAny_holding ?_
  refine wpAny_bind ((tupleKind (strKind prog w)).pyHash hu mine ?_)
  unfold dictSetHashed
  try with_reducible refine wpAny_holding ?_
  refine wpAny_bind (wpAny_dictFind_heap (knd := tupleKind (strKind prog w)) (s := ⟨hp, g, d, tk + 3, os⟩) hu mine hd rfl (by simp) (fun x hx => is x (by rw [lx_app]; exact List.mem_append_left _ hx)) (by
    rw [lx_keys]
    rw [List.map_append, List.nodup_append] at hn
    exact hn.1) (fun _ => ?_) fun j x z => absurd z (nk j x))
  refine wpAny_bind (wpAny_rule (wpAny_updateDictKeys (s := ⟨hp, g, d, tk + 3, os⟩) hd rfl ?_ (by
    rw [List.size_toArray, List.length_map, lx_len]
    exact Nat.le_trans hz (by decide))))
  have e : hp.update h.objs.size (Obj.mapDictKeys fun es => es.push ⟨(tupleKind (strKind prog w)).hash (key p), .ref (h.objs.size + 1 + 2 * L.length), .ref (h.objs.size + 1 + 2 * L.length + 1)⟩) = ext h (dO ((lx (h.objs.size + 1) (L ++ [p])).map (entryOfKey (tupleKind (strKind prog w)))) :: lo t (L ++ [p])) := by
    rw [hs, ext_upd]
    congr 2
    rw [lx_app, List.map_append]
    show (⟨_, _, _, _⟩ : Obj) = ⟨_, _, _, _⟩
    simp [dO, Obj.mapDictKeys, lx, entryOfKey]
  rw [e]
  exact q
/-- pair by pair -/
theorem wp_long {pos : Pos} {s : Shared} (hu : A.units < cLine) : ∀ (rest done : List PK) (pairs : List (Sem Value × Sem Value)) (Q : PUnit → Shared → Prop), PairsAre env pos pairs rest → ((done ++ rest).map key).Nodup → (done ++ rest).length ≤ 1000 → Q PUnit.unit (mid w prog s (done ++ rest)) →
    wpAny (model prog w) A (forIn pairs PUnit.unit fun (x : Sem Value × Sem Value) (_ : PUnit) => (do let kv ← x.1; let vv ← holding [kv] x.2; holding [kv, vv] (dictSet s.heap.objs.size kv vv); pure (ForInStep.yield PUnit.unit) : Sem (ForInStep PUnit))) Q E (mid w prog s done)
  | _, done, _, Q, .nil, _, _, q => by
    rw [List.append_nil] at q
    rw [List.forIn_nil]
    exact wpAny_pure q
  | _, done, _, Q, .cons (ke := ke) (ve := ve) (kk := kk) (vk := vk) (kp := kp) (vp := vp) (p := p) (ps := ps) (r := r) c1 c2 c3 c4, hn, hl, q => by
    rw [List.forIn_cons]
    dsimp only
    have ed : done ++ p :: r = (done ++ [p]) ++ r := by simp
    rw [ed] at hn hl q
    have hl' : (done ++ [p]).length ≤ 1000 := Nat.le_trans (by rw [List.length_append (as := done ++ [p])]; exact Nat.le_add_right _ _) hl
    have hn' : ((done ++ [p]).map key).Nodup := by
      rw [List.map_append] at hn
      exact (List.nodup_append.mp hn).1
    refine wpAny_bind (wpAny_bind (wp_tuple (k := kk) (pos := kp) c1 (by show 2 ≤ 100; decide) (wpAny_bind (wpAny_holding (wpAny_bind (wp_tuple (k := vk) (pos := vp) c2 c3 (wpAny_bind (wpAny_standAt (wpAny_pure ?_)))))))))
    have es : s.heap.objs.size + 1 + 2 * done.length = (mid w prog s done).heap.objs.size := by
      show _ = (ext s.heap _).objs.size
      rw [ext_size, List.length_cons, lo_len]
      omega
    have e2 : ∀ o, ((mid w prog s done).heap.push o).objs.size = s.heap.objs.size + 1 + 2 * done.length + 1 := fun o => by
      rw [Heap.size_push, es]
    have e1 : (ext s.heap (dO ((lx (s.heap.objs.size + 1) done).map (entryOfKey (tupleKind (strKind prog w)))) :: lo s.toks done)).objs.size = s.heap.objs.size + 1 + 2 * done.length := es.symm
    have eo : lo s.toks (done ++ [p]) = lo s.toks done ++ [tO (lt s.toks done) (key p)] ++ [tO (lt s.toks done + 2) p.2.2] := by
      rw [lo_app]
      simp [lo]
    have et : lt s.toks (done ++ [p]) = lt s.toks done + p.2.2.length + 5 := by
      rw [lt_app]
      rfl
    refine wpAny_bind (wpAny_holding ?_)
    show wpAny _ _ (dictSet s.heap.objs.size (.ref (mid w prog s done).heap.objs.size) (.ref ((mid w prog s done).heap.push _).objs.size)) _ _ _
    rw [e2, ← es]
    refine wp_new (t := s.toks) (p := p) hu ?_ hn' (by rw [List.length_append] at hl'; omega) (wpAny_pure ?_)
    · show ((ext s.heap _).push _).push _ = _
      rw [ext_push, ext_push, eo]
      rfl
    · refine (congrArg (fun x => wpAny (model prog w) A _ Q E x) ?_).mp (wp_long hu r (done ++ [p]) ps Q c4 hn hl q)
      show mid w prog s (done ++ [p]) = _
      unfold mid
      rw [et]
      show Shared.mk _ _ _ _ _ = Shared.mk _ _ _ _ _
      congr 1
      show lt s.toks done + p.2.2.length + 5 = lt s.toks done + 2 + p.2.2.length + 3
      omega
end
end Fw

set_option Elab.async false
set_option linter.all false
set_option maxRecDepth 100000
set_option maxHeartbeats 2000000
namespace Fw
open PySem PySem.W PySem.Calls PyProof.Rows
theorem ext_ext (h : Heap) (a b : List Obj) : ext (ext h a) b = ext h (a ++ b) := by
  show (⟨(h.objs ++ a.toArray) ++ b.toArray, h.life⟩ : Heap) = ⟨h.objs ++ (a ++ b).toArray, h.life⟩
  congr 1
  simp
section
variable {prog : Program} {w : World} {A : Around} {E : Value → Shared → Prop} {env : Env}
theorem pairs_len {pos : Pos} : ∀ {ps : List (Sem Value × Sem Value)} {L : List PK}, PairsAre env pos ps L → ps.length = L.length
  | _, _, .nil => rfl
  | _, _, .cons _ _ _ r => congrArg (· + 1) (pairs_len r)
theorem wp_sub_long {pos : Pos} {s : Shared} {ps : List (Sem Value × Sem Value)} {L : List PK} {Q : Addr → Shared → Prop} (hu : A.units < cLine) (c : PairsAre env pos ps L) (h15 : 15 < ps.length) (hn : (L.map key).Nodup) (hl : L.length ≤ 1000) (q : Q s.heap.objs.size (mid w prog s L)) :
    wpAny (model prog w) A (subDict ps) Q E s := by
  unfold subDict
  refine wpAny_bind (wpAny_alloc ?_)
  refine wpAny_bind (wpAny_holding ?_)
  rw [if_neg (by omega)]
  refine wpAny_bind (wpAny_rule ?_)
  have e : (Shared.mk (s.heap.push { cls := .type "dict", data := .dict #[] }) s.gens s.drawn s.toks s.os) = mid w prog s [] := by
    have z : s.heap.push { cls := .type "dict", data := .dict #[] } = ext s.heap [dO []] := by
      have z := ext_push s.heap [] { cls := .type "dict", data := .dict #[] }
      rw [ext_nil] at z
      exact z
    show Shared.mk _ _ _ _ _ = Shared.mk (ext s.heap [dO []]) _ _ _ _
    rw [z]
    rfl
  rw [e]
  exact wpAny_bind (wp_long (E := E) hu L [] ps _ c hn hl (wpAny_pure (wpAny_pure q)))
theorem wp_sub_one {pos : Pos} {s : Shared} {ps : List (Sem Value × Sem Value)} {p : PK} {Q : Addr → Shared → Prop} (hu : A.units < cLine) (c : PairsAre env pos ps [p]) (q : Q s.heap.objs.size (mid w prog s [p])) :
    wpAny (model prog w) A (subDict ps) Q E s := by
  cases c with
  | cons c1 c2 c3 c4 =>
    rename_i ke ve kk vk kp vp ps
    cases c4
    unfold subDict
    refine wpAny_bind (wpAny_alloc ?_)
    refine wpAny_bind (wpAny_holding ?_)
    rw [if_pos (by show 1 ≤ 15; decide)]
    unfold evalPairs
    refine wpAny_bind (wpAny_bind (wp_tuple (k := kk) (pos := kp) c1 (by show 2 ≤ 100; decide) (wpAny_bind (wpAny_holding (wpAny_bind (wp_tuple (k := vk) (pos := vp) c2 c3 (wpAny_bind (wpAny_standAt (wpAny_pure ?_)))))))))
    unfold evalPairs
    refine wpAny_bind (wpAny_holding (wpAny_pure (wpAny_pure ?_)))
    refine wpAny_holding ?_
    rw [List.forIn_cons]
    dsimp only
    have e1 : (s.heap.push { cls := .type "dict", data := .dict #[] }).objs.size = s.heap.objs.size + 1 + 2 * ([] : List PK).length := by rw [Heap.size_push]; rfl
    have e2 : ∀ o, ((s.heap.push { cls := .type "dict", data := .dict #[] }).push o).objs.size = s.heap.objs.size + 1 + 2 * ([] : List PK).length + 1 := fun o => by rw [Heap.size_push, Heap.size_push]; rfl
    rw [e1, e2]
    refine wpAny_bind (wpAny_bind (wpAny_bind (wp_new (t := s.toks) (p := p) (L := []) hu ?_ (by simp) (Nat.zero_le _) (wpAny_pure ?_))))
    · show ((s.heap.push _).push _).push _ = _
      conv => lhs; rw [← ext_nil s.heap]
      rw [ext_push, ext_push, ext_push]
      rfl
    · dsimp only
      rw [List.forIn_nil]
      refine wpAny_pure (wpAny_pure (wpAny_pure ?_))
      refine (congrArg (fun x => Q s.heap.objs.size x) ?_).mp q
      unfold mid
      show Shared.mk _ _ _ _ _ = Shared.mk _ _ _ _ _
      congr 1
      show s.toks + p.2.2.length + 5 = s.toks + 2 + p.2.2.length + 3
      omega
/-- the state behind the whole display -/
def fin (w : World) (prog : Program) (s : Shared) (L : List PK) (p : PK) : Shared :=
  let m := s.heap.objs.size
  let a := m + 1 + 2 * L.length
  let k := tupleKind (strKind prog w)
  { s with heap := ext s.heap (dO ((lx (m + 1) L ++ lx (a + 1) [p]).map (entryOfKey k)) :: (lo s.toks L ++ dO ((lx (a + 1) [p]).map (entryOfKey k)) :: lo (lt s.toks L) [p])), toks := lt s.toks (L ++ [p]) }
theorem wp_merge {s : Shared} {L : List PK} {p : PK} {Q : Unit → Shared → Prop} (hu : A.units < cLine) (hn : ((L ++ [p]).map key).Nodup) (hl : L.length ≤ 1000) (h0 : L ≠ []) (hm : sysModules < s.heap.objs.size) (q : Q () (fin w prog s L p)) :
    wpAny (model prog w) A (mergeMapping s.heap.objs.size (.ref (s.heap.objs.size + 1 + 2 * L.length)) false) Q E (mid w prog (mid w prog s L) [p]) := by
  have ea : (ext s.heap (dO ((lx (s.heap.objs.size + 1) L).map (entryOfKey (tupleKind (strKind prog w)))) :: lo s.toks L)).objs.size = s.heap.objs.size + 1 + 2 * L.length := by
    rw [ext_size, List.length_cons, lo_len]
    omega
  have eS : mid w prog (mid w prog s L) [p] = { s with heap := ext s.heap (dO ((lx (s.heap.objs.size + 1) L).map (entryOfKey (tupleKind (strKind prog w)))) :: (lo s.toks L ++ dO ((lx (s.heap.objs.size + 1 + 2 * L.length + 1) [p]).map (entryOfKey (tupleKind (strKind prog w)))) :: lo (lt s.toks L) [p])), toks := lt s.toks (L ++ [p]) } := by
    unfold mid
    dsimp only
    rw [ea, ext_ext, lt_app]
    rfl
  rw [eS]
  generalize hH : ext s.heap (dO ((lx (s.heap.objs.size + 1) L).map (entryOfKey (tupleKind (strKind prog w)))) :: (lo s.toks L ++ dO ((lx (s.heap.objs.size + 1 + 2 * L.length + 1) [p]).map (entryOfKey (tupleKind (strKind prog w)))) :: lo (lt s.toks L) [p])) = H
  have nf : ∀ es c d sl, dO es ≠ ⟨c, d, .freed, sl⟩ := fun es c d sl z => by injection z with _ _ z _; exact nomatch z
  have gd : H.get? s.heap.objs.size = some (dO ((lx (s.heap.objs.size + 1) L).map (entryOfKey (tupleKind (strKind prog w))))) := by
    rw [← hH]
    exact ext_get (h := s.heap) (i := 0) rfl (nf _)
  have gs : H.get? (s.heap.objs.size + 1 + 2 * L.length) = some (dO ((lx (s.heap.objs.size + 1 + 2 * L.length + 1) [p]).map (entryOfKey (tupleKind (strKind prog w))))) := by
    rw [← hH, show s.heap.objs.size + 1 + 2 * L.length = s.heap.objs.size + (1 + 2 * L.length) by omega]
    refine ext_get (h := s.heap) (i := 1 + 2 * L.length) ?_ (nf _)
    rw [show 1 + 2 * L.length = 2 * L.length + 1 by omega, List.getElem?_cons_succ, List.getElem?_append_right (by rw [lo_len]; exact Nat.le_refl _), lo_len, Nat.sub_self]
    rfl
  have is1 : ∀ x ∈ lx (s.heap.objs.size + 1) L, IsTupleKey (strKind prog w) H x.1 x.2.1 := by
    rw [← hH]
    refine lx_is L s.toks 1 fun j o e => ?_
    rw [show 1 + j = j + 1 by omega, List.getElem?_cons_succ, List.getElem?_append_left (by
      have := (List.getElem?_eq_some_iff.mp e).1
      exact this)]
    exact e
  have is2 : IsTupleKey (strKind prog w) H (key p) (s.heap.objs.size + 1 + 2 * L.length + 1) := by
    rw [← hH, show s.heap.objs.size + 1 + 2 * L.length + 1 = s.heap.objs.size + (2 * L.length + 2) by omega]
    refine tO_key (t := lt s.toks L) ?_
    rw [show 2 * L.length + 2 = (2 * L.length + 1) + 1 by omega, List.getElem?_cons_succ, List.getElem?_append_right (by rw [lo_len]; omega), lo_len, show 2 * L.length + 1 - 2 * L.length = 1 by omega]
    rfl
  have nk : ∀ (j : Nat) (x : Addr × Value), (lx (s.heap.objs.size + 1) L)[j]? ≠ some (key p, x) := fun j x z => by
    rw [List.map_append, List.nodup_append] at hn
    have m1 : key p ∈ L.map key := by
      rw [← lx_keys L (s.heap.objs.size + 1)]
      exact List.mem_map.mpr ⟨_, List.mem_of_getElem? z, rfl⟩
    exact hn.2.2 _ m1 _ (List.mem_singleton.mpr rfl) rfl
  have hT : (Shared.mk H s.gens s.drawn (lt s.toks (L ++ [p])) s.os).TypeIs (.ref (s.heap.objs.size + 1 + 2 * L.length)) "dict" := ⟨_, gs, rfl⟩
  unfold mergeMapping
  refine wpAny_bind (wpAny_isInstance hT isSubtype_dict_dict ?_)
  rw [if_pos rfl]
  refine wpAny_bind (wpAny_specialOf hT F.slot_dict_iter.lookup ?_)
  rw [show ((some (Value.builtin "dict.__iter__") : Option Value) == some (Value.builtin "dict.__iter__")) = true from beq_self_eq_true _]
  refine wpAny_bind (wpAny_pure ?_)
  dsimp only
  rw [if_neg (by
    rw [beq_iff_eq]
    intro z
    have y := hm
    rw [← z] at y
    exact absurd y (Nat.not_lt.mpr (by omega)))]
  refine wpAny_bind (wpAny_dictEntries gd rfl ?_)
  rw [if_neg (by
    intro z
    have : ((lx (s.heap.objs.size + 1) L).map (entryOfKey (tupleKind (strKind prog w)))) = [] := by simpa using z
    rw [List.map_eq_nil_iff] at this
    have := congrArg List.length this
    rw [lx_len] at this
    exact h0 (List.eq_nil_of_length_eq_zero this))]
  refine wpAny_bind (wpAny_dictEntries gs rfl ?_)
  refine wpAny_bind (wpAny_dictEpoch gs rfl ?_)
  show wpAny _ _ (forIn (List.range 1) PUnit.unit _ >>= _) _ _ _
  rw [show List.range 1 = [0] from rfl, List.forIn_cons]
  refine wpAny_bind (wpAny_bind (wpAny_bind (wpAny_dictEntries gs rfl ?_)))
  show wpAny _ _ (do
    holding [Value.ref (s.heap.objs.size + 1 + 2 * L.length + 1), Value.ref (s.heap.objs.size + 1 + 2 * L.length + 1 + 1)] (dictPut s.heap.objs.size ((tupleKind (strKind prog w)).hash (key p)) (Value.ref (s.heap.objs.size + 1 + 2 * L.length + 1)) (Value.ref (s.heap.objs.size + 1 + 2 * L.length + 1 + 1)))
    let x ← dictEpoch (s.heap.objs.size + 1 + 2 * L.length)
    if (x != 1) = true then do
        let _ ← (unsupported "dict.changed-during-merge" : Sem PUnit)
        pure (ForInStep.yield PUnit.unit)
      else pure (ForInStep.yield PUnit.unit) : Sem (ForInStep PUnit)) _ _ _
  refine wpAny_bind (wpAny_holding ?_)
  unfold dictPut
  refine wpAny_bind (wpAny_dictFind_heap (knd := tupleKind (strKind prog w)) hu is2 gd rfl (by simp) is1 (by
    rw [lx_keys]
    rw [List.map_append, List.nodup_append] at hn
    exact hn.1) (fun _ => ?_) fun j x z => absurd z (nk j x))
  refine wpAny_updateDictKeys gd rfl ?_ (by
    rw [List.size_toArray, List.length_map, lx_len]
    exact Nat.le_trans hl (by decide))
  have eH : H.update s.heap.objs.size (Obj.mapDictKeys fun es => es.push ⟨(tupleKind (strKind prog w)).hash (key p), .ref (s.heap.objs.size + 1 + 2 * L.length + 1), .ref (s.heap.objs.size + 1 + 2 * L.length + 1 + 1)⟩) = (fin w prog s L p).heap := by
    rw [← hH, ext_upd]
    show ext s.heap _ = ext s.heap _
    congr 2
    rw [List.map_append]
    show (⟨_, _, _, _⟩ : Obj) = ⟨_, _, _, _⟩
    simp [dO, Obj.mapDictKeys, lx, entryOfKey]
  rw [eH]
  have e9 : s.heap.objs.size + 1 + 2 * L.length = s.heap.objs.size + (2 * L.length + 1) := by omega
  have gs' : (fin w prog s L p).heap.get? (s.heap.objs.size + 1 + 2 * L.length) = some (dO ((lx (s.heap.objs.size + 1 + 2 * L.length + 1) [p]).map (entryOfKey (tupleKind (strKind prog w))))) := by
    refine (congrArg (fun a => (fin w prog s L p).heap.get? a) e9).trans (ext_get (h := s.heap) (i := 2 * L.length + 1) ?_ (nf _))
    rw [List.getElem?_cons_succ, List.getElem?_append_right (by rw [lo_len]; exact Nat.le_refl _), lo_len, Nat.sub_self]
    rfl
  refine wpAny_bind (wpAny_dictEpoch gs' rfl ?_)
  rw [if_neg (by show ¬ ((1 : Nat) != 1) = true; decide)]
  refine wpAny_pure ?_
  dsimp only
  rw [List.forIn_nil]
  exact wpAny_pure (wpAny_pure q)
end
end Fw

set_option Elab.async false
set_option linter.all false
set_option maxRecDepth 100000
set_option maxHeartbeats 2000000
namespace Fw
open PySem PySem.W PySem.Calls PyProof.Rows
abbrev PS : Type := Sem Value × Sem Value
theorem gather (f : (Option (Sem Value) × Sem Value) → (Option Addr × List PS) → Sem (ForInStep (Option Addr × List PS))) (hf : ∀ (p : PS) (run : List PS), run.length + 1 < 17 → f (some p.1, p.2) (none, run) = pure (.yield (none, run ++ [p]))) (rest : List PS) :
    ∀ (a run : List PS), run.length + a.length < 17 → forIn ((a ++ rest).map fun p => (some p.1, p.2)) ((none : Option Addr), run) f = forIn (rest.map fun p => (some p.1, p.2)) ((none : Option Addr), run ++ a) f
  | [], run, _ => by rw [List.append_nil]; rfl
  | p :: a, run, h => by
    rw [List.length_cons] at h
    rw [List.cons_append, List.map_cons, List.forIn_cons, hf p run (by omega), pure_bind]
    dsimp only
    rw [gather f hf rest a (run ++ [p]) (by rw [List.length_append]; show run.length + 1 + a.length < 17; omega), List.append_assoc]
    rfl
section
variable {prog : Program} {w : World} {A : Around} {E : Value → Shared → Prop} {env : Env}
theorem wp_display {pos : Pos} {s : Shared} {a : List PS} {b c : PS} {L : List PK} {p : PK} {Q : Value → Shared → Prop} (hu : A.units < cLine) (ha : a.length = 16) (c1 : PairsAre env pos (a ++ [b]) L) (c2 : PairsAre env pos [c] [p]) (hn : ((L ++ [p]).map key).Nodup) (hm : sysModules < s.heap.objs.size)
    (q : Q (.ref s.heap.objs.size) (fin w prog s L p)) : wpAny (model prog w) A (dictDisplay ((a ++ [b, c]).map fun p => (some p.1, p.2))) Q E s := by
  have hL : L.length = 17 := by
    rw [← pairs_len c1, List.length_append, ha]
    rfl
  have hn1 : (L.map key).Nodup := by
    rw [List.map_append] at hn
    exact (List.nodup_append.mp hn).1
  unfold dictDisplay
  dsimp only
  rw [gather _ (fun p run h => by
    have hne : ((run ++ [(p.1, p.2)]).length == 17) = false := by simp; omega
    simp only [hne, Bool.false_eq_true, if_false]) [b, c] a [] (by rw [ha]; decide)]
  rw [List.nil_append, List.map_cons, List.forIn_cons]
  have e17 : ((a ++ [(b.1, b.2)]).length == 17) = true := by rw [List.length_append, ha]; rfl
  have ne : (a ++ [(b.1, b.2)]).isEmpty = false := by cases a <;> rfl
  simp only [e17, if_true, ne, Bool.false_eq_true, if_false]
  refine wpAny_bind (wpAny_bind (wpAny_bind (wpAny_bind (wp_sub_long (w := w) (prog := prog) hu c1 (by rw [List.length_append, ha]; show 15 < 17; decide) hn1 (by rw [hL]; decide) ?_))))
  refine wpAny_pure (wpAny_pure ?_)
  dsimp only
  rw [List.map_cons, List.map_nil, List.forIn_cons]
  simp only [List.nil_append, List.length_singleton, show ((1 : Nat) == 17) = false from rfl, Bool.false_eq_true, if_false]
  refine wpAny_bind (wpAny_pure ?_)
  dsimp only
  rw [List.forIn_nil]
  refine wpAny_pure ?_
  simp only [List.isEmpty_cons, Bool.false_eq_true, if_false]
  refine wpAny_bind (wpAny_bind (wpAny_holding (wp_sub_one (w := w) (prog := prog) hu c2 ?_)))
  have es : (mid w prog s L).heap.objs.size = s.heap.objs.size + 1 + 2 * L.length := by
    show (ext s.heap _).objs.size = _
    rw [ext_size, List.length_cons, lo_len]
    omega
  rw [es]
  refine wpAny_bind (wpAny_onRaise (wpAny_holding (wp_merge hu hn (by rw [hL]; decide) (fun z => by rw [z] at hL; exact nomatch hL) hm ?_)))
  exact wpAny_pure (wpAny_pure q)
end
end Fw

set_option Elab.async false
set_option linter.all false
set_option maxRecDepth 100000
set_option maxHeartbeats 2000000
/-! The top with the display in its midst, run in the kernel ahead of it and behind it. -/
noncomputable section
namespace Fw
open PySem PySem.W PySem.Calls PyProof.Rows HandSHeadRun
section
variable (st : SharedT → Thread → Option (SharedT × Thread)) (n0 : Nat) (ann : Option Value)
def goS : Nat → SharedT → Thread → Option (SharedT × Thread)
  | 0, s, t => some (s, t)
  | m + 1, s, t => match through t with
    | true => none
    | false => match stepOk n0 ann t with
      | false => none
      | true => match st s t with
        | some (s', t') => frS s' fun s' => goS m s' t'
        | none => none
def segF : Nat → SharedT → Thread → Option (Flow × SharedT × Code × Pos)
  | 0, _, _ => none
  | m + 1, s, t => match endAt 1 t with
    | some f => some (f, s, t.code, t.pos)
    | none => match stepOk n0 ann t with
      | false => none
      | true => match st s t with
        | some (s', t') => frS s' fun s' => segF m s' t'
        | none => none
end
section
variable {tb : String → Option Builtin} {p : Program} {w : World} {n0 : Nat} {ann : Option Value}
theorem goS_ok : ∀ {m : Nat} {s s' : SharedT} {t t' : Thread}, goS (stepT (denote tb) p w) n0 ann m s t = some (s', t') → topGo tb p w n0 ann m s.abs t = some (s'.abs, t')
  | 0, s, s', t, t', h => by
    cases (show some (s, t) = some (s', t') from h)
    rfl
  | m + 1, s, s', t, t', h => by
    have h : (match through t with
      | true => none
      | false => match stepOk n0 ann t with
        | false => none
        | true => match stepT (denote tb) p w s t with
          | some (s', t') => frS s' fun s' => goS (stepT (denote tb) p w) n0 ann m s' t'
          | none => none) = some (s', t') := h
    cases h1 : through t with
    | true => rw [h1] at h; exact nomatch h
    | false =>
      cases h2 : stepOk n0 ann t with
      | false => rw [h1, h2] at h; exact nomatch h
      | true =>
        rw [h1, h2] at h
        cases h3 : stepT (denote tb) p w s t with
        | none => rw [h3] at h; exact nomatch h
        | some r =>
          obtain ⟨s2, t2⟩ := r
          rw [h3] at h
          have h : (frS s2 fun s' => goS (stepT (denote tb) p w) n0 ann m s' t2) = some (s', t') := h
          rw [frS_eq] at h
          exact go_one h1 h2 (stepT_spec h3) (goS_ok h)
theorem segF_ok : ∀ {m : Nat} {s s' : SharedT} {t : Thread} {f : Flow} {c : Code} {q : Pos}, segF (stepT (denote tb) p w) n0 ann m s t = some (f, s', c, q) → segRun tb p w n0 ann 1 m s.abs t = some (f, s'.abs, c, q)
  | 0, _, _, _, _, _, _, h => nomatch (show (none : Option (Flow × SharedT × Code × Pos)) = some _ from h)
  | m + 1, s, s', t, f, c, q, h => by
    have h : (match endAt 1 t with
      | some f => some (f, s, t.code, t.pos)
      | none => match stepOk n0 ann t with
        | false => none
        | true => match stepT (denote tb) p w s t with
          | some (s', t') => frS s' fun s' => segF (stepT (denote tb) p w) n0 ann m s' t'
          | none => none) = some (f, s', c, q) := h
    unfold segRun
    cases h1 : endAt 1 t with
    | some g =>
      rw [h1] at h
      cases (show some (g, s, t.code, t.pos) = some (f, s', c, q) from h)
      rfl
    | none =>
      cases h2 : stepOk n0 ann t with
      | false => rw [h1, h2] at h; exact nomatch h
      | true =>
        rw [h1, h2] at h
        cases h3 : stepT (denote tb) p w s t with
        | none => rw [h3] at h; exact nomatch h
        | some r =>
          obtain ⟨s2, t2⟩ := r
          rw [h3] at h
          have h : (frS s2 fun s' => segF (stepT (denote tb) p w) n0 ann m s' t2) = some (f, s', c, q) := h
          rw [frS_eq] at h
          show (match step (denote tb) p w s.abs t with
            | .go s' t' => segRun tb p w n0 ann 1 m s' t'
            | .halt _ _ => none) = some (f, s'.abs, c, q)
          rw [stepT_spec h3]
          exact segF_ok h
end
/-! ### the display's objects behind a tree -/
def finObjs (w : World) (prog : Program) (m t : Nat) (L : List PK) (p : PK) : List Obj :=
  dO ((lx (m + 1) L ++ lx (m + 1 + 2 * L.length + 1) [p]).map (entryOfKey (tupleKind (strKind prog w)))) :: (lo t L ++ dO ((lx (m + 1 + 2 * L.length + 1) [p]).map (entryOfKey (tupleKind (strKind prog w)))) :: lo (lt t L) [p])
def layT (w : World) (prog : Program) (L : List PK) (p : PK) (s : SharedT) : Option SharedT := match putAll (finObjs w prog s.n s.toks L p) s.tree s.n with
  | some (t, n) => frNat n fun n => some ⟨t, n, s.life, s.gens, s.drawn, lt s.toks (L ++ [p]), s.os⟩
  | none => none
theorem ext_foldl : ∀ (l : List Obj) (h : Heap), l.foldl (fun h o => h.push o) h = ext h l
  | [], h => (ext_nil h).symm
  | o :: l, h => by
    show l.foldl _ (h.push o) = _
    rw [ext_foldl l (h.push o)]
    have z := ext_push h [] o
    rw [ext_nil] at z
    rw [z, ext_ext]
    rfl
theorem layT_ok {w : World} {prog : Program} {L : List PK} {p : PK} {s s' : SharedT} (h : layT w prog L p s = some s') : s'.abs = fin w prog s.abs L p := by
  unfold layT at h
  cases e : putAll (finObjs w prog s.n s.toks L p) s.tree s.n with
  | none => rw [e] at h; exact nomatch h
  | some r =>
    obtain ⟨t, n⟩ := r
    rw [e] at h
    have h : (frNat n fun n => some (⟨t, n, s.life, s.gens, s.drawn, lt s.toks (L ++ [p]), s.os⟩ : SharedT)) = some s' := h
    rw [frNat_eq] at h
    cases h
    have q := putAll_ok (life := s.life) e
    rw [ext_foldl] at q
    have sz : (absHeap s.tree s.n s.life).objs.size = s.n := absHeap_size s.tree s.n s.life
    show Shared.mk (absHeap t n s.life) s.gens s.drawn _ s.os = Shared.mk (ext (absHeap s.tree s.n s.life) _) s.gens s.drawn _ s.os
    rw [q]
    show _ = Shared.mk (ext (absHeap s.tree s.n s.life) (finObjs w prog (absHeap s.tree s.n s.life).objs.size s.toks L p)) s.gens s.drawn _ s.os
    rw [sz]
    rfl
/-! ### the whole -/
structure Plan where
  p : Program
  env : Env
  q0 : Pos
  pos0 : Pos
  l : List Stmt
  rest : List Stmt
  x : Str
  np : Pos
  keys : List (Option Expr)
  values : List Expr
  dpos : Pos
  apos : Pos
  L : List PK
  pk : PK
  k0 : Nat
  kB : Nat
  kL : Nat
  kF : Nat
  M : Nat
def Plan.st (D : Plan) : Stmt := .Assign [.Name D.x D.np] (.Dict D.keys D.values D.dpos) D.apos
def Plan.b (D : Plan) : List Stmt := D.l ++ D.st :: D.rest
def Plan.c (D : Plan) : Code := .body (behindTheImports D.p) D.env
def Plan.B (D : Plan) : List Frame := [topFrame D.q0]
def Plan.F (D : Plan) (v : Value) : Sem Flow := do
  standAt D.np
  bindName D.env D.x v
  pure .next
structure Big where
  tA : Thread
  n1 : Nat
  cB : Code
  c1 : Code
  c3 : Code
  s4 : SharedT
def bigF (st : SharedT → Thread → Option (SharedT × Thread)) (D : Plan) (w : World) (os : OsState) (p2 : Pos) : Option Big := match putAll (boot_heap w.params).objs.toList .nil 0 with
  | none => none
  | some (t, n) => frNat n fun n0 => match goS st n0 (bootAnn w) D.k0 (bootT w os (t, n0)) (topStub D.p) with
    | none => none
    | some (sA, tA) => match segF st n0 (bootAnn w) D.kB sA (blockOf (behindTheImports D.p) D.env D.c D.pos0 D.B) with
      | some (.next, sB, cB, pB) => (match segF st n0 (bootAnn w) D.kL sB (piecesOf D.l D.env D.c pB D.B) with
        | some (.next, s1, c1, _) => (match layT w D.p D.L D.pk s1 with
          | some s2 => (match segF st n0 (bootAnn w) D.kF s2 ⟨(D.F (.ref s1.n)).wrap doneF deadEnd id id, D.c, p2, D.B⟩ with
            | some (.next, s3, c3, p3) => (match goF st n0 (bootAnn w) D.M s3 (restOf D.rest D.env D.c p3 D.B) with
              | some s4 => some ⟨tA, s1.n, cB, c1, c3, s4⟩
              | none => none)
            | _ => none)
          | none => none)
        | _ => none)
      | _ => none
end Fw

end
set_option Elab.async false
set_option linter.all false
set_option maxRecDepth 100000
set_option maxHeartbeats 2000000
noncomputable section
namespace Fw
open PySem PySem.W PySem.Calls PyProof.Rows HandSHeadRun
/-- an expression by wp, with what stands behind it; its end told by a property -/
theorem halts_mid' {p : Program} {w : World} {α : Type} {m : Sem α} {K : α → Sem Fin} {H : Value → Sem Fin} {gd : Bool → Bool} {lv : List Value → List Value} {s : Shared} {c : Code} {pos : Pos} {B : List Frame} {Q : α → Pos → Shared → Prop} {G : Shared → Prop}
    (hw : Sem.wp (model p w) ((⟨c, none, none, [], none⟩ : Ctx).over B) m Q (fun _ _ _ => False) pos s) (hk : ∀ a p' s', Q a p' s' → ∃ S, Halts p w s' ⟨K a, c, p', B⟩ S ∧ S.gens = #[] ∧ G S) : ∃ S, Halts p w s ⟨m.wrap K H gd lv, c, pos, B⟩ S ∧ S.gens = #[] ∧ G S := by
  obtain ⟨e, S, hr, f, he, hg, hS⟩ := runs_wrap_of_wp (M := model p w) (Γ := ⟨c, none, none, [], none⟩) (fs := B) (Φ := fun e s'' => ∃ f, e = .ret (.ok f) ∧ s''.gens = #[] ∧ G s'') K H gd lv m hw
    (fun a p' s' q => by
      obtain ⟨S, h1, h2, h3⟩ := hk a p' s' q
      obtain ⟨f, r⟩ := halts_runs h1 h2
      exact ⟨_, _, r, f, rfl, h2, h3⟩) (fun _ _ _ q => q.elim)
  subst he
  exact ⟨S, runs_halts hr hg, hg, hS⟩
/-- what an end keeps of a state -/
structure Keeps (n₀ : Nat) (ann : Option Value) (s S : Shared) : Prop where
  life : S.heap.life = s.heap.life
  os : S.os = s.os
  fr : ∀ b o, b < n₀ → b ≠ mainNs → b ≠ cStatics → ann ≠ some (.ref b) → s.heap.get? b = some o → S.heap.get? b = some o
theorem Keeps.trans {n₀ : Nat} {ann : Option Value} {a b c : Shared} (x : Keeps n₀ ann a b) (y : Keeps n₀ ann b c) : Keeps n₀ ann a c :=
  ⟨y.life.trans x.life, y.os.trans x.os, fun i o h1 h2 h3 h4 h => y.fr i o h1 h2 h3 h4 (x.fr i o h1 h2 h3 h4 h)⟩
theorem keeps_go {p : Program} {w : World} {tb : String → Option Builtin} {n₀ : Nat} {ann : Option Value} {n : Nat} {s s' : Shared} {t t' : Thread} (h : topGo tb p w n₀ ann n s t = some (s', t')) : Keeps n₀ ann s s' := by
  obtain ⟨a, b, c⟩ := go_keeps h
  exact ⟨a, b, c⟩
theorem keeps_fin {w : World} {prog : Program} {n₀ : Nat} {ann : Option Value} (s : Shared) (L : List PK) (p : PK) : Keeps n₀ ann s (fin w prog s L p) :=
  ⟨rfl, rfl, fun b o _ _ _ _ h => by
    have lt := Heap.lt_size h
    show (ext s.heap _).get? b = some o
    unfold Heap.get? ext at *
    rw [Array.getElem?_append_left lt]
    exact h⟩
section
variable {D : Plan} {w : World} {os : OsState}
/-- the Around of the top's body -/
def topA (D : Plan) : Around := { handled := none, depth := frameCount [(.builtin "claim.caller" {}, D.q0)] + D.c.weight, frames := none, guards := none, units := D.c.cUnits + unitsOf [(.builtin "claim.caller" {}, D.q0)] }
theorem top_in : ((⟨D.c, none, none, [], none⟩ : Ctx).over D.B).In (topA D) :=
  ⟨rfl, Nat.le_refl _, fun l hl => (nomatch (show (none : Option (List Env)) = some l from hl)), fun g hg => (nomatch (show (none : Option (List Code)) = some g from hg)), Nat.le_refl _⟩
/-- what must be shown of a plan -/
structure Plan.Ok (D : Plan) : Prop where
  body : behindTheImports D.p = D.l ++ D.st :: D.rest
  sw : swapsWith (.Dict D.keys D.values D.dpos) (some (.Name D.x D.np)) D.apos.line D.env = pure false
  shape : ∃ (a : List PS) (b c : PS), a.length = 16 ∧ (evalEachOpt D.keys D.env).zip ((evalEach D.values D.env).map fun v => do let x ← v; standAt D.dpos; pure x) = (a ++ [b, c]).map (fun p => (some p.1, p.2)) ∧ PairsAre D.env D.dpos (a ++ [b]) D.L ∧ PairsAre D.env D.dpos [c] [D.pk]
  nd : ((D.L ++ [D.pk]).map key).Nodup
  un : D.c.cUnits + unitsOf [(.builtin "claim.caller" {}, D.q0)] < cLine
theorem big_ends {D : Plan} {w : World} {os : OsState} {G : SharedT → Prop} (O : D.Ok)
    (run : ∀ p2, ∃ r, bigF (stepT (denote table) D.p w) D w os p2 = some r ∧ r.tA = ⟨denote table D.c, D.c, D.pos0, D.B⟩ ∧ Nat.blt sysModules r.n1 = true ∧ r.cB = D.c ∧ r.c1 = D.c ∧ r.c3 = D.c ∧ r.s4.gens = #[] ∧ G r.s4) (hz : (⟨boot_heap w.params, #[], boot_drawn, boot_toks, os⟩ : Shared).asleep) :
    ∃ S : SharedT, Halts D.p w ⟨boot_heap w.params, #[], boot_drawn, boot_toks, os⟩ (topStub D.p) S.abs ∧ S.gens = #[] ∧ Keeps (boot_heap w.params).objs.size (bootAnn w) ⟨boot_heap w.params, #[], boot_drawn, boot_toks, os⟩ S.abs ∧ G S := by
  -- what the run is, piece by piece
  have parts : ∀ p2, ∃ (sA sB s1 s2 s3 s4 : SharedT) (pB p1 p3 : Pos) (t : PySem.W.BT) (n : Nat), putAll (boot_heap w.params).objs.toList .nil 0 = some (t, n) ∧ goS (stepT (denote table) D.p w) n (bootAnn w) D.k0 (bootT w os (t, n)) (topStub D.p) = some (sA, ⟨denote table D.c, D.c, D.pos0, D.B⟩) ∧
      segF (stepT (denote table) D.p w) n (bootAnn w) D.kB sA (blockOf (behindTheImports D.p) D.env D.c D.pos0 D.B) = some (.next, sB, D.c, pB) ∧ segF (stepT (denote table) D.p w) n (bootAnn w) D.kL sB (piecesOf D.l D.env D.c pB D.B) = some (.next, s1, D.c, p1) ∧ Nat.blt sysModules s1.n = true ∧ layT w D.p D.L D.pk s1 = some s2 ∧
      segF (stepT (denote table) D.p w) n (bootAnn w) D.kF s2 ⟨(D.F (.ref s1.n)).wrap doneF deadEnd id id, D.c, p2, D.B⟩ = some (.next, s3, D.c, p3) ∧ goF (stepT (denote table) D.p w) n (bootAnn w) D.M s3 (restOf D.rest D.env D.c p3 D.B) = some s4 ∧ s4.gens = #[] ∧ G s4 := by
    intro p2
    obtain ⟨r, hr, e1, en1, e2, e3, e4, hg, hG⟩ := run p2
    unfold bigF at hr
    split at hr
    · exact nomatch hr
    rename_i t n ht
    rw [frNat_eq] at hr
    split at hr
    · exact nomatch hr
    rename_i sA tA hA
    split at hr
    · rename_i sB cB pB hB
      split at hr
      · rename_i s1 c1 p1 h1
        split at hr
        · rename_i s2 h2
          split at hr
          · rename_i s3 c3 p3 h3
            split at hr
            · rename_i s4 h4
              cases hr
              dsimp only at e1 en1 e2 e3 e4 hg hG
              subst e1 e2 e3 e4
              exact ⟨sA, sB, s1, s2, s3, s4, pB, p1, p3, t, n, ht, hA, hB, h1, en1, h2, h3, h4, hg, hG⟩
            · exact nomatch hr
          · exact nomatch hr
        · exact nomatch hr
      · exact nomatch hr
    · exact nomatch hr
  obtain ⟨sA, sB, s1, s2, _, _, pB, p1, _, t, n, ht, hA, hB, h1, n1, h2, _⟩ := parts default
  have eh := putAll_heap ht
  have en : (boot_heap w.params).objs.size = n := by
    rw [← eh]
    exact absHeap_size t n _
  have eb : (bootT w os (t, n)).abs = ⟨boot_heap w.params, #[], boot_drawn, boot_toks, os⟩ := by
    show (⟨absHeap t n (boot_heap w.params).life, #[], boot_drawn, boot_toks, os⟩ : Shared) = _
    rw [eh]
  have suffix : ∀ p2, ∃ (s3 s4 : SharedT) (p3 : Pos), segF (stepT (denote table) D.p w) n (bootAnn w) D.kF s2 ⟨(D.F (.ref s1.n)).wrap doneF deadEnd id id, D.c, p2, D.B⟩ = some (.next, s3, D.c, p3) ∧ goF (stepT (denote table) D.p w) n (bootAnn w) D.M s3 (restOf D.rest D.env D.c p3 D.B) = some s4 ∧ s4.gens = #[] ∧ G s4 := by
    intro p2
    obtain ⟨sA', sB', s1', s2', s3, s4, pB', p1', p3, t', n', ht', hA', hB', h1', _, h2', h3, h4, hg, hG⟩ := parts p2
    rw [ht] at ht'
    cases ht'
    rw [hA] at hA'
    cases hA'
    rw [hB] at hB'
    cases hB'
    rw [h1] at h1'
    cases h1'
    rw [h2] at h2'
    cases h2'
    exact ⟨s3, s4, p3, h3, h4, hg, hG⟩
  have goA := goS_ok hA
  rw [eb] at goA
  have kA := keeps_go goA
  have sB0 : splitAtGen D.B = none := rfl
  obtain ⟨_, mB, _, goB⟩ := seg_goes (res := fun _ : Unit => Flow.next) (K' := fun _ => (execs (behindTheImports D.p) D.env).wrap doneF (leaveH D.env) id id) (H' := Sem.raise) (B := D.B) sB0 D.kB (t := blockOf (behindTheImports D.p) D.env D.c D.pos0 D.B)
    (t' := ⟨(blockStart (behindTheImports D.p) D.env).wrap (fun _ => (execs (behindTheImports D.p) D.env).wrap doneF (leaveH D.env) id id) .raise id id, D.c, D.pos0, D.B⟩) ⟨rfl, rfl, .inl ⟨rfl, rfl, _, rfl, rfl⟩⟩ (segF_ok hB)
  have kB := keeps_go goB
  obtain ⟨fC, mC, eC, goC⟩ := seg_goes (res := fun f : Flow => f) (K' := fun f => match f with | .next => (execs (D.st :: D.rest) D.env).wrap doneF (leaveH D.env) id id | f => doneF f) (H' := leaveH D.env) (B := D.B) sB0 D.kL (t := piecesOf D.l D.env D.c pB D.B)
    (t' := ⟨(execs D.l D.env).wrap (fun f => match f with | .next => (execs (D.st :: D.rest) D.env).wrap doneF (leaveH D.env) id id | f => doneF f) (leaveH D.env) id id, D.c, pB, D.B⟩) ⟨rfl, rfl, .inl ⟨rfl, rfl, _, rfl, rfl⟩⟩ (segF_ok h1)
  have eC : fC = .next := eC
  subst eC
  have kC := keeps_go goC
  have K1 : Keeps n (bootAnn w) ⟨boot_heap w.params, #[], boot_drawn, boot_toks, os⟩ s1.abs := (kA.trans kB).trans kC
  have sz : s1.abs.heap.objs.size = s1.n := absHeap_size s1.tree s1.n s1.life
  -- behind the display
  have behind : ∀ p', ∃ S, Halts D.p w (fin w D.p s1.abs D.L D.pk) ⟨(D.F (.ref s1.abs.heap.objs.size)).wrap (fun f => match f with | .next => (execs D.rest D.env).wrap doneF (leaveH D.env) id id | f => doneF f) (leaveH D.env) id id, D.c, p', D.B⟩ S ∧ S.gens = #[] ∧
      ∃ S4 : SharedT, S = S4.abs ∧ S4.gens = #[] ∧ Keeps n (bootAnn w) s1.abs S ∧ G S4 := by
    intro p'
    obtain ⟨s3, s4, p3, h3, h4, hg, hG⟩ := suffix p'
    rw [sz, ← layT_ok h2]
    obtain ⟨fE, mE, eE, goE⟩ := seg_goes (res := fun f : Flow => f) (K' := fun f => match f with | .next => (execs D.rest D.env).wrap doneF (leaveH D.env) id id | f => doneF f) (H' := leaveH D.env) (B := D.B) sB0 D.kF (t := ⟨(D.F (.ref s1.n)).wrap doneF deadEnd id id, D.c, p', D.B⟩)
      (t' := ⟨(D.F (.ref s1.n)).wrap (fun f => match f with | .next => (execs D.rest D.env).wrap doneF (leaveH D.env) id id | f => doneF f) (leaveH D.env) id id, D.c, p', D.B⟩) ⟨rfl, rfl, .inl ⟨rfl, rfl, _, rfl, rfl⟩⟩ (segF_ok h3)
    have eE : fE = .next := eE
    subst eE
    have top := goF_ok h4
    have kE := keeps_go goE
    have k2 : Keeps n (bootAnn w) s1.abs s2.abs := by
      rw [layT_ok h2]
      exact keeps_fin _ _ _
    have K3 := (K1.trans k2).trans kE
    obtain ⟨_, l4, o4, f4⟩ := topRun_spec _ _ _ _ (Shared.asleep_of_life K3.life hz) top
    have k4 : Keeps n (bootAnn w) s3.abs s4.abs := ⟨l4, o4, f4⟩
    exact ⟨s4.abs, halts_go goE (halts_top top hg), hg, s4, rfl, hg, (k2.trans kE).trans k4, hG⟩
  have ex : exec D.st D.env = ((do standAt D.apos; eval (.Dict D.keys D.values D.dpos) D.env) : Sem Value) >>= D.F := by
    show exec (.Assign [.Name D.x D.np] (.Dict D.keys D.values D.dpos) D.apos) D.env = _
    rw [exec_Assign_Name _ _ _ _ _ O.sw]
    rfl
  obtain ⟨a, b, c, ha, hsh, c1, c2⟩ := O.shape
  have hu : (topA D).units < cLine := O.un
  have hm : sysModules < s1.abs.heap.objs.size := by
    rw [sz]
    exact Nat.le_of_ble_eq_true n1
  have wpD : wpAny (model D.p w) (topA D) ((do standAt D.apos; eval (.Dict D.keys D.values D.dpos) D.env) : Sem Value) (fun v s' => v = .ref s1.abs.heap.objs.size ∧ s' = fin w D.p s1.abs D.L D.pk) (fun _ _ => False) s1.abs := by
    refine wpAny_bind (wpAny_standAt ?_)
    rw [arm_eval_Dict, hsh]
    exact wpAny_bind (wpAny_standAt (wp_display hu ha c1 c2 O.nd hm ⟨rfl, rfl⟩))
  obtain ⟨S, hS, hg, S4, rfl, hg4, hk4, hG⟩ := halts_mid' (p := D.p) (w := w) (K := fun v => (D.F v).wrap (fun f => match f with | .next => (execs D.rest D.env).wrap doneF (leaveH D.env) id id | f => doneF f) (leaveH D.env) id id) (H := leaveH D.env) (gd := id) (lv := id) (c := D.c) (pos := p1) (B := D.B)
    (G := fun S => ∃ S4 : SharedT, S = S4.abs ∧ S4.gens = #[] ∧ Keeps n (bootAnn w) s1.abs S ∧ G S4) (wpD _ p1 top_in) (fun v p' s' q => by
      obtain ⟨rfl, rfl⟩ := q
      exact behind p')
  refine ⟨S4, ?_, hg4, by rw [en]; exact K1.trans hk4, hG⟩
  refine halts_go goA ?_
  have eB : denote table D.c = (blockStart (behindTheImports D.p) D.env).wrap (fun _ => (execs (behindTheImports D.p) D.env).wrap doneF (leaveH D.env) id id) .raise id id := body_wrap _
  rw [eB]
  refine halts_go goB ?_
  rw [show (execs (behindTheImports D.p) D.env).wrap doneF (leaveH D.env) id id = (execs D.l D.env).wrap (fun f => match f with | .next => (execs (D.st :: D.rest) D.env).wrap doneF (leaveH D.env) id id | f => doneF f) (leaveH D.env) id id by rw [O.body, execs_app_wrap]; rfl]
  refine halts_go goC ?_
  show Halts D.p w s1.abs ⟨(execs (D.st :: D.rest) D.env).wrap doneF (leaveH D.env) id id, D.c, p1, D.B⟩ S4.abs
  rw [execs_cons_wrap, ex, Sem.bind_eq_wrap', Sem.wrap_wrap]
  exact hS
end
end Fw

end
set_option Elab.async false
set_option linter.all false
set_option maxRecDepth 100000
set_option maxHeartbeats 2000000
noncomputable section
namespace Fw
open PySem PySem.W PySem.Calls PyProof.Rows HandSHeadRun
/-- what is read off a run's end -/
def seeB (D : Plan) (q : Program) (loose : List Str) (Xt : Shared → Bool) {α : Type} (ob : SharedT → α) (w : World) (r : Big) := (r.tA, Nat.blt sysModules r.n1, r.cB, r.c1, r.c3, r.s4.gens.size, looksF D.p (boot_heap w.params) r.s4.abs, seenQ q loose (importedModules D.p.main.body) Xt r.s4.abs, ob r.s4)
def RunB (D : Plan) (q : Program) (loose : List Str) (Xt : Shared → Bool) {α : Type} (ob : SharedT → α) (val : World → α) : Prop :=
  ∀ (w : World) (os : OsState) (p2 : Pos), (bigF (stepQ (denQ tabQ) D.p w) D w os p2).map (seeB D q loose Xt ob w) = some (⟨denQ tabQ D.c, D.c, D.pos0, D.B⟩, true, D.c, D.c, D.c, 0, true, openGood q loose, val w)
theorem tops_of {D : Plan} {q : Program} {loose : List Str} {Xt : Shared → Bool} {H : Hook} {ob : SharedT → H.α} (O : D.Ok) (ho : ∀ s : SharedT, ob s = H.obs s.abs) (e : opening D.p = plainProg D.p.main.scope.names) (f : ∀ s, fenceModules? D.p s = some s) (run : RunB D q loose Xt ob H.val) :
    TopsE D.p q loose Xt H.obs H.val := fun w => by
  obtain ⟨⟨hp, gs, dr, tk, os⟩, hf, e0⟩ := Option.map_eq_some_iff.mp (boot_open (N := 600) e rfl f w)
  obtain ⟨rfl, rfl, rfl, rfl⟩ : hp = boot_heap w.params ∧ gs = Array.mk [] ∧ dr = boot_drawn ∧ tk = boot_toks := by simpa using e0
  rw [← table_eq_tree] at hf
  obtain ⟨s, hi, hfe⟩ := Option.bind_eq_some_iff.mp hf
  have A := AfterImport.of_importEnds hi
  have hz := Shared.asleep_of_life (fence_lifeW hfe) A.life
  have eq : ∀ p2, bigF (stepQ (denQ tabQ) D.p w) D w os p2 = bigF (stepT (denote table) D.p w) D w os p2 := fun p2 => by
    rw [← stepQ_eq, ← denQ_eq, ← tabQ_eq, table_eq_tree]
  obtain ⟨S, hS, hg, kS, g1, g2, g3⟩ := big_ends (w := w) (os := os) (G := fun S => looksF D.p (boot_heap w.params) S.abs = true ∧ openSeen q loose (importedModules D.p.main.body) Xt true S.abs = openGood q loose ∧ H.obs S.abs = H.val w) O (fun p2 => by
    obtain ⟨r, hr, hv⟩ := Option.map_eq_some_iff.mp (run w os p2)
    rw [eq] at hr
    have hv : seeB D q loose Xt ob w r = _ := hv
    unfold seeB at hv
    simp only [Prod.mk.injEq] at hv
    obtain ⟨v1, v2, v3, v4, v5, v6, v7, v8, v9⟩ := hv
    refine ⟨r, hr, ?_, v2, v3, v4, v5, Array.eq_empty_of_size_eq_zero v6, v7, ?_, ?_⟩
    · rw [v1, ← denQ_eq, ← tabQ_eq, table_eq_tree]
    · rw [seenQ_eq]
      exact v8
    · rw [← ho]
      exact v9) hz
  exact ⟨600, _, S.abs, hf, ⟨hS, boot_ns _, rfl, hg, kS.life, kS.os, kS.fr, g1, g2, g3⟩⟩
/-- a row whose top has the display in its midst -/
theorem head_big {r : OpenRow} {D : Plan} {q : Program} {loose : List Str} {H : Hook} {ob : SharedT → H.α} {d : DefRec} {kwd : List (Str × Expr)} (hD : D.p = r.prog) (O : D.Ok) (ho : ∀ s : SharedT, ob s = H.obs s.abs) (e : opening D.p = plainProg D.p.main.scope.names) (f : ∀ s, fenceModules? D.p s = some s)
    (run : RunB D q loose (fun s => xlAt q [] s && recOk r.toRowW.records s) ob H.val) (hdef : defOf q r.name = some (d, kwd)) (hp : r.prog.theDef r.name = some (d.params, d.body, d.scope)) (hk : kwWritten? d.params.kwonlyargs d.params.kw_defaults = some kwd)
    (hwr : (!r.writes || r.records.isEmpty) = true) (k1 : r.wellSaid = true) (ok : (chainsOk q && opensWell r.prog && (frees r.toRowW && r.within.isEmpty)) = true) (hb : r.prog.bare) (hw : r.toRowW.promised)
    (call : WalkO q loose (XL q []) H.says r.toRowW d kwd fun f vs => PySem.call f vs) : r.Holds := by
  have T := tops_of O ho e f run
  rw [hD] at T
  exact holdsE T (fun s z => xl_of s (Bool.and_eq_true_iff.mp z).1) XL.keeps hdef hp hk (fun s z => recFacts_of (Bool.and_eq_true_iff.mp z).2) hwr k1 ok hb hw call
/-! ### the hook: functions, facts, and some objects outright -/
def obsX (fa : List He.Fa) (fn : List He.FnD) (gs : List (Str × Addr)) (m k n : Nat) (g : Addr → Option Obj) : He.Al × Bool × List (Option Obj) :=
  let K := He.frG g (List.range n)
  (He.obsE fa fn K, gs.all fun x => He.eqO (nsIn K mainGlobals x.1) (some (some (.ref x.2))), (List.range k).map fun i => K.lookup (m + i))
def hookX (fa : List He.Fa) (fn : List He.FnD) (gs : List (Str × Addr)) (m k n : Nat) (os : World → List Obj) : Hook where
  α := He.Al × Bool × List (Option Obj)
  obs := fun s => obsX fa fn gs m k n s.heap.get?
  val := fun w => (He.valE fn, true, (os w).map some)
  says := fun w h => ∃ K : Frag, K.In h ∧ He.SaysE fa fn K ∧ (∀ x ∈ gs, nsIn K mainGlobals x.1 = some (some (.ref x.2))) ∧ ∀ i o, (os w)[i]? = some o → K.lookup (m + i) = some o
  of := fun w s e => by
    have e1 := congrArg (fun z : He.Al × Bool × List (Option Obj) => z.1) e
    have e2 := congrArg (fun z : He.Al × Bool × List (Option Obj) => z.2.1) e
    have e3 : (List.range k).map (fun i => (He.frG s.heap.get? (List.range n)).lookup (m + i)) = (os w).map some := congrArg (fun z : He.Al × Bool × List (Option Obj) => z.2.2) e
    refine ⟨_, He.frG_in, e1, fun x hx => He.eqO_ok (List.all_eq_true.mp e2 x hx), fun i o h => ?_⟩
    have z : ((List.range k).map (fun i => (He.frG s.heap.get? (List.range n)).lookup (m + i)))[i]? = ((os w).map some)[i]? := by rw [e3]
    rw [List.getElem?_map, List.getElem?_map, h] at z
    cases q : (List.range k)[i]? with
    | none => rw [q] at z; exact nomatch z
    | some j =>
      rw [q] at z
      have ej : j = i := by
        have := (List.getElem?_eq_some_iff.mp q)
        obtain ⟨h1, h2⟩ := this
        rw [List.getElem_range] at h2
        exact h2.symm
      subst ej
      exact Option.some.inj z
  keeps := fun _ _ _ ⟨K, hK, c⟩ k => ⟨K, Frag.In.keeps hK k, c⟩
def obX (fa : List He.Fa) (fn : List He.FnD) (gs : List (Str × Addr)) (m k n : Nat) (s : SharedT) : He.Al × Bool × List (Option Obj) := obsX fa fn gs m k n (getT s)
theorem obX_eq (fa : List He.Fa) (fn : List He.FnD) (gs : List (Str × Addr)) (m k n : Nat) (os : World → List Obj) (s : SharedT) : obX fa fn gs m k n s = (hookX fa fn gs m k n os).obs s.abs := by
  have e : getT s = s.abs.heap.get? := funext (getT_eq s)
  show obsX fa fn gs m k n (getT s) = obsX fa fn gs m k n s.abs.heap.get?
  rw [e]
end Fw

end
set_option Elab.async false
set_option linter.all false
set_option maxRecDepth 100000
set_option maxHeartbeats 2000000
/-! a plan is sound: by looks that the kernel takes -/
namespace Fw
open PySem PySem.W PySem.Calls PyProof.Rows
def csB : List Expr → List Str → Bool
  | [], [] => true
  | .Constant (.str x) _ _ :: es, z :: zs => decide (x = z) && csB es zs
  | _, _ => false
theorem csB_ok : ∀ {es : List Expr} {zs : List Str}, csB es zs = true → CS es zs
  | [], [], _ => .nil
  | e :: es, z :: zs, h => by
    unfold csB at h
    split at h
    · rename_i h1 h2; cases h1
    · rename_i x k pos es' z' zs' h1 h2
      cases h1
      cases h2
      obtain ⟨a, b⟩ := Bool.and_eq_true_iff.mp h
      have := of_decide_eq_true a
      subst this
      exact .cons (csB_ok b)
    · cases h
  | [], _ :: _, h => by simp [csB] at h
  | e :: es, [], h => by
    unfold csB at h
    split at h
    · rename_i h1 h2; cases h1
    · rename_i h1 h2; cases h2
    · cases h
def pairB : Option Expr → Expr → PK → Bool
  | some (.Tuple ke _ _), .Tuple ve _ _, p => csB ke (key p) && csB ve p.2.2 && decide (p.2.2.length ≤ 100)
  | _, _, _ => false
def pairsB : List (Option Expr) → List Expr → List PK → Bool
  | [], [], [] => true
  | k :: ks, v :: vs, p :: ps => pairB k v p && pairsB ks vs ps
  | _, _, _ => false
theorem pairsB_ok {env : Env} {pos : Pos} : ∀ {ks : List (Option Expr)} {vs : List Expr} {L : List PK}, pairsB ks vs L = true →
    ∃ ps : List PS, PairsAre env pos ps L ∧ (evalEachOpt ks env).zip ((evalEach vs env).map fun v => do let x ← v; standAt pos; pure x) = ps.map (fun p => (some p.1, p.2))
  | [], [], [], _ => ⟨[], .nil, rfl⟩
  | k :: ks, v :: vs, p :: ps, h => by
    have h : (pairB k v p && pairsB ks vs ps) = true := h
    obtain ⟨h1, h2⟩ := Bool.and_eq_true_iff.mp h
    obtain ⟨r, hr, e⟩ := pairsB_ok h2
    unfold pairB at h1
    split at h1
    · rename_i ke kk kp ve vk vp hh
      obtain ⟨h3, h5⟩ := Bool.and_eq_true_iff.mp h1
      obtain ⟨h3, h4⟩ := Bool.and_eq_true_iff.mp h3
      refine ⟨_ :: r, .cons (kk := kk) (vk := vk) (kp := kp) (vp := vp) (csB_ok h3) (csB_ok h4) (of_decide_eq_true h5) hr, ?_⟩
      show (some (eval (.Tuple ke kk kp) env), _) :: (evalEachOpt ks env).zip _ = (some _, _) :: r.map _
      rw [e]
    · cases h1
  | [], [], _ :: _, h => by simp [pairsB] at h
  | [], _ :: _, _, h => by simp [pairsB] at h
  | _ :: _, [], _, h => by simp [pairsB] at h
  | _ :: _, _ :: _, [], h => by simp [pairsB] at h
theorem pairs_split {env : Env} {pos : Pos} : ∀ {L : List PK} {p : PK} {ps : List PS}, PairsAre env pos ps (L ++ [p]) → ∃ a c, ps = a ++ [c] ∧ a.length = L.length ∧ PairsAre env pos a L ∧ PairsAre env pos [c] [p]
  | [], p, _, .cons h1 h2 h3 .nil => ⟨[], _, rfl, rfl, .nil, .cons h1 h2 h3 .nil⟩
  | q :: L, p, _, .cons h1 h2 h3 r => by
    obtain ⟨a, c, rfl, hl, ha, hc⟩ := pairs_split r
    exact ⟨_ :: a, c, rfl, congrArg (· + 1) hl, .cons h1 h2 h3 ha, hc⟩
theorem Plan.ok_of {D : Plan} (body : behindTheImports D.p = D.l ++ D.st :: D.rest) (sw : swapsWith (.Dict D.keys D.values D.dpos) (some (.Name D.x D.np)) D.apos.line D.env = pure false) (hp : pairsB D.keys D.values (D.L ++ [D.pk]) = true) (hl : D.L.length = 17)
    (nd : ((D.L ++ [D.pk]).map key).Nodup) (un : D.c.cUnits + unitsOf [(.builtin "claim.caller" {}, D.q0)] < cLine) : D.Ok := by
  refine ⟨body, sw, ?_, nd, un⟩
  obtain ⟨ps, h1, h2⟩ := pairsB_ok (env := D.env) (pos := D.dpos) hp
  obtain ⟨a, c, rfl, al, ha, hc⟩ := pairs_split h1
  rw [hl] at al
  obtain ⟨a', b, rfl⟩ : ∃ a' b, a = a' ++ [b] := ⟨a.dropLast, a.getLast (fun z => by rw [z] at al; cases al), (List.dropLast_concat_getLast _).symm⟩
  rw [List.length_append] at al
  have al' : a'.length + 1 = 17 := al
  exact ⟨a', b, c, by omega, by rw [h2, List.append_assoc]; rfl, ha, hc⟩
end Fw

set_option Elab.async false
set_option linter.all false
set_option maxRecDepth 100000
set_option maxHeartbeats 2000000
/-! d.get((a, b)) of a dict that the module's top laid, keyed by tuples of texts, whose values are tuples of texts -/
namespace Fw
open PySem PySem.Spec PyProof.Rows L2
structure Parts (prog : Program) (w : World) (K : PySem.W.Frag) (d : Addr) (g : List Str → Option (List Str)) : Prop where
  is : ∃ (xs : List (List Str × Addr × Value)) (o : Obj) (ep : Nat), K.lookup d = some o ∧ o.ExactDict ∧ o.data = .dict (xs.map (entryOfKey (tupleKind (strKind prog w)))).toArray ep ∧
    (∀ x ∈ xs, ∃ t, K.lookup x.2.1 = some (tO t x.1)) ∧ (xs.map (·.1)).Nodup ∧
    ∀ k, (valueAt (pairsH xs) k = none ∧ g k = none) ∨ ∃ b t zs, valueAt (pairsH xs) k = some (.ref b) ∧ g k = some zs ∧ K.lookup b = some (tO t zs) ∧ zs.length ≤ sizeLine
  hd : (d == sysModules) = false
theorem vals_toks : ∀ (zs : List Str) (t : Nat), Vals (zs.map V.str) (toksV t zs)
  | [], _ => .nil
  | z :: r, t => .cons ⟨t, rfl⟩ (vals_toks r (t + 1))
theorem tO_sqT {K : PySem.W.Frag} {H : Hp} {b : Addr} {t : Nat} {zs : List Str} (h : K.lookup b = some (tO t zs)) (hz : zs.length ≤ sizeLine) : SqT K H b (zs.map V.str) :=
  .inr ⟨_, (toksV t zs).toArray, _, h, rfl, rfl, by rw [List.size_toArray, toksV_len]; exact hz, vals_toks zs t⟩
def tPG (K : PySem.W.Frag) (d : Addr) (g : List Str → Option (List Str)) (to : TE) (t : TA) : TE := fun σ H Q => to σ H fun x H1 => x = .ref d ∧ t σ H1 fun ys H2 =>
  ∃ p k1 k2, ys = [.ref p] ∧ H2 p = some (.tup [.str k1, .str k2]) ∧ (g [k1, k2] = none → Q .non H2) ∧ ∀ b zs, g [k1, k2] = some zs → SqT K H2 b (zs.map V.str) → Q (.ref b) H2
variable {X : Cx}
theorem pe_pget {d : Addr} {g : List Str → Option (List Str)} {o e : Expr} {to : TE} {t : TA} {apos cpos : Pos} (hp : Parts X.prog X.w X.K d g) (hu : X.A.units + 1 < cLine) (ho : PE X o to) (ha : PA X [e] t)
    (hbase : attributeBase o "get" X.env (eval o X.env) = eval o X.env := by rfl)
    (hfew : ((backTo cpos (starEach [e] X.env)).all (fun x => !x.1) && (backToKw cpos (keywordEach [] X.env)).all (fun x => x.1.isSome)
      && decide ([e].length + ([] : List Keyword).length + (if ([] : List Keyword).isEmpty then 0 else 1) < 30)) = true := by rfl)
    (hline : (apos.endLine == cpos.line) = true := by rfl) (hs : starEach [e] X.env = (false, eval e X.env) :: starEach [] X.env := by rfl) (hplain : (backTo cpos (starEach [] X.env)).any (·.1) = false := by rfl) :
    PE X (.Call (.Attribute o "get" apos) [e] [] cpos) (tPG X.K d g to t) := by
  refine ⟨fun pins s σ H Q I h => ?_⟩
  obtain ⟨⟨xs, ob, ep, hk, hex, hdt, hks, hnd, hv⟩, hsm⟩ := hp
  refine wpAny_Call_method_late hbase hfew hline rfl (thn (ho.run pins s σ H _ I h) fun v s1 ⟨x, H1, I1, r1, ex, q1⟩ => ?_)
  subst ex
  cases (show v = Value.ref d from r1)
  refine ⟨"dict", "dict.get", PySem.F.plainAttrs_dict, PySem.F.slot_dict_get, PySem.F.type_dict_get, ⟨ob, I1.kIn d ob hk, hex.1⟩, fun a z => ?_, ?_⟩
  · cases z
    exact ⟨ob, I1.kIn _ ob hk, hex.2.1⟩
  have hA := ha.run cpos pins s1 σ H1 _ I1 q1
  rw [hs] at hA ⊢
  refine Calls.callWith_builtin (by show (false || (backTo cpos (starEach [] X.env)).any (·.1)) = false; rw [hplain] <;> rfl) (Calls.evalArgs_plain ?_)
  refine thn hA fun us s2 hh => ?_
  obtain ⟨vs, H2, I2, r2, p, k1, k2, rfl, hp2, qn, qs⟩ := hh
  obtain ⟨u, rfl, ru⟩ := Vals.one r2
  cases (show u = Value.ref p from ru)
  obtain ⟨its, rv, ⟨o', e', c', n', d'⟩, _⟩ := I2.tuple (SqT.of (K := X.K) hp2)
  obtain ⟨u1, u2, rfl, ⟨t1, rfl⟩, ⟨t2, rfl⟩⟩ := Vals.two rv
  have key : IsTupleKey (strKind X.prog X.w) s2.heap [k1, k2] p := ⟨o', _, n', e', c', d', by
    exact .cons (by show Value.isStrOf k1 (.str k1 t1) = true; simp [Value.isStrOf]) (.cons (by show Value.isStrOf k2 (.str k2 t2) = true; simp [Value.isStrOf]) .nil)⟩
  have dk : s2.heap.DictKeyed (tupleKind (strKind X.prog X.w)) d (pairsH xs) := Heap.DictKeyed.ofEntries xs (I2.kIn d ob hk) hex hdt rfl (fun x hx => by
    obtain ⟨t, ht⟩ := hks x hx
    exact ⟨_, _, _, I2.kIn _ _ ht, rfl, rfl, by simpa using items_of x.1 t⟩) hnd
  refine get_keyed (tupleKind_room_in1 hu) key hsm dk ?_
  rcases hv [k1, k2] with ⟨z1, z2⟩ | ⟨b, t, zs, z1, z2, z3, z4⟩
  · rw [z1]
    exact ⟨.non, H2, I2.tok _, rfl, qn z2⟩
  · rw [z1]
    exact ⟨.ref b, H2, I2.tok _, rfl, qs b zs z2 (tO_sqT z3 z4)⟩
end Fw

set_option Elab.async false
set_option linter.all false
set_option maxRecDepth 100000
set_option maxHeartbeats 4000000
/-! t[::-1] of a tuple -/
namespace Fw
open PySem PySem.Spec PyProof.Rows L2 HT
theorem rev_pick (xs : Array Value) : ((List.range xs.size).filterMap fun (m : Nat) => xs[(((xs.size : Int) - 1) + (m : Int) * (-1)).toNat]?).toArray = xs.toList.reverse.toArray := by
  congr 1
  have e : ∀ m ∈ List.range xs.size, xs[(((xs.size : Int) - 1) + (m : Int) * (-1)).toNat]? = some (xs.toList.reverse.getD m .none) := fun m hm => by
    have h := List.mem_range.mp hm
    rw [show (((xs.size : Int) - 1) + (m : Int) * (-1)).toNat = xs.size - 1 - m by omega, List.getD_eq_getElem?_getD, List.getElem?_reverse (by simpa using h), Array.length_toList, Array.getElem?_toList,
      Array.getElem?_eq_getElem (by omega)]
    rfl
  have f : ∀ l : List Nat, (∀ m ∈ l, xs[(((xs.size : Int) - 1) + (m : Int) * (-1)).toNat]? = some (xs.toList.reverse.getD m .none)) → l.filterMap (fun (m : Nat) => xs[(((xs.size : Int) - 1) + (m : Int) * (-1)).toNat]?) = l.map fun m => xs.toList.reverse.getD m .none := by
    intro l
    induction l with
    | nil => intro _; rfl
    | cons m l ih =>
      intro h
      rw [List.filterMap_cons, h m (List.mem_cons_self ..), List.map_cons, ih fun x hx => h x (List.mem_cons_of_mem _ hx)]
  rw [f _ e]
  apply List.ext_getElem?
  intro i
  rw [List.getElem?_map]
  by_cases h : i < xs.size
  · rw [List.getElem?_range h, Option.map_some, List.getD_eq_getElem?_getD]
    rw [List.getElem?_eq_getElem (l := xs.toList.reverse) (by simpa using h)]
    rfl
  · rw [List.getElem?_eq_none (by simpa using h), List.getElem?_eq_none (by simpa using h)]
    rfl
section
variable {prog : Program} {w : World} {A : Around} {E : Value → Shared → Prop} {s : Shared}
theorem sliceApplied_rev {sl : Addr} {vl vu vs : Value} {n : Nat} {Q : Int × Int × Nat → Shared → Prop} (hs : s.heap.IsSliceOf sl vl vu vs) (pl : IsPart vl none) (pu : IsPart vu none) (ps : IsPart vs (some (-1)))
    (h : Q ((n : Int) - 1, -1, n) s) : wpAny (model prog w) A (Builtin.Slice.sliceApplied (.ref sl) (pure (n : Int))) Q E s := by
  obtain ⟨os, hos, hcs, hds⟩ := id hs
  unfold Builtin.Slice.sliceApplied Builtin.Slice.sliceFields
  refine wpAny_bind (wpAny_bind (wpAny_field hos hds (x := vl) rfl (wpAny_bind (wpAny_field hos hds (x := vu) rfl (wpAny_bind (wpAny_field hos hds (x := vs) rfl (wpAny_pure ?_)))))))
  refine wpAny_bind (slicePart_ ps ?_)
  show wpAny _ _ (if ((-1 : Int) == 0) = true then _ else _) _ _ s
  rw [if_neg (by decide)]
  refine wpAny_bind (slicePart_ pl (wpAny_bind (slicePart_ pu (wpAny_bind (wpAny_pure ?_)))))
  show wpAny _ _ (match Builtin.Slice.sliceAdjust none none (-1) (n : Int) with | (lo, hi) => pure (lo, (-1 : Int), Builtin.Slice.slicePlaces lo hi (-1))) _ _ s
  rw [show Builtin.Slice.sliceAdjust none none (-1) (n : Int) = ((n : Int) - 1, -1) from rfl]
  show wpAny _ _ (pure ((n : Int) - 1, (-1 : Int), Builtin.Slice.slicePlaces ((n : Int) - 1) (-1) (-1))) _ _ s
  rw [show Builtin.Slice.slicePlaces ((n : Int) - 1) (-1) (-1) = n by
    unfold Builtin.Slice.slicePlaces
    rw [if_neg (by decide)]
    by_cases h : n = 0
    · subst h; rfl
    · rw [if_pos (by omega), show ((n : Int) - 1 - -1 - 1) / (- -1) + 1 = n by rw [show (- -1 : Int) = 1 from rfl, Int.ediv_one]; omega]
      exact Int.toNat_natCast n]
  exact wpAny_pure h
theorem getItem_tuple_rev {t sl : Addr} {items : Array Value} {vl vu vs : Value} {Q : Value → Shared → Prop} (ht : IsTup s.heap t items) (hs : s.heap.IsSliceOf sl vl vu vs) (pl : IsPart vl none) (pu : IsPart vu none) (ps : IsPart vs (some (-1)))
    (h : Q (.ref s.heap.objs.size) { s with heap := s.heap.push { cls := .type "tuple", data := .seq items.toList.reverse.toArray } })
    (hsz : items.size ≤ sizeLine) : wpAny (model prog w) A (getItem (.ref t) (.ref sl)) Q E s := by
  have htake : sizeOk (.seq items.toList.reverse.toArray) := by
    show items.toList.reverse.toArray.size ≤ sizeLine
    rw [List.size_toArray, List.length_reverse, Array.length_toList]
    omega
  obtain ⟨os, hos, hcs, hds⟩ := id hs
  have hTs : s.TypeIs (.ref sl) "slice" := ⟨os, hos, hcs⟩
  unfold getItem
  try with_reducible refine wpAny_holding ?_
  first | refine wpAny_bind (wpAny_pure ?_) | skip
  refine wpAny_bind (wpAny_sequenceKey ht.typeIs (by decide) ?_)
  refine wpAny_bind (wpAny_callSpecial?_slot (name := Str.ofString "__getitem__") ht.typeIs PyProof.Rows.slot_tuple_getitem
    (wpAny_call_entry PyProof.Rows.slot_tuple_getitem ht.typeIs entry_tuple_getitem ?_ (args_tuple_getitem _ _)))
  show wpAny _ _ (Builtin.Tuple.tupleItemsOf (.ref t) >>= _) _ _ s
  refine wpAny_bind (tupleItemsOf_ ht ?_)
  refine wpAny_bind (wpAny_typeOf hTs ?_)
  rw [if_pos (by decide)]
  refine wpAny_bind (sliceApplied_rev hs pl pu ps ?_)
  have hno : ¬ ((((items.size : Int) - 1) == 0 && (-1 : Int) == 1 && items.size == items.size) = true) := by
    intro q
    rw [Bool.and_eq_true, Bool.and_eq_true] at q
    exact absurd q.1.2 (by decide)
  show wpAny _ _ (if (((items.size : Int) - 1) == 0 && (-1 : Int) == 1 && items.size == items.size) = true then _ else _) _ _ s
  rw [if_neg hno, rev_pick]
  first
    | exact wpAny_bind (m := Builtin.Tuple.tupleExact _) (wpAny_newObj_type (wpAny_pure ⟨_, rfl, wpAny_pure h⟩) htake)
    | exact wpAny_bind (m := Builtin.Tuple.tupleExact _) (wpAny_newObj_type (wpAny_bind (wpAny_pure (wpAny_pure ⟨_, rfl, wpAny_pure h⟩))) htake)
    | exact wpAny_bind (wpAny_bind (m := Builtin.Tuple.tupleExact _) (wpAny_newObj_type (wpAny_pure (wpAny_pure ⟨_, rfl, wpAny_pure h⟩)) htake))
    | exact wpAny_bind (wpAny_bind (m := Builtin.Tuple.tupleExact _) (wpAny_newObj_type (wpAny_pure ⟨_, rfl, wpAny_pure h⟩) htake))
end
variable {X : Cx}
def tRevT (K : PySem.W.Frag) (te : TE) : TE := fun σ H Q => te σ H fun x H1 => ∃ a xs, x = .ref a ∧ SqT K H1 a xs ∧ ∀ p, H1 p = none → Q (.ref p) (upd H1 p (.tup xs.reverse))
theorem pe_revT {e : Expr} {te : TE} {k : Nat} {p1 p2 p3 pos : Pos} (he : PE X e te) : PE X (.Subscript e (.Slice none none (some (.UnaryOp .USub (.Constant (.int 1) k p1) p2)) p3) pos) (tRevT X.K te) := by
  refine ⟨fun pins s σ H Q I h => ?_⟩
  refine Subscript_ (thn (he.run pins s σ H _ I h) fun v s1 ⟨x, H1, I1, r1, q1⟩ => ?_)
  obtain ⟨a, xs, ex, hx, q⟩ := q1
  subst ex
  cases r1
  have hst : PO X (some (.UnaryOp .USub (.Constant (.int 1) k p1) p2)) (tPart (tUn (rU fun i => .int (-i)) (tC (.int 1)))) := po_some (pe_un un_neg pe_int)
  refine wpAny_Slice (thn (po_none.run pins s1 σ H1 (fun o H2 => o = none ∧ H2 = H1) I1 ⟨rfl, rfl⟩) fun vl s2 ⟨l, H2, I2, pl, el, e2⟩ => ?_)
  subst el e2
  refine thn (po_none.run pins s2 σ H2 (fun o H3 => o = none ∧ H3 = H2) I2 ⟨rfl, rfl⟩) fun vu s3 ⟨u, H3, I3, pu, eu, e3⟩ => ?_
  subst eu e3
  refine thn (hst.run pins s3 σ H3 (fun o H4 => o = some (-1) ∧ H4 = H3) I3 ⟨1, rfl, -1, rfl, rfl, rfl⟩) fun vs s4 ⟨o, H4, I4, ps, eo, e4⟩ => ?_
  subst eo e4
  have I5 : Inv X pins σ H4 { s4 with heap := s4.heap.push { cls := .type "slice", data := .fields #[vl, vu, vs] } } := I4.kept (t' := s4.toks) fun b ob q => Heap.get?_push_of_some _ q
  obtain ⟨its, r, ht, hz⟩ := I5.tuple hx
  have hlen := r.length
  show wpAny (model X.prog X.w) X.A (subscriptTail e (.Slice none none (some (.UnaryOp .USub (.Constant (.int 1) k p1) p2)) p3) (.ref a) (.ref s4.heap.objs.size)) (EP X pins σ Q) X.xe { s4 with heap := s4.heap.push { cls := .type "slice", data := .fields #[vl, vu, vs] } }
  refine tail_any (ops := [.ref a, .ref s4.heap.objs.size]) ht.typeIs PyProof.Rows.slot_tuple_getitem.lookup ?_ (by with_unfolding_all rfl)
  refine getItem_tuple_rev ht (Heap.IsSliceOf.new _ vl vu vs) pl pu ps ?_ (by rw [List.size_toArray]; omega)
  refine ⟨.ref _, _, I5.laid (t' := s4.toks) (o := .tup xs.reverse) (fun b ob q => Heap.get?_push_of_some _ q) (Nat.le_refl _) ?_, rfl, q _ (I5.hok.fresh (Nat.le_refl _))⟩
  exact ⟨by rw [List.length_reverse]; exact hz, _, r.reverse, IsTup.new _ _⟩
end Fw

set_option Elab.async false
set_option linter.all false
set_option maxRecDepth 100000
set_option maxHeartbeats 2000000
/-! the display's objects, as Parts -/
namespace Fw
open PySem PySem.Spec PyProof.Rows L2
theorem lo_at : ∀ {L : List PK} {j t : Nat} {p : PK}, L[j]? = some p → (∃ t', (lo t L)[2 * j]? = some (tO t' (key p))) ∧ ∃ t', (lo t L)[2 * j + 1]? = some (tO t' p.2.2)
  | [], _, _, _, h => by simp at h
  | q :: L, 0, t, p, h => by
    cases Option.some.inj h
    exact ⟨⟨t, rfl⟩, ⟨t + 2, rfl⟩⟩
  | q :: L, j + 1, t, p, h => by
    obtain ⟨h1, h2⟩ := lo_at (L := L) (j := j) (t := t + q.2.2.length + 5) h
    rw [show 2 * (j + 1) = 2 * j + 1 + 1 by omega, show 2 * j + 1 + 1 + 1 = (2 * j + 1) + 1 + 1 by omega]
    exact ⟨h1, h2⟩
theorem lx_at : ∀ {L : List PK} {i : Nat} {x : List Str × Addr × Value}, x ∈ lx i L → ∃ j p, L[j]? = some p ∧ x = (key p, i + 2 * j, .ref (i + 2 * j + 1))
  | [], _, _, h => nomatch h
  | q :: L, i, x, h => by
    rcases List.mem_cons.mp h with z | z
    · exact ⟨0, q, rfl, z⟩
    · obtain ⟨j, p, h1, h2⟩ := lx_at z
      exact ⟨j + 1, p, h1, by rw [h2, show i + 2 + 2 * j = i + 2 * (j + 1) by omega]⟩
theorem find_lx (k : List Str) : ∀ (L : List PK) (i : Nat), ((pairsH (lx i L)).find? (fun kv => decide (kv.1 = k)) = none ∧ L.find? (fun p => decide (key p = k)) = none) ∨
    ∃ j p, L[j]? = some p ∧ L.find? (fun p => decide (key p = k)) = some p ∧ (pairsH (lx i L)).find? (fun kv => decide (kv.1 = k)) = some (key p, .ref (i + 2 * j + 1))
  | [], _ => .inl ⟨rfl, rfl⟩
  | q :: L, i => by
    by_cases h : key q = k
    · refine .inr ⟨0, q, rfl, ?_, ?_⟩
      · rw [List.find?_cons, decide_eq_true h]
      · show ((key q, Value.ref (i + 1)) :: pairsH (lx (i + 2) L)).find? _ = _
        rw [List.find?_cons, decide_eq_true h]
    · rcases find_lx k L (i + 2) with ⟨h1, h2⟩ | ⟨j, p, h1, h2, h3⟩
      · refine .inl ⟨?_, ?_⟩
        · show ((key q, Value.ref (i + 1)) :: pairsH (lx (i + 2) L)).find? _ = _
          rw [List.find?_cons, decide_eq_false h]
          exact h1
        · rw [List.find?_cons, decide_eq_false h]
          exact h2
      · refine .inr ⟨j + 1, p, h1, ?_, ?_⟩
        · rw [List.find?_cons, decide_eq_false h]
          exact h2
        · show ((key q, Value.ref (i + 1)) :: pairsH (lx (i + 2) L)).find? _ = _
          rw [List.find?_cons, decide_eq_false h, show i + 2 * (j + 1) + 1 = i + 2 + 2 * j + 1 by omega]
          exact h3
theorem parts_of {prog : Program} {w : World} {K : PySem.W.Frag} {m t : Nat} {L : List PK} {p : PK} (h : ∀ i o, (finObjs w prog m t L p)[i]? = some o → K.lookup (m + i) = some o) (hm : (m == sysModules) = false) (nd : ((L ++ [p]).map key).Nodup)
    (hl : ∀ x ∈ L ++ [p], x.2.2.length ≤ sizeLine) : Parts prog w K m (fun k => ((L ++ [p]).find? fun q => decide (key q = k)).map (·.2.2)) := by
  have ll : ∀ s, (lo s L).length = 2 * L.length := lo_len L
  have inL : ∀ {j : Nat} {o : Obj}, (lo t L)[j]? = some o → K.lookup (m + 1 + j) = some o := fun {j o} e => by
    have hj : j < (lo t L).length := (List.getElem?_eq_some_iff.mp e).1
    have := h (j + 1) o (by
      show ((lo t L) ++ _)[j]? = some o
      rw [List.getElem?_append_left hj]
      exact e)
    rw [show m + 1 + j = m + (j + 1) by omega]
    exact this
  have inP : ∀ {j : Nat} {o : Obj}, (lo (lt t L) [p])[j]? = some o → K.lookup (m + 1 + 2 * L.length + 1 + j) = some o := fun {j o} e => by
    have := h (2 * L.length + 1 + j + 1) o (by
      show ((lo t L) ++ _)[2 * L.length + 1 + j]? = some o
      rw [List.getElem?_append_right (by rw [ll]; omega), ll, show 2 * L.length + 1 + j - 2 * L.length = j + 1 by omega]
      exact e)
    rw [show m + 1 + 2 * L.length + 1 + j = m + (2 * L.length + 1 + j + 1) by omega]
    exact this
  refine ⟨⟨lx (m + 1) L ++ lx (m + 1 + 2 * L.length + 1) [p], _, _, h 0 _ rfl, ⟨rfl, rfl, ?_⟩, rfl, fun x hx => ?_, ?_, fun k => ?_⟩, hm⟩
  · rfl
  · rcases List.mem_append.mp hx with z | z
    · obtain ⟨j, q, h1, rfl⟩ := lx_at z
      obtain ⟨⟨t', h2⟩, _⟩ := lo_at (t := t) h1
      exact ⟨t', inL h2⟩
    · obtain ⟨j, q, h1, rfl⟩ := lx_at z
      obtain ⟨⟨t', h2⟩, _⟩ := lo_at (t := lt t L) h1
      exact ⟨t', inP h2⟩
  · rw [List.map_append, lx_keys, lx_keys, ← List.map_append]
    exact nd
  · have val : ∀ {j : Nat} {q : PK}, L[j]? = some q → ∃ t', K.lookup (m + 1 + 2 * j + 1) = some (tO t' q.2.2) := fun {j q} e => by
      obtain ⟨_, t', h2⟩ := lo_at (t := t) e
      exact ⟨t', inL h2⟩
    have e1 : pairsH (lx (m + 1) L ++ lx (m + 1 + 2 * L.length + 1) [p]) = pairsH (lx (m + 1) L) ++ pairsH (lx (m + 1 + 2 * L.length + 1) [p]) := List.map_append
    unfold valueAt
    rw [e1, List.find?_append, List.find?_append]
    rcases find_lx k L (m + 1) with ⟨h1, h2⟩ | ⟨j, q, h1, h2, h3⟩
    · rw [h1, h2]
      rcases find_lx k [p] (m + 1 + 2 * L.length + 1) with ⟨h3, h4⟩ | ⟨j, q, h3, h4, h5⟩
      · rw [h3, h4]
        exact .inl ⟨rfl, rfl⟩
      · rw [h4, h5]
        obtain ⟨_, t', h6⟩ := lo_at (t := lt t L) h3
        exact .inr ⟨_, t', _, rfl, rfl, inP h6, hl q (List.mem_append.mpr (.inr (List.mem_of_getElem? h3)))⟩
    · rw [h2, h3]
      obtain ⟨t', ht'⟩ := val h1
      exact .inr ⟨_, t', _, rfl, rfl, ht', hl q (List.mem_append.mpr (.inl (List.mem_of_getElem? h1)))⟩
end Fw

set_option Elab.async false
set_option linter.all false
set_option maxRecDepth 100000
set_option maxHeartbeats 2000000
namespace Fd
open PySem PySem.Spec PyProof.Rows L2
def top (i : Nat) : Stmt := PySem.Challenge.pw_figuredeeds_k02_what_tests_are.main.body.getD i (.Pass ⟨0, 0, 0, 0⟩)
/-! ### defs by their names -/
structure Df (K : PySem.W.Frag) (mg : Str → Option Value) (x : Str) (st : Stmt) (ps : List Str) (f : Addr) (fd : FuncData) : Prop where
  F : Fun K x x st f fd
  m : mg x = some (.ref f)
  b : Binds K fd ps []
/-- the def that the module's name x holds keeps sp -/
def FnG (P : Program) (w : World) (K : PySem.W.Frag) (mg : Str → Option Value) (base : Heap) (CX : CXT) (k : Nat) (x : Str) (ps : List Str) (sp : Sp) : Prop :=
  ∃ f fd, FnOk P w K mg base CX k f fd ps sp ∧ mg x = some (.ref f) ∧ PySem.W.keepIn K (.ref f) = true ∧ Binds K fd ps []
theorem Df.g {P : Program} {w : World} {K : PySem.W.Frag} {mg : Str → Option Value} {base : Heap} {CX : CXT} {k : Nat} {x : Str} {st : Stmt} {ps : List Str} {f : Addr} {fd : FuncData} {sp : Sp}
    (D : Df K mg x st ps f fd) (G : FnOk P w K mg base CX k f fd ps sp) : FnG P w K mg base CX k x ps sp := ⟨f, fd, G, D.m, D.F.kp, D.b⟩
/-! ### heaps -/
/-- all that was tracked stands, but for what is at a -/
def But (a : Addr) (H H' : Hp) : Prop := ∀ b o, b ≠ a → H b = some o → H' b = some o
theorem But.refl (a : Addr) (H : Hp) : But a H H := fun _ _ _ h => h
theorem But.trans {a : Addr} {H H1 H2 : Hp} (x : But a H H1) (y : But a H1 H2) : But a H H2 := fun b o n h => y b o n (x b o n h)
theorem But.of {a : Addr} {H H' : Hp} (s : Same H H') : But a H H' := fun b o _ h => s b o h
theorem But.upd {a : Addr} {H : Hp} {o : HO} : But a H (upd H a o) := fun b u n h => by rw [upd_ne n]; exact h
theorem same_upd {H : Hp} {p : Addr} {o : HO} (h : H p = none) : Same H (upd H p o) := fun b x e => by
  rw [upd_ne (ne_of_none e h)]
  exact e
theorem But.get {a b : Addr} {H H' : Hp} {o u : HO} (s : But a H H') (ha : H a = some u) (hb : H b = some o) (d : o ≠ u) : H' b = some o := s b o (ne_of hb ha d) hb
/-- an if whose both ways come to a value of which R holds, the heap as it was -/
theorem ifE {c : Prop} [Decidable c] {ta tb : TE} {σ : L2.St} {H : Hp} {Q : VK} (R : V → Prop) (h1 : c → ∃ v, R v ∧ ∀ Q' : VK, Q' v H → ta σ H Q') (h2 : ¬ c → ∃ v, R v ∧ ∀ Q' : VK, Q' v H → tb σ H Q')
    (h : ∀ v, R v → Q v H) : if c then ta σ H Q else tb σ H Q := by
  by_cases hc : c
  · rw [if_pos hc]
    obtain ⟨v, r, k⟩ := h1 hc
    exact k Q (h v r)
  · rw [if_neg hc]
    obtain ⟨v, r, k⟩ := h2 hc
    exact k Q (h v r)
/-- the drawer's box: its three numbers, drawn from at most n times -/
def Box (H : Hp) (a : Addr) (n : Nat) : Prop := ∃ b0 b1 b2 : Int, H a = some (.lst [.int b0, .int b1, .int b2]) ∧ 0 ≤ b0 ∧ 0 ≤ b1 ∧ b1 < 4611686018427387904 ∧ 0 ≤ b2 ∧ b2 ≤ n
theorem Box.same {H H' : Hp} {a : Addr} {n : Nat} (b : Box H a n) (s : Same H H') : Box H' a n := by
  obtain ⟨b0, b1, b2, h, r⟩ := b
  exact ⟨b0, b1, b2, s _ _ h, r⟩
theorem Box.le {H : Hp} {a : Addr} {n m : Nat} (b : Box H a n) (h : n ≤ m) : Box H a m := by
  obtain ⟨b0, b1, b2, e, h0, h1, h2, h3, h4⟩ := b
  exact ⟨b0, b1, b2, e, h0, h1, h2, h3, by omega⟩
section
variable {P : Program} {w : World} {K : PySem.W.Frag} {mg : Str → Option Value} {base : Heap} {f : Addr} {fd : FuncData}
/-! ### _law_take -/
abbrev sTake : Stmt := top 17
theorem scTake : FnScope ["_law_box", "_law_many", "_law_found", "_law_once", "_law_twice", "_law_wide"] ["_law_box", "_law_many"] (defScope sTake) := ⟨rfl, rfl, rfl, by decide +kernel, rfl, by decide +kernel, by decide +kernel⟩
def spTake : Sp := fun vs H Q _ => ∃ (a : Addr) (n : Nat) (m : Int), vs = [.ref a, .int m] ∧ Box H a n ∧ n ≤ 1000000 ∧ 0 < m ∧ m ≤ 100000 ∧
  ∀ r H', 0 ≤ r → r < m → But a H H' → Box H' a (n + 1) → Q (.int r) H'
theorem ok_take {k : Nat} (F : Fun K "_law_take" "_law_take" sTake f fd) (m_divmod : mg "divmod" = none) : FnOk P w K mg base CX0 (k + 1) f fd ["_law_box", "_law_many"] spTake := by
  have sc := scTake
  refine F.ok sc (fun vs H Q E h => ?_) (fun cdv A outer s H vs Q E hr h => ?_)
  · obtain ⟨a, n, m, rfl, _⟩ := h
    rfl
  obtain ⟨a, n, m, rfl, hB, hn, m0, m1, q⟩ := h
  refine ⟨_, (pss_cons (ps_if (pt_cmpR op_gt (pe_ix ix_list (pv 0) pe_int (fun _ _ => rfl)) pe_int (nomark _)) (pss_cons (ps_asg (pe_callB call_divmod (by rfl) m_divmod (by decide +kernel) (pa_cons (pe_ix ix_list (pv 0) pe_int (fun _ _ => rfl)) (pa_cons (pv 1) pa_nil))) (pg_tup (by rfl) (pgs_cons (pg_sub (pv 0) pe_int set_list) (pgs_cons (pg_name (i := 2) sc.nd rfl (.inl rfl)) pgs_nil))))
      (pss_one (ps_ret (pv 2)))) pss_nil)
      (pss_cons (ps_asg (pe_op op_add (pe_ix ix_list (pv 0) pe_int (fun _ _ => rfl)) pe_int) (pg_sub (pv 0) pe_int set_list))
      (pss_cons (ps_set (i := 3) sc.nd rfl (.inl rfl) (pe_op op_mod (pe_op op_pow (pe_op op_add (pe_ix ix_list (pv 0) pe_int (fun _ _ => rfl)) (pe_op op_mul pe_int (pe_ix ix_list (pv 0) pe_int (fun _ _ => rfl)))) pe_int) pe_int))
      (pss_cons (ps_set (i := 4) sc.nd rfl (.inl rfl) (pe_op op_mod (pe_op op_mul (pe_op op_add (pv 3) (pe_ix ix_list (pv 0) pe_int (fun _ _ => rfl))) (pe_op op_add (pe_op op_add (pe_op op_mod (pv 3) pe_int) pe_int) (pe_ix ix_list (pv 0) pe_int (fun _ _ => rfl)))) pe_int))
      (pss_cons (ps_set (i := 5) sc.nd rfl (.inl rfl) (pe_op op_mod (pe_op op_add (pe_op op_add (pe_op op_fdivW (pe_ix ix_list (pv 0) pe_int (fun _ _ => rfl)) pe_int) (pe_op op_mul (pv 4) pe_int)) (pe_ix ix_list (pv 0) pe_int (fun _ _ => rfl))) pe_int))
      (pss_one (ps_ret (pe_op op_mod (pe_op op_fdivW (pe_op op_mod (pe_op op_add (pe_op op_add (pe_op op_mul (pv 4) pe_int) (pe_op op_mul (pv 5) pe_int)) (pv 3)) pe_int) pe_int) (pv 1))))))))), ?_⟩
  obtain ⟨b0, b1, b2, e, h0, h1, h2, h3, h4⟩ := hB
  refine ⟨_, rfl, a, _, 0, .int b0, rfl, rfl, SqL.of e, rfl, b0, 0, rfl, rfl, _, rfl, ite2 (fun c => ?_) (fun c => ?_)⟩
  · have c' : (0 : Int) < b0 := of_decide_eq_true c
    refine ⟨_, rfl, a, _, 0, .int b0, rfl, rfl, SqL.of e, rfl, _, rfl, b0, m, rfl, ⟨m0, by omega⟩, fun p np => ?_⟩
    have e1 := same_upd (o := .tup [.int (b0 / m), .int (b0 % m)]) np a _ e
    have lt : b0 % m < m := Int.emod_lt_of_pos _ m0
    have ge : 0 ≤ b0 % m := Int.emod_nonneg _ (by omega)
    have dv : 0 ≤ b0 / m := Int.ediv_nonneg h0 (by omega)
    refine ⟨p, _, rfl, .inl (.inl upd_same), rfl, _, _, rfl, _, rfl, a, _, 0, 0, rfl, rfl, e1, rfl, _, _, rfl, rfl, _, rfl, ?_⟩
    refine q _ _ ge lt (fun b o nb ho => ?_) ⟨b0 / m, b1, b2, upd_same, dv, h1, h2, h3, by omega⟩
    rw [upd_ne nb]
    exact same_upd np b o ho
  · have eS := SqL.of (K := K) e
    refine ⟨_, rfl, a, _, 2, .int b2, rfl, rfl, eS, rfl, b2, 1, rfl, rfl, _, rfl, a, _, 2, 2, rfl, rfl, e, rfl, ?_⟩
    have e1 : (upd H a (.lst [.int b0, .int b1, .int (b2 + 1)])) a = some (.lst [.int b0, .int b1, .int (b2 + 1)]) := upd_same
    have eS := SqL.of (K := K) e1
    refine ⟨_, rfl, a, _, 1, .int b1, rfl, rfl, eS, rfl, _, rfl, a, _, 2, .int (b2 + 1), rfl, rfl, eS, rfl, 39373, b2 + 1, rfl, rfl, .inl ⟨by decide, by decide⟩,
      b1, _, rfl, rfl, b1 + 39373 * (b2 + 1), 3, rfl, rfl, ⟨by decide, by decide, by omega⟩, _, 2147483647, rfl, rfl, (show (0 : Int) < 2147483647 by decide), ?_⟩
    dsimp only
    generalize ho : (b1 + 39373 * (b2 + 1)) ^ (3 : Int).toNat % 2147483647 = once
    have o0 : 0 ≤ once := by rw [← ho]; exact Int.emod_nonneg _ (by decide)
    have o1 : once < 2147483647 := by rw [← ho]; exact Int.emod_lt_of_pos _ (by decide)
    have o2 : 0 ≤ once % 40009 := Int.emod_nonneg _ (by decide)
    have o3 : once % 40009 < 40009 := Int.emod_lt_of_pos _ (by decide)
    refine ⟨_, rfl, _, rfl, a, _, 2, .int (b2 + 1), rfl, rfl, eS, rfl, once, b2 + 1, rfl, rfl, _, rfl, once, 40009, rfl, rfl, (show (0 : Int) < 40009 by decide), once % 40009, 7, rfl, rfl,
      _, rfl, a, _, 2, .int (b2 + 1), rfl, rfl, eS, rfl, once % 40009 + 7, b2 + 1, rfl, rfl, _, _, rfl, rfl, .inl ⟨by omega, by omega⟩, _, 2147483629, rfl, rfl, (show (0 : Int) < 2147483629 by decide), ?_⟩
    dsimp only
    generalize ht : (once + (b2 + 1)) * (once % 40009 + 7 + (b2 + 1)) % 2147483629 = twice
    have t0 : 0 ≤ twice := by rw [← ht]; exact Int.emod_nonneg _ (by decide)
    have t1 : twice < 2147483629 := by rw [← ht]; exact Int.emod_lt_of_pos _ (by decide)
    refine ⟨_, rfl, a, _, 1, .int b1, rfl, rfl, eS, rfl, b1, 2147483647, rfl, rfl, wide_div (b := 31) (by decide) (by decide) (by decide) (by decide),
      _, rfl, twice, 40009, rfl, rfl, .inr ⟨by decide, by decide⟩, _, _, rfl, rfl, _, rfl, a, _, 2, .int (b2 + 1), rfl, rfl, eS, rfl, _, b2 + 1, rfl, rfl,
      _, 2305843009213693951, rfl, rfl, (show (0 : Int) < 2305843009213693951 by decide), ?_⟩
    dsimp only
    generalize hw : (b1 / 2147483647 + twice * 40009 + (b2 + 1)) % 2305843009213693951 = wide
    refine ⟨_, rfl, twice, 48271, rfl, rfl, .inr ⟨by decide, by decide⟩, _, rfl, wide, 39373, rfl, rfl, .inr ⟨by decide, by decide⟩, _, _, rfl, rfl,
      _, rfl, _, once, rfl, rfl, _, 2305843009213693921, rfl, rfl, (show (0 : Int) < 2305843009213693921 by decide), _, 64, rfl, rfl, wide_div (b := 7) (by decide) (by decide) (by decide) (by decide), _, rfl, _, m, rfl, rfl, m0, ?_⟩
    exact q _ _ (Int.emod_nonneg _ (by omega)) (Int.emod_lt_of_pos _ m0) But.upd ⟨b0, b1, b2 + 1, e1, h0, h1, h2, by omega, by omega⟩
end
end Fd

set_option Elab.async false
set_option linter.all false
set_option maxRecDepth 100000
set_option maxHeartbeats 2000000
namespace Fd
open PySem PySem.Spec PyProof.Rows L2
theorem bit_lo (b : Bool) : -(2 ^ 64) < (if b = true then (1 : Int) else 0) := by cases b <;> decide
theorem bit_hi (b : Bool) : (if b = true then (1 : Int) else 0) < 2 ^ 64 := by cases b <;> decide
theorem bit_nn (b : Bool) : 0 ≤ (if b = true then (1 : Int) else 0) := by cases b <;> decide
section
variable {P : Program} {w : World} {K : PySem.W.Frag} {mg : Str → Option Value} {base : Heap} {f : Addr} {fd : FuncData}
/-! ### _law_draws -/
abbrev sDraws : Stmt := top 16
theorem scDraws : FnScope ["_law_script", "_law_k", "_law_cell"] ["_law_script", "_law_k"] (defScope sDraws) := ⟨rfl, rfl, rfl, by decide +kernel, rfl, by decide +kernel, by decide +kernel⟩
def spDraws (K : PySem.W.Frag) : Sp := fun vs H Q _ => ∃ (a : Addr) (k : Nat) (ns : List Int), vs = [.ref a, .int k] ∧ SqL K H a (ns.map V.int) ∧ k < 100 ∧
  ∀ p H', Same H H' → H p = none → Box H' p 0 → Q (.ref p) H'
theorem ok_draws {k : Nat} (F : Fun K "_law_draws" "_law_draws" sDraws f fd) (m_len : mg "len" = none) (m_abs : mg "abs" = none) (m_int : mg "int" = none) :
    FnOk P w K mg base CX0 (k + 1) f fd ["_law_script", "_law_k"] (spDraws K) := by
  have sc := scDraws
  refine F.ok sc (fun vs H Q E h => ?_) (fun cdv A outer s H vs Q E hr h => ?_)
  · obtain ⟨a, n, m, rfl, _⟩ := h
    rfl
  obtain ⟨a, i, ns, rfl, hS, hi, q⟩ := h
  refine ⟨_, (pss_cons (ps_set (i := 2) sc.nd rfl (.inl rfl) (pe_ifExp (pt_cmpR op_lt (pv 1) (pe_callB call_len_seq (by rfl) m_len (by decide +kernel) (pa_cons (pv 0) pa_nil)) (nomark _)) (pe_ix ix_list (pv 0) (pv 1) (fun _ _ => rfl)) pe_int))
      (pss_one (ps_ret (pe_lst (pa_cons (pe_op op_mul (pe_callB call_abs (by rfl) m_abs (by decide +kernel) (pa_cons (pv 2) pa_nil)) (pe_callTy call_int1 (by rfl) m_int (by decide +kernel) (pa_cons (pe_cmpR op_ge (pe_callB call_abs (by rfl) m_abs (by decide +kernel) (pa_cons (pv 2) pa_nil)) (pe_op op_pow pe_int pe_int) (nomark _)) pa_nil))) (pa_cons (pe_op op_add (pe_op op_add (pe_op op_mod (pv 2) pe_int) (pe_op op_mul pe_int (pv 1))) pe_int) (pa_cons pe_int pa_nil))))))), ?_⟩
  refine ⟨_, rfl, _, rfl, a, _, rfl, .inl hS, i, _, rfl, rfl, _, rfl, ifE (fun v => ∃ cell : Int, v = .int cell) (fun c => ?_) (fun c => ⟨_, ⟨0, rfl⟩, fun Q' h => h⟩) ?_⟩
  · have c' : (i : Int) < ((ns.map V.int).length : Nat) := of_decide_eq_true c
    rw [List.length_map] at c'
    have hl : i < ns.length := by omega
    exact ⟨_, ⟨ns[i], rfl⟩, fun Q' h => ⟨_, rfl, _, rfl, a, _, i, .int ns[i], rfl, rfl, hS, atI_nat (by rw [List.getElem?_map, List.getElem?_eq_getElem hl]; rfl), h⟩⟩
  rintro _ ⟨cell, rfl⟩
  refine ⟨_, rfl, cell, rfl, _, rfl, cell, rfl, 10, 18, rfl, rfl, ⟨by decide, by decide, by decide⟩, _, _, rfl, rfl, .inr ⟨_, rfl, _, _, rfl, rfl, .inr ⟨bit_lo _, bit_hi _⟩, ?_⟩⟩
  refine ⟨_, rfl, cell, 2305843009213693951, rfl, rfl, (show (0 : Int) < 2305843009213693951 by decide), _, rfl, 1000003, i, rfl, rfl, .inl ⟨by decide, by decide⟩, _, _, rfl, rfl, _, 11, rfl, rfl, ?_⟩
  have z0 : 0 ≤ cell % 2305843009213693951 := Int.emod_nonneg _ (by decide)
  have z1 : cell % 2305843009213693951 < 2305843009213693951 := Int.emod_lt_of_pos _ (by decide)
  refine ⟨by show 3 ≤ sizeLine; decide, fun p np => q p _ (same_upd np) np ⟨_, _, _, upd_same, ?_, ?_, ?_, Int.le_refl 0, Int.le_refl 0⟩⟩
  · refine Int.mul_nonneg ?_ (bit_nn _)
    split <;> omega
  · show 0 ≤ cell % 2305843009213693951 + 1000003 * (i : Int) + 11
    omega
  · show cell % 2305843009213693951 + 1000003 * (i : Int) + 11 < 4611686018427387904
    omega
/-! ### _law_folded -/
abbrev sFolded : Stmt := top 15
theorem scFolded : FnScope ["_law_script", "_law_many", "_law_cells", "_law_k", "_law_cell"] ["_law_script", "_law_many"] (defScope sFolded) := ⟨rfl, rfl, rfl, by decide +kernel, rfl, by decide +kernel, by decide +kernel⟩
def spFolded (K : PySem.W.Frag) : Sp := fun vs H Q _ => ∃ (a : Addr) (m : Nat) (ns : List Int), vs = [.ref a, .int m] ∧ SqL K H a (ns.map V.int) ∧ ns.length ≤ 63 ∧ 0 < m ∧ m ≤ 10 ∧
  ∀ p ms H', Same H H' → H' p = some (.lst (ms.map V.int)) → ms ≠ [] → ms.length ≤ 10 → Q (.ref p) H'
theorem ixN_is {n j : Nat} (h : j < n) : ixN n (j : Int) = some j := by
  unfold ixN
  rw [if_pos (by omega), if_pos (by omega), Int.toNat_natCast]
theorem cut_to (xs : List V) (m : Nat) : cutV xs none (some (m : Int)) = xs.take m := by
  unfold cutV
  rw [HT.sIx_none, HT.sIx_nat, List.drop_zero, Nat.sub_zero]
  by_cases h : m ≤ xs.length
  · rw [Nat.min_eq_left h]
  · rw [Nat.min_eq_right (by omega), List.take_of_length_le (Nat.le_refl _), List.take_of_length_le (by omega)]
theorem cut_mid (xs : List V) (m n : Nat) : cutV xs (some (m : Int)) (some (n : Int)) = (xs.drop m).take (min n xs.length - min m xs.length) := by
  unfold cutV
  rw [HT.sIx_nat, HT.sIx_nat]
  by_cases h : m ≤ xs.length
  · rw [Nat.min_eq_left h]
  · rw [Nat.min_eq_right (by omega : xs.length ≤ m), List.drop_eq_nil_of_le (Nat.le_refl _), List.drop_eq_nil_of_le (by omega)]
theorem dpAll_ints {K : PySem.W.Frag} {H : Hp} : ∀ ms : List Int, DpAll K H (ms.map V.int) (ms.map PyData.int)
  | [] => .nil
  | m :: r => .cons (.int m) (dpAll_ints r)
theorem lay_ints : ∀ ms : List Int, PyData.canLayAll0 (ms.map PyData.int) = true
  | [] => rfl
  | m :: r => by show (true && PyData.canLayAll0 (r.map PyData.int)) = true; rw [lay_ints r]; rfl
theorem deep_ints : ∀ ms : List Int, PyData.depthAll (ms.map PyData.int) = 0
  | [] => rfl
  | m :: r => by show max 0 (PyData.depthAll (r.map PyData.int)) = 0; rw [deep_ints r]; rfl
theorem shaped_ints (ms : List Int) : SeqAt.shaped (.list (ms.map PyData.int)) = true := by
  unfold SeqAt.shaped
  rw [show (PyData.list (ms.map PyData.int)).canLay0 = PyData.canLayAll0 (ms.map PyData.int) from rfl, lay_ints,
    show (PyData.list (ms.map PyData.int)).depth = PyData.depthAll (ms.map PyData.int) + 1 from rfl, deep_ints]
  rfl
theorem ok_folded {k : Nat} (F : Fun K "_law_folded" "_law_folded" sFolded f fd) (m_list : mg "list" = none) (m_enumerate : mg "enumerate" = none) :
    FnOk P w K mg base CX0 (k + 1) f fd ["_law_script", "_law_many"] (spFolded K) := by
  have sc := scFolded
  refine F.ok sc (fun vs H Q E h => ?_) (fun cdv A outer s H vs Q E hr h => ?_)
  · obtain ⟨a, n, m, rfl, _⟩ := h
    rfl
  obtain ⟨a, m, ns, rfl, hS, hl, m0, m1, q⟩ := h
  refine ⟨_, (pss_cons (ps_set (i := 2) sc.nd rfl (.inl rfl) (pe_callTy call_list_of (by rfl) m_list (by decide +kernel) (pa_cons (pe_slice sl_list (pv 0) po_none (po_some (pv 1))) pa_nil)))
      (pss_cons (ps_for PassesOwn.never rfl (pi_enum (by rfl) m_enumerate (pa_cons (pe_slice sl_list (pv 0) (po_some (pv 1)) (po_some pe_int)) pa_nil)) (pg_tup (by rfl) (pgs_cons (pg_name (i := 3) sc.nd rfl (.inl rfl)) (pgs_cons (pg_name (i := 4) sc.nd rfl (.inl rfl)) pgs_nil))) (pss_one (ps_asg (pe_op op_add (pe_ix ix_list (pv 2) (pe_op op_mod (pv 3) (pv 1)) (fun _ _ => rfl)) (pe_op op_mul (pv 4) (pe_op op_add (pv 3) pe_int))) (pg_sub (pv 2) (pe_op op_mod (pv 3) (pv 1)) set_list))))
      (pss_one (ps_ret (pe_ifExp (pt_cmpR (op_neD hr.units) (pv 2) (pe_lst pa_nil) (nomark _)) (pv 2) (pe_lst (pa_cons pe_int pa_nil))))))), ?_⟩
  refine ⟨_, rfl, _, rfl, m, rfl, a, _, rfl, hS, fun c nc => ?_⟩
  rw [cut_to]
  refine ⟨c, _, rfl, .inl (SqL.of upd_same), fun p np => ?_⟩
  have s1 : Same H (upd H c (.lst ((ns.map V.int).take m))) := same_upd nc
  have s2 := s1.trans (same_upd (o := .lst ((ns.map V.int).take m)) np)
  refine ⟨_, rfl, _, rfl, m, rfl, 63, rfl, a, _, rfl, s2.seq hS, fun e ne => ?_⟩
  rw [show cutV (ns.map V.int) (some (m : Int)) (some 63) = _ from cut_mid _ m 63]
  generalize hy : ((ns.map V.int).drop m).take (min 63 (ns.map V.int).length - min m (ns.map V.int).length) = ys
  have yl : ys ≠ [] → m < ns.length := fun h => Nat.lt_of_not_le fun g => h (by rw [← hy, List.drop_eq_nil_of_le (by rw [List.length_map]; exact g), List.take_nil])
  have yv : ∀ (i : Nat) (v : V), ys[i]? = some v → ∃ z : Int, v = V.int z := fun i v h => by
    have hm : v ∈ ns.map V.int := by
      have h1 : v ∈ ys := List.mem_of_getElem? h
      rw [← hy] at h1
      exact List.mem_of_mem_drop (List.mem_of_mem_take h1)
    obtain ⟨z, _, e⟩ := List.mem_map.mp hm
    exact ⟨z, e.symm⟩
  have y63 : ys.length ≤ 63 := by
    rw [← hy, List.length_take]
    exact Nat.le_trans (Nat.min_le_left _ _) (by omega)
  have s3 := s2.trans (same_upd (o := .lst ys) ne)
  have np0 : H p = none := s1.free np
  have pe : p ≠ e := fun z => by rw [z] at ne; rw [upd_same] at ne; cases ne
  refine ⟨e, _, rfl, SqL.of upd_same, for_it (walk_enum (K := K) (a := e) (xs := ys)) (fun i σ H' => ∃ v3 v4, ∃ ms : List Int, σ = [some (.ref a), some (.int m), some (.ref p), v3, v4] ∧ Same H H' ∧
    H' e = some (.lst ys) ∧ H' p = some (.lst (ms.map V.int)) ∧ ms.length = min m ns.length) ?_ ?_ ?_ ?_⟩
  · refine ⟨none, none, ns.take m, rfl, s3, upd_same, ?_, List.length_take⟩
    rw [upd_ne pe, upd_same, List.map_take]
  · rintro i σ H' _ ⟨v3, v4, ms, rfl, sm, he, hp, hl⟩
    exact SqL.of he
  · rintro i v σ H1 H2 hi ⟨v3, v4, ms, rfl, sm, he, hp, hl⟩ ⟨T, x, y, rfl, nT, rfl, ex, ey⟩
    cases ex
    obtain ⟨z, rfl⟩ := yv i y ey
    have hm : m < ns.length := yl (fun h => by rw [h] at hi; exact absurd hi (Nat.not_lt_zero _))
    have im : i % m < ms.length := by rw [hl, Nat.min_eq_left (by omega)]; exact Nat.mod_lt _ m0
    have hpT : (upd H1 T (.tup [.int i, .int z])) p = some (.lst (ms.map V.int)) := same_upd nT _ _ hp
    have heT : (upd H1 T (.tup [.int i, .int z])) e = some (.lst ys) := same_upd nT _ _ he
    have at1 : atI (ms.map V.int) ((i : Int) % (m : Int)) = some (.int ms[i % m]) := atI_nat (j := i % m) (by rw [List.getElem?_map, List.getElem?_eq_getElem im]; rfl)
    have ix1 : ixN (ms.map V.int).length ((i : Int) % (m : Int)) = some (i % m) := ixN_is (j := i % m) (by rw [List.length_map]; exact im)
    refine ⟨T, _, rfl, .inl (.inl upd_same), rfl, _, _, rfl, _, _, rfl, rfl, ?_⟩
    refine ⟨_, rfl, _, rfl, _, rfl, i, m, rfl, rfl, (show (0 : Int) < m by omega), p, _, _, _, rfl, rfl, SqL.of hpT, at1, _, rfl, _, rfl, i, 2, rfl, rfl, z, _, rfl, rfl, .inr ⟨by show _ < (i : Int) + 2; omega, (by show (i : Int) + 2 < 2 ^ 64; omega)⟩, _, _, rfl, rfl, ?_⟩
    refine ⟨_, rfl, _, rfl, _, rfl, i, m, rfl, rfl, (show (0 : Int) < m by omega), p, _, _, _, rfl, rfl, hpT, ix1, ?_⟩
    refine ⟨_, _, ms.set (i % m) (ms[i % m] + z * ((i : Int) + 2)), rfl, fun b o h => ?_, ?_, ?_, by rw [List.length_set]; exact hl⟩
    · rw [upd_ne (ne_of_none h np0)]
      exact same_upd nT _ _ (sm _ _ h)
    · rw [upd_ne pe.symm]; exact heT
    · rw [upd_same, List.map_set]
  · rintro σ H' ⟨v3, v4, ms, rfl, sm, he, hp, hl⟩
    refine ⟨_, rfl, by show 0 ≤ sizeLine; decide, fun t nt => ?_⟩
    have ht := same_upd (o := .lst []) nt
    refine ⟨.list (ms.map PyData.int), .list [], .lst (SqL.of (ht _ _ hp)) (dpAll_ints ms), .lst (SqL.of upd_same) .nil, shaped_ints ms, by decide, _, rfl, ?_⟩
    cases ms with
    | nil =>
      refine iteF ⟨by show 1 ≤ sizeLine; decide, fun u nu => q u [0] _ (sm.trans (ht.trans (same_upd nu))) upd_same (by simp) (by decide)⟩
    | cons x r =>
      refine iteT ⟨_, rfl, q p _ _ (sm.trans ht) (ht _ _ hp) (by simp) ?_⟩
      rw [hl]
      omega
end
end Fd

set_option Elab.async false
set_option linter.all false
set_option maxRecDepth 100000
set_option maxHeartbeats 2000000
namespace Fd
open PySem PySem.Spec PyProof.Rows L2 RZ
theorem seqT {K : PySem.W.Frag} {H H' : Hp} {a : Addr} {xs : List V} (e : Same H H') (h : SqT K H a xs) : SqT K H' a xs := by
  rcases h with (h | ⟨o, h⟩) | h
  · exact .inl (.inl (e _ _ h))
  · exact .inl (.inr ⟨o, e _ _ h⟩)
  · exact .inr h
mutual
theorem dp_same {K : PySem.W.Frag} {H H' : Hp} (s : Same H H') : ∀ (d : PyData) (v : V), Dp K H v d → Dp K H' v d
  | .none, _, h => by cases h; exact .non
  | .bool b, _, h => by cases h; exact .bl b
  | .int i, _, h => by cases h; exact .int i
  | .str x, _, h => by cases h; exact .str x
  | .list ds, _, h => by cases h with | lst q r => exact .lst (s.seq q) (dpAll_same s ds _ r)
  | .tuple ds, _, h => by cases h with | tup q r => exact .tup (seqT s q) (dpAll_same s ds _ r)
  | .dict _, _, h => by cases h
theorem dpAll_same {K : PySem.W.Frag} {H H' : Hp} (s : Same H H') : ∀ (ds : List PyData) (vs : List V), DpAll K H vs ds → DpAll K H' vs ds
  | [], _, h => by cases h; exact .nil
  | d :: ds, _, h => by cases h with | cons q r => exact .cons (dp_same s d _ q) (dpAll_same s ds _ r)
end
theorem dpAll_len {K : PySem.W.Frag} {H : Hp} : ∀ {ds : List PyData} {vs : List V}, DpAll K H vs ds → vs.length = ds.length
  | [], _, h => by cases h; rfl
  | d :: ds, _, h => by cases h with | cons q r => rw [List.length_cons, List.length_cons, dpAll_len r]
theorem dpAll_at {K : PySem.W.Frag} {H : Hp} : ∀ {ds : List PyData} {vs : List V} {i : Nat} {v : V}, DpAll K H vs ds → vs[i]? = some v → ∃ d, ds[i]? = some d ∧ Dp K H v d
  | [], _, i, v, h, e => by cases h; simp at e
  | d :: ds, _, 0, v, h, e => by cases h with | cons q r => cases (Option.some.inj e); exact ⟨d, rfl, q⟩
  | d :: ds, _, i + 1, v, h, e => by cases h with | cons q r => exact dpAll_at (i := i) r e
/-- data without dicts, less than n deep, lists of at most 1000 -/
def OkD : Nat → PyData → Prop
  | 0, _ => False
  | _ + 1, .none => True
  | _ + 1, .bool _ => True
  | _ + 1, .int _ => True
  | _ + 1, .str _ => True
  | n + 1, .list ds => ds.length ≤ 1000 ∧ ∀ d ∈ ds, OkD n d
  | n + 1, .tuple ds => ds.length ≤ 1000 ∧ ∀ d ∈ ds, OkD n d
  | _ + 1, .dict _ => False
theorem qd {Q : VK} {H : Hp} {x : V} (h : Q (.bl true) H) : Q (.bl (decide (x = x))) H := by
  rw [decide_eq_true rfl]
  exact h
theorem all_rep : ∀ n : Nat, (List.replicate n true).all id = true
  | 0 => rfl
  | n + 1 => by rw [List.replicate_succ, List.all_cons, all_rep n]; rfl
theorem ty_lst {K : PySem.W.Frag} {H : Hp} {a : Addr} {xs : List V} (h : SqL K H a xs) : TyX K H (.ref a) (.type "list") := by
  rcases h with (h | ⟨o, h⟩) | ⟨o, _, _, h, c, _⟩
  · exact .base (.lst h)
  · exact .base (.frz h)
  · exact .kList h c
theorem ty_tup {K : PySem.W.Frag} {H : Hp} {a : Addr} {xs : List V} (h : SqT K H a xs) : TyX K H (.ref a) (.type "tuple") := by
  rcases h with (h | ⟨o, h⟩) | ⟨o, _, _, h, c, _⟩
  · exact .base (.tup h)
  · exact .fTuple h
  · exact .kTuple h c
theorem kitLT {K : PySem.W.Frag} {t : String} {b1 b2 : Bool} (h1 : kitB t "list" = some b1) (h2 : kitB t "tuple" = some b2) : PySem.W.kitAny K (.type t) [.type "list", .type "tuple"] = some (b1 || b2) := by
  cases b1 with
  | true => exact kitAny_cons (kit_ty h1) (fun z => nomatch z) (fun _ => rfl)
  | false =>
    refine kitAny_cons (kit_ty h1) (fun _ => ?_) (fun z => nomatch z)
    cases b2 with
    | true => exact kitAny_cons (kit_ty h2) (fun z => nomatch z) (fun _ => rfl)
    | false => exact kitAny_cons (kit_ty h2) (fun _ => rfl) (fun z => nomatch z)
theorem walk_zipT {K : PySem.W.Frag} {a b : Addr} {xs ys : List V} {n : Nat} (hn : n = min xs.length ys.length) : Walk (ItzT K a b) n (fun H => SqT K H a xs ∧ SqT K H b ys) (YPair (fun i => xs[i]?) (fun i => ys[i]?)) := by
  subst hn
  refine ⟨fun i _ hi q => ⟨xs, ys, xs[i]'(by omega), ys[i]'(by omega), q.1, q.2, List.getElem?_eq_getElem _, List.getElem?_eq_getElem _⟩, fun _ q => ⟨xs, ys, q.1, q.2, by omega⟩, fun i H v H' _ q y => ?_⟩
  obtain ⟨T, x, z, g1, g2, g3, g4, g5⟩ := y
  exact ⟨T, x, z, g1, g2, g3, g4 xs q.1, g5 ys q.2⟩
section
variable {P : Program} {w : World} {K : PySem.W.Frag} {mg : Str → Option Value} {base : Heap} {f : Addr} {fd : FuncData}
/-! ### _law_same, of equal things -/
abbrev sSame : Stmt := top 19
theorem scSame : FnScope ["_law_found", "_law_due", "_law_one", "_law_two"] ["_law_found", "_law_due"] (defScope sSame) := ⟨rfl, rfl, rfl, by decide +kernel, rfl, by decide +kernel, by decide +kernel⟩
def spSame (K : PySem.W.Frag) (n : Nat) : Sp := fun vs H Q _ => ∃ (x y : V) (d : PyData), vs = [x, y] ∧ Dp K H x d ∧ Dp K H y d ∧ OkD n d ∧ ∀ H', Same H H' → Q (.bl true) H'
structure SameB (mg : Str → Option Value) : Prop where
  m_isinstance : mg "isinstance" = none
  m_list : mg "list" = none
  m_tuple : mg "tuple" = none
  m_len : mg "len" = none
  m_all : mg "all" = none
  m_zip : mg "zip" = none
  m_str : mg "str" = none
  m_int : mg "int" = none
  m_bool : mg "bool" = none
theorem ok_same1 {n : Nat} (F : Fun K "_law_same" "_law_same" sSame f fd) (B : SameB mg) (G : FnG P w K mg base CX0 n "_law_same" ["_law_found", "_law_due"] (spSame K n)) :
    FnOk P w K mg base CX0 (n + 1) f fd ["_law_found", "_law_due"] (spSame K (n + 1)) := by
  obtain ⟨_, _, G__law_same, m__law_same, k__law_same, b__law_same⟩ := G
  obtain ⟨m_isinstance, m_list, m_tuple, m_len, m_all, m_zip, m_str, m_int, m_bool⟩ := B
  have sc := scSame
  refine F.ok sc (fun vs H Q E h => ?_) (fun cdv A outer s H vs Q E hr h => ?_)
  · obtain ⟨a, n, m, rfl, _⟩ := h
    rfl
  obtain ⟨x, y, d, rfl, hx, hy, ok, q⟩ := h
  refine ⟨_, (pss_cons (ps_if (pt_val (pe_callB call_isiT (by rfl) m_isinstance (by decide +kernel) (pa_cons (pv 1) (pa_cons (pe_tup (pa_cons (pe_bltn (v := .ty "list") (by rfl) m_list (by decide +kernel) rfl) (pa_cons (pe_bltn (v := .ty "tuple") (by rfl) m_tuple (by decide +kernel) rfl) pa_nil))) pa_nil)))) (pss_cons (ps_if (PW.pt (pw_or (pt_cmpR op_ne (pe_callB call_isi (by rfl) m_isinstance (by decide +kernel) (pa_cons (pv 0) (pa_cons (pe_bltn (v := .ty "list") (by rfl) m_list (by decide +kernel) rfl) pa_nil))) (pe_callB call_isi (by rfl) m_isinstance (by decide +kernel) (pa_cons (pv 1) (pa_cons (pe_bltn (v := .ty "list") (by rfl) m_list (by decide +kernel) rfl) pa_nil))) (nomark _)) (pw_or1 (pt_cmpR op_ne (pe_callB call_isi (by rfl) m_isinstance (by decide +kernel) (pa_cons (pv 0) (pa_cons (pe_bltn (v := .ty "tuple") (by rfl) m_tuple (by decide +kernel) rfl) pa_nil))) (pe_callB call_isi (by rfl) m_isinstance (by decide +kernel) (pa_cons (pv 1) (pa_cons (pe_bltn (v := .ty "tuple") (by rfl) m_tuple (by decide +kernel) rfl) pa_nil))) (nomark _))))) (pss_one (ps_ret pe_bl)) pss_nil)
      (pss_one (ps_ret (pe_and (pe_cmpR op_eq (pe_callB call_len_seq (by rfl) m_len (by decide +kernel) (pa_cons (pv 0) pa_nil)) (pe_callB call_len_seq (by rfl) m_len (by decide +kernel) (pa_cons (pv 1) pa_nil)) (nomark _)) (pe_one (pe_callB (cr_all rfl) (by rfl) m_all (by decide +kernel) (pa_cons (pe_lc (own := [("_law_one", 2), ("_law_two", 3)]) (g := gTup K 2 (gCons (gName 2) (gCons (gName 3) gNil))) (by rfl) sc.nd  (pi_zipA (by rfl) m_zip (pa_cons (pv 0) (pa_cons (pv 1) pa_nil))) (blkOk_by (own := [("_law_one", 2), ("_law_two", 3)]) (N := ["_law_found", "_law_due", "_law_one", "_law_two"]) (sc := defScope sSame) (by decide +kernel)) (fun _ _ _ _ _ => (pg_tup (by rfl) (pgs_cons (pg_name (i := 2) sc.nd rfl (.inl rfl)) (pgs_cons (pg_name (i := 3) sc.nd rfl (.inl rfl)) pgs_nil)))) (fun _ _ _ _ _ => pts_nil) (fun _ _ _ _ _ => (pe_call G__law_same (hr.mono (by omega)) (by rfl) m__law_same k__law_same b__law_same .nil pass0 (pa_cons (pv 2) (pa_cons (pv 3) pa_nil))))) pa_nil))))))) pss_nil)
      (pss_cons (ps_if (PW.pt (pw_or (pt_cmpR op_isN (pv 1) pe_non (nomark _)) (pw_or1 (pt_val (pe_callB call_isi (by rfl) m_isinstance (by decide +kernel) (pa_cons (pv 1) (pa_cons (pe_bltn (v := .ty "str") (by rfl) m_str (by decide +kernel) rfl) pa_nil))))))) (pss_one (ps_ret (pe_and (pe_cmpR op_eq (pe_callB call_isi (by rfl) m_isinstance (by decide +kernel) (pa_cons (pv 0) (pa_cons (pe_bltn (v := .ty "str") (by rfl) m_str (by decide +kernel) rfl) pa_nil))) (pe_callB call_isi (by rfl) m_isinstance (by decide +kernel) (pa_cons (pv 1) (pa_cons (pe_bltn (v := .ty "str") (by rfl) m_str (by decide +kernel) rfl) pa_nil))) (nomark _)) (pe_one (pe_cmpR op_eq (pv 0) (pv 1) (nomark _)))))) pss_nil)
      (pss_one (ps_ret (pe_and (pe_callB call_isi (by rfl) m_isinstance (by decide +kernel) (pa_cons (pv 0) (pa_cons (pe_bltn (v := .ty "int") (by rfl) m_int (by decide +kernel) rfl) pa_nil))) (pe_and (pe_cmpR op_eq (pe_callB call_isi (by rfl) m_isinstance (by decide +kernel) (pa_cons (pv 0) (pa_cons (pe_bltn (v := .ty "bool") (by rfl) m_bool (by decide +kernel) rfl) pa_nil))) (pe_callB call_isi (by rfl) m_isinstance (by decide +kernel) (pa_cons (pv 1) (pa_cons (pe_bltn (v := .ty "bool") (by rfl) m_bool (by decide +kernel) rfl) pa_nil))) (nomark _)) (pe_one (pe_cmpR op_eq (pv 0) (pv 1) (nomark _))))))))), ?_⟩
  refine ⟨_, rfl, by show 2 ≤ sizeLine; decide, fun p np => ?_⟩
  have s1 : Same H (upd H p (.tup [.ty "list", .ty "tuple"])) := same_upd np
  cases d with
  | none =>
    cases hx; cases hy
    refine ⟨_, p, _, .type "NoneType", _, false, rfl, upd_same, .cons (.ty _) (.cons (.ty _) .nil), .base .non, kitLT (b1 := false) (b2 := false) (by decide +kernel) (by decide +kernel), _, rfl, iteF ?_⟩
    refine ⟨_, rfl, rfl, _, rfl, iteT (iteT ?_)⟩
    exact ⟨_, rfl, _, _, .type "NoneType", _, false, rfl, .ty _, .base .non, kit_ty (by decide +kernel), _, rfl, _, _, .type "NoneType", _, false, rfl, .ty _, .base .non, kit_ty (by decide +kernel), rfl, _, rfl,
      iteT ⟨_, rfl, _, rfl, rfl, q _ s1⟩⟩
  | str z =>
    cases hx; cases hy
    refine ⟨_, p, _, .type "str", _, false, rfl, upd_same, .cons (.ty _) (.cons (.ty _) .nil), .base (.str z), kitLT (b1 := false) (b2 := false) (by decide +kernel) (by decide +kernel), _, rfl, iteF ?_⟩
    refine ⟨_, rfl, rfl, _, rfl, iteF ⟨_, rfl, _, _, .type "str", _, true, rfl, .ty _, .base (.str z), kit_ty (by decide +kernel), _, rfl, iteT ?_⟩⟩
    exact ⟨_, rfl, _, _, .type "str", _, true, rfl, .ty _, .base (.str z), kit_ty (by decide +kernel), _, rfl, _, _, .type "str", _, true, rfl, .ty _, .base (.str z), kit_ty (by decide +kernel), rfl, _, rfl,
      iteT ⟨_, rfl, _, rfl, rfl, qd (q _ s1)⟩⟩
  | int z =>
    cases hx; cases hy
    refine ⟨_, p, _, .type "int", _, false, rfl, upd_same, .cons (.ty _) (.cons (.ty _) .nil), .base (.int z), kitLT (b1 := false) (b2 := false) (by decide +kernel) (by decide +kernel), _, rfl, iteF ?_⟩
    refine ⟨_, rfl, rfl, _, rfl, iteF ⟨_, rfl, _, _, .type "int", _, false, rfl, .ty _, .base (.int z), kit_ty (by decide +kernel), _, rfl, iteF ?_⟩⟩
    exact ⟨_, rfl, _, _, .type "int", _, true, rfl, .ty _, .base (.int z), kit_ty (by decide +kernel), _, rfl, iteT ⟨_, rfl, _, _, .type "int", _, false, rfl, .ty _, .base (.int z), kit_ty (by decide +kernel),
      _, rfl, _, _, .type "int", _, false, rfl, .ty _, .base (.int z), kit_ty (by decide +kernel), rfl, _, rfl, iteT ⟨_, rfl, _, rfl, rfl, qd (q _ s1)⟩⟩⟩
  | bool z =>
    cases hx; cases hy
    refine ⟨_, p, _, .type "bool", _, false, rfl, upd_same, .cons (.ty _) (.cons (.ty _) .nil), .base (.bl z), kitLT (b1 := false) (b2 := false) (by decide +kernel) (by decide +kernel), _, rfl, iteF ?_⟩
    refine ⟨_, rfl, rfl, _, rfl, iteF ⟨_, rfl, _, _, .type "bool", _, false, rfl, .ty _, .base (.bl z), kit_ty (by decide +kernel), _, rfl, iteF ?_⟩⟩
    exact ⟨_, rfl, _, _, .type "bool", _, true, rfl, .ty _, .base (.bl z), kit_ty (by decide +kernel), _, rfl, iteT ⟨_, rfl, _, _, .type "bool", _, true, rfl, .ty _, .base (.bl z), kit_ty (by decide +kernel),
      _, rfl, _, _, .type "bool", _, true, rfl, .ty _, .base (.bl z), kit_ty (by decide +kernel), rfl, _, rfl, iteT ⟨_, rfl, _, rfl, rfl, qd (q _ s1)⟩⟩⟩
  | dict _ => exact ok.elim
  | list ds =>
    obtain ⟨w1, w2⟩ := (show ds.length ≤ 1000 ∧ ∀ d ∈ ds, OkD n d from ok)
    cases hx with | @lst a xs _ ha ax =>
    cases hy with | @lst b ys _ hb by_ =>
    have ha1 := s1.seq ha
    have hb1 := s1.seq hb
    have le : xs.length = ys.length := (dpAll_len ax).trans (dpAll_len by_).symm
    refine ⟨_, p, _, .type "list", _, true, rfl, upd_same, .cons (.ty _) (.cons (.ty _) .nil), ty_lst hb1, kitLT (b1 := true) (b2 := false) (by decide +kernel) (by decide +kernel), _, rfl, iteT ?_⟩
    refine ⟨_, rfl, _, _, .type "list", _, true, rfl, .ty _, ty_lst ha1, kit_ty (by decide +kernel), _, rfl, _, _, .type "list", _, true, rfl, .ty _, ty_lst hb1, kit_ty (by decide +kernel), rfl, _, rfl, iteF
      ⟨_, rfl, _, _, .type "list", _, false, rfl, .ty _, ty_lst ha1, kit_ty (by decide +kernel), _, rfl, _, _, .type "list", _, false, rfl, .ty _, ty_lst hb1, kit_ty (by decide +kernel), rfl, _, rfl, iteF ?_⟩⟩
    refine ⟨_, rfl, a, _, rfl, .inl ha1, _, rfl, b, _, rfl, .inl hb1, rfl, true, congrArg V.bl (decide_eq_true (by rw [le])), iteT ?_⟩
    refine ⟨_, rfl, _, rfl, a, b, xs, ys, rfl, .inl ⟨ha1, hb1, fun D nD => lc_it (walk_zip (xs := xs) (ys := ys) rfl) (fun i H' => Same (upd H p (.tup [.ty "list", .ty "tuple"])) H' ∧ H' D = some (.lst (List.replicate i (.bl true)))) ⟨same_upd nD, upd_same⟩
      (fun i H' _ h => ⟨h.1.seq ha1, h.1.seq hb1⟩) ?_ ?_⟩⟩
    · rintro i v H1 H2 hi ⟨sm, hD⟩ ⟨T, x, y, rfl, nT, rfl, ex, ey⟩
      obtain ⟨d, ed, dx⟩ := dpAll_at (dpAll_same (s1.trans sm) ds xs ax) ex
      obtain ⟨d', ed', dy⟩ := dpAll_at (dpAll_same (s1.trans sm) ds ys by_) ey
      obtain rfl : d = d' := Option.some.inj (ed.symm.trans ed')
      have sT := same_upd (o := .tup [x, y]) nT
      refine ⟨T, _, rfl, .inl (.inl upd_same), rfl, _, _, rfl, _, _, rfl, rfl, rfl, ?_⟩
      unfold tYes
      refine iteT ?_
      refine ⟨_, rfl, _, rfl, x, y, d, rfl, dp_same sT _ _ dx, dp_same sT _ _ dy, w2 d (List.mem_of_getElem? ed), fun H3 s3 => ⟨_, s3 _ _ (sT _ _ hD), ?_, ?_, ?_⟩⟩
      · rw [List.length_replicate]
        exact small1000 (by have := dpAll_len ax; omega)
      · intro b' o' h'
        have nb : b' ≠ D := fun z => by rw [z, nD] at h'; cases h'
        rw [upd_ne nb]
        exact s3 _ _ (sT _ _ (sm _ _ h'))
      · rw [upd_same, List.replicate_succ']
    · rintro H1 ⟨sm, hD⟩
      refine ⟨D, List.replicate (min xs.length ys.length) true, rfl, SqL.of (by rw [hD, List.map_replicate]), ?_⟩
      rw [all_rep]
      exact q _ (s1.trans sm)
  | tuple ds =>
    obtain ⟨w1, w2⟩ := (show ds.length ≤ 1000 ∧ ∀ d ∈ ds, OkD n d from ok)
    cases hx with | @tup a xs _ ha ax =>
    cases hy with | @tup b ys _ hb by_ =>
    have ha1 := seqT s1 ha
    have hb1 := seqT s1 hb
    have le : xs.length = ys.length := (dpAll_len ax).trans (dpAll_len by_).symm
    refine ⟨_, p, _, .type "tuple", _, true, rfl, upd_same, .cons (.ty _) (.cons (.ty _) .nil), ty_tup hb1, kitLT (b1 := false) (b2 := true) (by decide +kernel) (by decide +kernel), _, rfl, iteT ?_⟩
    refine ⟨_, rfl, _, _, .type "tuple", _, false, rfl, .ty _, ty_tup ha1, kit_ty (by decide +kernel), _, rfl, _, _, .type "tuple", _, false, rfl, .ty _, ty_tup hb1, kit_ty (by decide +kernel), rfl, _, rfl, iteF
      ⟨_, rfl, _, _, .type "tuple", _, true, rfl, .ty _, ty_tup ha1, kit_ty (by decide +kernel), _, rfl, _, _, .type "tuple", _, true, rfl, .ty _, ty_tup hb1, kit_ty (by decide +kernel), rfl, _, rfl, iteF ?_⟩⟩
    refine ⟨_, rfl, a, _, rfl, .inr ha1, _, rfl, b, _, rfl, .inr hb1, rfl, true, congrArg V.bl (decide_eq_true (by rw [le])), iteT ?_⟩
    refine ⟨_, rfl, _, rfl, a, b, xs, ys, rfl, .inr ⟨ha1, hb1, fun D nD => lc_it (walk_zipT (xs := xs) (ys := ys) rfl) (fun i H' => Same (upd H p (.tup [.ty "list", .ty "tuple"])) H' ∧ H' D = some (.lst (List.replicate i (.bl true)))) ⟨same_upd nD, upd_same⟩
      (fun i H' _ h => ⟨seqT h.1 ha1, seqT h.1 hb1⟩) ?_ ?_⟩⟩
    · rintro i v H1 H2 hi ⟨sm, hD⟩ ⟨T, x, y, rfl, nT, rfl, ex, ey⟩
      obtain ⟨d, ed, dx⟩ := dpAll_at (dpAll_same (s1.trans sm) ds xs ax) ex
      obtain ⟨d', ed', dy⟩ := dpAll_at (dpAll_same (s1.trans sm) ds ys by_) ey
      obtain rfl : d = d' := Option.some.inj (ed.symm.trans ed')
      have sT := same_upd (o := .tup [x, y]) nT
      refine ⟨T, _, rfl, .inl (.inl upd_same), rfl, _, _, rfl, _, _, rfl, rfl, rfl, ?_⟩
      unfold tYes
      refine iteT ?_
      refine ⟨_, rfl, _, rfl, x, y, d, rfl, dp_same sT _ _ dx, dp_same sT _ _ dy, w2 d (List.mem_of_getElem? ed), fun H3 s3 => ⟨_, s3 _ _ (sT _ _ hD), ?_, ?_, ?_⟩⟩
      · rw [List.length_replicate]
        exact small1000 (by have := dpAll_len ax; omega)
      · intro b' o' h'
        have nb : b' ≠ D := fun z => by rw [z, nD] at h'; cases h'
        rw [upd_ne nb]
        exact s3 _ _ (sT _ _ (sm _ _ h'))
      · rw [upd_same, List.replicate_succ']
    · rintro H1 ⟨sm, hD⟩
      refine ⟨D, List.replicate (min xs.length ys.length) true, rfl, SqL.of (by rw [hD, List.map_replicate]), ?_⟩
      rw [all_rep]
      exact q _ (s1.trans sm)
theorem ok_same (F : Fun K "_law_same" "_law_same" sSame f fd) (B : SameB mg) (m : mg "_law_same" = some (.ref f)) (b : Binds K fd ["_law_found", "_law_due"] []) :
    ∀ n, FnOk P w K mg base CX0 n f fd ["_law_found", "_law_due"] (spSame K n)
  | 0 => ⟨fun vs H Q E h => by obtain ⟨_, _, d, _, _, _, ok, _⟩ := h; exact ok.elim, fun A outer s H args us vs Q E _ _ _ _ h => by obtain ⟨_, _, d, _, _, _, ok, _⟩ := h; exact ok.elim⟩
  | n + 1 => ok_same1 F B ⟨f, fd, ok_same F B m b n, m, F.kp, b⟩
end
end Fd

set_option Elab.async false
set_option linter.all false
set_option maxRecDepth 100000
set_option maxHeartbeats 2000000
namespace Fd
open PySem PySem.Spec PyProof.Rows L2
section
variable {X : Cx}
/-- text * number -/
theorem op_mul_str : OpR X (binaryOp .Mult) (fun x y H Q => ∃ z n, x = .str z ∧ y = .int n ∧ MulOk z n ∧ Q (.str (Txt.mul z n)) H) := by
  intro pins s σ H x y v u Q I rx ry h
  obtain ⟨z, n, rfl, rfl, hz, q⟩ := h
  obtain ⟨t, rfl⟩ := rx
  obtain ⟨t', rfl⟩ := ry
  exact SB.mul hz fun t' tk => ⟨.str (Txt.mul z n), H, I.tok _, ⟨_, rfl⟩, q⟩
end
/-! ### words -/
/-- one to eight letters a to z -/
def IsNm (z : Str) : Prop := 1 ≤ z.cps.size ∧ z.cps.size ≤ 8 ∧ ∀ c ∈ z.cps.toList, 97 ≤ c ∧ c ≤ 122
abbrev ltrs : Str := Str.ofString "abcdefghijklmnoprstuvwxyz"
theorem ltrs_len : ltrs.cps.toList.length = 25 := by decide +kernel
theorem ltrs_all : ∀ c ∈ ltrs.cps.toList, 97 ≤ c ∧ c ≤ 122 := by decide +kernel
theorem ltrs_nodup : ltrs.cps.toList.Nodup := by decide +kernel
def ltr (i : Nat) : Nat := ltrs.cps.toList.getD i 0
theorem ltr_at {i : Nat} (h : i < 25) : ltrs.cps.toList[i]? = some (ltr i) := by
  have h' : i < ltrs.cps.toList.length := by rw [ltrs_len]; exact h
  unfold ltr
  rw [List.getD_eq_getElem?_getD, List.getElem?_eq_getElem h']
  rfl
theorem ltr_ok {i : Nat} (h : i < 25) : 97 ≤ ltr i ∧ ltr i ≤ 122 := ltrs_all _ (List.mem_of_getElem? (ltr_at h))
theorem ltr_inj {i j : Nat} (hi : i < 25) (hj : j < 25) (e : ltr i = ltr j) : i = j := nd_ix ltrs_nodup (ltr_at hi) (by rw [e]; exact ltr_at hj)
theorem ltr_atI {i : Int} (h0 : 0 ≤ i) (h : i < 25) : atI ltrs.cps.toList i = some (ltr i.toNat) := by
  have e : i = ((i.toNat : Nat) : Int) := by omega
  rw [e]
  exact atI_nat (by rw [Int.toNat_natCast]; exact ltr_at (by omega))
theorem ltrs_fit : ltrs.length ≤ sizeLine := by decide +kernel
theorem nodup_of {α : Type} {f : Nat → α} {m : Nat} (h : ∀ i j, i < j → j < m → f i ≠ f j) : ((List.range m).map f).Nodup := by
  refine List.pairwise_iff_getElem.mpr fun i j hi hj hij => ?_
  rw [List.length_map, List.length_range] at hi hj
  rw [List.getElem_map, List.getElem_map, List.getElem_range, List.getElem_range]
  exact h i j hij hj
/-- the k-th word of one letter told k + 1 times -/
def rep (c : Nat) (k : Nat) : Str := Txt.mul ⟨#[c]⟩ ((k : Int) + 1)
theorem fold_app (c : Nat) : ∀ (n : Nat) (acc : Array Nat), ((List.replicate n (#[c] : Array Nat)).foldl (· ++ ·) acc).toList = acc.toList ++ List.replicate n c
  | 0, acc => by simp
  | n + 1, acc => by
    rw [List.replicate_succ, List.foldl_cons, fold_app c n, Array.toList_append, List.replicate_succ, List.append_assoc]
    rfl
theorem rep_codes (c k : Nat) : (rep c k).cps.toList = List.replicate (k + 1) c := by
  unfold rep Txt.mul
  rw [if_neg (by omega)]
  by_cases h : k = 0
  · subst h
    rfl
  · have e : (((k : Int) + 1 == 1) || ((⟨#[c]⟩ : Str).length == 0)) = false := by
      rw [show ((k : Int) + 1 == 1) = false from beq_eq_false_iff_ne.mpr (by omega)]
      rfl
    rw [e, if_neg Bool.false_ne_true, show ((k : Int) + 1).toNat = k + 1 by omega]
    exact (fold_app c (k + 1) #[]).trans (List.nil_append _)
theorem rep_ok {c k : Nat} (hk : k < 7) : MulOk ⟨#[c]⟩ ((k : Int) + 1) := by
  refine ⟨?_, fun _ _ => ?_, fun _ _ => ?_⟩
  · rw [decide_eq_false (by omega), decide_eq_false (by omega)]
    rfl
  · show ¬ ((1 : Int) > (2 ^ 63 - 1) / ((k : Int) + 1))
    have : k = 0 ∨ k = 1 ∨ k = 2 ∨ k = 3 ∨ k = 4 ∨ k = 5 ∨ k = 6 := by omega
    rcases this with rfl | rfl | rfl | rfl | rfl | rfl | rfl <;> decide
  · rw [show (⟨#[c]⟩ : Str).length * ((k : Int) + 1).toNat = k + 1 by show 1 * _ = _; omega]
    have : k = 0 ∨ k = 1 ∨ k = 2 ∨ k = 3 ∨ k = 4 ∨ k = 5 ∨ k = 6 := by omega
    rcases this with rfl | rfl | rfl | rfl | rfl | rfl | rfl <;> decide +kernel
theorem rep_nm {c k : Nat} (hc : 97 ≤ c ∧ c ≤ 122) (hk : k < 7) : IsNm (rep c k) := by
  have l : (rep c k).cps.size = k + 1 := by rw [← Array.length_toList, rep_codes, List.length_replicate]
  refine ⟨by omega, by omega, fun x hx => ?_⟩
  rw [rep_codes] at hx
  rw [List.eq_of_mem_replicate hx]
  exact hc
theorem rep_ne {c i j : Nat} (h : i < j) : rep c i ≠ rep c j := fun e => by
  have := congrArg (fun z : Str => z.cps.toList.length) e
  simp only [rep_codes, List.length_replicate] at this
  omega
/-- a stem with one letter put in -/
def put1 (z : Str) (at_ : Int) (c : Nat) : Str := cutS z none (some at_) ++ ⟨#[c]⟩ ++ cutS z (some at_) none
theorem put1_codes {z : Str} {n : Nat} (h : n ≤ z.length) (c : Nat) : (put1 z (n : Int) c).cps.toList = z.cps.toList.take n ++ c :: z.cps.toList.drop n := by
  have l : z.cps.toList.length = z.length := Array.length_toList
  have e1 : (cutS z none (some (n : Int))).cps.toList = z.cps.toList.take n := by
    show ((z.cps.toList.drop (HT.sIx z.length 0 none)).take (HT.sIx z.length z.length (some (n : Int)) - HT.sIx z.length 0 none)) = _
    rw [HT.sIx_none, HT.sIx_nat, Nat.min_eq_left h]
    rfl
  have e2 : (cutS z (some (n : Int)) none).cps.toList = z.cps.toList.drop n := by
    show ((z.cps.toList.drop (HT.sIx z.length 0 (some (n : Int)))).take (HT.sIx z.length z.length none - HT.sIx z.length 0 (some (n : Int)))) = _
    rw [HT.sIx_none, HT.sIx_nat, Nat.min_eq_left h]
    exact List.take_of_length_le (by rw [List.length_drop, l]; exact Nat.le_refl _)
  show ((cutS z none (some (n : Int))).cps ++ #[c] ++ (cutS z (some (n : Int)) none).cps).toList = _
  rw [Array.toList_append, Array.toList_append, e1, e2, List.append_assoc]
  rfl
theorem put1_nm {z : Str} {n c : Nat} (h : n ≤ z.length) (hz : z.length ≤ 7) (hs : ∀ x ∈ z.cps.toList, 97 ≤ x ∧ x ≤ 122) (hc : 97 ≤ c ∧ c ≤ 122) : IsNm (put1 z (n : Int) c) := by
  have l0 : z.cps.toList.length = z.length := Array.length_toList
  have l : (put1 z (n : Int) c).cps.size = z.length + 1 := by
    rw [← Array.length_toList, put1_codes h, List.length_append, List.length_cons, List.length_take, List.length_drop, l0]
    omega
  refine ⟨by omega, by omega, fun x hx => ?_⟩
  rw [put1_codes h] at hx
  rcases List.mem_append.mp hx with q | q
  · exact hs _ (List.mem_of_mem_take q)
  · rcases List.mem_cons.mp q with q | q
    · rw [q]; exact hc
    · exact hs _ (List.mem_of_mem_drop q)
theorem put1_ne {z : Str} {n c c' : Nat} (h : n ≤ z.length) (hc : c ≠ c') : put1 z (n : Int) c ≠ put1 z (n : Int) c' := fun e => by
  have q := congrArg (fun z : Str => z.cps.toList) e
  simp only [put1_codes h] at q
  exact hc (List.cons.inj (List.append_cancel_left q)).1
abbrev one (c : Nat) : Str := ⟨#[c]⟩
theorem glue1 : ∀ (cs : List Nat) (acc : Array Nat), ((cs.map one).foldl (fun acc p => acc ++ (Str.ofString "").cps ++ p.cps) acc).toList = acc.toList ++ cs
  | [], acc => by simp
  | c :: cs, acc => by
    rw [List.map_cons, List.foldl_cons, glue1 cs, Array.toList_append, Array.toList_append, show (Str.ofString "").cps.toList = [] by decide +kernel, List.append_nil, List.append_assoc]
    rfl
theorem join1 : ∀ cs : List Nat, (Txt.join (Str.ofString "") (cs.map one)).cps.toList = cs
  | [] => rfl
  | c :: cs => glue1 cs #[c]
theorem But.free {a d : Addr} {H H' : Hp} {o : HO} (s : But a H H') (ha : H' a = some o) (h : H' d = none) : H d = none := by
  cases q : H d with
  | none => rfl
  | some u =>
    by_cases e : d = a
    · rw [e, ha] at h
      cases h
    · rw [s d u e q] at h
      cases h
theorem Box.is {H : Hp} {a : Addr} {n : Nat} (b : Box H a n) : ∃ o, H a = some o := by
  obtain ⟨b0, b1, b2, h, _⟩ := b
  exact ⟨_, h⟩
theorem Box.ne {H : Hp} {a d : Addr} {n : Nat} (b : Box H a n) (h : H d = none) : a ≠ d := by
  obtain ⟨o, e⟩ := b.is
  exact ne_of_none e h
theorem Box.upd {H : Hp} {a d : Addr} {n : Nat} {o : HO} (b : Box H a n) (h : a ≠ d) : Box (upd H d o) a n := by
  obtain ⟨b0, b1, b2, e, r⟩ := b
  exact ⟨b0, b1, b2, by rw [upd_ne h]; exact e, r⟩
theorem ifT {c : Prop} [Decidable c] {A B : Prop} (hc : c) (h : A) : if decide c = true then A else B := by
  rw [if_pos (decide_eq_true hc)]
  exact h
theorem ifF {c : Prop} [Decidable c] {A B : Prop} (hc : ¬ c) (h : B) : if decide c = true then A else B := by
  rw [decide_eq_false hc, if_neg Bool.false_ne_true]
  exact h
section
variable {P : Program} {w : World} {K : PySem.W.Frag} {mg : Str → Option Value} {base : Heap} {f : Addr} {fd : FuncData}
/-! ### _law_names -/
abbrev sNames : Stmt := top 20
theorem scNames : FnScope ["_law_box", "_law_many", "_law_letters", "_law_onset", "_law_way", "_law_stem", "_law_at", "_law_k"] ["_law_box", "_law_many"] (defScope sNames) := ⟨rfl, rfl, rfl, by decide +kernel, rfl, by decide +kernel, by decide +kernel⟩
def spNames : Sp := fun vs H Q _ => ∃ (a : Addr) (n m : Nat), vs = [.ref a, .int m] ∧ Box H a n ∧ n + 12 ≤ 1000000 ∧ m < 8 ∧
  ∀ (p : Addr) (ws : List Str) (H' : Hp), But a H H' → Box H' a (n + 12) → H p = none → H' p = some (.lst (ws.map V.str)) → ws.length = m → ws.Nodup → (∀ z ∈ ws, IsNm z) → Q (.ref p) H'
theorem ok_names {k : Nat} (F : Fun K "_law_names" "_law_names" sNames f fd) (G : FnG P w K mg base CX0 k "_law_take" ["_law_box", "_law_many"] spTake) (m_len : mg "len" = none) (m_range : mg "range" = none) :
    FnOk P w K mg base CX0 (k + 1) f fd ["_law_box", "_law_many"] spNames := by
  obtain ⟨_, _, G__law_take, m__law_take, k__law_take, b__law_take⟩ := G
  have sc := scNames
  refine F.ok sc (fun vs H Q E h => ?_) (fun cdv A outer s H vs Q E hr h => ?_)
  · obtain ⟨a, n, m, rfl, _⟩ := h
    rfl
  obtain ⟨a, n, m, rfl, hB, hn, hm, q⟩ := h
  refine ⟨_, (pss_cons (ps_asg (pe_tup (pa_cons pe_str (pa_cons (pe_call G__law_take (hr.mono (by omega)) (by rfl) m__law_take k__law_take b__law_take .nil pass0 (pa_cons (pv 0) (pa_cons pe_int pa_nil))) (pa_cons (pe_call G__law_take (hr.mono (by omega)) (by rfl) m__law_take k__law_take b__law_take .nil pass0 (pa_cons (pv 0) (pa_cons pe_int pa_nil))) pa_nil)))) (pg_tup (by rfl) (pgs_cons (pg_name (i := 2) sc.nd rfl (.inr rfl)) (pgs_cons (pg_name (i := 3) sc.nd rfl (.inr rfl)) (pgs_cons (pg_name (i := 4) sc.nd rfl (.inl rfl)) pgs_nil)))))
      (pss_cons (ps_set (i := 5) sc.nd rfl (.inr rfl) (pe_join pe_str (pe_lc (own := [("_law_k", 7)]) (by rfl) sc.nd  (pi_range1 (by rfl) m_range (pa_cons (pe_call G__law_take (hr.mono (by omega)) (by rfl) m__law_take k__law_take b__law_take .nil pass0 (pa_cons (pv 0) (pa_cons pe_int pa_nil))) pa_nil)) (blkOk_by (own := [("_law_k", 7)]) (N := ["_law_box", "_law_many", "_law_letters", "_law_onset", "_law_way", "_law_stem", "_law_at", "_law_k"]) (sc := defScope sNames) (by decide +kernel)) (fun _ _ _ _ _ => (pg_name (i := 7) sc.nd rfl (.inl rfl))) (fun _ _ _ _ _ => pts_nil) (fun _ _ _ _ _ => (pe_ix ix_str (pv 2) (pe_call G__law_take (hr.mono (by omega)) (by rfl) m__law_take k__law_take b__law_take .nil pass0 (pa_cons (pv 0) (pa_cons pe_int pa_nil))) (fun _ _ => rfl))))))
      (pss_cons (ps_if (PW.pt (pw_and (pt_cmpR op_lt (pv 1) pe_int (nomark _)) (pw_and1 (pt_cmpR op_eq (pv 4) pe_int (nomark _))))) (pss_one (ps_ret (pe_lc (own := [("_law_k", 7)]) (by rfl) sc.nd  (pi_range1 (by rfl) m_range (pa_cons (pv 1) pa_nil)) (blkOk_by (own := [("_law_k", 7)]) (N := ["_law_box", "_law_many", "_law_letters", "_law_onset", "_law_way", "_law_stem", "_law_at", "_law_k"]) (sc := defScope sNames) (by decide +kernel)) (fun _ _ _ _ _ => (pg_name (i := 7) sc.nd rfl (.inl rfl))) (fun _ _ _ _ _ => pts_nil) (fun _ _ _ _ _ => (pe_op op_mul_str (pe_ix ix_str (pv 2) (pv 3) (fun _ _ => rfl)) (pe_op op_add (pv 7) pe_int)))))) pss_nil)
      (pss_cons (ps_set (i := 6) sc.nd rfl (.inr rfl) (pe_ix ix_list (pe_lst (pa_cons pe_int (pa_cons (pe_call G__law_take (hr.mono (by omega)) (by rfl) m__law_take k__law_take b__law_take .nil pass0 (pa_cons (pv 0) (pa_cons (pe_op op_add (pe_callB call_len_str (by rfl) m_len (by decide +kernel) (pa_cons (pv 5) pa_nil)) pe_int) pa_nil))) (pa_cons (pe_callB call_len_str (by rfl) m_len (by decide +kernel) (pa_cons (pv 5) pa_nil)) pa_nil)))) (pv 4) (fun _ _ => rfl)))
      (pss_one (ps_ret (pe_lc (own := [("_law_k", 7)]) (by rfl) sc.nd  (pi_range1 (by rfl) m_range (pa_cons (pv 1) pa_nil)) (blkOk_by (own := [("_law_k", 7)]) (N := ["_law_box", "_law_many", "_law_letters", "_law_onset", "_law_way", "_law_stem", "_law_at", "_law_k"]) (sc := defScope sNames) (by decide +kernel)) (fun _ _ _ _ _ => (pg_name (i := 7) sc.nd rfl (.inl rfl))) (fun _ _ _ _ _ => pts_nil) (fun _ _ _ _ _ => (pe_op op_add_str (pe_op op_add_str (pe_slice sl_str (pv 5) po_none (po_some (pv 6))) (pe_ix ix_str (pv 2) (pe_op op_mod (pe_op op_add (pv 3) (pe_op op_mul pe_int (pv 7))) pe_int) (fun _ _ => rfl))) (pe_slice sl_str (pv 5) (po_some (pv 6)) po_none)))))))))), ?_⟩
  refine ⟨_, rfl, a, n, 25, rfl, hB, by omega, by decide, by decide, fun r1 H1 r10 r11 s1 B1 => ⟨_, rfl, a, n + 1, 3, rfl, B1, by omega, by decide, by decide, fun r2 H2 r20 r21 s2 B2 => ?_⟩⟩
  refine ⟨by show 3 ≤ sizeLine; decide, fun t nt => ⟨t, _, rfl, .inl (.inl upd_same), rfl, _, _, rfl, _, _, rfl, _, _, rfl, rfl, ?_⟩⟩
  have s3 := (s1.trans s2).trans (But.of (same_upd (o := .tup [.str ltrs, .int r1, .int r2]) nt))
  have B3 : Box (upd H2 t (.tup [.str ltrs, .int r1, .int r2])) a (n + 2) := B2.same (same_upd nt)
  refine ⟨⟨_, rfl⟩, _, rfl, a, n + 2, 8, rfl, B3, by omega, by decide, by decide, fun r3 H3 r30 r31 s4 B4 => ⟨r3, rfl, by omega, by omega, fun D nD => lc_it walk_range
    (fun i H' => But a H3 H' ∧ Box H' a (n + 3 + i) ∧ ∃ cs : List Nat, cs.length = i ∧ (∀ c ∈ cs, 97 ≤ c ∧ c ≤ 122) ∧ H' D = some (.lst ((cs.map one).map V.str))) ⟨But.of (same_upd nD), B4.same (same_upd nD), [], rfl, (by intro c hc; cases hc), upd_same⟩
    (fun _ _ _ _ => trivial) ?_ ?_⟩⟩
  · rintro i x H4 _ hi ⟨s5, B5, cs, hl, hc, hD⟩ ⟨rfl, rfl⟩
    refine ⟨rfl, ?_⟩
    unfold tYes
    refine iteT ⟨_, rfl, _, rfl, a, n + 3 + i, 25, rfl, B5, by omega, by decide, by decide, fun r4 H5 r40 r41 s6 B6 => ?_⟩
    have aD : D ≠ a := (B4.ne nD).symm
    have hD5 := s6 _ _ aD hD
    refine ⟨ltrs, r4, _, rfl, rfl, ltrs_fit, ltr_atI r40 r41, _, hD5, ?_, fun b o nb h => ?_, B6.upd aD.symm, cs ++ [ltr r4.toNat], by rw [List.length_append, hl]; rfl, fun c hc' => ?_, ?_⟩
    · rw [List.length_map, List.length_map, hl]
      exact small1000 (by omega)
    · by_cases hb : b = D
      · rw [hb, nD] at h
        cases h
      · rw [upd_ne hb]
        exact s6 _ _ nb (s5 _ _ nb h)
    · rcases List.mem_append.mp hc' with z | z
      · exact hc c z
      · rw [List.mem_singleton.mp z]
        exact ltr_ok (by omega)
    · rw [upd_same, List.map_append, List.map_append]
      rfl
  rintro H4 ⟨s5, B5, cs, hl, hc, hD⟩
  have r3l : r3.toNat ≤ 7 := by omega
  refine ⟨_, D, cs.map one, rfl, rfl, .inl (SqL.of hD), ?_, ?_⟩
  · have e1 : ((cs.map one).map (·.length)).sum = cs.length := by
      clear hl hc hD
      induction cs with
      | nil => rfl
      | cons c r ih => rw [List.map_cons, List.map_cons, List.sum_cons, ih, List.length_cons]; show 1 + _ = _; omega
    rw [e1, show (Str.ofString "").length = 0 by decide +kernel, Nat.mul_zero]
    omega
  generalize hst : Txt.join (Str.ofString "") (cs.map one) = stem
  have stc : stem.cps.toList = cs := by rw [← hst]; exact join1 cs
  have stl : stem.length = r3.toNat := by rw [show stem.length = stem.cps.toList.length from Array.length_toList.symm, stc, hl]
  have sta : ∀ x ∈ stem.cps.toList, 97 ≤ x ∧ x ≤ 122 := by rw [stc]; exact hc
  have B6 : Box H4 a (n + 10) := B5.le (by omega)
  have s6 := (s3.trans s4).trans s5
  obtain ⟨ob, hob⟩ := B6.is
  refine ⟨_, rfl, _, _, rfl, rfl, _, rfl, ifT (by omega) ⟨_, rfl, rfl, _, rfl, ite2 (fun c => ?_) (fun c => ?_)⟩⟩
  · have e2 : r2 = 0 := V.int.inj (of_decide_eq_true c)
    refine ⟨_, rfl, m, rfl, by omega, by omega, fun D2 nD2 => lc_it walk_range
      (fun i H' => But a H4 H' ∧ Box H' a (n + 10) ∧ H' D2 = some (.lst (((List.range i).map (rep (ltr r1.toNat))).map V.str))) ⟨But.of (same_upd nD2), B6.same (same_upd nD2), upd_same⟩
      (fun _ _ _ _ => trivial) ?_ ?_⟩
    · rintro i x H5 _ hi ⟨s7, B7, hD2⟩ ⟨rfl, ex⟩
      obtain rfl : x = V.int i := ex.trans (congrArg V.int (Int.zero_add _))
      have hi' : i < m := by simpa using hi
      refine ⟨rfl, ?_⟩
      unfold tYes
      refine iteT ⟨_, rfl, _, rfl, ltrs, r1, _, rfl, rfl, ltrs_fit, ltr_atI r10 r11, _, rfl, _, _, rfl, rfl, _, _, rfl, rfl, rep_ok (by omega), _, hD2, ?_, fun b o nb h => ?_, B7.upd (B6.ne nD2), ?_⟩
      · rw [List.length_map, List.length_map, List.length_range]
        exact small1000 (by omega)
      · rw [upd_ne (fun z => by rw [z, nD2] at h; cases h)]
        exact s7 _ _ nb h
      · rw [upd_same, List.range_succ, List.map_append, List.map_append]
        rfl
    · rintro H5 ⟨s7, B7, hD2⟩
      refine q D2 _ H5 (s6.trans s7) (B7.le (by omega)) (s6.free hob nD2) hD2 ?_ (nodup_of fun i j h1 h2 => rep_ne h1) fun z hz => ?_
      · rw [List.length_map, List.length_range, Int.toNat_natCast]
      · obtain ⟨i, hi, rfl⟩ := List.mem_map.mp hz
        have hi' : i < m := by simpa using hi
        exact rep_nm (ltr_ok (by omega)) (by omega)
  · have e2 : r2 ≠ 0 := fun z => c (decide_eq_true (by rw [z]))
    refine ⟨_, rfl, _, rfl, stem, rfl, Nat.le_of_lt (small1000 (by omega)), _, 1, rfl, rfl, a, n + 10, _, rfl, B6, by omega, by omega, by omega, fun r4 H5 r40 r41 s7 B7 => ?_⟩
    refine ⟨_, rfl, stem, rfl, Nat.le_of_lt (small1000 (by omega)), by show 3 ≤ sizeLine; decide, fun l nl => ?_⟩
    obtain ⟨na, hna, hat⟩ : ∃ na : Nat, na ≤ stem.length ∧ atI [V.int 0, V.int r4, V.int (stem.length : Nat)] r2 = some (.int (na : Int)) := by
      have : r2 = 1 ∨ r2 = 2 := by omega
      rcases this with rfl | rfl
      · exact ⟨r4.toNat, by omega, by rw [show ((r4.toNat : Nat) : Int) = r4 by omega]; rfl⟩
      · exact ⟨stem.length, Nat.le_refl _, rfl⟩
    refine ⟨_, rfl, l, _, r2, _, rfl, rfl, SqL.of upd_same, hat, ?_⟩
    have s8 : But a H4 (upd H5 l (.lst [.int 0, .int r4, .int (stem.length : Nat)])) := s7.trans (But.of (same_upd nl))
    have B8 : Box (upd H5 l (.lst [.int 0, .int r4, .int (stem.length : Nat)])) a (n + 11) := B7.same (same_upd nl)
    obtain ⟨ob8, hob8⟩ := B8.is
    refine ⟨_, rfl, m, rfl, by omega, by omega, fun D2 nD2 => lc_it walk_range
      (fun i H' => But a (upd H5 l (.lst [.int 0, .int r4, .int (stem.length : Nat)])) H' ∧ Box H' a (n + 11) ∧ H' D2 = some (.lst (((List.range i).map fun k => put1 stem (na : Int) (ltr ((r1.toNat + 7 * k) % 25))).map V.str)))
      ⟨But.of (same_upd nD2), B8.same (same_upd nD2), upd_same⟩ (fun _ _ _ _ => trivial) ?_ ?_⟩
    · rintro i x H6 _ hi ⟨s9, B9, hD2⟩ ⟨rfl, ex⟩
      obtain rfl : x = V.int i := ex.trans (congrArg V.int (Int.zero_add _))
      have hi' : i < m := by simpa using hi
      have ei : (r1 + 7 * (i : Int)) % 25 = (((r1.toNat + 7 * i) % 25 : Nat) : Int) := by omega
      refine ⟨rfl, ?_⟩
      unfold tYes
      refine iteT ⟨_, rfl, _, rfl, na, rfl, stem, rfl, Nat.le_of_lt (small1000 (by omega)), _, rfl, _, rfl, _, rfl, 7, i, rfl, rfl, .inl ⟨by decide, by decide⟩, r1, _, rfl, rfl, _, 25, rfl, rfl, (show (0 : Int) < 25 by decide),
        ltrs, _, _, rfl, rfl, ltrs_fit, ltr_atI (by omega) (by omega), _, _, rfl, rfl, ?_, _, rfl, _, rfl, na, rfl, stem, rfl, Nat.le_of_lt (small1000 (by omega)), _, _, rfl, rfl, ?_, _, hD2, ?_, fun b o nb h => ?_, B9.upd (B8.ne nD2), ?_⟩
      · have := cutS_length stem none (some (na : Int))
        exact Nat.le_of_lt (small1000 (by show (cutS stem none (some (na : Int))).length + 1 ≤ 1000; omega))
      · have h1 := cutS_length stem none (some (na : Int))
        have h2 := cutS_length stem (some (na : Int)) none
        have h3 : (cutS stem none (some (na : Int)) ++ one (ltr ((r1 + 7 * (i : Int)) % 25).toNat)).length = (cutS stem none (some (na : Int))).length + 1 := Array.size_append
        exact Nat.le_of_lt (small1000 (by show (cutS stem none (some (na : Int)) ++ one (ltr ((r1 + 7 * (i : Int)) % 25).toNat)).length + (cutS stem (some (na : Int)) none).length ≤ 1000; omega))
      · rw [List.length_map, List.length_map, List.length_range]
        exact small1000 (by omega)
      · rw [upd_ne (fun z => by rw [z, nD2] at h; cases h)]
        exact s9 _ _ nb h
      · rw [upd_same, List.range_succ, List.map_append, List.map_append]
        show some (HO.lst (_ ++ [V.str (put1 stem (na : Int) (ltr ((r1 + 7 * (i : Int)) % 25).toNat))])) = _
        rw [ei, Int.toNat_natCast]
        rfl
    · rintro H6 ⟨s9, B9, hD2⟩
      refine q D2 _ H6 ((s6.trans s8).trans s9) (B9.le (by omega)) ((s6.trans s8).free hob8 nD2) hD2 ?_ (nodup_of fun i j h1 h2 => put1_ne hna fun z => ?_) fun z hz => ?_
      · rw [List.length_map, List.length_range, Int.toNat_natCast]
      · have := ltr_inj (Nat.mod_lt _ (by decide)) (Nat.mod_lt _ (by decide)) z
        have h2' : j < m := by simpa using h2
        omega
      · obtain ⟨i, hi, rfl⟩ := List.mem_map.mp hz
        exact put1_nm hna (by omega) sta (ltr_ok (Nat.mod_lt _ (by decide)))
end
end Fd

set_option Elab.async false
set_option linter.all false
set_option maxRecDepth 100000
set_option maxHeartbeats 2000000
namespace Fd
open PySem PySem.Spec PyProof.Rows L2
/-! ### more rules -/
def gOr (g g' : TG) : TG := fun v σ H Q => g v σ H Q ∨ g' v σ H Q
section
variable {X : Cx}
/-- of several defs that may raise, the one that the i-th slot holds -/
def HeldX (P : Program) (w : World) (K : PySem.W.Frag) (mg : Str → Option Value) (base : Heap) (k : Nat) (f : Addr) (sp : Sp) : Prop :=
  ∃ (fd : FuncData) (ps : List Str), FnOk P w K mg base (L2.CX P w) k f fd ps sp ∧ PySem.W.keepIn K (.ref f) = true ∧ Binds K fd ps []
def tCallX (P : Program) (w : World) (K : PySem.W.Frag) (mg : Str → Option Value) (base : Heap) (k i : Nat) (E : L2.St → XK) (t : TA) : TE := fun σ H Q =>
  ∃ f sp, σ[i]? = some (some (.ref f)) ∧ HeldX P w K mg base k f sp ∧ t σ H fun vs H1 => sp vs H1 Q (E σ)
theorem pe_callX {k i : Nat} {E : L2.St → XK} {x : Str} {p pos : Pos} {e : Expr} {es : List Expr} {t : TA} (hr : Room k X.A) (hN : X.N[i]? = some x) (hv : Vis X.env.scope x)
    (hx : ∀ σ, PassesAt (L2.CX X.prog X.w) X σ (E σ)) (ha : PA X (e :: es) t) (hdb : (x == ("__debug__" : Str)) = false := by decide) (hcd : (x == ("__classdict__" : Str)) = false := by decide)
    (he : starEach (e :: es) X.env = (false, eval e X.env) :: starEach es X.env := by rfl) (hpl : (backTo pos (starEach es X.env)).any (·.1) = false := by rfl) :
    PE X (.Call (.Name x p) (e :: es) [] pos) (tCallX X.prog X.w X.K X.mg X.base k i E t) := by
  refine ⟨fun pins s σ H Q I h => ?_⟩
  obtain ⟨f, sp, hs, ⟨fd, ps, F, hk, hb⟩, ht⟩ := h
  have ld := (pe_var (pos := p) hN hv hdb hcd).run pins s σ H (fun v H1 => v = .ref f ∧ H1 = H) I ⟨.ref f, hs, rfl, rfl⟩
  refine wpAny_Call_Name_kw (thn ld fun u s1 hh => ?_)
  obtain ⟨v, H1, I1, r1, rfl, rfl⟩ := hh
  cases r1
  refine PySem.W.callWith_K (h₀ := X.base) I.ok.mod.kin hk (thn (ha.run pos pins s1 σ _ _ I1 ht) fun us s2 hh => ?_) he hpl
  obtain ⟨vs, H2, I2, r2, q2⟩ := hh
  exact ⟨I2.kIn, run_fnS F hr hb (hx σ) I2 r2 q2⟩
/-- a target by either of two readings -/
theorem pg_or {tg : Expr} {g g' : TG} (h : PG X tg g) (h' : PG X tg g') : PG X tg (gOr g g') :=
  ⟨fun pins s σ H v u Q I r q => q.elim (h.run pins s σ H v u Q I r) (h'.run pins s σ H v u Q I r)⟩
/-- what is walked, by either of two readings -/
theorem pi_or {tg it : Expr} {w w' : TI} (h : PI X tg it w) (h' : PI X tg it w') : PI X tg it (fun σ H R => w σ H R ∨ w' σ H R) :=
  ⟨fun pins s σ H R I q => q.elim (h.run pins s σ H R I) (h'.run pins s σ H R I)⟩
end
/-! ### a list or a tuple -/
def Sq (K : PySem.W.Frag) (H : Hp) (a : Addr) (xs : List V) : Prop := SqT K H a xs ∨ SqL K H a xs
theorem Sq.same {K : PySem.W.Frag} {H H' : Hp} {a : Addr} {xs : List V} (h : Sq K H a xs) (s : Same H H') : Sq K H' a xs := h.elim (fun z => .inl (seqT s z)) fun z => .inr (s.seq z)
theorem Sq.tup {K : PySem.W.Frag} {H : Hp} {a : Addr} {xs : List V} (h : H a = some (.tup xs)) : Sq K H a xs := .inl (SqT.of h)
theorem Sq.lst {K : PySem.W.Frag} {H : Hp} {a : Addr} {xs : List V} (h : H a = some (.lst xs)) : Sq K H a xs := .inr (SqL.of h)
theorem Sq.ty {K : PySem.W.Frag} {H : Hp} {a : Addr} {xs : List V} (h : Sq K H a xs) : TyX K H (.ref a) (.type "tuple") ∨ TyX K H (.ref a) (.type "list") := h.elim (fun z => .inl (ty_tup z)) fun z => .inr (ty_lst z)
theorem ixq {K : PySem.W.Frag} {H : Hp} {a : Addr} {xs : List V} {i : Int} {v : V} {Q : VK} (h : Sq K H a xs) (e : atI xs i = some v) (q : Q v H) : rIxT K (.ref a) (.int i) H Q ∨ rIxL K (.ref a) (.int i) H Q :=
  h.elim (fun z => .inl ⟨a, xs, i, v, rfl, rfl, z, e, q⟩) fun z => .inr ⟨a, xs, i, v, rfl, rfl, z, e, q⟩
section
variable {P : Program} {w : World} {K : PySem.W.Frag} {mg : Str → Option Value} {base : Heap} {f : Addr} {fd : FuncData}
abbrev sAValue : Stmt := top 21
theorem scAValue : FnScope ["_law_box", "_law_some"] ["_law_box"] (defScope sAValue) := ⟨rfl, rfl, rfl, by decide +kernel, rfl, by decide +kernel, by decide +kernel⟩
def spAValue : Sp := fun vs H Q _ => ∃ (a : Addr) (n : Nat), vs = [.ref a] ∧ Box H a n ∧ n + 5 ≤ 1000000 ∧ ∀ r H', -1000000 ≤ r → r ≤ 1000000 → But a H H' → Box H' a (n + 5) → Q (.int r) H'
theorem ok_aValue {k : Nat} (F : Fun K "_law_a_value" "_law_a_value" sAValue f fd) (G : FnG P w K mg base CX0 k "_law_take" ["_law_box", "_law_many"] spTake) : FnOk P w K mg base CX0 (k + 1) f fd ["_law_box"] spAValue := by
  obtain ⟨_, _, G__law_take, m__law_take, k__law_take, b__law_take⟩ := G
  have sc := scAValue
  refine F.ok sc (fun vs H Q E h => ?_) (fun cdv A outer s H vs Q E hr h => ?_)
  · obtain ⟨a, n, rfl, _⟩ := h
    rfl
  obtain ⟨a, n, rfl, hB, hn, q⟩ := h
  refine ⟨_, (pss_cons (ps_set (i := 1) sc.nd rfl (.inl rfl) (pe_lst (pa_cons (pe_op op_sub (pe_call G__law_take (hr.mono (by omega)) (by rfl) m__law_take k__law_take b__law_take .nil pass0 (pa_cons (pv 0) (pa_cons pe_int pa_nil))) pe_int) (pa_cons (pe_call G__law_take (hr.mono (by omega)) (by rfl) m__law_take k__law_take b__law_take .nil pass0 (pa_cons (pv 0) (pa_cons pe_int pa_nil))) (pa_cons (pe_op op_sub (pe_op op_pow pe_int pe_int) (pe_call G__law_take (hr.mono (by omega)) (by rfl) m__law_take k__law_take b__law_take .nil pass0 (pa_cons (pv 0) (pa_cons pe_int pa_nil)))) (pa_cons (pe_op op_sub (pe_call G__law_take (hr.mono (by omega)) (by rfl) m__law_take k__law_take b__law_take .nil pass0 (pa_cons (pv 0) (pa_cons pe_int pa_nil))) (pe_op op_pow pe_int pe_int)) pa_nil))))))
      (pss_one (ps_ret (pe_ix ix_list (pv 1) (pe_ix ix_list (pe_lst (pa_cons pe_int (pa_cons pe_int (pa_cons pe_int (pa_cons pe_int (pa_cons pe_int (pa_cons pe_int (pa_cons pe_int pa_nil)))))))) (pe_call G__law_take (hr.mono (by omega)) (by rfl) m__law_take k__law_take b__law_take .nil pass0 (pa_cons (pv 0) (pa_cons pe_int pa_nil))) (fun _ _ => rfl)) (fun _ _ => rfl))))), ?_⟩
  refine ⟨_, rfl, a, n, 9, rfl, hB, by omega, by decide, by decide, fun r1 H1 r10 r11 s1 B1 => ⟨_, 3, rfl, rfl, _, rfl, a, n + 1, 4, rfl, B1, by omega, by decide, by decide, fun r2 H2 r20 r21 s2 B2 => ?_⟩⟩
  refine ⟨10, 6, rfl, rfl, ⟨by decide, by decide, by decide⟩, _, rfl, a, n + 2, 2, rfl, B2, by omega, by decide, by decide, fun r3 H3 r30 r31 s3 B3 => ⟨_, _, rfl, rfl, _, rfl, a, n + 3, 2, rfl, B3, by omega, by decide, by decide, fun r4 H4 r40 r41 s4 B4 => ?_⟩⟩
  refine ⟨10, 6, rfl, rfl, ⟨by decide, by decide, by decide⟩, _, _, rfl, rfl, by show 4 ≤ sizeLine; decide, fun l nl => ?_⟩
  have B5 := B4.same (same_upd (o := .lst [.int (r1 - 3), .int r2, .int (10 ^ (6 : Int).toNat - r3), .int (r4 - 10 ^ (6 : Int).toNat)]) nl)
  refine ⟨_, rfl, by show 7 ≤ sizeLine; decide, fun t nt => ?_⟩
  have B6 := B5.same (same_upd (o := .lst [.int 0, .int 0, .int 0, .int 1, .int 1, .int 2, .int 3]) nt)
  refine ⟨_, rfl, a, n + 4, 7, rfl, B6, by omega, by decide, by decide, fun r5 H5 r50 r51 s5 B7 => ?_⟩
  have ta : t ≠ a := (B5.ne nt).symm
  have la : l ≠ a := (B4.ne nl).symm
  have lt := s5 _ _ ta upd_same
  have ll := s5 l _ la (by rw [upd_ne (fun z => by rw [z, upd_same] at nt; cases nt), upd_same])
  have sm : But a H H5 := (((s1.trans s2).trans (s3.trans s4)).trans (But.of (same_upd nl))).trans ((But.of (same_upd nt)).trans s5)
  have pw : (10 : Int) ^ (6 : Int).toNat = 1000000 := by decide
  have : r5 = 0 ∨ r5 = 1 ∨ r5 = 2 ∨ r5 = 3 ∨ r5 = 4 ∨ r5 = 5 ∨ r5 = 6 := by omega
  rcases this with rfl | rfl | rfl | rfl | rfl | rfl | rfl
  · exact ⟨t, _, 0, .int 0, rfl, rfl, SqL.of lt, rfl, l, _, 0, _, rfl, rfl, SqL.of ll, rfl, q _ _ (by omega) (by omega) sm B7⟩
  · exact ⟨t, _, 1, .int 0, rfl, rfl, SqL.of lt, rfl, l, _, 0, _, rfl, rfl, SqL.of ll, rfl, q _ _ (by omega) (by omega) sm B7⟩
  · exact ⟨t, _, 2, .int 0, rfl, rfl, SqL.of lt, rfl, l, _, 0, _, rfl, rfl, SqL.of ll, rfl, q _ _ (by omega) (by omega) sm B7⟩
  · exact ⟨t, _, 3, .int 1, rfl, rfl, SqL.of lt, rfl, l, _, 1, _, rfl, rfl, SqL.of ll, rfl, q _ _ (by omega) (by omega) sm B7⟩
  · exact ⟨t, _, 4, .int 1, rfl, rfl, SqL.of lt, rfl, l, _, 1, _, rfl, rfl, SqL.of ll, rfl, q _ _ (by omega) (by omega) sm B7⟩
  · exact ⟨t, _, 5, .int 2, rfl, rfl, SqL.of lt, rfl, l, _, 2, _, rfl, rfl, SqL.of ll, rfl, q _ _ (by omega) (by omega) sm B7⟩
  · exact ⟨t, _, 6, .int 3, rfl, rfl, SqL.of lt, rfl, l, _, 3, _, rfl, rfl, SqL.of ll, rfl, q _ _ (by omega) (by omega) sm B7⟩
/-! ### is_number, is_value -/
end
def inB (i : Int) : Bool := decide (-1000000 ≤ i) && decide (i ≤ 1000000)
theorem inB_lo {i : Int} (h : inB i = true) : -1000000 ≤ i := of_decide_eq_true (Bool.and_eq_true_iff.mp h).1
theorem inB_hi {i : Int} (h : inB i = true) : i ≤ 1000000 := of_decide_eq_true (Bool.and_eq_true_iff.mp h).2
inductive BOp where
  | plus | minus | by_ | over | rest
def BOp.word : BOp → Str
  | .plus => "plus" | .minus => "minus" | .by_ => "by" | .over => "over" | .rest => "rest"
inductive Lk where
  | num (i : Int) | name (x : Str) | many (x : Str) | item (x : Str) (a : Lk) | spot (k : Nat) | bin (o : BOp) (a b : Lk)
def Lk.deep : Lk → Nat
  | .item _ a => a.deep + 1
  | .bin _ a b => max a.deep b.deep + 1
  | _ => 1
def spotWords : List Str := ["x", "y", "way", "number"]
inductive Ts where
  | like (a b : Lk) | less (a b : Lk) | not_ (t : Ts) | both (t u : Ts) | any_ (t u : Ts) | meets (x : Str)
def Ts.deep : Ts → Nat
  | .like a b => max a.deep b.deep + 1
  | .less a b => max a.deep b.deep + 1
  | .not_ t => t.deep + 1
  | .both t u => max t.deep u.deep + 1
  | .any_ t u => max t.deep u.deep + 1
  | .meets _ => 1
theorem FnG.mono {P : Program} {w : World} {K : PySem.W.Frag} {mg : Str → Option Value} {base : Heap} {CX : CXT} {j k : Nat} {x : Str} {ps : List Str} {sp : Sp} (G : FnG P w K mg base CX j x ps sp) (h : j ≤ k) : FnG P w K mg base CX k x ps sp := by
  obtain ⟨f, fd, F, r⟩ := G
  exact ⟨f, fd, F.mono h, r⟩
theorem FnG.imp {P : Program} {w : World} {K : PySem.W.Frag} {mg : Str → Option Value} {base : Heap} {CX : CXT} {k : Nat} {x : Str} {ps : List Str} {sp sp' : Sp} (G : FnG P w K mg base CX k x ps sp) (h : ∀ vs H Q E, sp' vs H Q E → sp vs H Q E) : FnG P w K mg base CX k x ps sp' := by
  obtain ⟨f, fd, F, r⟩ := G
  exact ⟨f, fd, F.imp h, r⟩
end Fd

set_option Elab.async false
set_option linter.all false
set_option maxRecDepth 100000
set_option maxHeartbeats 2000000
namespace Fd
open PySem PySem.Spec PyProof.Rows L2
theorem inB_of {i : Int} (h1 : -1000000 ≤ i) (h2 : i ≤ 1000000) : inB i = true := by
  unfold inB
  rw [decide_eq_true h1, decide_eq_true h2]
  rfl
/-! ### the heap without the box -/
def rm (a : Addr) (H : Hp) : Hp := fun b => if b = a then none else H b
theorem rm_at {a b : Addr} {H : Hp} (h : b ≠ a) : rm a H b = H b := if_neg h
theorem rm_self {a : Addr} {H : Hp} : rm a H a = none := if_pos rfl
theorem rm_sub {a : Addr} {H : Hp} : Same (rm a H) H := fun b o h => by
  by_cases e : b = a
  · rw [e, rm_self] at h; cases h
  · rw [rm_at e] at h; exact h
theorem rm_but {a : Addr} {H H' : Hp} (s : But a H H') : Same (rm a H) (rm a H') := fun b o h => by
  by_cases e : b = a
  · rw [e, rm_self] at h; cases h
  · rw [rm_at e] at h ⊢; exact s b o e h
theorem rm_same {a : Addr} {H H' : Hp} (s : Same H H') : Same (rm a H) (rm a H') := rm_but (But.of s)
theorem rm_new {a p : Addr} {H : Hp} {o u : HO} (ha : H a = some u) (h : H p = none) : rm a (upd H p o) p = some o := by
  rw [rm_at (fun e => by rw [e, ha] at h; cases h)]
  exact upd_same
theorem Box.get {H : Hp} {a : Addr} {n : Nat} (b : Box H a n) : ∃ u, H a = some u := b.is
/-! ### looks as plain data -/
def lkD : Lk → PyData
  | .num i => .int i
  | .name x => .tuple [.str "name", .str x]
  | .many x => .tuple [.str "many", .str x]
  | .item x a => .tuple [.str "item", .str x, lkD a]
  | .spot k => .tuple [.str (spotWords.getD k "")]
  | .bin o a b => .tuple [.str o.word, lkD a, lkD b]
/-- the words it may name, its values in their bounds -/
def LkOk (ws : List Str) : Lk → Prop
  | .num i => inB i = true
  | .name x => x ∈ ws
  | .many x => x ∈ ws
  | .item x a => x ∈ ws ∧ LkOk ws a
  | .spot k => k < 4
  | .bin _ a b => LkOk ws a ∧ LkOk ws b
section
variable {P : Program} {w : World} {K : PySem.W.Frag} {mg : Str → Option Value} {base : Heap} {f : Addr} {fd : FuncData}
/-! ### _law_pick -/
abbrev sPick : Stmt := top 18
def spPick (K : PySem.W.Frag) : Sp := fun vs H Q _ => ∃ (a l : Addr) (n : Nat) (xs : List V), vs = [.ref a, .ref l] ∧ Box H a n ∧ n + 1 ≤ 1000000 ∧ rm a H l = some (.lst xs) ∧ 0 < xs.length ∧ xs.length ≤ 1000 ∧
  ∀ (j : Nat) (v : V) (H' : Hp), xs[j]? = some v → But a H H' → Box H' a (n + 1) → Q v H'
theorem ok_pick {k : Nat} (F : Fun K "_law_pick" "_law_pick" sPick f fd) (G : FnG P w K mg base CX0 k "_law_take" ["_law_box", "_law_many"] spTake) (m_len : mg "len" = none) : FnOk P w K mg base CX0 (k + 1) f fd ["_law_box", "_law_some"] (spPick K) := by
  obtain ⟨_, _, G__law_take, m__law_take, k__law_take, b__law_take⟩ := G
  have sc : FnScope ["_law_box", "_law_some"] ["_law_box", "_law_some"] (defScope sPick) := ⟨rfl, rfl, rfl, by decide +kernel, rfl, by decide +kernel, by decide +kernel⟩
  refine F.ok sc (fun vs H Q E h => ?_) (fun cdv A outer s H vs Q E hr h => ?_)
  · obtain ⟨a, l, n, xs, rfl, _⟩ := h
    rfl
  obtain ⟨a, l, n, xs, rfl, hB, hn, hl, h0, h1, q⟩ := h
  refine ⟨_, (pss_one (ps_ret (pe_ix ix_list (pv 1) (pe_call G__law_take (hr.mono (by omega)) (by rfl) m__law_take k__law_take b__law_take .nil pass0 (pa_cons (pv 0) (pa_cons (pe_callB call_len_seq (by rfl) m_len (by decide +kernel) (pa_cons (pv 1) pa_nil)) pa_nil))) (fun _ _ => rfl)))), ?_⟩
  refine ⟨_, rfl, _, rfl, _, rfl, l, xs, rfl, .inl (SqL.of (rm_sub _ _ hl)), a, n, _, rfl, hB, by omega, by omega, by omega, fun r H1 r0 r1 s1 B1 => ?_⟩
  have hr : r.toNat < xs.length := by omega
  exact ⟨l, xs, r, xs[r.toNat], rfl, rfl, SqL.of (rm_sub _ _ (rm_but s1 _ _ hl)), at_of (j := r.toNat) (by omega) (List.getElem?_eq_getElem hr), q r.toNat _ H1 (List.getElem?_eq_getElem hr) s1 B1⟩
/-! ### _law_a_look -/
abbrev sALook : Stmt := top 22
theorem scALook : FnScope ["_law_box", "_law_words", "_law_deep", "_law_way", "_law_word"] ["_law_box", "_law_words", "_law_deep"] (defScope sALook) := ⟨rfl, rfl, rfl, by decide +kernel, rfl, by decide +kernel, by decide +kernel⟩
/-- at most so many draws for a look so deep -/
def cost (d : Nat) : Nat := 10 * 2 ^ d - 2
def spALook (K : PySem.W.Frag) (d : Nat) : Sp := fun vs H Q _ => ∃ (a p : Addr) (n : Nat) (deep : Int) (ws : List Str), vs = [.ref a, .ref p, .int deep] ∧ Box H a n ∧ n + cost d ≤ 1000000 ∧ 1 ≤ deep ∧ deep ≤ d ∧ rm a H p = some (.lst (ws.map V.str)) ∧ 5 ≤ ws.length ∧
  ∀ (v : V) (L : Lk) (H' : Hp), But a H H' → Box H' a (n + cost d) → Dp K (rm a H') v (lkD L) → LkOk ws L → L.deep ≤ d → Q v H'
theorem cost_succ (d : Nat) : cost (d + 1) = 2 * cost d + 2 := by unfold cost; rw [Nat.pow_succ]; have := Nat.one_le_two_pow (n := d); omega
theorem cost_ge (d : Nat) : 8 ≤ cost d := by unfold cost; have := Nat.one_le_two_pow (n := d); omega
theorem at_words {ws : List Str} {i : Int} (h0 : 0 ≤ i) (h : i.toNat < ws.length) : ∃ x, x ∈ ws ∧ atI (ws.map V.str) i = some (.str x) :=
  ⟨ws[i.toNat], List.getElem_mem _, at_of (j := i.toNat) (by omega) (by rw [List.getElem?_map, List.getElem?_eq_getElem h]; rfl)⟩
theorem bop_at : ∀ {j : Nat} {v : V}, [V.str "plus", .str "minus", .str "by", .str "over", .str "rest"][j]? = some v → ∃ o : BOp, v = .str o.word
  | 0, _, h => ⟨.plus, (Option.some.inj h).symm⟩
  | 1, _, h => ⟨.minus, (Option.some.inj h).symm⟩
  | 2, _, h => ⟨.by_, (Option.some.inj h).symm⟩
  | 3, _, h => ⟨.over, (Option.some.inj h).symm⟩
  | 4, _, h => ⟨.rest, (Option.some.inj h).symm⟩
  | j + 5, _, h => by simp at h
theorem spot_at : ∀ {j : Nat} {v : V}, [V.str "x", .str "y", .str "way", .str "number"][j]? = some v → j < 4 ∧ v = .str (spotWords.getD j "")
  | 0, _, h => ⟨by decide, (Option.some.inj h).symm⟩
  | 1, _, h => ⟨by decide, (Option.some.inj h).symm⟩
  | 2, _, h => ⟨by decide, (Option.some.inj h).symm⟩
  | 3, _, h => ⟨by decide, (Option.some.inj h).symm⟩
  | j + 4, _, h => by simp at h
theorem ok_aLook {k d : Nat} (F : Fun K "_law_a_look" "_law_a_look" sALook f fd) (GT : FnG P w K mg base CX0 k "_law_take" ["_law_box", "_law_many"] spTake) (GP : FnG P w K mg base CX0 k "_law_pick" ["_law_box", "_law_some"] (spPick K))
    (GA : FnG P w K mg base CX0 k "_law_a_value" ["_law_box"] spAValue) (GL : FnG P w K mg base CX0 k "_law_a_look" ["_law_box", "_law_words", "_law_deep"] (spALook K d)) : FnOk P w K mg base CX0 (k + 1) f fd ["_law_box", "_law_words", "_law_deep"] (spALook K (d + 1)) := by
  obtain ⟨_, _, G__law_take, m__law_take, k__law_take, b__law_take⟩ := GT
  obtain ⟨_, _, G__law_pick, m__law_pick, k__law_pick, b__law_pick⟩ := GP
  obtain ⟨_, _, G__law_a_value, m__law_a_value, k__law_a_value, b__law_a_value⟩ := GA
  obtain ⟨_, _, G__law_a_look, m__law_a_look, k__law_a_look, b__law_a_look⟩ := GL
  have sc := scALook
  refine F.ok sc (fun vs H Q E h => ?_) (fun cdv A outer s H vs Q E hr h => ?_)
  · obtain ⟨a, p, n, deep, ws, rfl, _⟩ := h
    rfl
  obtain ⟨a, p, n, deep, ws, rfl, hB, hn, d0, d1, hp, hw, q⟩ := h
  refine ⟨_, (pss_cons (ps_set (i := 3) sc.nd rfl (.inl rfl) (pe_call G__law_take (hr.mono (by omega)) (by rfl) m__law_take k__law_take b__law_take .nil pass0 (pa_cons (pv 0) (pa_cons pe_int pa_nil))))
      (pss_cons (ps_if (PW.pt (pw_or (pt_cmpR op_lt (pv 2) pe_int (nomark _)) (pw_or1 (pt_cmpR op_lt (pv 3) pe_int (nomark _))))) (pss_one (ps_ret (pe_call G__law_a_value (hr.mono (by omega)) (by rfl) m__law_a_value k__law_a_value b__law_a_value .nil pass0 (pa_cons (pv 0) pa_nil)))) pss_nil)
      (pss_cons (ps_if (pt_cmpR op_lt (pv 3) pe_int (nomark _)) (pss_one (ps_ret (pe_tup (pa_cons pe_str (pa_cons (pe_ix ix_list (pv 1) (pe_call G__law_take (hr.mono (by omega)) (by rfl) m__law_take k__law_take b__law_take .nil pass0 (pa_cons (pv 0) (pa_cons pe_int pa_nil))) (fun _ _ => rfl)) pa_nil))))) pss_nil)
      (pss_cons (ps_if (pt_cmpR op_lt (pv 3) pe_int (nomark _)) (pss_cons (ps_set (i := 4) sc.nd rfl (.inl rfl) (pe_call G__law_pick (hr.mono (by omega)) (by rfl) m__law_pick k__law_pick b__law_pick .nil pass0 (pa_cons (pv 0) (pa_cons (pe_lst (pa_cons pe_str (pa_cons pe_str (pa_cons pe_str (pa_cons pe_str (pa_cons pe_str pa_nil)))))) pa_nil))))
      (pss_one (ps_ret (pe_tup (pa_cons (pv 4) (pa_cons (pe_call G__law_a_look (hr.mono (by omega)) (by rfl) m__law_a_look k__law_a_look b__law_a_look .nil pass0 (pa_cons (pv 0) (pa_cons (pv 1) (pa_cons (pe_op op_sub (pv 2) pe_int) pa_nil)))) (pa_cons (pe_call G__law_a_look (hr.mono (by omega)) (by rfl) m__law_a_look k__law_a_look b__law_a_look .nil pass0 (pa_cons (pv 0) (pa_cons (pv 1) (pa_cons (pe_op op_sub (pv 2) pe_int) pa_nil)))) pa_nil))))))) pss_nil)
      (pss_cons (ps_if (pt_cmpR op_eq (pv 3) pe_int (nomark _)) (pss_one (ps_ret (pe_tup (pa_cons pe_str (pa_cons (pe_ix ix_list (pv 1) (pe_op op_add pe_int (pe_call G__law_take (hr.mono (by omega)) (by rfl) m__law_take k__law_take b__law_take .nil pass0 (pa_cons (pv 0) (pa_cons pe_int pa_nil)))) (fun _ _ => rfl)) (pa_cons (pe_call G__law_a_look (hr.mono (by omega)) (by rfl) m__law_a_look k__law_a_look b__law_a_look .nil pass0 (pa_cons (pv 0) (pa_cons (pv 1) (pa_cons (pe_op op_sub (pv 2) pe_int) pa_nil)))) pa_nil)))))) pss_nil)
      (pss_one (ps_ret (pe_ifExp (pt_cmpR op_eq (pv 3) pe_int (nomark _)) (pe_tup (pa_cons pe_str (pa_cons (pe_ix ix_list (pv 1) (pe_op op_add pe_int (pe_call G__law_take (hr.mono (by omega)) (by rfl) m__law_take k__law_take b__law_take .nil pass0 (pa_cons (pv 0) (pa_cons pe_int pa_nil)))) (fun _ _ => rfl)) pa_nil))) (pe_tup (pa_cons (pe_call G__law_pick (hr.mono (by omega)) (by rfl) m__law_pick k__law_pick b__law_pick .nil pass0 (pa_cons (pv 0) (pa_cons (pe_lst (pa_cons pe_str (pa_cons pe_str (pa_cons pe_str (pa_cons pe_str pa_nil))))) pa_nil))) pa_nil)))))))))), ?_⟩
  have c8 := cost_ge d
  have c2 := cost_succ d
  refine ⟨_, rfl, a, n, 12, rfl, hB, by omega, by decide, by decide, fun way H1 w0 w1 s1 B1 => ?_⟩
  have hp1 := rm_but s1 _ _ hp
  have z1 : 1 ≤ sizeLine := by decide
  have z2 : 2 ≤ sizeLine := by decide
  have z3 : 3 ≤ sizeLine := by decide
  have z4 : 4 ≤ sizeLine := by decide
  have z5 : 5 ≤ sizeLine := by decide
  refine ⟨_, rfl, _, _, rfl, rfl, _, rfl, ite2 (fun c1 => ?_) (fun c1 => ⟨_, rfl, _, _, rfl, rfl, _, rfl, ite2 (fun c2 => ?_) (fun c2 => ?_)⟩)⟩
  · refine iteT ?_
    exact ⟨_, rfl, a, n + 1, rfl, B1, by omega, fun r H2 r0 r1 s2 B2 => q _ (.num r) H2 (s1.trans s2) (B2.le (by omega)) (.int r) (inB_of r0 r1) (Nat.succ_le_succ (Nat.zero_le _))⟩
  · exact ⟨_, rfl, a, n + 1, rfl, B1, by omega, fun r H2 r0 r1 s2 B2 => q _ (.num r) H2 (s1.trans s2) (B2.le (by omega)) (.int r) (inB_of r0 r1) (Nat.succ_le_succ (Nat.zero_le _))⟩
  have dp2 : 2 ≤ deep := by
    have : ¬ deep < 2 := fun z => c1 (decide_eq_true z)
    omega
  refine ⟨_, rfl, _, _, rfl, rfl, _, rfl, ite2 (fun c3 => ?_) (fun c3 => ?_)⟩
  · refine ⟨_, rfl, _, rfl, a, n + 1, 3, rfl, B1, by omega, by decide, by decide, fun r H2 r0 r1 s2 B2 => ?_⟩
    obtain ⟨x, hx, ex⟩ := at_words (ws := ws) r0 (by omega)
    refine ⟨p, _, r, _, rfl, rfl, SqL.of (rm_sub _ _ (rm_but s2 _ _ hp1)), ex, z2, fun t nt => ?_⟩
    obtain ⟨u, hu⟩ := B2.get
    exact q _ (.name x) _ ((s1.trans s2).trans (But.of (same_upd nt))) ((B2.same (same_upd nt)).le (by omega)) (.tup (SqT.of (rm_new hu nt)) (.cons (.str _) (.cons (.str _) .nil))) hx (Nat.succ_le_succ (Nat.zero_le _))
  refine ⟨_, rfl, _, _, rfl, rfl, _, rfl, ite2 (fun c4 => ?_) (fun c4 => ?_)⟩
  · refine ⟨_, rfl, z5, fun l nl => ?_⟩
    obtain ⟨u1, hu1⟩ := B1.get
    refine ⟨a, l, n + 1, _, rfl, B1.same (same_upd nl), by omega, rm_new hu1 nl, by decide, by decide, fun j v H2 hj s2 B2 => ?_⟩
    obtain ⟨o, rfl⟩ := bop_at hj
    have hp2 := rm_but ((But.of (same_upd nl)).trans s2) _ _ hp1
    refine ⟨_, rfl, _, rfl, _, rfl, _, rfl, _, _, rfl, rfl, a, p, n + 2, deep - 1, ws, rfl, B2, by omega, by omega, by omega, hp2, hw, fun v1 L1 H3 s3 B3 k1 o1 e1 => ?_⟩
    refine ⟨_, rfl, _, rfl, _, rfl, _, _, rfl, rfl, a, p, n + 2 + cost d, deep - 1, ws, rfl, B3, by omega, by omega, by omega, rm_but s3 _ _ hp2, hw, fun v2 L2 H4 s4 B4 k2 o2 e2 => ⟨z3, fun t nt => ?_⟩⟩
    obtain ⟨u, hu⟩ := B4.get
    have sn := rm_same (a := a) (same_upd (o := .tup [.str o.word, v1, v2]) nt)
    exact q _ (.bin o L1 L2) _ (((s1.trans (But.of (same_upd nl))).trans s2).trans ((s3.trans s4).trans (But.of (same_upd nt)))) ((B4.same (same_upd nt)).le (by omega))
      (.tup (SqT.of (rm_new hu nt)) (.cons (.str _) (.cons (dp_same ((rm_but s4).trans sn) _ _ k1) (.cons (dp_same sn _ _ k2) .nil)))) ⟨o1, o2⟩ (Nat.succ_le_succ (Nat.max_le.mpr ⟨e1, e2⟩))
  refine ⟨_, rfl, rfl, _, rfl, ite2 (fun c5 => ?_) (fun c5 => ?_)⟩
  · refine ⟨_, rfl, _, rfl, a, n + 1, 2, rfl, B1, by omega, by decide, by decide, fun r H2 r0 r1 s2 B2 => ⟨_, _, rfl, rfl, ?_⟩⟩
    obtain ⟨x, hx, ex⟩ := at_words (ws := ws) (i := 3 + r) (by omega) (by omega)
    have hp2 := rm_but s2 _ _ hp1
    refine ⟨p, _, 3 + r, _, rfl, rfl, SqL.of (rm_sub _ _ hp2), ex, _, rfl, _, rfl, _, rfl, _, _, rfl, rfl, a, p, n + 2, deep - 1, ws, rfl, B2, by omega, by omega, by omega, hp2, hw, fun v1 L1 H3 s3 B3 k1 o1 e1 => ⟨z3, fun t nt => ?_⟩⟩
    obtain ⟨u, hu⟩ := B3.get
    have sn := rm_same (a := a) (same_upd (o := .tup [.str "item", .str x, v1]) nt)
    exact q _ (.item x L1) _ ((s1.trans s2).trans (s3.trans (But.of (same_upd nt)))) ((B3.same (same_upd nt)).le (by omega)) (.tup (SqT.of (rm_new hu nt)) (.cons (.str _) (.cons (.str _) (.cons (dp_same sn _ _ k1) .nil)))) ⟨hx, o1⟩ (Nat.succ_le_succ e1)
  refine ⟨_, rfl, rfl, _, rfl, ite2 (fun c6 => ?_) (fun c6 => ?_)⟩
  · refine ⟨_, rfl, _, rfl, a, n + 1, 2, rfl, B1, by omega, by decide, by decide, fun r H2 r0 r1 s2 B2 => ⟨_, _, rfl, rfl, ?_⟩⟩
    obtain ⟨x, hx, ex⟩ := at_words (ws := ws) (i := 3 + r) (by omega) (by omega)
    refine ⟨p, _, 3 + r, _, rfl, rfl, SqL.of (rm_sub _ _ (rm_but s2 _ _ hp1)), ex, z2, fun t nt => ?_⟩
    obtain ⟨u, hu⟩ := B2.get
    exact q _ (.many x) _ ((s1.trans s2).trans (But.of (same_upd nt))) ((B2.same (same_upd nt)).le (by omega)) (.tup (SqT.of (rm_new hu nt)) (.cons (.str _) (.cons (.str _) .nil))) hx (Nat.succ_le_succ (Nat.zero_le _))
  · refine ⟨_, rfl, z4, fun l nl => ?_⟩
    obtain ⟨u1, hu1⟩ := B1.get
    refine ⟨a, l, n + 1, _, rfl, B1.same (same_upd nl), by omega, rm_new hu1 nl, by decide, by decide, fun j v H2 hj s2 B2 => ⟨z1, fun t nt => ?_⟩⟩
    obtain ⟨j4, rfl⟩ := spot_at hj
    obtain ⟨u, hu⟩ := B2.get
    exact q _ (.spot j) _ ((s1.trans (But.of (same_upd nl))).trans (s2.trans (But.of (same_upd nt)))) ((B2.same (same_upd nt)).le (by omega)) (.tup (SqT.of (rm_new hu nt)) (.cons (.str _) .nil)) j4 (Nat.succ_le_succ (Nat.zero_le _))
theorem ok_aLooks (D : Df K mg "_law_a_look" sALook ["_law_box", "_law_words", "_law_deep"] f fd) (GT : FnG P w K mg base CX0 3 "_law_take" ["_law_box", "_law_many"] spTake) (GP : FnG P w K mg base CX0 3 "_law_pick" ["_law_box", "_law_some"] (spPick K))
    (GA : FnG P w K mg base CX0 3 "_law_a_value" ["_law_box"] spAValue) : ∀ d, FnG P w K mg base CX0 (d + 3) "_law_a_look" ["_law_box", "_law_words", "_law_deep"] (spALook K d)
  | 0 => ⟨f, fd, ⟨fun vs H Q E h => by
      obtain ⟨a, p, n, deep, ws, rfl, _⟩ := h
      rfl, fun A outer s H args us vs Q E _ _ _ _ h => by
      obtain ⟨a, p, n, deep, ws, _, _, _, h1, h2, _⟩ := h
      omega⟩, D.m, D.F.kp, D.b⟩
  | d + 1 => D.g (ok_aLook (k := d + 3) D.F (GT.mono (by omega)) (GP.mono (by omega)) (GA.mono (by omega)) (ok_aLooks D GT GP GA d))
end
end Fd

set_option Elab.async false
set_option linter.all false
set_option maxRecDepth 100000
set_option maxHeartbeats 2000000
namespace Fd
open PySem PySem.Spec PyProof.Rows L2
/-! ### tests as plain data -/
def tsD : Ts → PyData
  | .like a b => .tuple [.str "like", lkD a, lkD b]
  | .less a b => .tuple [.str "below", lkD a, lkD b]
  | .not_ t => .tuple [.str "not", tsD t]
  | .both t u => .tuple [.str "both", tsD t, tsD u]
  | .any_ t u => .tuple [.str "any", tsD t, tsD u]
  | .meets x => .tuple [.str "meets", .str x]
def TsOk (ws : List Str) : Ts → Prop
  | .like a b => LkOk ws a ∧ LkOk ws b
  | .less a b => LkOk ws a ∧ LkOk ws b
  | .not_ t => TsOk ws t
  | .both t u => TsOk ws t ∧ TsOk ws u
  | .any_ t u => TsOk ws t ∧ TsOk ws u
  | .meets x => x ∈ ws
section
variable {P : Program} {w : World} {K : PySem.W.Frag} {mg : Str → Option Value} {base : Heap} {f : Addr} {fd : FuncData}
/-! ### _law_a_test -/
abbrev sATest : Stmt := top 23
theorem scATest : FnScope ["_law_box", "_law_words", "_law_deep", "_law_way", "_law_word"] ["_law_box", "_law_words", "_law_deep"] (defScope sATest) := ⟨rfl, rfl, rfl, by decide +kernel, rfl, by decide +kernel, by decide +kernel⟩
def spATest (K : PySem.W.Frag) (d : Nat) : Sp := fun vs H Q _ => ∃ (a p : Addr) (n : Nat) (deep : Int) (ws : List Str), vs = [.ref a, .ref p, .int deep] ∧ Box H a n ∧ n + cost d ≤ 1000000 ∧ 1 ≤ deep ∧ deep ≤ d ∧ rm a H p = some (.lst (ws.map V.str)) ∧ 7 ≤ ws.length ∧
  ∀ (v : V) (t : Ts) (H' : Hp), But a H H' → Box H' a (n + cost d) → Dp K (rm a H') v (tsD t) → TsOk ws t → t.deep ≤ d → Q v H'
theorem two_at : ∀ {j : Nat} {v : V}, [V.str "like", .str "below"][j]? = some v → v = .str "like" ∨ v = .str "below"
  | 0, _, h => .inl (Option.some.inj h).symm
  | 1, _, h => .inr (Option.some.inj h).symm
  | j + 2, _, h => by simp at h
theorem ok_aTest {k d : Nat} (F : Fun K "_law_a_test" "_law_a_test" sATest f fd) (GT : FnG P w K mg base CX0 k "_law_take" ["_law_box", "_law_many"] spTake) (GP : FnG P w K mg base CX0 k "_law_pick" ["_law_box", "_law_some"] (spPick K))
    (GL : FnG P w K mg base CX0 k "_law_a_look" ["_law_box", "_law_words", "_law_deep"] (spALook K d)) (GA : FnG P w K mg base CX0 k "_law_a_test" ["_law_box", "_law_words", "_law_deep"] (spATest K d)) : FnOk P w K mg base CX0 (k + 1) f fd ["_law_box", "_law_words", "_law_deep"] (spATest K (d + 1)) := by
  obtain ⟨_, _, G__law_take, m__law_take, k__law_take, b__law_take⟩ := GT
  obtain ⟨_, _, G__law_pick, m__law_pick, k__law_pick, b__law_pick⟩ := GP
  obtain ⟨_, _, G__law_a_look, m__law_a_look, k__law_a_look, b__law_a_look⟩ := GL
  obtain ⟨_, _, G__law_a_test, m__law_a_test, k__law_a_test, b__law_a_test⟩ := GA
  have sc := scATest
  refine F.ok sc (fun vs H Q E h => ?_) (fun cdv A outer s H vs Q E hr h => ?_)
  · obtain ⟨a, p, n, deep, ws, rfl, _⟩ := h
    rfl
  obtain ⟨a, p, n, deep, ws, rfl, hB, hn, d0, d1, hp, hw, q⟩ := h
  refine ⟨_, (pss_cons (ps_set (i := 3) sc.nd rfl (.inl rfl) (pe_call G__law_take (hr.mono (by omega)) (by rfl) m__law_take k__law_take b__law_take .nil pass0 (pa_cons (pv 0) (pa_cons pe_int pa_nil))))
      (pss_cons (ps_if (PW.pt (pw_or (pt_cmpR op_lt (pv 2) pe_int (nomark _)) (pw_or1 (pt_cmpR op_eq (pv 3) pe_int (nomark _))))) (pss_one (ps_ret (pe_tup (pa_cons pe_str (pa_cons (pe_ix ix_list (pv 1) (pe_call G__law_take (hr.mono (by omega)) (by rfl) m__law_take k__law_take b__law_take .nil pass0 (pa_cons (pv 0) (pa_cons pe_int pa_nil))) (fun _ _ => rfl)) pa_nil))))) pss_nil)
      (pss_cons (ps_if (PW.pt (pw_or (pt_cmpR op_lt (pv 2) pe_int (nomark _)) (pw_or1 (pt_cmpR op_lt (pv 3) pe_int (nomark _))))) (pss_cons (ps_set (i := 4) sc.nd rfl (.inl rfl) (pe_call G__law_pick (hr.mono (by omega)) (by rfl) m__law_pick k__law_pick b__law_pick .nil pass0 (pa_cons (pv 0) (pa_cons (pe_lst (pa_cons pe_str (pa_cons pe_str pa_nil))) pa_nil))))
      (pss_one (ps_ret (pe_tup (pa_cons (pv 4) (pa_cons (pe_call G__law_a_look (hr.mono (by omega)) (by rfl) m__law_a_look k__law_a_look b__law_a_look .nil pass0 (pa_cons (pv 0) (pa_cons (pv 1) (pa_cons (pe_op op_sub (pv 2) pe_int) pa_nil)))) (pa_cons (pe_call G__law_a_look (hr.mono (by omega)) (by rfl) m__law_a_look k__law_a_look b__law_a_look .nil pass0 (pa_cons (pv 0) (pa_cons (pv 1) (pa_cons (pe_op op_sub (pv 2) pe_int) pa_nil)))) pa_nil))))))) pss_nil)
      (pss_cons (ps_if (pt_cmpR op_eq (pv 3) pe_int (nomark _)) (pss_one (ps_ret (pe_tup (pa_cons pe_str (pa_cons (pe_call G__law_a_test (hr.mono (by omega)) (by rfl) m__law_a_test k__law_a_test b__law_a_test .nil pass0 (pa_cons (pv 0) (pa_cons (pv 1) (pa_cons (pe_op op_sub (pv 2) pe_int) pa_nil)))) pa_nil))))) pss_nil)
      (pss_one (ps_ret (pe_tup (pa_cons (pe_ix ix_list (pe_lst (pa_cons pe_str (pa_cons pe_str pa_nil))) (pe_op op_mod (pv 3) pe_int) (fun _ _ => rfl)) (pa_cons (pe_call G__law_a_test (hr.mono (by omega)) (by rfl) m__law_a_test k__law_a_test b__law_a_test .nil pass0 (pa_cons (pv 0) (pa_cons (pv 1) (pa_cons (pe_op op_sub (pv 2) pe_int) pa_nil)))) (pa_cons (pe_call G__law_a_test (hr.mono (by omega)) (by rfl) m__law_a_test k__law_a_test b__law_a_test .nil pass0 (pa_cons (pv 0) (pa_cons (pv 1) (pa_cons (pe_op op_sub (pv 2) pe_int) pa_nil)))) pa_nil)))))))))), ?_⟩
  have c8 := cost_ge d
  have c2 := cost_succ d
  refine ⟨_, rfl, a, n, 8, rfl, hB, by omega, by decide, by decide, fun way H1 w0 w1 s1 B1 => ?_⟩
  have hp1 := rm_but s1 _ _ hp
  have z2 : 2 ≤ sizeLine := by decide
  have z3 : 3 ≤ sizeLine := by decide
  have meets : ∀ (r : Int) (H2 : Hp), 0 ≤ r → r < 7 → But a H1 H2 → Box H2 a (n + 2) → ∃ x, atI (ws.map V.str) r = some (.str x) ∧ ∀ t, H2 t = none → Q (.ref t) (upd H2 t (.tup [.str "meets", .str x])) := fun r H2 r0 r1 s2 B2 => by
    obtain ⟨x, hx, ex⟩ := at_words (ws := ws) r0 (by omega)
    refine ⟨x, ex, fun t nt => ?_⟩
    obtain ⟨u, hu⟩ := B2.get
    exact q _ (.meets x) _ ((s1.trans s2).trans (But.of (same_upd nt))) ((B2.same (same_upd nt)).le (by omega)) (.tup (SqT.of (rm_new hu nt)) (.cons (.str _) (.cons (.str _) .nil))) hx (Nat.succ_le_succ (Nat.zero_le _))
  refine ⟨_, rfl, _, _, rfl, rfl, _, rfl, ite2 (fun c1 => ?_) (fun c1 => ⟨_, rfl, rfl, _, rfl, ite2 (fun c2 => ?_) (fun c2 => ?_)⟩)⟩
  · refine iteT ?_
    refine ⟨_, rfl, _, rfl, a, n + 1, 7, rfl, B1, by omega, by decide, by decide, fun r H2 r0 r1 s2 B2 => ?_⟩
    obtain ⟨x, ex, hq⟩ := meets r H2 r0 r1 s2 B2
    exact ⟨p, _, r, _, rfl, rfl, SqL.of (rm_sub _ _ (rm_but s2 _ _ hp1)), ex, z2, hq⟩
  · refine ⟨_, rfl, _, rfl, a, n + 1, 7, rfl, B1, by omega, by decide, by decide, fun r H2 r0 r1 s2 B2 => ?_⟩
    obtain ⟨x, ex, hq⟩ := meets r H2 r0 r1 s2 B2
    exact ⟨p, _, r, _, rfl, rfl, SqL.of (rm_sub _ _ (rm_but s2 _ _ hp1)), ex, z2, hq⟩
  have dp2 : 2 ≤ deep := by
    have : ¬ deep < 2 := fun z => c1 (decide_eq_true z)
    omega
  refine ⟨_, rfl, _, _, rfl, rfl, _, rfl, ite2 (fun c3 => ?b1) (fun c3 => ⟨_, rfl, _, _, rfl, rfl, _, rfl, ite2 (fun c4 => ?b2) (fun c4 => ?rest)⟩)⟩
  case rest =>
    have dp3 : 3 ≤ deep := by
      have : ¬ deep < 3 := fun z => c3 (decide_eq_true z)
      omega
    have w4 : 4 ≤ way := by
      have : ¬ way < 4 := fun z => c4 (decide_eq_true z)
      omega
    refine ⟨_, rfl, rfl, _, rfl, ite2 (fun c5 => ?_) (fun c5 => ?_)⟩
    · refine ⟨_, rfl, _, rfl, _, rfl, _, _, rfl, rfl, a, p, n + 1, deep - 1, ws, rfl, B1, by omega, by omega, by omega, hp1, hw, fun v1 t1 H3 s3 B3 k1 o1 e1 => ⟨z2, fun t nt => ?_⟩⟩
      obtain ⟨u, hu⟩ := B3.get
      have sn := rm_same (a := a) (same_upd (o := .tup [.str "not", v1]) nt)
      exact q _ (.not_ t1) _ ((s1.trans s3).trans (But.of (same_upd nt))) ((B3.same (same_upd nt)).le (by omega)) (.tup (SqT.of (rm_new hu nt)) (.cons (.str _) (.cons (dp_same sn _ _ k1) .nil))) o1 (Nat.succ_le_succ e1)
    · have w5 : way ≠ 4 := fun z => c5 (decide_eq_true (by rw [z]))
      refine ⟨z2, fun l nl => ⟨_, rfl, way, 2, rfl, rfl, (show (0 : Int) < 2 by decide), ?_⟩⟩
      have sl : Same H1 (upd H1 l (.lst [.str "both", .str "any"])) := same_upd nl
      obtain ⟨b, hb⟩ : ∃ b : Bool, atI [V.str "both", V.str "any"] (way % 2) = some (.str (if b = true then "any" else "both")) := by
        have : way % 2 = 0 ∨ way % 2 = 1 := by omega
        rcases this with z | z
        · rw [z]; exact ⟨false, rfl⟩
        · rw [z]; exact ⟨true, rfl⟩
      have B2 := B1.same sl
      have hp2 := rm_same sl _ _ hp1
      refine ⟨l, _, _, _, rfl, rfl, SqL.of upd_same, hb, _, rfl, _, rfl, _, rfl, _, _, rfl, rfl, a, p, n + 1, deep - 1, ws, rfl, B2, by omega, by omega, by omega, hp2, hw, fun v1 t1 H3 s3 B3 k1 o1 e1 => ?_⟩
      refine ⟨_, rfl, _, rfl, _, rfl, _, _, rfl, rfl, a, p, n + 1 + cost d, deep - 1, ws, rfl, B3, by omega, by omega, by omega, rm_but s3 _ _ hp2, hw, fun v2 t2 H4 s4 B4 k2 o2 e2 => ⟨z3, fun t nt => ?_⟩⟩
      obtain ⟨u, hu⟩ := B4.get
      have sA := ((s1.trans (But.of sl)).trans (s3.trans s4)).trans (But.of (same_upd (o := .tup [.str (if b = true then "any" else "both"), v1, v2]) nt))
      have sn := rm_same (a := a) (same_upd (o := .tup [.str (if b = true then "any" else "both"), v1, v2]) nt)
      have dD := DpAll.cons (K := K) (dp_same ((rm_but s4).trans sn) _ _ k1) (.cons (dp_same sn _ _ k2) .nil)
      cases b with
      | true => exact q _ (.any_ t1 t2) _ sA ((B4.same (same_upd nt)).le (by omega)) (.tup (SqT.of (rm_new hu nt)) (.cons (.str _) dD)) ⟨o1, o2⟩ (Nat.succ_le_succ (Nat.max_le.mpr ⟨e1, e2⟩))
      | false => exact q _ (.both t1 t2) _ sA ((B4.same (same_upd nt)).le (by omega)) (.tup (SqT.of (rm_new hu nt)) (.cons (.str _) dD)) ⟨o1, o2⟩ (Nat.succ_le_succ (Nat.max_le.mpr ⟨e1, e2⟩))
  case' b1 => refine iteT ?_
  all_goals
    refine ⟨_, rfl, z2, fun l nl => ?_⟩
    obtain ⟨u1, hu1⟩ := B1.get
    refine ⟨a, l, n + 1, _, rfl, B1.same (same_upd nl), by omega, rm_new hu1 nl, by decide, by decide, fun j v H2 hj s2 B2 => ?_⟩
    have hp2 := rm_but ((But.of (same_upd nl)).trans s2) _ _ hp1
    refine ⟨_, rfl, _, rfl, _, rfl, _, rfl, _, _, rfl, rfl, a, p, n + 2, deep - 1, ws, rfl, B2, by omega, by omega, by omega, hp2, by omega, fun v1 L1 H3 s3 B3 k1 o1 e1 => ?_⟩
    refine ⟨_, rfl, _, rfl, _, rfl, _, _, rfl, rfl, a, p, n + 2 + cost d, deep - 1, ws, rfl, B3, by omega, by omega, by omega, rm_but s3 _ _ hp2, by omega, fun v2 L2 H4 s4 B4 k2 o2 e2 => ⟨z3, fun t nt => ?_⟩⟩
    obtain ⟨u, hu⟩ := B4.get
    have sA := ((s1.trans (But.of (same_upd nl))).trans s2).trans ((s3.trans s4).trans (But.of (same_upd (o := .tup [v, v1, v2]) nt)))
    have sn := rm_same (a := a) (same_upd (o := .tup [v, v1, v2]) nt)
    have dD := DpAll.cons (K := K) (dp_same ((rm_but s4).trans sn) _ _ k1) (.cons (dp_same sn _ _ k2) .nil)
    rcases two_at hj with rfl | rfl
    · exact q _ (.like L1 L2) _ sA ((B4.same (same_upd nt)).le (by omega)) (.tup (SqT.of (rm_new hu nt)) (.cons (.str _) dD)) ⟨o1, o2⟩ (Nat.succ_le_succ (Nat.max_le.mpr ⟨e1, e2⟩))
    · exact q _ (.less L1 L2) _ sA ((B4.same (same_upd nt)).le (by omega)) (.tup (SqT.of (rm_new hu nt)) (.cons (.str _) dD)) ⟨o1, o2⟩ (Nat.succ_le_succ (Nat.max_le.mpr ⟨e1, e2⟩))
theorem ok_aTests (D : Df K mg "_law_a_test" sATest ["_law_box", "_law_words", "_law_deep"] f fd) (GT : FnG P w K mg base CX0 3 "_law_take" ["_law_box", "_law_many"] spTake) (GP : FnG P w K mg base CX0 3 "_law_pick" ["_law_box", "_law_some"] (spPick K))
    (GL : ∀ d, FnG P w K mg base CX0 (d + 3) "_law_a_look" ["_law_box", "_law_words", "_law_deep"] (spALook K d)) : ∀ d, FnG P w K mg base CX0 (d + 3) "_law_a_test" ["_law_box", "_law_words", "_law_deep"] (spATest K d)
  | 0 => ⟨f, fd, ⟨fun vs H Q E h => by
      obtain ⟨a, p, n, deep, ws, rfl, _⟩ := h
      rfl, fun A outer s H args us vs Q E _ _ _ _ h => by
      obtain ⟨a, p, n, deep, ws, _, _, _, h1, h2, _⟩ := h
      omega⟩, D.m, D.F.kp, D.b⟩
  | d + 1 => D.g (ok_aTest (k := d + 3) D.F (GT.mono (by omega)) (GP.mono (by omega)) (GL d) (ok_aTests D GT GP GL d))
end
end Fd

set_option Elab.async false
set_option linter.all false
set_option maxRecDepth 100000
set_option maxHeartbeats 2000000
namespace Fd
open PySem PySem.Spec PyProof.Rows L2
/-! ### the kinds of plain data -/
def tyN : PyData → String
  | .none => "NoneType" | .bool _ => "bool" | .int _ => "int" | .str _ => "str" | .list _ => "list" | .tuple _ => "tuple" | .dict _ => "dict"
theorem ty_of {K : PySem.W.Frag} {H : Hp} {v : V} {d : PyData} (h : Dp K H v d) : TyX K H v (.type (tyN d)) := by
  cases h with
  | non => exact .base .non
  | bl b => exact .base (.bl b)
  | int i => exact .base (.int i)
  | str x => exact .base (.str x)
  | lst h _ => exact ty_lst h
  | tup h _ => exact ty_tup h
def isI : PyData → Bool | .int _ => true | .bool _ => true | _ => false
def isB : PyData → Bool | .bool _ => true | _ => false
def isS : PyData → Bool | .str _ => true | _ => false
def isT : PyData → Bool | .tuple _ => true | _ => false
def isNum : PyData → Bool | .int _ => true | _ => false
theorem kI : ∀ d, kitB (tyN d) "int" = some (isI d)
  | .none => (by decide +kernel : kitB "NoneType" "int" = some false) | .bool _ => (by decide +kernel : kitB "bool" "int" = some true) | .int _ => (by decide +kernel : kitB "int" "int" = some true) | .str _ => (by decide +kernel : kitB "str" "int" = some false)
  | .list _ => (by decide +kernel : kitB "list" "int" = some false) | .tuple _ => (by decide +kernel : kitB "tuple" "int" = some false) | .dict _ => (by decide +kernel : kitB "dict" "int" = some false)
theorem kB : ∀ d, kitB (tyN d) "bool" = some (isB d)
  | .none => (by decide +kernel : kitB "NoneType" "bool" = some false) | .bool _ => (by decide +kernel : kitB "bool" "bool" = some true) | .int _ => (by decide +kernel : kitB "int" "bool" = some false) | .str _ => (by decide +kernel : kitB "str" "bool" = some false)
  | .list _ => (by decide +kernel : kitB "list" "bool" = some false) | .tuple _ => (by decide +kernel : kitB "tuple" "bool" = some false) | .dict _ => (by decide +kernel : kitB "dict" "bool" = some false)
theorem kS : ∀ d, kitB (tyN d) "str" = some (isS d)
  | .none => (by decide +kernel : kitB "NoneType" "str" = some false) | .bool _ => (by decide +kernel : kitB "bool" "str" = some false) | .int _ => (by decide +kernel : kitB "int" "str" = some false) | .str _ => (by decide +kernel : kitB "str" "str" = some true)
  | .list _ => (by decide +kernel : kitB "list" "str" = some false) | .tuple _ => (by decide +kernel : kitB "tuple" "str" = some false) | .dict _ => (by decide +kernel : kitB "dict" "str" = some false)
theorem kT : ∀ d, kitB (tyN d) "tuple" = some (isT d)
  | .none => (by decide +kernel : kitB "NoneType" "tuple" = some false) | .bool _ => (by decide +kernel : kitB "bool" "tuple" = some false) | .int _ => (by decide +kernel : kitB "int" "tuple" = some false) | .str _ => (by decide +kernel : kitB "str" "tuple" = some false)
  | .list _ => (by decide +kernel : kitB "list" "tuple" = some false) | .tuple _ => (by decide +kernel : kitB "tuple" "tuple" = some true) | .dict _ => (by decide +kernel : kitB "dict" "tuple" = some false)
theorem isi_of {K : PySem.W.Frag} {H : Hp} {v : V} {d : PyData} {c : String} {b : Bool} {Q : VK} (h : Dp K H v d) (e : kitB (tyN d) c = some b) (q : Q (.bl b) H) : rIsi K [v, .ty c] H Q :=
  ⟨_, _, _, _, b, rfl, .ty _, ty_of h, kit_ty e, q⟩
/-- a list of truths built piece by piece -/
theorem all_map {α : Type} (xs : List α) (f : α → Bool) : (xs.map f).all id = xs.all f := by
  induction xs with
  | nil => rfl
  | cons x r ih => rw [List.map_cons, List.all_cons, List.all_cons, ih]; rfl
def isVal : PyData → Bool | .int i => inB i | _ => false
/-- a name of the document: one to eight letters a to z -/
def azB (c : Nat) : Bool := decide (97 ≤ c) && decide (c ≤ 122)
theorem le_lo (c : Nat) : (!decide ((⟨#[c]⟩ : Str).cps.toList < (Str.ofString "a").cps.toList)) = decide (97 ≤ c) := by
  rw [show (Str.ofString "a").cps.toList = [97] by decide +kernel]
  simp [List.cons_lt_cons_iff]
  by_cases h : c < 97
  · rw [decide_eq_true h, decide_eq_false (by omega)]; rfl
  · rw [decide_eq_false h, decide_eq_true (by omega)]; rfl
theorem le_hi (c : Nat) : (!decide ((Str.ofString "z").cps.toList < (⟨#[c]⟩ : Str).cps.toList)) = decide (c ≤ 122) := by
  rw [show (Str.ofString "z").cps.toList = [122] by decide +kernel]
  simp [List.cons_lt_cons_iff]
  by_cases h : 122 < c
  · rw [decide_eq_true h, decide_eq_false (by omega)]; rfl
  · rw [decide_eq_false h, decide_eq_true (by omega)]; rfl
def nmB (z : Str) : Bool := decide (1 ≤ z.cps.size) && decide (z.cps.size ≤ 8) && z.cps.toList.all azB
def isNm : PyData → Bool | .str z => nmB z | _ => false
section
variable {P : Program} {w : World} {K : PySem.W.Frag} {mg : Str → Option Value} {base : Heap} {f : Addr} {fd : FuncData}
/-- a def of one thing that answers by what the thing is -/
def spB (K : PySem.W.Frag) (ok : PyData → Prop) (g : PyData → Bool) : Sp := fun vs H Q _ => ∃ (x : V) (d : PyData), vs = [x] ∧ Dp K H x d ∧ ok d ∧ ∀ H', Same H H' → Q (.bl (g d)) H'
abbrev sIsNum : Stmt := top 7
theorem scIsNum : FnScope ["thing"] ["thing"] (defScope sIsNum) := ⟨rfl, rfl, rfl, by decide +kernel, rfl, by decide +kernel, by decide +kernel⟩
theorem ok_isNum {k : Nat} (F : Fun K "is_number" "is_number" sIsNum f fd) (m_isinstance : mg "isinstance" = none) (m_int : mg "int" = none) (m_bool : mg "bool" = none) :
    FnOk P w K mg base CX0 (k + 1) f fd ["thing"] (spB K (fun _ => True) isNum) := by
  have sc := scIsNum
  refine F.ok sc (fun vs H Q E h => ?_) (fun cdv A outer s H vs Q E hr h => ?_)
  · obtain ⟨x, d, rfl, _⟩ := h
    rfl
  obtain ⟨x, d, rfl, hd, _, q⟩ := h
  replace q := q H (Same.refl _)
  refine ⟨_, (pss_one (ps_ret (pe_and (pe_callB call_isi (by rfl) m_isinstance (by decide +kernel) (pa_cons (pv 0) (pa_cons (pe_bltn (v := .ty "int") (by rfl) m_int (by decide +kernel) rfl) pa_nil))) (pe_one (pe_not (pe_callB call_isi (by rfl) m_isinstance (by decide +kernel) (pa_cons (pv 0) (pa_cons (pe_bltn (v := .ty "bool") (by rfl) m_bool (by decide +kernel) rfl) pa_nil)))))))), ?_⟩
  refine ⟨_, rfl, _, _, _, _, _, rfl, .ty _, ty_of hd, kit_ty (kI d), _, rfl, ?_⟩
  cases d with
  | int i => exact iteT ⟨_, rfl, _, _, _, _, _, rfl, .ty _, ty_of hd, kit_ty (kB _), _, rfl, q⟩
  | bool i => exact iteT ⟨_, rfl, _, _, _, _, _, rfl, .ty _, ty_of hd, kit_ty (kB _), _, rfl, q⟩
  | none => exact iteF q
  | str _ => exact iteF q
  | list _ => exact iteF q
  | tuple _ => exact iteF q
  | dict _ => exact iteF q
abbrev sLNum : Stmt := top 24
theorem scLNum : FnScope ["_law_thing"] ["_law_thing"] (defScope sLNum) := ⟨rfl, rfl, rfl, by decide +kernel, rfl, by decide +kernel, by decide +kernel⟩
theorem ok_lNum {k : Nat} (F : Fun K "_law_is_number" "_law_is_number" sLNum f fd) (m_isinstance : mg "isinstance" = none) (m_int : mg "int" = none) (m_bool : mg "bool" = none) :
    FnOk P w K mg base CX0 (k + 1) f fd ["_law_thing"] (spB K (fun _ => True) isNum) := by
  have sc := scLNum
  refine F.ok sc (fun vs H Q E h => ?_) (fun cdv A outer s H vs Q E hr h => ?_)
  · obtain ⟨x, d, rfl, _⟩ := h
    rfl
  obtain ⟨x, d, rfl, hd, _, q⟩ := h
  replace q := q H (Same.refl _)
  refine ⟨_, (pss_one (ps_ret (pe_and (pe_callB call_isi (by rfl) m_isinstance (by decide +kernel) (pa_cons (pv 0) (pa_cons (pe_bltn (v := .ty "int") (by rfl) m_int (by decide +kernel) rfl) pa_nil))) (pe_one (pe_not (pe_callB call_isi (by rfl) m_isinstance (by decide +kernel) (pa_cons (pv 0) (pa_cons (pe_bltn (v := .ty "bool") (by rfl) m_bool (by decide +kernel) rfl) pa_nil)))))))), ?_⟩
  refine ⟨_, rfl, _, _, _, _, _, rfl, .ty _, ty_of hd, kit_ty (kI d), _, rfl, ?_⟩
  cases d with
  | int i => exact iteT ⟨_, rfl, _, _, _, _, _, rfl, .ty _, ty_of hd, kit_ty (kB _), _, rfl, q⟩
  | bool i => exact iteT ⟨_, rfl, _, _, _, _, _, rfl, .ty _, ty_of hd, kit_ty (kB _), _, rfl, q⟩
  | none => exact iteF q
  | str _ => exact iteF q
  | list _ => exact iteF q
  | tuple _ => exact iteF q
  | dict _ => exact iteF q
abbrev sIsVal : Stmt := top 8
theorem scIsVal : FnScope ["thing"] ["thing"] (defScope sIsVal) := ⟨rfl, rfl, rfl, by decide +kernel, rfl, by decide +kernel, by decide +kernel⟩
theorem ok_isVal {k : Nat} {t t' : Tok} (F : Fun K "is_value" "is_value" sIsVal f fd) (G : FnG P w K mg base CX0 k "is_number" ["thing"] (spB K (fun _ => True) isNum)) (m_LEAST : mg "LEAST_VALUE" = some (.int (-1000000) t)) (m_MOST : mg "MOST_VALUE" = some (.int 1000000 t')) :
    FnOk P w K mg base CX0 (k + 1) f fd ["thing"] (spB K (fun _ => True) isVal) := by
  obtain ⟨_, _, G_is_number, m_is_number, k_is_number, b_is_number⟩ := G
  have sc := scIsVal
  refine F.ok sc (fun vs H Q E h => ?_) (fun cdv A outer s H vs Q E hr h => ?_)
  · obtain ⟨x, d, rfl, _⟩ := h
    rfl
  obtain ⟨x, d, rfl, hd, _, q⟩ := h
  refine ⟨_, (pss_one (ps_ret (pe_and (pe_call G_is_number (hr.mono (by omega)) (by rfl) m_is_number k_is_number b_is_number .nil pass0 (pa_cons (pv 0) pa_nil)) (pe_one (pe_chain op_le op_le (pe_glob (v := .int (-1000000)) (by rfl) m_LEAST ⟨_, rfl⟩) (pv 0) (pe_glob (v := .int 1000000) (by rfl) m_MOST ⟨_, rfl⟩)))))), ?_⟩
  refine ⟨_, rfl, x, d, rfl, hd, trivial, fun H' s' => ⟨_, rfl, ?_⟩⟩
  replace q := q H' s'
  cases d with
  | int i =>
    cases hd
    refine iteT ⟨_, rfl, _, _, rfl, rfl, _, rfl, ite2 (fun c => ?_) (fun c => ?_)⟩
    · refine ⟨_, _, rfl, rfl, ?_⟩
      replace q : Q (.bl (decide (-1000000 ≤ i) && decide (i ≤ 1000000))) H' := q
      rw [c] at q
      exact q
    · replace q : Q (.bl (decide (-1000000 ≤ i) && decide (i ≤ 1000000))) H' := q
      rw [eq_false_of_ne_true c] at q
      exact q
  | bool i => exact iteF q
  | none => exact iteF q
  | str _ => exact iteF q
  | list _ => exact iteF q
  | tuple _ => exact iteF q
  | dict _ => exact iteF q
abbrev sIsName : Stmt := top 9
theorem scIsName : FnScope ["thing", "letter"] ["thing"] (defScope sIsName) := ⟨rfl, rfl, rfl, by decide +kernel, rfl, by decide +kernel, by decide +kernel⟩
def TxOk : PyData → Prop | .str z => z.length ≤ sizeLine | _ => True
theorem ok_isName {k : Nat} {t : Tok} (F : Fun K "is_name" "is_name" sIsName f fd) (m_isinstance : mg "isinstance" = none) (m_str : mg "str" = none) (m_len : mg "len" = none) (m_all : mg "all" = none) (m_LONGEST : mg "LONGEST_NAME" = some (.int 8 t)) :
    FnOk P w K mg base CX0 (k + 1) f fd ["thing"] (spB K TxOk isNm) := by
  have sc := scIsName
  refine F.ok sc (fun vs H Q E h => ?_) (fun cdv A outer s H vs Q E hr h => ?_)
  · obtain ⟨x, d, rfl, _⟩ := h
    rfl
  obtain ⟨x, d, rfl, hd, ok, q⟩ := h
  refine ⟨_, (pss_cons (ps_if (PW.pt (pw_or (pt_not (pt_val (pe_callB call_isi (by rfl) m_isinstance (by decide +kernel) (pa_cons (pv 0) (pa_cons (pe_bltn (v := .ty "str") (by rfl) m_str (by decide +kernel) rfl) pa_nil))))) (pw_or1 (pt_not (pt_chain op_le op_le pe_int (pe_callB call_len_str (by rfl) m_len (by decide +kernel) (pa_cons (pv 0) pa_nil)) (pe_glob (v := .int 8) (by rfl) m_LONGEST ⟨_, rfl⟩)))))) (pss_one (ps_ret pe_bl)) pss_nil)
      (pss_one (ps_ret (pe_callB (cr_all rfl) (by rfl) m_all (by decide +kernel) (pa_cons (pe_lc (own := [("letter", 1)]) (by rfl) sc.nd  (pi_str (pv 0)) (blkOk_by (own := [("letter", 1)]) (N := ["thing", "letter"]) (sc := defScope sIsName) (by decide +kernel)) (fun _ _ _ _ _ => (pg_name (i := 1) sc.nd rfl (.inl rfl))) (fun _ _ _ _ _ => pts_nil) (fun _ _ _ _ _ => (pe_chain op_le_str op_le_str pe_str (pv 1) pe_str))) pa_nil))))), ?_⟩
  refine ⟨_, rfl, _, _, _, _, _, rfl, .ty _, ty_of hd, kit_ty (kS d), _, rfl, ?_⟩
  have qH := q H (Same.refl _)
  cases d with
  | str z =>
    cases hd
    refine iteF ?_
    refine ⟨_, rfl, z, rfl, ok, 1, _, rfl, rfl, _, rfl, ite2 (fun c1 => ?_) (fun c1 => ?_)⟩
    · refine ⟨_, _, rfl, rfl, _, rfl, ?_⟩
      by_cases c2 : z.cps.size ≤ 8
      · have e2 : decide ((z.length : Int) ≤ 8) = true := decide_eq_true (by show (z.cps.size : Int) ≤ 8; omega)
        have c1' : 1 ≤ z.cps.size := by
          have := of_decide_eq_true c1
          have : (1 : Int) ≤ (z.cps.size : Nat) := this
          omega
        rw [e2]
        refine iteF ?_
        refine ⟨_, rfl, z, rfl, fun D nD => lc_it (walk_str (z := z)) (fun i H' => Same H H' ∧ H' D = some (.lst (((z.cps.toList.take i).map azB).map V.bl))) ⟨same_upd nD, upd_same⟩ (fun i H' _ _ => trivial) ?_ ?_⟩
        · rintro i v H1 H2 hi ⟨sm, hD⟩ ⟨rfl, c, hc, rfl⟩
          refine ⟨rfl, ?_⟩
          unfold tYes
          refine iteT ?_
          have fin : ∀ H1 : Hp, Same H H1 → H1 D = some (.lst (((z.cps.toList.take i).map azB).map V.bl)) → ∃ acc, H1 D = some (.lst acc) ∧ acc.length < sizeLine ∧ (Same H (upd H1 D (.lst (acc ++ [V.bl (azB c)]))) ∧ (upd H1 D (.lst (acc ++ [V.bl (azB c)]))) D = some (.lst (((z.cps.toList.take (i + 1)).map azB).map V.bl))) := fun H1 sm hD => by
            refine ⟨_, hD, ?_, fun b o h => ?_, ?_⟩
            · rw [List.length_map, List.length_map, List.length_take]
              exact Nat.lt_of_le_of_lt (Nat.min_le_left _ _) (Nat.lt_of_lt_of_le (Nat.lt_of_lt_of_le hi c2) (by decide))
            · rw [upd_ne (ne_of_none h nD)]
              exact sm _ _ h
            · rw [upd_same, List.take_succ, show z.cps.toList[i]? = some c by rw [← hc, Array.getElem?_toList], List.map_append, List.map_append]
              rfl
          refine ⟨_, rfl, _, _, rfl, rfl, _, rfl, ite2 (fun c3 => ?_) (fun c3 => ?_)⟩
          · refine ⟨_, _, rfl, rfl, ?_⟩
            have e : (!decide ((Str.ofString "z").cps.toList < (⟨#[c]⟩ : Str).cps.toList)) = azB c := by
              rw [le_lo] at c3
              rw [le_hi]
              unfold azB
              rw [c3]
              rfl
            show ∃ acc, _ ∧ _ ∧ _
            rw [e]
            exact fin _ sm hD
          · have e : false = azB c := by
              rw [le_lo] at c3
              unfold azB
              rw [eq_false_of_ne_true c3]
              rfl
            show ∃ acc, _ ∧ _ ∧ _
            rw [e]
            exact fin _ sm hD
        · rintro H1 ⟨sm, hD⟩
          refine ⟨D, z.cps.toList.map azB, rfl, SqL.of (by rw [hD, List.take_of_length_le (by rw [Array.length_toList]; exact Nat.le_refl _)]), ?_⟩
          rw [all_map]
          have := q _ sm
          rw [show isNm (.str z) = z.cps.toList.all azB by show nmB z = _; unfold nmB; rw [decide_eq_true c1', decide_eq_true c2]; rfl] at this
          exact this
      · have e2 : decide ((z.length : Int) ≤ 8) = false := decide_eq_false (by show ¬ (z.cps.size : Int) ≤ 8; omega)
        rw [e2]
        refine iteT ?_
        rw [show isNm (.str z) = false by show nmB z = _; unfold nmB; rw [decide_eq_false c2, Bool.and_false, Bool.false_and]] at qH
        exact qH
    · have c1' : ¬ 1 ≤ z.cps.size := fun h => c1 (decide_eq_true (by show (1 : Int) ≤ (z.cps.size : Nat); omega))
      refine ⟨_, rfl, iteT ?_⟩
      rw [show isNm (.str z) = false by show nmB z = _; unfold nmB; rw [decide_eq_false c1', Bool.false_and, Bool.false_and]] at qH
      exact qH
  | int i => exact iteT (iteT qH)
  | bool i => exact iteT (iteT qH)
  | none => exact iteT (iteT qH)
  | list _ => exact iteT (iteT qH)
  | tuple _ => exact iteT (iteT qH)
  | dict _ => exact iteT (iteT qH)
end
end Fd

set_option Elab.async false
set_option linter.all false
set_option maxRecDepth 100000
set_option maxHeartbeats 2000000
namespace Fd
open PySem PySem.Spec PyProof.Rows L2
def azS : Str := Str.ofString "abcdefghijklmnopqrstuvwxyz"
theorem azS_is : azS.cps.toList = List.range' 97 26 := by decide +kernel
theorem in_az (c : Nat) : (!(Builtin.Str.occurrences (Str.ofString "abcdefghijklmnopqrstuvwxyz") ⟨#[c]⟩ 0 (Str.ofString "abcdefghijklmnopqrstuvwxyz").length 1).isEmpty) = azB c := by
  have h := StrLaws.found_one azS c
  rw [show azB c = decide (c ∈ azS.cps.toList) by
    rw [azS_is]
    unfold azB
    by_cases h1 : 97 ≤ c
    · by_cases h2 : c ≤ 122
      · rw [decide_eq_true h1, decide_eq_true h2, decide_eq_true (List.mem_range'_1.mpr ⟨h1, by omega⟩)]; rfl
      · rw [decide_eq_false h2, Bool.and_false, decide_eq_false fun z => h2 (by have := (List.mem_range'_1.mp z).2; omega)]
    · rw [decide_eq_false h1, Bool.false_and, decide_eq_false fun z => h1 (List.mem_range'_1.mp z).1]]
  exact h
section
variable {P : Program} {w : World} {K : PySem.W.Frag} {mg : Str → Option Value} {base : Heap} {f : Addr} {fd : FuncData}
abbrev sLName : Stmt := top 25
theorem scLName : FnScope ["_law_thing", "_law_sign"] ["_law_thing"] (defScope sLName) := ⟨rfl, rfl, rfl, by decide +kernel, rfl, by decide +kernel, by decide +kernel⟩
theorem ok_lName {k : Nat} (F : Fun K "_law_is_name" "_law_is_name" sLName f fd) (m_isinstance : mg "isinstance" = none) (m_str : mg "str" = none) (m_len : mg "len" = none) (m_all : mg "all" = none) :
    FnOk P w K mg base CX0 (k + 1) f fd ["_law_thing"] (spB K TxOk isNm) := by
  have sc := scLName
  refine F.ok sc (fun vs H Q E h => ?_) (fun cdv A outer s H vs Q E hr h => ?_)
  · obtain ⟨x, d, rfl, _⟩ := h
    rfl
  obtain ⟨x, d, rfl, hd, ok, q⟩ := h
  refine ⟨_, (pss_cons (ps_if (PW.pt (pw_or (pt_not (pt_val (pe_callB call_isi (by rfl) m_isinstance (by decide +kernel) (pa_cons (pv 0) (pa_cons (pe_bltn (v := .ty "str") (by rfl) m_str (by decide +kernel) rfl) pa_nil))))) (pw_or1 (pt_not (pt_chain op_le op_le pe_int (pe_callB call_len_str (by rfl) m_len (by decide +kernel) (pa_cons (pv 0) pa_nil)) pe_int))))) (pss_one (ps_ret pe_bl)) pss_nil)
      (pss_one (ps_ret (pe_callB (cr_all rfl) (by rfl) m_all (by decide +kernel) (pa_cons (pe_lc (own := [("_law_sign", 1)]) (by rfl) sc.nd  (pi_str (pv 0)) (blkOk_by (own := [("_law_sign", 1)]) (N := ["_law_thing", "_law_sign"]) (sc := defScope sLName) (by decide +kernel)) (fun _ _ _ _ _ => (pg_name (i := 1) sc.nd rfl (.inl rfl))) (fun _ _ _ _ _ => pts_nil) (fun _ _ _ _ _ => (pe_cmpR op_in_str (pv 1) pe_str (by rfl)))) pa_nil))))), ?_⟩
  refine ⟨_, rfl, _, _, _, _, _, rfl, .ty _, ty_of hd, kit_ty (kS d), _, rfl, ?_⟩
  have qH := q H (Same.refl _)
  cases d with
  | str z =>
    cases hd
    refine iteF ?_
    refine ⟨_, rfl, z, rfl, ok, 1, _, rfl, rfl, _, rfl, ite2 (fun c1 => ?_) (fun c1 => ?_)⟩
    · refine ⟨_, _, rfl, rfl, _, rfl, ?_⟩
      by_cases c2 : z.cps.size ≤ 8
      · have e2 : decide ((z.length : Int) ≤ 8) = true := decide_eq_true (by show (z.cps.size : Int) ≤ 8; omega)
        have c1' : 1 ≤ z.cps.size := by
          have := of_decide_eq_true c1
          have : (1 : Int) ≤ (z.cps.size : Nat) := this
          omega
        rw [e2]
        refine iteF ?_
        refine ⟨_, rfl, z, rfl, fun D nD => lc_it (walk_str (z := z)) (fun i H' => Same H H' ∧ H' D = some (.lst (((z.cps.toList.take i).map azB).map V.bl))) ⟨same_upd nD, upd_same⟩ (fun i H' _ _ => trivial) ?_ ?_⟩
        · rintro i v H1 H2 hi ⟨sm, hD⟩ ⟨rfl, c, hc, rfl⟩
          refine ⟨rfl, ?_⟩
          unfold tYes
          refine iteT ?_
          have fin : ∀ H1 : Hp, Same H H1 → H1 D = some (.lst (((z.cps.toList.take i).map azB).map V.bl)) → ∃ acc, H1 D = some (.lst acc) ∧ acc.length < sizeLine ∧ (Same H (upd H1 D (.lst (acc ++ [V.bl (azB c)]))) ∧ (upd H1 D (.lst (acc ++ [V.bl (azB c)]))) D = some (.lst (((z.cps.toList.take (i + 1)).map azB).map V.bl))) := fun H1 sm hD => by
            refine ⟨_, hD, ?_, fun b o h => ?_, ?_⟩
            · rw [List.length_map, List.length_map, List.length_take]
              exact Nat.lt_of_le_of_lt (Nat.min_le_left _ _) (Nat.lt_of_lt_of_le (Nat.lt_of_lt_of_le hi c2) (by decide))
            · rw [upd_ne (ne_of_none h nD)]
              exact sm _ _ h
            · rw [upd_same, List.take_succ, show z.cps.toList[i]? = some c by rw [← hc, Array.getElem?_toList], List.map_append, List.map_append]
              rfl
          refine ⟨_, rfl, _, _, rfl, rfl, ?_⟩
          show ∃ acc, _ ∧ _ ∧ _
          rw [in_az]
          exact fin _ sm hD
        · rintro H1 ⟨sm, hD⟩
          refine ⟨D, z.cps.toList.map azB, rfl, SqL.of (by rw [hD, List.take_of_length_le (by rw [Array.length_toList]; exact Nat.le_refl _)]), ?_⟩
          rw [all_map]
          have := q _ sm
          rw [show isNm (.str z) = z.cps.toList.all azB by show nmB z = _; unfold nmB; rw [decide_eq_true c1', decide_eq_true c2]; rfl] at this
          exact this
      · have e2 : decide ((z.length : Int) ≤ 8) = false := decide_eq_false (by show ¬ (z.cps.size : Int) ≤ 8; omega)
        rw [e2]
        refine iteT ?_
        rw [show isNm (.str z) = false by show nmB z = _; unfold nmB; rw [decide_eq_false c2, Bool.and_false, Bool.false_and]] at qH
        exact qH
    · have c1' : ¬ 1 ≤ z.cps.size := fun h => c1 (decide_eq_true (by show (1 : Int) ≤ (z.cps.size : Nat); omega))
      refine ⟨_, rfl, iteT ?_⟩
      rw [show isNm (.str z) = false by show nmB z = _; unfold nmB; rw [decide_eq_false c1', Bool.false_and, Bool.false_and]] at qH
      exact qH
  | int i => exact iteT (iteT qH)
  | bool i => exact iteT (iteT qH)
  | none => exact iteT (iteT qH)
  | list _ => exact iteT (iteT qH)
  | tuple _ => exact iteT (iteT qH)
  | dict _ => exact iteT (iteT qH)
end
end Fd

set_option Elab.async false
set_option linter.all false
set_option maxRecDepth 100000
set_option maxHeartbeats 2000000
namespace Fd
open PySem PySem.Spec PyProof.Rows L2 RZ
/-! ### plain things: no dicts, small -/
def OkT (e : Nat) : Nat → PyData → Prop
  | 0, _ => False
  | _ + 1, .none => True
  | _ + 1, .bool _ => True
  | _ + 1, .int i => -(1000001 + 1000000 * (e : Int)) ≤ i ∧ i ≤ 1000001 + 1000000 * (e : Int)
  | _ + 1, .str z => z.cps.size ≤ 8 + e ∧ ∀ c ∈ z.cps.toList, c < 128
  | n + 1, .list ds => ds.length ≤ 8 + e ∧ ∀ d ∈ ds, OkT e n d
  | n + 1, .tuple ds => ds.length ≤ 8 + e ∧ ∀ d ∈ ds, OkT e n d
  | _ + 1, .dict _ => False
theorem OkT.mono {e e' : Nat} (he : e ≤ e') : ∀ {n m : Nat} {d : PyData}, OkT e n d → n ≤ m → OkT e' m d
  | 0, _, _, h, _ => h.elim
  | _ + 1, 0, _, _, h => absurd h (by omega)
  | _ + 1, _ + 1, .none, _, _ => trivial
  | _ + 1, _ + 1, .bool _, _, _ => trivial
  | _ + 1, _ + 1, .int i, h, _ => by
    obtain ⟨h1, h2⟩ := h
    exact ⟨by omega, by omega⟩
  | _ + 1, _ + 1, .str z, h, _ => ⟨Nat.le_trans h.1 (by omega), h.2⟩
  | n + 1, m + 1, .list ds, h, g => ⟨Nat.le_trans h.1 (by omega), fun d hd => OkT.mono he (h.2 d hd) (by omega)⟩
  | n + 1, m + 1, .tuple ds, h, g => ⟨Nat.le_trans h.1 (by omega), fun d hd => OkT.mono he (h.2 d hd) (by omega)⟩
  | _ + 1, _ + 1, .dict _, h, _ => h.elim
def OkA (d : PyData) : Prop := ∃ n, n ≤ 60 ∧ OkT 3 n d
theorem OkA.tx {d : PyData} (h : OkA d) : TxOk d := by
  obtain ⟨n, _, h⟩ := h
  cases d with
  | str z =>
    cases n with
    | zero => exact h.elim
    | succ n => exact Nat.le_trans h.1 (by decide)
  | _ => trivial
theorem OkA.kid {ds : List PyData} {d : PyData} (h : OkA (.tuple ds)) (hd : d ∈ ds) : OkA d := by
  obtain ⟨n, hn, h⟩ := h
  cases n with
  | zero => exact h.elim
  | succ n => exact ⟨n, by omega, h.2 d hd⟩
theorem OkA.len {ds : List PyData} (h : OkA (.tuple ds)) : ds.length ≤ 11 := by
  obtain ⟨n, _, h⟩ := h
  cases n with
  | zero => exact h.elim
  | succ n => exact h.1
theorem OkA.str {z : Str} (h : OkA (.str z)) : z.length ≤ sizeLine := OkA.tx h
theorem strOk_of {z : Str} (h : ∀ c ∈ z.cps.toList, c < 128) : PyData.strOk z = true := by
  unfold PyData.strOk
  rw [← Array.all_toList]
  refine List.all_eq_true.mpr fun c hc => ?_
  have := h c hc
  exact decide_eq_true (by omega)
theorem lay_all : ∀ {ds : List PyData}, (∀ d ∈ ds, d.canLay0 = true) → PyData.canLayAll0 ds = true
  | [], _ => rfl
  | d :: ds, h => by
    show (d.canLay0 && PyData.canLayAll0 ds) = true
    rw [h d (List.mem_cons_self ..), lay_all fun x hx => h x (List.mem_cons_of_mem _ hx)]
    rfl
theorem dep_all {n : Nat} : ∀ {ds : List PyData}, (∀ d ∈ ds, d.depth ≤ n) → PyData.depthAll ds ≤ n
  | [], _ => Nat.zero_le _
  | d :: ds, h => Nat.max_le.mpr ⟨h d (List.mem_cons_self ..), dep_all fun x hx => h x (List.mem_cons_of_mem _ hx)⟩
theorem OkT.lay {e : Nat} : ∀ {n : Nat} {d : PyData}, OkT e n d → d.canLay0 = true ∧ d.depth ≤ n
  | 0, _, h => h.elim
  | _ + 1, .none, _ => ⟨rfl, Nat.zero_le _⟩
  | _ + 1, .bool _, _ => ⟨rfl, Nat.zero_le _⟩
  | _ + 1, .int _, _ => ⟨rfl, Nat.zero_le _⟩
  | _ + 1, .str z, h => ⟨strOk_of h.2, Nat.zero_le _⟩
  | n + 1, .list ds, h => ⟨lay_all fun d hd => (h.2 d hd).lay.1, Nat.succ_le_succ (dep_all fun d hd => (h.2 d hd).lay.2)⟩
  | n + 1, .tuple ds, h => ⟨lay_all fun d hd => (h.2 d hd).lay.1, Nat.succ_le_succ (dep_all fun d hd => (h.2 d hd).lay.2)⟩
  | _ + 1, .dict _, h => h.elim
theorem OkA.shaped {d : PyData} (h : OkA d) : SeqAt.shaped d = true := by
  obtain ⟨n, hn, h⟩ := h
  obtain ⟨h1, h2⟩ := h.lay
  unfold SeqAt.shaped
  rw [h1, decide_eq_true (by omega)]
  rfl
/-! ### what a part is -/
def pkL : List Fw.PK := [("look", "name", ["name"]), ("look", "plus", ["look", "look"]), ("look", "minus", ["look", "look"]), ("look", "by", ["look", "look"]), ("look", "over", ["look", "look"]), ("look", "rest", ["look", "look"]),
  ("look", "item", ["list", "look"]), ("look", "many", ["list"]), ("look", "x", []), ("look", "y", []), ("look", "way", []), ("look", "number", []), ("test", "like", ["look", "look"]), ("test", "below", ["look", "look"]),
  ("test", "not", ["test"]), ("test", "both", ["test", "test"]), ("test", "any", ["test", "test"]), ("test", "meets", ["figure"])]
theorem cut_tail (x : V) (xs : List V) : cutV (x :: xs) (some 1) none = xs := by
  unfold cutV
  rw [show HT.sIx (x :: xs).length 0 (some 1) = min 1 (x :: xs).length from HT.sIx_nat .., HT.sIx_none, List.length_cons, Nat.min_eq_left (by omega)]
  exact List.take_of_length_le (Nat.le_refl _)
def gP (k : List Str) : Option (List Str) := (pkL.find? fun p => decide (Fw.key p = k)).map (·.2.2)
abbrev kindsV : List V := [.str "name", .str "list", .str "figure"]
def isKd (k : Str) : Bool := inV (.str k) kindsV
def isWd : PyData → Bool | .tuple (.str _ :: _) => true | _ => false
def hasP (f : Str → PyData → Bool) (kind : Str) : PyData → Bool
  | .tuple (.str w :: r) => match gP [kind, w] with
    | none => false
    | some ks => decide (r.length = ks.length) && (r.zip ks).all fun p => f p.2 p.1
  | _ => false
def isPart : Nat → Str → PyData → Bool
  | 0, k, d => if isKd k then isNm d else false
  | n + 1, k, d => if isKd k then isNm d else (decide (k = "look") && isVal d) || hasP (isPart n) k d
section
variable {P : Program} {w : World} {K : PySem.W.Frag} {mg : Str → Option Value} {base : Heap} {f : Addr} {fd : FuncData}
abbrev sIsWd : Stmt := top 12
theorem scIsWd : FnScope ["thing"] ["thing"] (defScope sIsWd) := ⟨rfl, rfl, rfl, by decide +kernel, rfl, by decide +kernel, by decide +kernel⟩
theorem ok_isWd {k : Nat} (F : Fun K "is_worded" "is_worded" sIsWd f fd) (m_isinstance : mg "isinstance" = none) (m_tuple : mg "tuple" = none) (m_str : mg "str" = none) (m_len : mg "len" = none) :
    FnOk P w K mg base CX0 (k + 1) f fd ["thing"] (spB K (fun _ => True) isWd) := by
  have sc := scIsWd
  refine F.ok sc (fun vs H Q E h => ?_) (fun cdv A outer s H vs Q E hr h => ?_)
  · obtain ⟨x, d, rfl, _⟩ := h
    rfl
  obtain ⟨x, d, rfl, hd, ok, q⟩ := h
  refine ⟨_, (pss_one (ps_ret (pe_and (pe_callB call_isi (by rfl) m_isinstance (by decide +kernel) (pa_cons (pv 0) (pa_cons (pe_bltn (v := .ty "tuple") (by rfl) m_tuple (by decide +kernel) rfl) pa_nil))) (pe_and (pe_cmpR op_gt (pe_callB call_len_seq (by rfl) m_len (by decide +kernel) (pa_cons (pv 0) pa_nil)) pe_int (nomark _)) (pe_one (pe_callB call_isi (by rfl) m_isinstance (by decide +kernel) (pa_cons (pe_ix ix_tup (pv 0) pe_int (fun _ _ => rfl)) (pa_cons (pe_bltn (v := .ty "str") (by rfl) m_str (by decide +kernel) rfl) pa_nil)))))))), ?_⟩
  have qH := q H (Same.refl _)
  refine ⟨_, rfl, _, _, _, _, _, rfl, .ty _, ty_of hd, kit_ty (kT d), _, rfl, ?_⟩
  cases d with
  | tuple ds =>
    cases hd with | @tup a xs _ ha ax =>
    refine iteT ⟨_, rfl, a, xs, rfl, .inr ha, _, _, rfl, rfl, _, rfl, ?_⟩
    cases ax with
    | nil => exact iteF qH
    | @cons v vs d ds hv hvs =>
      refine ite2 (fun c => ?_) (fun c => absurd (decide_eq_true (by show (0 : Int) < ((vs.length + 1 : Nat) : Int); omega)) c)
      refine ⟨_, rfl, a, _, 0, v, rfl, rfl, ha, atI_nat (j := 0) rfl, _, _, _, _, _, rfl, .ty _, ty_of hv, kit_ty (kS d), ?_⟩
      cases d <;> exact qH
  | int i => exact iteF qH
  | bool i => exact iteF qH
  | none => exact iteF qH
  | list _ => exact iteF qH
  | str _ => exact iteF qH
  | dict _ => exact iteF qH
abbrev sHas : Stmt := top 13
theorem scHas : FnScope ["thing", "kind", "deep", "kinds", "part", "wanted"] ["thing", "kind", "deep"] (defScope sHas) := ⟨rfl, rfl, rfl, by decide +kernel, rfl, by decide +kernel, by decide +kernel⟩
def spPart (K : PySem.W.Frag) (n : Nat) : Sp := fun vs H Q _ => ∃ (x : V) (k : Str) (d : PyData), vs = [x, .str k, .int n] ∧ Dp K H x d ∧ OkA d ∧ ∀ H', Same H H' → Q (.bl (isPart n k d)) H'
def spHas (K : PySem.W.Frag) (n : Nat) : Sp := fun vs H Q _ => ∃ (x : V) (k : Str) (d : PyData), vs = [x, .str k, .int (n + 1 : Nat)] ∧ Dp K H x d ∧ OkA d ∧ ∀ H', Same H H' → Q (.bl (hasP (isPart n) k d)) H'
theorem ok_has {k n : Nat} {dP : Addr} (F : Fun K "has_parts" "has_parts" sHas f fd) (GW : FnG P w K mg base CX0 k "is_worded" ["thing"] (spB K (fun _ => True) isWd)) (GP : FnG P w K mg base CX0 k "is_part" ["thing", "kind", "deep"] (spPart K n))
    (m_len : mg "len" = none) (m_all : mg "all" = none) (m_zip : mg "zip" = none) (m_PARTS : mg "PARTS" = some (.ref dP)) (hP : Fw.Parts P w K dP gP) :
    FnOk P w K mg base CX0 (k + 1) f fd ["thing", "kind", "deep"] (spHas K n) := by
  obtain ⟨_, _, G_is_worded, m_is_worded, k_is_worded, b_is_worded⟩ := GW
  obtain ⟨_, _, G_is_part, m_is_part, k_is_part, b_is_part⟩ := GP
  have sc := scHas
  refine F.ok sc (fun vs H Q E h => ?_) (fun cdv A outer s H vs Q E hr h => ?_)
  · obtain ⟨x, kd, d, rfl, _⟩ := h
    rfl
  obtain ⟨x, kd, d, rfl, hd, ok, q⟩ := h
  refine ⟨_, (pss_cons (ps_if (pt_not (pt_val (pe_call G_is_worded (hr.mono (by omega)) (by rfl) m_is_worded k_is_worded b_is_worded .nil pass0 (pa_cons (pv 0) pa_nil)))) (pss_one (ps_ret pe_bl)) pss_nil)
      (pss_cons (ps_set (i := 3) sc.nd rfl (.inl rfl) (Fw.pe_pget hP (hu_of hr) (pe_glob (v := .ref dP) (by rfl) m_PARTS rfl) (pa_cons (pe_tup (pa_cons (pv 1) (pa_cons (pe_ix ix_tup (pv 0) pe_int (fun _ _ => rfl)) pa_nil))) pa_nil)))
      (pss_cons (ps_if (PW.pt (pw_or (pt_cmpR op_isN (pv 3) pe_non (nomark _)) (pw_or1 (pt_cmpR op_ne (pe_callB call_len_seq (by rfl) m_len (by decide +kernel) (pa_cons (pv 0) pa_nil)) (pe_op op_add (pe_callB call_len_seq (by rfl) m_len (by decide +kernel) (pa_cons (pv 3) pa_nil)) pe_int) (nomark _))))) (pss_one (ps_ret pe_bl)) pss_nil)
      (pss_one (ps_ret (pe_callB (cr_all rfl) (by rfl) m_all (by decide +kernel) (pa_cons (pe_lc (own := [("part", 4), ("wanted", 5)]) (g := gTup K 2 (gCons (gName 4) (gCons (gName 5) gNil))) (by rfl) sc.nd  (pi_zipA (by rfl) m_zip (pa_cons (pe_slice sl_tup (pv 0) (po_some pe_int) po_none) (pa_cons (pv 3) pa_nil))) (blkOk_by (own := [("part", 4), ("wanted", 5)]) (N := ["thing", "kind", "deep", "kinds", "part", "wanted"]) (sc := defScope sHas) (by decide +kernel)) (fun _ _ _ _ _ => (pg_tup (by rfl) (pgs_cons (pg_name (i := 4) sc.nd rfl (.inl rfl)) (pgs_cons (pg_name (i := 5) sc.nd rfl (.inl rfl)) pgs_nil)))) (fun _ _ _ _ _ => pts_nil) (fun _ _ _ _ _ => (pe_call G_is_part (hr.mono (by omega)) (by rfl) m_is_part k_is_part b_is_part .nil pass0 (pa_cons (pv 4) (pa_cons (pv 5) (pa_cons (pe_op op_sub (pv 2) pe_int) pa_nil)))))) pa_nil))))))), ?_⟩
  refine ⟨_, rfl, x, d, rfl, hd, trivial, fun H1 s1 => ⟨_, rfl, ?_⟩⟩
  replace hd := dp_same s1 _ _ hd
  have q1 := q H1 s1
  by_cases hw : isWd d = true
  · rw [hw]
    refine iteF ?_
    obtain ⟨z, ds, rfl⟩ : ∃ z ds, d = .tuple (.str z :: ds) := by
      unfold isWd at hw
      split at hw
      · exact ⟨_, _, rfl⟩
      · cases hw
    have okl := ok.len
    rw [List.length_cons] at okl
    cases hd with | @tup a xs _ ha ax =>
    cases ax with | @cons v vs _ _ hv hvs =>
    cases hv
    have le := dpAll_len hvs
    refine ⟨rfl, _, rfl, _, rfl, a, _, 0, _, rfl, rfl, ha, atI_nat (j := 0) rfl, by show 2 ≤ sizeLine; decide, fun p np => ⟨p, kd, z, rfl, upd_same, fun gn => ?_, fun b zs gs hb => ?_⟩⟩
    · refine ⟨_, rfl, rfl, _, rfl, iteT (iteT ?_)⟩
      have := q _ (s1.trans (same_upd (o := .tup [.str kd, .str z]) np))
      rw [show hasP (isPart n) kd (.tuple (.str z :: ds)) = false by unfold hasP; dsimp only; rw [gn]] at this
      exact this
    · have sp := same_upd (o := .tup [.str kd, .str z]) np
      have ha2 := seqT sp ha
      refine ⟨_, rfl, rfl, _, rfl, iteF ?_⟩
      have hq : ∀ H', Same (upd H1 p (.tup [.str kd, .str z])) H' → Q (.bl (decide (ds.length = zs.length) && (ds.zip zs).all fun p => isPart n p.2 p.1)) H' := fun H' s' => by
        have := q H' (s1.trans (sp.trans s'))
        rw [show hasP (isPart n) kd (.tuple (.str z :: ds)) = (decide (ds.length = zs.length) && (ds.zip zs).all fun p => isPart n p.2 p.1) by unfold hasP; dsimp only; rw [gs]] at this
        exact this
      refine ⟨_, rfl, a, _, rfl, .inr ha2, _, rfl, b, _, rfl, .inr hb, _, 1, rfl, rfl, rfl, _, rfl, ite2 (fun c => ?_) (fun c => ?_)⟩
      · have h := hq _ (Same.refl _)
        rw [decide_eq_false (fun e : ds.length = zs.length => by
          rw [decide_eq_true (by rw [List.length_cons, List.length_map, le, e]; rfl)] at c
          cases c), Bool.false_and] at h
        exact h
      · have le2 : ds.length = zs.length := Decidable.byContradiction fun e => c (by
          rw [decide_eq_false (fun z => e (by
            have z : ((vs.length + 1 : Nat) : Int) = ((zs.map V.str).length : Nat) + 1 := V.int.inj z
            rw [List.length_map] at z
            omega))]
          rfl)
        refine ⟨_, rfl, 1, rfl, a, _, rfl, ha2, fun z => ?_, fun e ne => ?_⟩
        · have := z.1
          rw [show HT.sIx (V.str _ :: vs).length 0 (some 1) = min 1 (V.str _ :: vs).length from HT.sIx_nat .., List.length_cons] at this
          omega
        rw [cut_tail]
        have se := same_upd (o := .tup vs) ne
        have lz : (zs.map V.str).length = zs.length := List.length_map ..
        refine ⟨_, rfl, e, b, vs, zs.map V.str, rfl, .inr ⟨SqT.of upd_same, seqT se hb, fun D nD => lc_it (walk_zipT (xs := vs) (ys := zs.map V.str) rfl) (fun i H' => Same (upd (upd H1 p (.tup [.str kd, .str z])) e (.tup vs)) H' ∧ H' D = some (.lst ((((ds.zip zs).take i).map fun p => isPart n p.2 p.1).map V.bl))) ⟨same_upd nD, upd_same⟩
          (fun i H' _ h => ⟨seqT h.1 (SqT.of upd_same), seqT (se.trans h.1) hb⟩) ?_ ?_⟩⟩
        · rintro i v H3 H4 hi ⟨sm, hD⟩ ⟨T, x, y, rfl, nT, rfl, ex, ey⟩
          obtain ⟨d, ed, dx⟩ := dpAll_at (dpAll_same ((sp.trans se).trans sm) ds vs hvs) ex
          obtain ⟨y', ez, rfl⟩ : ∃ y', zs[i]? = some y' ∧ y = .str y' := by
            replace ey : (zs.map V.str)[i]? = some y := ey
            rw [List.getElem?_map] at ey
            cases h : zs[i]? with
            | none => rw [h] at ey; cases ey
            | some u => rw [h] at ey; exact ⟨u, rfl, (Option.some.inj ey).symm⟩
          have sT := same_upd (o := .tup [x, .str y']) nT
          refine ⟨T, _, rfl, .inl (.inl upd_same), rfl, _, _, rfl, _, _, rfl, rfl, rfl, ?_⟩
          unfold tYes
          refine iteT ?_
          refine ⟨_, rfl, _, rfl, _, rfl, _, _, rfl, rfl, x, y', d, congrArg (fun i => [x, V.str y', V.int i]) (by show ((n + 1 : Nat) : Int) - 1 = n; omega), dp_same sT _ _ dx, ok.kid (List.mem_cons_of_mem _ (List.mem_of_getElem? ed)), fun H5 s5 => ⟨_, s5 _ _ (sT _ _ hD), ?_, ?_, ?_⟩⟩
          · rw [List.length_map, List.length_map, List.length_take]
            exact small1000 (by omega)
          · intro b' o' h'
            rw [upd_ne (ne_of_none h' nD)]
            exact s5 _ _ (sT _ _ (sm _ _ h'))
          · rw [upd_same, List.take_succ, show (ds.zip zs)[i]? = some (d, y') by rw [List.getElem?_zip_eq_some]; exact ⟨ed, ez⟩, List.map_append, List.map_append]
            rfl
        · rintro H3 ⟨sm, hD⟩
          refine ⟨D, (ds.zip zs).map fun p => isPart n p.2 p.1, rfl, SqL.of (by rw [hD, List.take_of_length_le (by rw [List.length_zip, lz, le]; exact Nat.le_refl _)]), ?_⟩
          rw [all_map]
          have h := hq _ (se.trans sm)
          rw [decide_eq_true le2, Bool.true_and] at h
          exact h
  · have e : hasP (isPart n) kd d = false := by
      unfold hasP
      split
      · exact absurd rfl hw
      · rfl
    rw [e] at q1
    rw [eq_false_of_ne_true hw]
    exact iteT q1
abbrev sPart : Stmt := top 11
theorem scPart : FnScope ["thing", "kind", "deep"] ["thing", "kind", "deep"] (defScope sPart) := ⟨rfl, rfl, rfl, by decide +kernel, rfl, by decide +kernel, by decide +kernel⟩
theorem eq_str {x y : Str} : decide (V.str x = V.str y) = decide (x = y) := by
  by_cases h : x = y
  · rw [h, decide_eq_true rfl, decide_eq_true rfl]
  · rw [decide_eq_false h, decide_eq_false fun z => h (V.str.inj z)]
theorem ok_part {k n : Nat} {nK : Addr} (F : Fun K "is_part" "is_part" sPart f fd) (GN : FnG P w K mg base CX0 k "is_name" ["thing"] (spB K TxOk isNm)) (GV : FnG P w K mg base CX0 k "is_value" ["thing"] (spB K (fun _ => True) isVal))
    (GH : ∀ m, n = m + 1 → FnG P w K mg base CX0 k "has_parts" ["thing", "kind", "deep"] (spHas K m)) (GH' : ∃ f fd, FnOk P w K mg base CX0 k f fd ["thing", "kind", "deep"] (fun _ _ _ _ => False) ∧ mg "has_parts" = some (.ref f) ∧ PySem.W.keepIn K (.ref f) = true ∧ Binds K fd ["thing", "kind", "deep"] [])
    (m_NAME_KINDS : mg "NAME_KINDS" = some (.ref nK)) (hK : ∀ H, SqT K H nK kindsV) : FnOk P w K mg base CX0 (k + 1) f fd ["thing", "kind", "deep"] (spPart K n) := by
  obtain ⟨_, _, G_is_name, m_is_name, k_is_name, b_is_name⟩ := GN
  obtain ⟨_, _, G_is_value, m_is_value, k_is_value, b_is_value⟩ := GV
  obtain ⟨sp, ⟨_, _, G_has_parts, m_has_parts, k_has_parts, b_has_parts⟩, hsp⟩ : ∃ sp, FnG P w K mg base CX0 k "has_parts" ["thing", "kind", "deep"] sp ∧ ∀ m, n = m + 1 → sp = spHas K m := by
    cases n with
    | zero => exact ⟨_, GH', fun m e => nomatch e⟩
    | succ m => exact ⟨_, GH m rfl, fun m' e => by cases e; rfl⟩
  have sc := scPart
  refine F.ok sc (fun vs H Q E h => ?_) (fun cdv A outer s H vs Q E hr h => ?_)
  · obtain ⟨x, kd, d, rfl, _⟩ := h
    rfl
  obtain ⟨x, kd, d, rfl, hd, ok, q⟩ := h
  refine ⟨_, (pss_cons (ps_if (pt_cmpR op_in_seq (pv 1) (pe_glob (v := .ref nK) (by rfl) m_NAME_KINDS rfl) (by rfl)) (pss_one (ps_ret (pe_call G_is_name (hr.mono (by omega)) (by rfl) m_is_name k_is_name b_is_name .nil pass0 (pa_cons (pv 0) pa_nil)))) pss_nil)
      (pss_cons (ps_if (pt_cmpR op_lt (pv 2) pe_int (nomark _)) (pss_one (ps_ret pe_bl)) pss_nil)
      (pss_cons (ps_if (PW.pt (pw_and (pt_cmpR op_eq (pv 1) pe_str (nomark _)) (pw_and1 (pt_val (pe_call G_is_value (hr.mono (by omega)) (by rfl) m_is_value k_is_value b_is_value .nil pass0 (pa_cons (pv 0) pa_nil)))))) (pss_one (ps_ret pe_bl)) pss_nil)
      (pss_one (ps_ret (pe_call G_has_parts (hr.mono (by omega)) (by rfl) m_has_parts k_has_parts b_has_parts .nil pass0 (pa_cons (pv 0) (pa_cons (pv 1) (pa_cons (pv 2) pa_nil))))))))), ?_⟩
  refine ⟨_, rfl, nK, kindsV, rfl, .inr (hK H), rfl, by decide, _, rfl, ite2 (fun c => ?_) (fun c => ?_)⟩
  · have c : isKd kd = true := c
    refine ⟨_, rfl, x, d, rfl, hd, ok.tx, fun H' s' => ?_⟩
    have h := q H' s'
    rw [show isPart n kd d = isNm d by cases n <;> (unfold isPart; rw [c]; rfl)] at h
    exact h
  have c : isKd kd = false := eq_false_of_ne_true c
  refine ⟨_, rfl, _, _, rfl, rfl, _, rfl, ite2 (fun c2 => ?_) (fun c2 => ?_)⟩
  · have : n = 0 := by
      have := of_decide_eq_true c2
      omega
    subst this
    have h := q H (Same.refl _)
    rw [show isPart 0 kd d = false by unfold isPart; rw [c]; rfl] at h
    exact h
  obtain ⟨m, rfl⟩ : ∃ m, n = m + 1 := by
    cases n with
    | zero => exact absurd (decide_eq_true (by decide)) c2
    | succ m => exact ⟨m, rfl⟩
  have e : isPart (m + 1) kd d = ((decide (kd = "look") && isVal d) || hasP (isPart m) kd d) := by
    show (if isKd kd then isNm d else _) = _
    rw [c]
    rfl
  have last : (decide (kd = "look") && isVal d) = false → ∀ H1, Same H H1 → spHas K m [x, .str kd, .int (m + 1 : Nat)] H1 Q E := fun h0 H1 s1 => ⟨x, kd, d, rfl, dp_same s1 _ _ hd, ok, fun H' s' => by
    have h := q H' (s1.trans s')
    rw [e, h0, Bool.false_or] at h
    exact h⟩
  refine ⟨_, rfl, rfl, _, rfl, ?_⟩
  rw [eq_str]
  refine ite2 (fun c3 => ?_) (fun c3 => iteF ⟨_, rfl, _, rfl, _, rfl, ?_⟩)
  · refine ⟨_, rfl, x, d, rfl, hd, trivial, fun H1 s1 => ⟨_, rfl, ?_⟩⟩
    by_cases c4 : isVal d = true
    · rw [c4]
      refine iteT ?_
      have h := q H1 s1
      rw [e, c3, c4] at h
      exact h
    · rw [eq_false_of_ne_true c4]
      refine iteF ⟨_, rfl, _, rfl, _, rfl, ?_⟩
      rw [hsp m rfl]
      exact last (by rw [eq_false_of_ne_true c4, Bool.and_false]) H1 s1
  · rw [hsp m rfl]
    exact last (by rw [eq_false_of_ne_true c3, Bool.false_and]) H (Same.refl _)
end
end Fd

set_option Elab.async false
set_option linter.all false
set_option maxRecDepth 100000
set_option maxHeartbeats 2000000
namespace Fd
open PySem PySem.Spec PyProof.Rows L2 RZ
section
variable {P : Program} {w : World} {K : PySem.W.Frag} {mg : Str → Option Value} {base : Heap} {f f' : Addr} {fd fd' : FuncData}
theorem ok_parts {dP nK : Addr} (DP : Df K mg "is_part" sPart ["thing", "kind", "deep"] f fd) (DH : Df K mg "has_parts" sHas ["thing", "kind", "deep"] f' fd')
    (GN : FnG P w K mg base CX0 3 "is_name" ["thing"] (spB K TxOk isNm)) (GV : FnG P w K mg base CX0 3 "is_value" ["thing"] (spB K (fun _ => True) isVal)) (GW : FnG P w K mg base CX0 3 "is_worded" ["thing"] (spB K (fun _ => True) isWd))
    (m_len : mg "len" = none) (m_all : mg "all" = none) (m_zip : mg "zip" = none) (m_PARTS : mg "PARTS" = some (.ref dP)) (hP : Fw.Parts P w K dP gP)
    (m_NAME_KINDS : mg "NAME_KINDS" = some (.ref nK)) (hK : ∀ H, SqT K H nK kindsV) : ∀ n, FnG P w K mg base CX0 (2 * n + 4) "is_part" ["thing", "kind", "deep"] (spPart K n)
  | 0 => DP.g (ok_part (k := 3) (n := 0) DP.F GN GV (fun m e => nomatch e) ⟨f', fd', ⟨fun _ _ _ _ h => h.elim, fun _ _ _ _ _ _ _ _ _ _ _ _ _ h => h.elim⟩, DH.m, DH.F.kp, DH.b⟩ m_NAME_KINDS hK)
  | n + 1 => by
    have GH := DH.g (ok_has (k := 2 * n + 4) (n := n) DH.F (GW.mono (by omega)) (ok_parts DP DH GN GV GW m_len m_all m_zip m_PARTS hP m_NAME_KINDS hK n) m_len m_all m_zip m_PARTS hP)
    exact DP.g (ok_part (k := 2 * n + 4 + 1) (n := n + 1) DP.F (GN.mono (by omega)) (GV.mono (by omega)) (fun m e => by cases e; exact GH) ⟨f', fd', ⟨fun _ _ _ _ h => h.elim, fun _ _ _ _ _ _ _ _ _ _ _ _ _ h => h.elim⟩, DH.m, DH.F.kp, DH.b⟩ m_NAME_KINDS hK)
abbrev sIsTs : Stmt := top 10
theorem scIsTs : FnScope ["thing"] ["thing"] (defScope sIsTs) := ⟨rfl, rfl, rfl, by decide +kernel, rfl, by decide +kernel, by decide +kernel⟩
theorem ok_isTs {k : Nat} {t : Tok} (F : Fun K "is_test" "is_test" sIsTs f fd) (G : FnG P w K mg base CX0 k "is_part" ["thing", "kind", "deep"] (spPart K 6)) (m_DEEPEST : mg "DEEPEST" = some (.int 6 t)) :
    FnOk P w K mg base CX0 (k + 1) f fd ["thing"] (spB K OkA (isPart 6 "test")) := by
  obtain ⟨_, _, G_is_part, m_is_part, k_is_part, b_is_part⟩ := G
  have sc := scIsTs
  refine F.ok sc (fun vs H Q E h => ?_) (fun cdv A outer s H vs Q E hr h => ?_)
  · obtain ⟨x, d, rfl, _⟩ := h
    rfl
  obtain ⟨x, d, rfl, hd, ok, q⟩ := h
  refine ⟨_, (pss_one (ps_ret (pe_call G_is_part (hr.mono (by omega)) (by rfl) m_is_part k_is_part b_is_part .nil pass0 (pa_cons (pv 0) (pa_cons pe_str (pa_cons (pe_glob (v := .int 6) (by rfl) m_DEEPEST ⟨_, rfl⟩) pa_nil)))))), ?_⟩
  exact ⟨_, rfl, x, _, d, rfl, hd, ok, q⟩
end
/-! ### what the law asks of a look -/
abbrev wSpot : List V := [.str "x", .str "y", .str "way", .str "number"]
abbrev wName : List V := [.str "name", .str "many"]
abbrev wBin : List V := [.str "plus", .str "minus", .str "by", .str "over", .str "rest"]
def m1 (a : PyData → Bool) : List PyData → Bool | [p] => a p | _ => false
def m2 (a b : PyData → Bool) : List PyData → Bool | [p, q] => a p && b q | _ => false
def fitsP (f : PyData → Bool) (z : Str) (r : List PyData) : Bool :=
  if inV (.str z) wSpot then r.isEmpty
  else if inV (.str z) wName then m1 isNm r
  else if z = "item" then m2 isNm f r
  else if inV (.str z) wBin then m2 f f r
  else false
def fits : Nat → PyData → Bool
  | 0, _ => false
  | n + 1, d => match d with
    | .int i => decide ((if i < 0 then -i else i) ≤ (10 : Int) ^ (6 : Int).toNat)
    | .tuple (.str z :: r) => fitsP (fits n) z r
    | _ => false
section
variable {P : Program} {w : World} {K : PySem.W.Frag} {mg : Str → Option Value} {base : Heap} {f f' : Addr} {fd fd' : FuncData}
abbrev sFit : Stmt := top 26
theorem scFit : FnScope ["_law_thing", "_law_deep", "_law_word", "_law_parts"] ["_law_thing", "_law_deep"] (defScope sFit) := ⟨rfl, rfl, rfl, by decide +kernel, rfl, by decide +kernel, by decide +kernel⟩
def spFit (K : PySem.W.Frag) (n : Nat) : Sp := fun vs H Q _ => ∃ (x : V) (d : PyData), vs = [x, .int n] ∧ Dp K H x d ∧ OkA d ∧ ∀ H', Same H H' → Q (.bl (fits n d)) H'
theorem ok_fit {k n : Nat} (F : Fun K "_law_look_fits" "_law_look_fits" sFit f fd) (GI : FnG P w K mg base CX0 k "_law_is_number" ["_law_thing"] (spB K (fun _ => True) isNum)) (GN : FnG P w K mg base CX0 k "_law_is_name" ["_law_thing"] (spB K TxOk isNm))
    (GF : FnG P w K mg base CX0 k "_law_look_fits" ["_law_thing", "_law_deep"] (spFit K n))
    (m_isinstance : mg "isinstance" = none) (m_tuple : mg "tuple" = none) (m_str : mg "str" = none) (m_len : mg "len" = none) (m_abs : mg "abs" = none) :
    FnOk P w K mg base CX0 (k + 1) f fd ["_law_thing", "_law_deep"] (spFit K (n + 1)) := by
  obtain ⟨_, _, G__law_is_number, m__law_is_number, k__law_is_number, b__law_is_number⟩ := GI
  obtain ⟨_, _, G__law_is_name, m__law_is_name, k__law_is_name, b__law_is_name⟩ := GN
  obtain ⟨_, _, G__law_look_fits, m__law_look_fits, k__law_look_fits, b__law_look_fits⟩ := GF
  have sc := scFit
  refine F.ok sc (fun vs H Q E h => ?_) (fun cdv A outer s H vs Q E hr h => ?_)
  · obtain ⟨x, d, rfl, _⟩ := h
    rfl
  obtain ⟨x, d, rfl, hd, ok, q⟩ := h
  refine ⟨_, (pss_cons (ps_if (PW.pt (pw_or (pt_cmpR op_eq (pv 1) pe_int (nomark _)) (pw_or1 (pt_val (pe_call G__law_is_number (hr.mono (by omega)) (by rfl) m__law_is_number k__law_is_number b__law_is_number .nil pass0 (pa_cons (pv 0) pa_nil)))))) (pss_one (ps_ret (pe_and (pe_cmpR op_gt (pv 1) pe_int (nomark _)) (pe_one (pe_cmpR op_le (pe_callB call_abs (by rfl) m_abs (by decide +kernel) (pa_cons (pv 0) pa_nil)) (pe_op op_pow pe_int pe_int) (nomark _)))))) pss_nil)
      (pss_cons (ps_if (PW.pt (pw_or (pt_not (pt_val (pe_callB call_isi (by rfl) m_isinstance (by decide +kernel) (pa_cons (pv 0) (pa_cons (pe_bltn (v := .ty "tuple") (by rfl) m_tuple (by decide +kernel) rfl) pa_nil))))) (pw_or (pt_cmpR (op_eqD hr.units) (pv 0) (pe_tup pa_nil) (nomark _)) (pw_or1 (pt_not (pt_val (pe_callB call_isi (by rfl) m_isinstance (by decide +kernel) (pa_cons (pe_ix ix_tup (pv 0) pe_int (fun _ _ => rfl)) (pa_cons (pe_bltn (v := .ty "str") (by rfl) m_str (by decide +kernel) rfl) pa_nil))))))))) (pss_one (ps_ret pe_bl)) pss_nil)
      (pss_cons (ps_par (i := 2) (j := 3) (by rfl) sc.nd rfl rfl (by decide) rfl rfl (pa_cons (pe_ix ix_tup (pv 0) pe_int (fun _ _ => rfl)) (pa_cons (pe_slice sl_tup (pv 0) (po_some pe_int) po_none) pa_nil)) (by rfl))
      (pss_cons (ps_if (pt_cmpR op_in_seq (pv 2) (pe_tup (pa_cons pe_str (pa_cons pe_str (pa_cons pe_str (pa_cons pe_str pa_nil))))) (by rfl)) (pss_one (ps_ret (pe_cmpR (op_eqD hr.units) (pv 3) (pe_tup pa_nil) (nomark _)))) pss_nil)
      (pss_cons (ps_if (pt_cmpR op_in_seq (pv 2) (pe_tup (pa_cons pe_str (pa_cons pe_str pa_nil))) (by rfl)) (pss_one (ps_ret (pe_and (pe_cmpR op_eq (pe_callB call_len_seq (by rfl) m_len (by decide +kernel) (pa_cons (pv 3) pa_nil)) pe_int (nomark _)) (pe_one (pe_call G__law_is_name (hr.mono (by omega)) (by rfl) m__law_is_name k__law_is_name b__law_is_name .nil pass0 (pa_cons (pe_ix ix_tup (pv 3) pe_int (fun _ _ => rfl)) pa_nil)))))) pss_nil)
      (pss_cons (ps_if (pt_cmpR op_eq (pv 2) pe_str (nomark _)) (pss_one (ps_ret (pe_and (pe_cmpR op_eq (pe_callB call_len_seq (by rfl) m_len (by decide +kernel) (pa_cons (pv 3) pa_nil)) pe_int (nomark _)) (pe_and (pe_call G__law_is_name (hr.mono (by omega)) (by rfl) m__law_is_name k__law_is_name b__law_is_name .nil pass0 (pa_cons (pe_ix ix_tup (pv 3) pe_int (fun _ _ => rfl)) pa_nil)) (pe_one (pe_call G__law_look_fits (hr.mono (by omega)) (by rfl) m__law_look_fits k__law_look_fits b__law_look_fits .nil pass0 (pa_cons (pe_ix ix_tup (pv 3) pe_int (fun _ _ => rfl)) (pa_cons (pe_op op_sub (pv 1) pe_int) pa_nil)))))))) pss_nil)
      (pss_cons (ps_if (PW.pt (pw_or (pt_cmpR op_notIn_seq (pv 2) (pe_tup (pa_cons pe_str (pa_cons pe_str (pa_cons pe_str (pa_cons pe_str (pa_cons pe_str pa_nil)))))) (by rfl)) (pw_or1 (pt_cmpR op_ne (pe_callB call_len_seq (by rfl) m_len (by decide +kernel) (pa_cons (pv 3) pa_nil)) pe_int (nomark _))))) (pss_one (ps_ret pe_bl)) pss_nil)
      (pss_one (ps_ret (pe_and (pe_call G__law_look_fits (hr.mono (by omega)) (by rfl) m__law_look_fits k__law_look_fits b__law_look_fits .nil pass0 (pa_cons (pe_ix ix_tup (pv 3) pe_int (fun _ _ => rfl)) (pa_cons (pe_op op_sub (pv 1) pe_int) pa_nil))) (pe_one (pe_call G__law_look_fits (hr.mono (by omega)) (by rfl) m__law_look_fits k__law_look_fits b__law_look_fits .nil pass0 (pa_cons (pe_ix ix_tup (pv 3) pe_int (fun _ _ => rfl)) (pa_cons (pe_op op_sub (pv 1) pe_int) pa_nil)))))))))))))), ?_⟩
  refine ⟨_, rfl, rfl, _, rfl, ?_⟩
  rw [decide_eq_false (show ¬ V.int ((n + 1 : Nat) : Int) = V.int 0 from fun z => by have := V.int.inj z; omega)]
  refine iteF ⟨_, rfl, x, d, rfl, hd, trivial, fun H1 s1 => ⟨_, rfl, ?_⟩⟩
  replace hd := dp_same s1 _ _ hd
  have q1 := q H1 s1
  have z0 : 0 ≤ sizeLine := by decide
  cases d with
  | int i =>
    cases hd
    refine iteT ⟨_, rfl, _, _, rfl, rfl, _, rfl, ?_⟩
    rw [decide_eq_true (show (0 : Int) < ((n + 1 : Nat) : Int) by omega)]
    exact iteT ⟨_, rfl, i, rfl, 10, 6, rfl, rfl, ⟨by decide, by decide, by decide⟩, _, _, rfl, rfl, q1⟩
  | tuple ds =>
    have okl := ok.len
    cases hd with | @tup a xs _ ha ax =>
    refine iteF ⟨_, rfl, _, _, _, _, _, rfl, .ty _, ty_tup ha, kit_ty (kT (.tuple ds)), _, rfl, iteF ?_⟩
    refine ⟨_, rfl, z0, fun t0 n0 => ?_⟩
    have sp0 := same_upd (o := .tup []) n0
    replace ha := seqT sp0 ha
    replace ax := dpAll_same sp0 _ _ ax
    refine ⟨.tuple ds, .tuple [], .tup ha ax, .tup (SqT.of upd_same) .nil, ok.shaped, by decide, _, rfl, ?_⟩
    cases ax with
    | nil => exact iteT (iteT (q _ (s1.trans sp0)))
    | @cons v vs d0 r hv hvs =>
    refine iteF ⟨_, rfl, a, _, 0, v, rfl, rfl, ha, atI_nat (j := 0) rfl, _, _, _, _, _, rfl, .ty _, ty_of hv, kit_ty (kS d0), _, rfl, ?_⟩
    cases d0 with
    | int i => exact iteT (q _ (s1.trans sp0))
    | bool i => exact iteT (q _ (s1.trans sp0))
    | none => exact iteT (q _ (s1.trans sp0))
    | list _ => exact iteT (q _ (s1.trans sp0))
    | tuple _ => exact iteT (q _ (s1.trans sp0))
    | dict _ => cases hv
    | str z =>
    cases hv
    rw [List.length_cons] at okl
    refine iteF ?_
    refine ⟨_, rfl, a, _, 0, _, rfl, rfl, ha, atI_nat (j := 0) rfl, _, rfl, 1, rfl, a, _, rfl, ha, fun z => ?_, fun e ne => ?_⟩
    · have := z.1
      rw [show HT.sIx (V.str _ :: vs).length 0 (some 1) = min 1 (V.str _ :: vs).length from HT.sIx_nat .., List.length_cons] at this
      omega
    rw [cut_tail]
    have se := same_upd (o := .tup vs) ne
    replace hvs := dpAll_same se _ _ hvs
    have he : SqT K (upd (upd H1 t0 (.tup [])) e (.tup vs)) e vs := SqT.of upd_same
    have okr : ∀ d ∈ r, OkA d := fun d hd => ok.kid (List.mem_cons_of_mem _ hd)
    have okT : SeqAt.shaped (.tuple r) = true := by
      obtain ⟨m, hm, h⟩ := ok
      cases m with
      | zero => exact h.elim
      | succ m => exact OkA.shaped ⟨m + 1, hm, Nat.le_trans (Nat.le_succ _) h.1, fun d hd => h.2 d (List.mem_cons_of_mem _ hd)⟩
    replace q : ∀ H', Same (upd (upd H1 t0 (.tup [])) e (.tup vs)) H' → Q (.bl (fitsP (fits n) z r)) H' := fun H' s' => q H' (s1.trans (sp0.trans (se.trans s')))
    generalize upd (upd H1 t0 (.tup [])) e (.tup vs) = H2 at hvs he q ⊢
    clear sp0 se ha
    refine ⟨_, _, rfl, _, rfl, by show 4 ≤ sizeLine; decide, fun t nt => ⟨t, wSpot, rfl, .inr (SqT.of upd_same), rfl, by decide, _, rfl, ite2 (fun c => ?_) (fun c => ?_)⟩⟩
    · have c : inV (.str z) wSpot = true := c
      have sn := same_upd (o := .tup wSpot) nt
      refine ⟨_, rfl, z0, fun u nu => ?_⟩
      have su := same_upd (o := .tup []) nu
      refine ⟨.tuple r, .tuple [], .tup (seqT (sn.trans su) he) (dpAll_same (sn.trans su) _ _ hvs), .tup (SqT.of upd_same) .nil, okT, by decide, ?_⟩
      have h := q _ (sn.trans su)
      unfold fitsP at h
      rw [if_pos c] at h
      cases r <;> exact h
    have c1 : inV (.str z) wSpot = false := eq_false_of_ne_true c
    have sn := same_upd (o := .tup wSpot) nt
    replace he := seqT sn he
    replace hvs := dpAll_same sn _ _ hvs
    replace q : ∀ H', Same (upd H2 t (.tup wSpot)) H' → Q (.bl (fitsP (fits n) z r)) H' := fun H' s' => q H' (sn.trans s')
    generalize upd H2 t (.tup wSpot) = H3 at hvs he q ⊢
    clear sn c
    refine ⟨_, rfl, by show 2 ≤ sizeLine; decide, fun t nt => ⟨t, wName, rfl, .inr (SqT.of upd_same), rfl, by decide, _, rfl, ite2 (fun c => ?_) (fun c => ?_)⟩⟩
    · have c : inV (.str z) wName = true := c
      have sn := same_upd (o := .tup wName) nt
      have qq := fun H' s' => q H' (sn.trans s')
      unfold fitsP at qq
      rw [c1, c] at qq
      replace he := seqT sn he
      replace hvs := dpAll_same sn _ _ hvs
      refine ⟨_, rfl, e, _, rfl, .inr he, rfl, _, rfl, ?_⟩
      cases hvs with
      | nil => exact iteF (qq _ (Same.refl _))
      | @cons v1 vs1 d1 r1 hv1 hvs1 =>
      cases hvs1 with
      | nil =>
        refine iteT ⟨_, rfl, e, _, 0, _, rfl, rfl, he, rfl, v1, d1, rfl, hv1, (okr _ (List.mem_cons_self ..)).tx, fun H' s' => qq H' s'⟩
      | @cons v2 vs2 d2 r2 hv2 hvs2 =>
        rw [decide_eq_false (show ¬ V.int ((v1 :: v2 :: vs2).length : Nat) = V.int 1 from fun z => by have := V.int.inj z; rw [List.length_cons, List.length_cons] at this; omega)]
        exact iteF (qq _ (Same.refl _))
    have c2 : inV (.str z) wName = false := eq_false_of_ne_true c
    have sn := same_upd (o := .tup wName) nt
    replace he := seqT sn he
    replace hvs := dpAll_same sn _ _ hvs
    replace q : ∀ H', Same (upd H3 t (.tup wName)) H' → Q (.bl (fitsP (fits n) z r)) H' := fun H' s' => q H' (sn.trans s')
    generalize upd H3 t (.tup wName) = H4 at hvs he q ⊢
    clear sn c
    have e1 : ((n + 1 : Nat) : Int) - 1 = n := by omega
    refine ⟨_, rfl, rfl, _, rfl, ?_⟩
    rw [eq_str]
    refine ite2 (fun c => ?_) (fun c => ?_)
    · have c := of_decide_eq_true c
      unfold fitsP at q
      rw [c1, c2, if_neg Bool.false_ne_true, if_neg Bool.false_ne_true, if_pos c] at q
      refine ⟨_, rfl, e, _, rfl, .inr he, rfl, _, rfl, ?_⟩
      cases hvs with
      | nil => exact iteF (q _ (Same.refl _))
      | @cons v1 vs1 d1 r1 hv1 hvs1 =>
      cases hvs1 with
      | nil => exact iteF (q _ (Same.refl _))
      | @cons v2 vs2 d2 r2 hv2 hvs2 =>
      cases hvs2 with
      | nil =>
        refine iteT ⟨_, rfl, e, _, 0, _, rfl, rfl, he, rfl, v1, d1, rfl, hv1, (okr _ (List.mem_cons_self ..)).tx, fun H5 s5 => ⟨_, rfl, ?_⟩⟩
        have h5 := fun H' s' => q H' (s5.trans s')
        replace h5 : ∀ H', Same H5 H' → Q (.bl (isNm d1 && fits n d2)) H' := h5
        cases hn : isNm d1 with
        | false =>
          rw [hn] at h5
          exact iteF (h5 _ (Same.refl _))
        | true =>
          rw [hn] at h5
          exact iteT ⟨_, rfl, e, _, 1, _, rfl, rfl, seqT s5 he, rfl, _, rfl, _, _, rfl, rfl, v2, d2, congrArg (fun i => [v2, V.int i]) e1, dp_same s5 _ _ hv2, okr _ (List.mem_cons_of_mem _ (List.mem_cons_self ..)), h5⟩
      | @cons v3 vs3 d3 r3 hv3 hvs3 =>
        rw [decide_eq_false (show ¬ V.int ((v1 :: v2 :: v3 :: vs3).length : Nat) = V.int 2 from fun z => by have := V.int.inj z; rw [List.length_cons, List.length_cons, List.length_cons] at this; omega)]
        exact iteF (q _ (Same.refl _))
    have c3 : ¬ z = "item" := fun h => c (decide_eq_true h)
    unfold fitsP at q
    rw [c1, c2, if_neg Bool.false_ne_true, if_neg Bool.false_ne_true, if_neg c3] at q
    refine ⟨_, rfl, by show 5 ≤ sizeLine; decide, fun t nt => ⟨t, wBin, rfl, .inr (SqT.of upd_same), rfl, by decide, _, rfl, ?_⟩⟩
    have sn := same_upd (o := .tup wBin) nt
    replace he := seqT sn he
    replace hvs := dpAll_same sn _ _ hvs
    replace q := fun H' s' => q H' (sn.trans s')
    show if (!inV (.str z) wBin) = true then _ else _
    cases c4 : inV (.str z) wBin with
    | false =>
      rw [c4] at q
      exact iteT (iteT (q _ (Same.refl _)))
    | true =>
    rw [c4] at q
    refine iteF ⟨_, rfl, e, _, rfl, .inr he, rfl, _, rfl, ?_⟩
    cases hvs with
    | nil => exact iteT (q _ (Same.refl _))
    | @cons v1 vs1 d1 r1 hv1 hvs1 =>
    cases hvs1 with
    | nil => exact iteT (q _ (Same.refl _))
    | @cons v2 vs2 d2 r2 hv2 hvs2 =>
    cases hvs2 with
    | nil =>
      refine iteF ⟨_, rfl, e, _, 0, _, rfl, rfl, he, rfl, _, rfl, _, _, rfl, rfl, v1, d1, congrArg (fun i => [v1, V.int i]) e1, hv1, okr _ (List.mem_cons_self ..), fun H5 s5 => ⟨_, rfl, ?_⟩⟩
      have h5 := fun H' s' => q H' (s5.trans s')
      replace h5 : ∀ H', Same H5 H' → Q (.bl (fits n d1 && fits n d2)) H' := h5
      cases hn : fits n d1 with
      | false =>
        rw [hn] at h5
        exact iteF (h5 _ (Same.refl _))
      | true =>
        rw [hn] at h5
        exact iteT ⟨_, rfl, e, _, 1, _, rfl, rfl, seqT s5 he, rfl, _, rfl, _, _, rfl, rfl, v2, d2, congrArg (fun i => [v2, V.int i]) e1, dp_same s5 _ _ hv2, okr _ (List.mem_cons_of_mem _ (List.mem_cons_self ..)), h5⟩
    | @cons v3 vs3 d3 r3 hv3 hvs3 =>
      rw [decide_eq_false (show ¬ V.int ((v1 :: v2 :: v3 :: vs3).length : Nat) = V.int 2 from fun z => by have := V.int.inj z; rw [List.length_cons, List.length_cons, List.length_cons] at this; omega)]
      exact iteT (q _ (Same.refl _))
  | bool i => exact iteF ⟨_, rfl, _, _, _, _, _, rfl, .ty _, ty_of hd, kit_ty (kT _), _, rfl, iteT (iteT q1)⟩
  | none => exact iteF ⟨_, rfl, _, _, _, _, _, rfl, .ty _, ty_of hd, kit_ty (kT _), _, rfl, iteT (iteT q1)⟩
  | list _ => exact iteF ⟨_, rfl, _, _, _, _, _, rfl, .ty _, ty_of hd, kit_ty (kT _), _, rfl, iteT (iteT q1)⟩
  | str _ => exact iteF ⟨_, rfl, _, _, _, _, _, rfl, .ty _, ty_of hd, kit_ty (kT _), _, rfl, iteT (iteT q1)⟩
  | dict _ => cases hd
end
end Fd

set_option Elab.async false
set_option linter.all false
set_option maxRecDepth 100000
set_option maxHeartbeats 2000000
namespace Fd
open PySem PySem.Spec PyProof.Rows L2 RZ
section
variable {P : Program} {w : World} {K : PySem.W.Frag} {mg : Str → Option Value} {base : Heap} {f f' : Addr} {fd fd' : FuncData}
theorem ok_fit0 {k : Nat} (F : Fun K "_law_look_fits" "_law_look_fits" sFit f fd) (GI : FnG P w K mg base CX0 k "_law_is_number" ["_law_thing"] (spB K (fun _ => True) isNum)) (GN : FnG P w K mg base CX0 k "_law_is_name" ["_law_thing"] (spB K TxOk isNm))
    (GF : FnG P w K mg base CX0 k "_law_look_fits" ["_law_thing", "_law_deep"] (fun _ _ _ _ => False))
    (m_isinstance : mg "isinstance" = none) (m_tuple : mg "tuple" = none) (m_str : mg "str" = none) (m_len : mg "len" = none) (m_abs : mg "abs" = none) :
    FnOk P w K mg base CX0 (k + 1) f fd ["_law_thing", "_law_deep"] (spFit K 0) := by
  obtain ⟨_, _, G__law_is_number, m__law_is_number, k__law_is_number, b__law_is_number⟩ := GI
  obtain ⟨_, _, G__law_is_name, m__law_is_name, k__law_is_name, b__law_is_name⟩ := GN
  obtain ⟨_, _, G__law_look_fits, m__law_look_fits, k__law_look_fits, b__law_look_fits⟩ := GF
  have sc := scFit
  refine F.ok sc (fun vs H Q E h => ?_) (fun cdv A outer s H vs Q E hr h => ?_)
  · obtain ⟨x, d, rfl, _⟩ := h
    rfl
  obtain ⟨x, d, rfl, hd, ok, q⟩ := h
  refine ⟨_, (pss_cons (ps_if (PW.pt (pw_or (pt_cmpR op_eq (pv 1) pe_int (nomark _)) (pw_or1 (pt_val (pe_call G__law_is_number (hr.mono (by omega)) (by rfl) m__law_is_number k__law_is_number b__law_is_number .nil pass0 (pa_cons (pv 0) pa_nil)))))) (pss_one (ps_ret (pe_and (pe_cmpR op_gt (pv 1) pe_int (nomark _)) (pe_one (pe_cmpR op_le (pe_callB call_abs (by rfl) m_abs (by decide +kernel) (pa_cons (pv 0) pa_nil)) (pe_op op_pow pe_int pe_int) (nomark _)))))) pss_nil)
      (pss_cons (ps_if (PW.pt (pw_or (pt_not (pt_val (pe_callB call_isi (by rfl) m_isinstance (by decide +kernel) (pa_cons (pv 0) (pa_cons (pe_bltn (v := .ty "tuple") (by rfl) m_tuple (by decide +kernel) rfl) pa_nil))))) (pw_or (pt_cmpR (op_eqD hr.units) (pv 0) (pe_tup pa_nil) (nomark _)) (pw_or1 (pt_not (pt_val (pe_callB call_isi (by rfl) m_isinstance (by decide +kernel) (pa_cons (pe_ix ix_tup (pv 0) pe_int (fun _ _ => rfl)) (pa_cons (pe_bltn (v := .ty "str") (by rfl) m_str (by decide +kernel) rfl) pa_nil))))))))) (pss_one (ps_ret pe_bl)) pss_nil)
      (pss_cons (ps_par (i := 2) (j := 3) (by rfl) sc.nd rfl rfl (by decide) rfl rfl (pa_cons (pe_ix ix_tup (pv 0) pe_int (fun _ _ => rfl)) (pa_cons (pe_slice sl_tup (pv 0) (po_some pe_int) po_none) pa_nil)) (by rfl))
      (pss_cons (ps_if (pt_cmpR op_in_seq (pv 2) (pe_tup (pa_cons pe_str (pa_cons pe_str (pa_cons pe_str (pa_cons pe_str pa_nil))))) (by rfl)) (pss_one (ps_ret (pe_cmpR (op_eqD hr.units) (pv 3) (pe_tup pa_nil) (nomark _)))) pss_nil)
      (pss_cons (ps_if (pt_cmpR op_in_seq (pv 2) (pe_tup (pa_cons pe_str (pa_cons pe_str pa_nil))) (by rfl)) (pss_one (ps_ret (pe_and (pe_cmpR op_eq (pe_callB call_len_seq (by rfl) m_len (by decide +kernel) (pa_cons (pv 3) pa_nil)) pe_int (nomark _)) (pe_one (pe_call G__law_is_name (hr.mono (by omega)) (by rfl) m__law_is_name k__law_is_name b__law_is_name .nil pass0 (pa_cons (pe_ix ix_tup (pv 3) pe_int (fun _ _ => rfl)) pa_nil)))))) pss_nil)
      (pss_cons (ps_if (pt_cmpR op_eq (pv 2) pe_str (nomark _)) (pss_one (ps_ret (pe_and (pe_cmpR op_eq (pe_callB call_len_seq (by rfl) m_len (by decide +kernel) (pa_cons (pv 3) pa_nil)) pe_int (nomark _)) (pe_and (pe_call G__law_is_name (hr.mono (by omega)) (by rfl) m__law_is_name k__law_is_name b__law_is_name .nil pass0 (pa_cons (pe_ix ix_tup (pv 3) pe_int (fun _ _ => rfl)) pa_nil)) (pe_one (pe_call G__law_look_fits (hr.mono (by omega)) (by rfl) m__law_look_fits k__law_look_fits b__law_look_fits .nil pass0 (pa_cons (pe_ix ix_tup (pv 3) pe_int (fun _ _ => rfl)) (pa_cons (pe_op op_sub (pv 1) pe_int) pa_nil)))))))) pss_nil)
      (pss_cons (ps_if (PW.pt (pw_or (pt_cmpR op_notIn_seq (pv 2) (pe_tup (pa_cons pe_str (pa_cons pe_str (pa_cons pe_str (pa_cons pe_str (pa_cons pe_str pa_nil)))))) (by rfl)) (pw_or1 (pt_cmpR op_ne (pe_callB call_len_seq (by rfl) m_len (by decide +kernel) (pa_cons (pv 3) pa_nil)) pe_int (nomark _))))) (pss_one (ps_ret pe_bl)) pss_nil)
      (pss_one (ps_ret (pe_and (pe_call G__law_look_fits (hr.mono (by omega)) (by rfl) m__law_look_fits k__law_look_fits b__law_look_fits .nil pass0 (pa_cons (pe_ix ix_tup (pv 3) pe_int (fun _ _ => rfl)) (pa_cons (pe_op op_sub (pv 1) pe_int) pa_nil))) (pe_one (pe_call G__law_look_fits (hr.mono (by omega)) (by rfl) m__law_look_fits k__law_look_fits b__law_look_fits .nil pass0 (pa_cons (pe_ix ix_tup (pv 3) pe_int (fun _ _ => rfl)) (pa_cons (pe_op op_sub (pv 1) pe_int) pa_nil)))))))))))))), ?_⟩
  exact ⟨_, rfl, rfl, _, rfl, iteT (iteT ⟨_, rfl, _, _, rfl, rfl, _, rfl, iteF (q H (Same.refl _))⟩)⟩
theorem ok_fits (D : Df K mg "_law_look_fits" sFit ["_law_thing", "_law_deep"] f fd) (GI : FnG P w K mg base CX0 3 "_law_is_number" ["_law_thing"] (spB K (fun _ => True) isNum)) (GN : FnG P w K mg base CX0 3 "_law_is_name" ["_law_thing"] (spB K TxOk isNm))
    (m_isinstance : mg "isinstance" = none) (m_tuple : mg "tuple" = none) (m_str : mg "str" = none) (m_len : mg "len" = none) (m_abs : mg "abs" = none) : ∀ n, FnG P w K mg base CX0 (n + 4) "_law_look_fits" ["_law_thing", "_law_deep"] (spFit K n)
  | 0 => D.g (ok_fit0 (k := 3) D.F GI GN ⟨f, fd, ⟨fun _ _ _ _ h => h.elim, fun _ _ _ _ _ _ _ _ _ _ _ _ _ h => h.elim⟩, D.m, D.F.kp, D.b⟩ m_isinstance m_tuple m_str m_len m_abs)
  | n + 1 => D.g (ok_fit (k := n + 4) D.F (GI.mono (by omega)) (GN.mono (by omega)) (ok_fits D GI GN m_isinstance m_tuple m_str m_len m_abs n) m_isinstance m_tuple m_str m_len m_abs)
end
/-! ### the two agree -/
theorem part_name (n : Nat) (d : PyData) : isPart n "name" d = isNm d := by
  cases n <;> (unfold isPart; rw [show isKd "name" = true by decide +kernel]; rfl)
theorem part_list (n : Nat) (d : PyData) : isPart n "list" d = isNm d := by
  cases n <;> (unfold isPart; rw [show isKd "list" = true by decide +kernel]; rfl)
theorem kd_look : isKd "look" = false := by decide +kernel
theorem gP_none {z : Str} (h : ∀ p ∈ pkL, Fw.key p ≠ (["look", z] : List Str)) : gP ["look", z] = none := by
  unfold gP
  rw [List.find?_eq_none.mpr fun p hp => by rw [decide_eq_false (h p hp)]; exact Bool.false_ne_true]
  rfl
theorem two_all {f : PyData → Bool} {g : Str → PyData → Bool} {k1 k2 : Str} {a b : PyData → Bool} (h1 : ∀ d, g k1 d = a d) (h2 : ∀ d, g k2 d = b d) (r : List PyData) :
    (decide (r.length = [k1, k2].length) && (r.zip [k1, k2]).all fun p => g p.2 p.1) = m2 a b r := by
  match r with
  | [] => rfl
  | [_] => rfl
  | [p, q] =>
    show (true && (g k1 p && (g k2 q && true))) = _
    rw [h1, h2, Bool.and_true, Bool.true_and]
    rfl
  | _ :: _ :: _ :: r =>
    show (decide (r.length + 1 + 1 + 1 = 2) && _) = false
    rw [decide_eq_false (by omega)]
    rfl
theorem one_all {g : Str → PyData → Bool} {k1 : Str} {a : PyData → Bool} (h1 : ∀ d, g k1 d = a d) (r : List PyData) :
    (decide (r.length = [k1].length) && (r.zip [k1]).all fun p => g p.2 p.1) = m1 a r := by
  match r with
  | [] => rfl
  | [p] =>
    show (true && (g k1 p && true)) = _
    rw [h1, Bool.and_true, Bool.true_and]
    rfl
  | _ :: _ :: r =>
    show (decide (r.length + 1 + 1 = 1) && _) = false
    rw [decide_eq_false (by omega)]
    rfl
theorem nil_all {g : Str → PyData → Bool} (r : List PyData) : (decide (r.length = ([] : List Str).length) && (r.zip ([] : List Str)).all fun p => g p.2 p.1) = r.isEmpty := by
  cases r with
  | nil => rfl
  | cons _ r => show (decide (r.length + 1 = 0) && _) = false; rw [decide_eq_false (by omega)]; rfl
theorem has_at {f : Str → PyData → Bool} {z : Str} {r : List PyData} {ks : List Str} (h : gP ["look", z] = some ks) : hasP f "look" (.tuple (.str z :: r)) = (decide (r.length = ks.length) && (r.zip ks).all fun p => f p.2 p.1) := by
  unfold hasP
  dsimp only
  rw [h]
theorem has_fits {f : Str → PyData → Bool} {g : PyData → Bool} (hn : ∀ d, f "name" d = isNm d) (hl : ∀ d, f "list" d = isNm d) (hk : ∀ d, f "look" d = g d) (z : Str) (r : List PyData) : hasP f "look" (.tuple (.str z :: r)) = fitsP g z r := by
  by_cases e1 : z = "x"
  · subst e1; rw [has_at (ks := []) (by decide +kernel), nil_all]; unfold fitsP; rw [if_pos (by decide +kernel)]
  by_cases e2 : z = "y"
  · subst e2; rw [has_at (ks := []) (by decide +kernel), nil_all]; unfold fitsP; rw [if_pos (by decide +kernel)]
  by_cases e3 : z = "way"
  · subst e3; rw [has_at (ks := []) (by decide +kernel), nil_all]; unfold fitsP; rw [if_pos (by decide +kernel)]
  by_cases e4 : z = "number"
  · subst e4; rw [has_at (ks := []) (by decide +kernel), nil_all]; unfold fitsP; rw [if_pos (by decide +kernel)]
  by_cases e5 : z = "name"
  · subst e5; rw [has_at (ks := ["name"]) (by decide +kernel), one_all hn]; unfold fitsP; rw [if_neg (by decide +kernel), if_pos (by decide +kernel)]
  by_cases e6 : z = "many"
  · subst e6; rw [has_at (ks := ["list"]) (by decide +kernel), one_all hl]; unfold fitsP; rw [if_neg (by decide +kernel), if_pos (by decide +kernel)]
  by_cases e7 : z = "item"
  · subst e7; rw [has_at (ks := ["list", "look"]) (by decide +kernel), two_all (f := g) hl hk]; unfold fitsP; rw [if_neg (by decide +kernel), if_neg (by decide +kernel), if_pos rfl]
  have two : ∀ y : Str, gP ["look", y] = some (["look", "look"] : List Str) → inV (.str y) wSpot = false → inV (.str y) wName = false → ¬ y = "item" → inV (.str y) wBin = true → hasP f "look" (.tuple (.str y :: r)) = fitsP g y r := fun y h1 h2 h3 h4 h5 => by
    rw [has_at h1, two_all (f := g) hk hk]
    unfold fitsP
    rw [h2, h3, h5, if_neg Bool.false_ne_true, if_neg Bool.false_ne_true, if_neg h4, if_pos rfl]
  by_cases e8 : z = "plus"
  · subst e8; exact two _ (by decide +kernel) (by decide +kernel) (by decide +kernel) (by decide +kernel) (by decide +kernel)
  by_cases e9 : z = "minus"
  · subst e9; exact two _ (by decide +kernel) (by decide +kernel) (by decide +kernel) (by decide +kernel) (by decide +kernel)
  by_cases e10 : z = "by"
  · subst e10; exact two _ (by decide +kernel) (by decide +kernel) (by decide +kernel) (by decide +kernel) (by decide +kernel)
  by_cases e11 : z = "over"
  · subst e11; exact two _ (by decide +kernel) (by decide +kernel) (by decide +kernel) (by decide +kernel) (by decide +kernel)
  by_cases e12 : z = "rest"
  · subst e12; exact two _ (by decide +kernel) (by decide +kernel) (by decide +kernel) (by decide +kernel) (by decide +kernel)
  have no : ∀ (l : List Str), (∀ y ∈ l, ¬ z = y) → inV (.str z) (l.map V.str) = false := fun l h => by
    unfold inV
    rw [List.any_map]
    refine List.any_eq_false.mpr fun y hy => ?_
    show ¬ eqV (.str y) (.str z) = true
    intro c
    have c : decide (y = z) = true := c
    exact h y hy (of_decide_eq_true c).symm
  have g0 : gP ["look", z] = none := gP_none fun p hp e => by
    unfold pkL at hp
    simp only [List.mem_cons, List.not_mem_nil, or_false] at hp
    have e' := List.cons.inj e
    have ez := (List.cons.inj e'.2).1
    have el := e'.1
    rcases hp with rfl | rfl | rfl | rfl | rfl | rfl | rfl | rfl | rfl | rfl | rfl | rfl | rfl | rfl | rfl | rfl | rfl | rfl
    all_goals first | exact absurd ez.symm (by assumption) | exact absurd el (by decide +kernel)
  rw [show hasP f "look" (.tuple (.str z :: r)) = false by unfold hasP; dsimp only; rw [g0]]
  unfold fitsP
  rw [if_neg (by rw [show wSpot = (["x", "y", "way", "number"] : List Str).map V.str from rfl, no _ (by simp [e1, e2, e3, e4])]; exact Bool.false_ne_true),
    if_neg (by rw [show wName = (["name", "many"] : List Str).map V.str from rfl, no _ (by simp [e5, e6])]; exact Bool.false_ne_true), if_neg e7,
    if_neg (by rw [show wBin = (["plus", "minus", "by", "over", "rest"] : List Str).map V.str from rfl, no _ (by simp [e8, e9, e10, e11, e12])]; exact Bool.false_ne_true)]
theorem inB_abs (i : Int) : inB i = decide ((if i < 0 then -i else i) ≤ (10 : Int) ^ (6 : Int).toNat) := by
  have e : (10 : Int) ^ (6 : Int).toNat = 1000000 := by decide
  rw [e]
  unfold inB
  by_cases h1 : -1000000 ≤ i
  · by_cases h2 : i ≤ 1000000
    · rw [decide_eq_true h1, decide_eq_true h2, decide_eq_true (by split <;> omega)]; rfl
    · rw [decide_eq_false h2, Bool.and_false, decide_eq_false (by split <;> omega)]
  · rw [decide_eq_false h1, Bool.false_and, decide_eq_false (by split <;> omega)]
theorem part_fits : ∀ (n : Nat) (d : PyData), isPart n "look" d = fits n d
  | 0, d => by unfold isPart; rw [kd_look]; rfl
  | n + 1, d => by
    have e : isPart (n + 1) "look" d = (isVal d || hasP (isPart n) "look" d) := by
      show (if isKd "look" then _ else (decide (("look" : Str) = "look") && isVal d) || _) = _
      rw [kd_look, decide_eq_true rfl, Bool.true_and]
      rfl
    rw [e]
    have ih := has_fits (f := isPart n) (g := fits n) (part_name n) (part_list n) (part_fits n)
    match d with
    | .int i =>
      show (inB i || false) = _
      rw [Bool.or_false]
      exact inB_abs i
    | .tuple [] => rfl
    | .tuple (.str z :: r) =>
      show (false || hasP (isPart n) "look" (.tuple (.str z :: r))) = fitsP (fits n) z r
      rw [Bool.false_or, ih]
    | .tuple (.int _ :: _) => rfl
    | .tuple (.bool _ :: _) => rfl
    | .tuple (.none :: _) => rfl
    | .tuple (.list _ :: _) => rfl
    | .tuple (.tuple _ :: _) => rfl
    | .tuple (.dict _ :: _) => rfl
    | .bool _ => rfl
    | .none => rfl
    | .list _ => rfl
    | .str _ => rfl
    | .dict _ => rfl
end Fd

set_option Elab.async false
set_option linter.all false
set_option maxRecDepth 100000
set_option maxHeartbeats 2000000
namespace Fd
open PySem PySem.Spec PyProof.Rows L2 RZ
/-! ### what the law asks of a test -/
abbrev wLike : List V := [.str "like", .str "below"]
abbrev wBoth : List V := [.str "both", .str "any"]
def tfitsP (f g : PyData → Bool) (z : Str) (r : List PyData) : Bool :=
  if z = "meets" then m1 isNm r
  else if z = "not" then m1 f r
  else if inV (.str z) wLike then m2 g g r
  else if inV (.str z) wBoth then m2 f f r
  else false
def tfits : Nat → PyData → Bool
  | 0, _ => false
  | n + 1, d => match d with
    | .tuple (.str z :: r) => tfitsP (tfits n) (fits n) z r
    | _ => false
section
variable {P : Program} {w : World} {K : PySem.W.Frag} {mg : Str → Option Value} {base : Heap} {f f' : Addr} {fd fd' : FuncData}
abbrev sTFit : Stmt := top 27
theorem scTFit : FnScope ["_law_thing", "_law_deep", "_law_word", "_law_parts"] ["_law_thing", "_law_deep"] (defScope sTFit) := ⟨rfl, rfl, rfl, by decide +kernel, rfl, by decide +kernel, by decide +kernel⟩
def spTFit (K : PySem.W.Frag) (n : Nat) : Sp := fun vs H Q _ => ∃ (x : V) (d : PyData), vs = [x, .int n] ∧ Dp K H x d ∧ OkA d ∧ ∀ H', Same H H' → Q (.bl (tfits n d)) H'
theorem ok_tfit0 {k : Nat} (F : Fun K "_law_test_fits" "_law_test_fits" sTFit f fd) (GN : FnG P w K mg base CX0 k "_law_is_name" ["_law_thing"] (spB K TxOk isNm))
    (GL : FnG P w K mg base CX0 k "_law_look_fits" ["_law_thing", "_law_deep"] (spFit K 0)) (GF : FnG P w K mg base CX0 k "_law_test_fits" ["_law_thing", "_law_deep"] (fun _ _ _ _ => False))
    (m_isinstance : mg "isinstance" = none) (m_tuple : mg "tuple" = none) (m_str : mg "str" = none) (m_len : mg "len" = none) :
    FnOk P w K mg base CX0 (k + 1) f fd ["_law_thing", "_law_deep"] (spTFit K 0) := by
  obtain ⟨_, _, G__law_is_name, m__law_is_name, k__law_is_name, b__law_is_name⟩ := GN
  obtain ⟨_, _, G__law_look_fits, m__law_look_fits, k__law_look_fits, b__law_look_fits⟩ := GL
  obtain ⟨_, _, G__law_test_fits, m__law_test_fits, k__law_test_fits, b__law_test_fits⟩ := GF
  have sc := scTFit
  refine F.ok sc (fun vs H Q E h => ?_) (fun cdv A outer s H vs Q E hr h => ?_)
  · obtain ⟨x, d, rfl, _⟩ := h
    rfl
  obtain ⟨x, d, rfl, hd, ok, q⟩ := h
  refine ⟨_, (pss_cons (ps_if (PW.pt (pw_or (pt_cmpR op_eq (pv 1) pe_int (nomark _)) (pw_or (pt_not (pt_val (pe_callB call_isi (by rfl) m_isinstance (by decide +kernel) (pa_cons (pv 0) (pa_cons (pe_bltn (v := .ty "tuple") (by rfl) m_tuple (by decide +kernel) rfl) pa_nil))))) (pw_or (pt_cmpR (op_eqD hr.units) (pv 0) (pe_tup pa_nil) (nomark _)) (pw_or1 (pt_not (pt_val (pe_callB call_isi (by rfl) m_isinstance (by decide +kernel) (pa_cons (pe_ix ix_tup (pv 0) pe_int (fun _ _ => rfl)) (pa_cons (pe_bltn (v := .ty "str") (by rfl) m_str (by decide +kernel) rfl) pa_nil)))))))))) (pss_one (ps_ret pe_bl)) pss_nil)
      (pss_cons (ps_par (i := 2) (j := 3) (by rfl) sc.nd rfl rfl (by decide) rfl rfl (pa_cons (pe_ix ix_tup (pv 0) pe_int (fun _ _ => rfl)) (pa_cons (pe_slice sl_tup (pv 0) (po_some pe_int) po_none) pa_nil)) (by rfl))
      (pss_cons (ps_if (pt_cmpR op_eq (pv 2) pe_str (nomark _)) (pss_one (ps_ret (pe_and (pe_cmpR op_eq (pe_callB call_len_seq (by rfl) m_len (by decide +kernel) (pa_cons (pv 3) pa_nil)) pe_int (nomark _)) (pe_one (pe_call G__law_is_name (hr.mono (by omega)) (by rfl) m__law_is_name k__law_is_name b__law_is_name .nil pass0 (pa_cons (pe_ix ix_tup (pv 3) pe_int (fun _ _ => rfl)) pa_nil)))))) pss_nil)
      (pss_cons (ps_if (pt_cmpR op_eq (pv 2) pe_str (nomark _)) (pss_one (ps_ret (pe_and (pe_cmpR op_eq (pe_callB call_len_seq (by rfl) m_len (by decide +kernel) (pa_cons (pv 3) pa_nil)) pe_int (nomark _)) (pe_one (pe_call G__law_test_fits (hr.mono (by omega)) (by rfl) m__law_test_fits k__law_test_fits b__law_test_fits .nil pass0 (pa_cons (pe_ix ix_tup (pv 3) pe_int (fun _ _ => rfl)) (pa_cons (pe_op op_sub (pv 1) pe_int) pa_nil))))))) pss_nil)
      (pss_cons (ps_if (pt_cmpR op_in_seq (pv 2) (pe_tup (pa_cons pe_str (pa_cons pe_str pa_nil))) (by rfl)) (pss_one (ps_ret (pe_and (pe_cmpR op_eq (pe_callB call_len_seq (by rfl) m_len (by decide +kernel) (pa_cons (pv 3) pa_nil)) pe_int (nomark _)) (pe_and (pe_call G__law_look_fits (hr.mono (by omega)) (by rfl) m__law_look_fits k__law_look_fits b__law_look_fits .nil pass0 (pa_cons (pe_ix ix_tup (pv 3) pe_int (fun _ _ => rfl)) (pa_cons (pe_op op_sub (pv 1) pe_int) pa_nil))) (pe_one (pe_call G__law_look_fits (hr.mono (by omega)) (by rfl) m__law_look_fits k__law_look_fits b__law_look_fits .nil pass0 (pa_cons (pe_ix ix_tup (pv 3) pe_int (fun _ _ => rfl)) (pa_cons (pe_op op_sub (pv 1) pe_int) pa_nil)))))))) pss_nil)
      (pss_cons (ps_if (PW.pt (pw_or (pt_cmpR op_notIn_seq (pv 2) (pe_tup (pa_cons pe_str (pa_cons pe_str pa_nil))) (by rfl)) (pw_or1 (pt_cmpR op_ne (pe_callB call_len_seq (by rfl) m_len (by decide +kernel) (pa_cons (pv 3) pa_nil)) pe_int (nomark _))))) (pss_one (ps_ret pe_bl)) pss_nil)
      (pss_one (ps_ret (pe_and (pe_call G__law_test_fits (hr.mono (by omega)) (by rfl) m__law_test_fits k__law_test_fits b__law_test_fits .nil pass0 (pa_cons (pe_ix ix_tup (pv 3) pe_int (fun _ _ => rfl)) (pa_cons (pe_op op_sub (pv 1) pe_int) pa_nil))) (pe_one (pe_call G__law_test_fits (hr.mono (by omega)) (by rfl) m__law_test_fits k__law_test_fits b__law_test_fits .nil pass0 (pa_cons (pe_ix ix_tup (pv 3) pe_int (fun _ _ => rfl)) (pa_cons (pe_op op_sub (pv 1) pe_int) pa_nil))))))))))))), ?_⟩
  exact ⟨_, rfl, rfl, _, rfl, iteT (iteT (q H (Same.refl _)))⟩
theorem ok_tfit {k n : Nat} (F : Fun K "_law_test_fits" "_law_test_fits" sTFit f fd) (GN : FnG P w K mg base CX0 k "_law_is_name" ["_law_thing"] (spB K TxOk isNm))
    (GL : FnG P w K mg base CX0 k "_law_look_fits" ["_law_thing", "_law_deep"] (spFit K n)) (GF : FnG P w K mg base CX0 k "_law_test_fits" ["_law_thing", "_law_deep"] (spTFit K n))
    (m_isinstance : mg "isinstance" = none) (m_tuple : mg "tuple" = none) (m_str : mg "str" = none) (m_len : mg "len" = none) :
    FnOk P w K mg base CX0 (k + 1) f fd ["_law_thing", "_law_deep"] (spTFit K (n + 1)) := by
  obtain ⟨_, _, G__law_is_name, m__law_is_name, k__law_is_name, b__law_is_name⟩ := GN
  obtain ⟨_, _, G__law_look_fits, m__law_look_fits, k__law_look_fits, b__law_look_fits⟩ := GL
  obtain ⟨_, _, G__law_test_fits, m__law_test_fits, k__law_test_fits, b__law_test_fits⟩ := GF
  have sc := scTFit
  refine F.ok sc (fun vs H Q E h => ?_) (fun cdv A outer s H vs Q E hr h => ?_)
  · obtain ⟨x, d, rfl, _⟩ := h
    rfl
  obtain ⟨x, d, rfl, hd, ok, q⟩ := h
  refine ⟨_, (pss_cons (ps_if (PW.pt (pw_or (pt_cmpR op_eq (pv 1) pe_int (nomark _)) (pw_or (pt_not (pt_val (pe_callB call_isi (by rfl) m_isinstance (by decide +kernel) (pa_cons (pv 0) (pa_cons (pe_bltn (v := .ty "tuple") (by rfl) m_tuple (by decide +kernel) rfl) pa_nil))))) (pw_or (pt_cmpR (op_eqD hr.units) (pv 0) (pe_tup pa_nil) (nomark _)) (pw_or1 (pt_not (pt_val (pe_callB call_isi (by rfl) m_isinstance (by decide +kernel) (pa_cons (pe_ix ix_tup (pv 0) pe_int (fun _ _ => rfl)) (pa_cons (pe_bltn (v := .ty "str") (by rfl) m_str (by decide +kernel) rfl) pa_nil)))))))))) (pss_one (ps_ret pe_bl)) pss_nil)
      (pss_cons (ps_par (i := 2) (j := 3) (by rfl) sc.nd rfl rfl (by decide) rfl rfl (pa_cons (pe_ix ix_tup (pv 0) pe_int (fun _ _ => rfl)) (pa_cons (pe_slice sl_tup (pv 0) (po_some pe_int) po_none) pa_nil)) (by rfl))
      (pss_cons (ps_if (pt_cmpR op_eq (pv 2) pe_str (nomark _)) (pss_one (ps_ret (pe_and (pe_cmpR op_eq (pe_callB call_len_seq (by rfl) m_len (by decide +kernel) (pa_cons (pv 3) pa_nil)) pe_int (nomark _)) (pe_one (pe_call G__law_is_name (hr.mono (by omega)) (by rfl) m__law_is_name k__law_is_name b__law_is_name .nil pass0 (pa_cons (pe_ix ix_tup (pv 3) pe_int (fun _ _ => rfl)) pa_nil)))))) pss_nil)
      (pss_cons (ps_if (pt_cmpR op_eq (pv 2) pe_str (nomark _)) (pss_one (ps_ret (pe_and (pe_cmpR op_eq (pe_callB call_len_seq (by rfl) m_len (by decide +kernel) (pa_cons (pv 3) pa_nil)) pe_int (nomark _)) (pe_one (pe_call G__law_test_fits (hr.mono (by omega)) (by rfl) m__law_test_fits k__law_test_fits b__law_test_fits .nil pass0 (pa_cons (pe_ix ix_tup (pv 3) pe_int (fun _ _ => rfl)) (pa_cons (pe_op op_sub (pv 1) pe_int) pa_nil))))))) pss_nil)
      (pss_cons (ps_if (pt_cmpR op_in_seq (pv 2) (pe_tup (pa_cons pe_str (pa_cons pe_str pa_nil))) (by rfl)) (pss_one (ps_ret (pe_and (pe_cmpR op_eq (pe_callB call_len_seq (by rfl) m_len (by decide +kernel) (pa_cons (pv 3) pa_nil)) pe_int (nomark _)) (pe_and (pe_call G__law_look_fits (hr.mono (by omega)) (by rfl) m__law_look_fits k__law_look_fits b__law_look_fits .nil pass0 (pa_cons (pe_ix ix_tup (pv 3) pe_int (fun _ _ => rfl)) (pa_cons (pe_op op_sub (pv 1) pe_int) pa_nil))) (pe_one (pe_call G__law_look_fits (hr.mono (by omega)) (by rfl) m__law_look_fits k__law_look_fits b__law_look_fits .nil pass0 (pa_cons (pe_ix ix_tup (pv 3) pe_int (fun _ _ => rfl)) (pa_cons (pe_op op_sub (pv 1) pe_int) pa_nil)))))))) pss_nil)
      (pss_cons (ps_if (PW.pt (pw_or (pt_cmpR op_notIn_seq (pv 2) (pe_tup (pa_cons pe_str (pa_cons pe_str pa_nil))) (by rfl)) (pw_or1 (pt_cmpR op_ne (pe_callB call_len_seq (by rfl) m_len (by decide +kernel) (pa_cons (pv 3) pa_nil)) pe_int (nomark _))))) (pss_one (ps_ret pe_bl)) pss_nil)
      (pss_one (ps_ret (pe_and (pe_call G__law_test_fits (hr.mono (by omega)) (by rfl) m__law_test_fits k__law_test_fits b__law_test_fits .nil pass0 (pa_cons (pe_ix ix_tup (pv 3) pe_int (fun _ _ => rfl)) (pa_cons (pe_op op_sub (pv 1) pe_int) pa_nil))) (pe_one (pe_call G__law_test_fits (hr.mono (by omega)) (by rfl) m__law_test_fits k__law_test_fits b__law_test_fits .nil pass0 (pa_cons (pe_ix ix_tup (pv 3) pe_int (fun _ _ => rfl)) (pa_cons (pe_op op_sub (pv 1) pe_int) pa_nil))))))))))))), ?_⟩
  refine ⟨_, rfl, rfl, _, rfl, ?_⟩
  rw [decide_eq_false (show ¬ V.int ((n + 1 : Nat) : Int) = V.int 0 from fun z => by have := V.int.inj z; omega)]
  refine iteF ⟨_, rfl, _, _, _, _, _, rfl, .ty _, ty_of hd, kit_ty (kT d), _, rfl, ?_⟩
  have q1 := q H (Same.refl _)
  have z0 : 0 ≤ sizeLine := by decide
  have e1 : ((n + 1 : Nat) : Int) - 1 = n := by omega
  cases d with
  | tuple ds =>
    have okl := ok.len
    cases hd with | @tup a xs _ ha ax =>
    refine iteF ⟨_, rfl, z0, fun t0 n0 => ?_⟩
    have sp0 := same_upd (o := .tup []) n0
    replace ha := seqT sp0 ha
    replace ax := dpAll_same sp0 _ _ ax
    refine ⟨.tuple ds, .tuple [], .tup ha ax, .tup (SqT.of upd_same) .nil, ok.shaped, by decide, _, rfl, ?_⟩
    cases ax with
    | nil => exact iteT (iteT (q _ sp0))
    | @cons v vs d0 r hv hvs =>
    refine iteF ⟨_, rfl, a, _, 0, v, rfl, rfl, ha, atI_nat (j := 0) rfl, _, _, _, _, _, rfl, .ty _, ty_of hv, kit_ty (kS d0), _, rfl, ?_⟩
    cases d0 with
    | int i => exact iteT (q _ sp0)
    | bool i => exact iteT (q _ sp0)
    | none => exact iteT (q _ sp0)
    | list _ => exact iteT (q _ sp0)
    | tuple _ => exact iteT (q _ sp0)
    | dict _ => cases hv
    | str z =>
    cases hv
    rw [List.length_cons] at okl
    refine iteF ?_
    refine ⟨_, rfl, a, _, 0, _, rfl, rfl, ha, atI_nat (j := 0) rfl, _, rfl, 1, rfl, a, _, rfl, ha, fun z => ?_, fun e ne => ?_⟩
    · have := z.1
      rw [show HT.sIx (V.str _ :: vs).length 0 (some 1) = min 1 (V.str _ :: vs).length from HT.sIx_nat .., List.length_cons] at this
      omega
    rw [cut_tail]
    have se := same_upd (o := .tup vs) ne
    replace hvs := dpAll_same se _ _ hvs
    have he : SqT K (upd (upd H t0 (.tup [])) e (.tup vs)) e vs := SqT.of upd_same
    have okr : ∀ d ∈ r, OkA d := fun d hd => ok.kid (List.mem_cons_of_mem _ hd)
    replace q : ∀ H', Same (upd (upd H t0 (.tup [])) e (.tup vs)) H' → Q (.bl (tfitsP (tfits n) (fits n) z r)) H' := fun H' s' => q H' (sp0.trans (se.trans s'))
    generalize upd (upd H t0 (.tup [])) e (.tup vs) = H2 at hvs he q ⊢
    clear sp0 se ha
    -- one of one part
    have one : ∀ {H3 : Hp} {g : PyData → Bool} {Q' : VK}, SqT K H3 e vs → (vs = [] → Q' (.bl false) H3) → True := fun _ _ => trivial
    refine ⟨_, _, rfl, _, rfl, rfl, _, rfl, ?_⟩
    rw [eq_str]
    refine ite2 (fun c => ?_) (fun c => ?_)
    · have c := of_decide_eq_true c
      unfold tfitsP at q
      rw [if_pos c] at q
      refine ⟨_, rfl, e, _, rfl, .inr he, rfl, _, rfl, ?_⟩
      cases hvs with
      | nil => exact iteF (q _ (Same.refl _))
      | @cons v1 vs1 d1 r1 hv1 hvs1 =>
      cases hvs1 with
      | nil => exact iteT ⟨_, rfl, e, _, 0, _, rfl, rfl, he, rfl, v1, d1, rfl, hv1, (okr _ (List.mem_cons_self ..)).tx, fun H' s' => q H' s'⟩
      | @cons v2 vs2 d2 r2 hv2 hvs2 =>
        rw [decide_eq_false (show ¬ V.int ((v1 :: v2 :: vs2).length : Nat) = V.int 1 from fun z => by have := V.int.inj z; rw [List.length_cons, List.length_cons] at this; omega)]
        exact iteF (q _ (Same.refl _))
    have c1 : ¬ z = "meets" := fun h => c (decide_eq_true h)
    refine ⟨_, rfl, rfl, _, rfl, ?_⟩
    rw [eq_str]
    refine ite2 (fun c => ?_) (fun c => ?_)
    · have c := of_decide_eq_true c
      unfold tfitsP at q
      rw [if_neg c1, if_pos c] at q
      refine ⟨_, rfl, e, _, rfl, .inr he, rfl, _, rfl, ?_⟩
      cases hvs with
      | nil => exact iteF (q _ (Same.refl _))
      | @cons v1 vs1 d1 r1 hv1 hvs1 =>
      cases hvs1 with
      | nil => exact iteT ⟨_, rfl, e, _, 0, _, rfl, rfl, he, rfl, _, rfl, _, _, rfl, rfl, v1, d1, congrArg (fun i => [v1, V.int i]) e1, hv1, okr _ (List.mem_cons_self ..), fun H' s' => q H' s'⟩
      | @cons v2 vs2 d2 r2 hv2 hvs2 =>
        rw [decide_eq_false (show ¬ V.int ((v1 :: v2 :: vs2).length : Nat) = V.int 1 from fun z => by have := V.int.inj z; rw [List.length_cons, List.length_cons] at this; omega)]
        exact iteF (q _ (Same.refl _))
    have c2 : ¬ z = "not" := fun h => c (decide_eq_true h)
    refine ⟨_, rfl, by show 2 ≤ sizeLine; decide, fun t nt => ⟨t, wLike, rfl, .inr (SqT.of upd_same), rfl, by decide, _, rfl, ite2 (fun c => ?_) (fun c => ?_)⟩⟩
    · have c : inV (.str z) wLike = true := c
      have sn := same_upd (o := .tup wLike) nt
      have qq := fun H' s' => q H' (sn.trans s')
      unfold tfitsP at qq
      rw [if_neg c1, if_neg c2, c] at qq
      replace he := seqT sn he
      replace hvs := dpAll_same sn _ _ hvs
      refine ⟨_, rfl, e, _, rfl, .inr he, rfl, _, rfl, ?_⟩
      cases hvs with
      | nil => exact iteF (qq _ (Same.refl _))
      | @cons v1 vs1 d1 r1 hv1 hvs1 =>
      cases hvs1 with
      | nil => exact iteF (qq _ (Same.refl _))
      | @cons v2 vs2 d2 r2 hv2 hvs2 =>
      cases hvs2 with
      | nil =>
        refine iteT ⟨_, rfl, e, _, 0, _, rfl, rfl, he, rfl, _, rfl, _, _, rfl, rfl, v1, d1, congrArg (fun i => [v1, V.int i]) e1, hv1, okr _ (List.mem_cons_self ..), fun H5 s5 => ⟨_, rfl, ?_⟩⟩
        have h5 := fun H' s' => qq H' (s5.trans s')
        replace h5 : ∀ H', Same H5 H' → Q (.bl (fits n d1 && fits n d2)) H' := h5
        cases hn : fits n d1 with
        | false =>
          rw [hn] at h5
          exact iteF (h5 _ (Same.refl _))
        | true =>
          rw [hn] at h5
          exact iteT ⟨_, rfl, e, _, 1, _, rfl, rfl, seqT s5 he, rfl, _, rfl, _, _, rfl, rfl, v2, d2, congrArg (fun i => [v2, V.int i]) e1, dp_same s5 _ _ hv2, okr _ (List.mem_cons_of_mem _ (List.mem_cons_self ..)), h5⟩
      | @cons v3 vs3 d3 r3 hv3 hvs3 =>
        rw [decide_eq_false (show ¬ V.int ((v1 :: v2 :: v3 :: vs3).length : Nat) = V.int 2 from fun z => by have := V.int.inj z; rw [List.length_cons, List.length_cons, List.length_cons] at this; omega)]
        exact iteF (qq _ (Same.refl _))
    have c3 : inV (.str z) wLike = false := eq_false_of_ne_true c
    have sn := same_upd (o := .tup wLike) nt
    replace he := seqT sn he
    replace hvs := dpAll_same sn _ _ hvs
    replace q : ∀ H', Same (upd H2 t (.tup wLike)) H' → Q (.bl (tfitsP (tfits n) (fits n) z r)) H' := fun H' s' => q H' (sn.trans s')
    generalize upd H2 t (.tup wLike) = H3 at hvs he q ⊢
    clear sn c
    unfold tfitsP at q
    rw [if_neg c1, if_neg c2, c3, if_neg Bool.false_ne_true] at q
    refine ⟨_, rfl, by show 2 ≤ sizeLine; decide, fun t nt => ⟨t, wBoth, rfl, .inr (SqT.of upd_same), rfl, by decide, _, rfl, ?_⟩⟩
    have sn := same_upd (o := .tup wBoth) nt
    replace he := seqT sn he
    replace hvs := dpAll_same sn _ _ hvs
    replace q := fun H' s' => q H' (sn.trans s')
    show if (!inV (.str z) wBoth) = true then _ else _
    cases c4 : inV (.str z) wBoth with
    | false =>
      rw [c4] at q
      exact iteT (iteT (q _ (Same.refl _)))
    | true =>
    rw [c4] at q
    refine iteF ⟨_, rfl, e, _, rfl, .inr he, rfl, _, rfl, ?_⟩
    cases hvs with
    | nil => exact iteT (q _ (Same.refl _))
    | @cons v1 vs1 d1 r1 hv1 hvs1 =>
    cases hvs1 with
    | nil => exact iteT (q _ (Same.refl _))
    | @cons v2 vs2 d2 r2 hv2 hvs2 =>
    cases hvs2 with
    | nil =>
      refine iteF ⟨_, rfl, e, _, 0, _, rfl, rfl, he, rfl, _, rfl, _, _, rfl, rfl, v1, d1, congrArg (fun i => [v1, V.int i]) e1, hv1, okr _ (List.mem_cons_self ..), fun H5 s5 => ⟨_, rfl, ?_⟩⟩
      have h5 := fun H' s' => q H' (s5.trans s')
      replace h5 : ∀ H', Same H5 H' → Q (.bl (tfits n d1 && tfits n d2)) H' := h5
      cases hn : tfits n d1 with
      | false =>
        rw [hn] at h5
        exact iteF (h5 _ (Same.refl _))
      | true =>
        rw [hn] at h5
        exact iteT ⟨_, rfl, e, _, 1, _, rfl, rfl, seqT s5 he, rfl, _, rfl, _, _, rfl, rfl, v2, d2, congrArg (fun i => [v2, V.int i]) e1, dp_same s5 _ _ hv2, okr _ (List.mem_cons_of_mem _ (List.mem_cons_self ..)), h5⟩
    | @cons v3 vs3 d3 r3 hv3 hvs3 =>
      rw [decide_eq_false (show ¬ V.int ((v1 :: v2 :: v3 :: vs3).length : Nat) = V.int 2 from fun z => by have := V.int.inj z; rw [List.length_cons, List.length_cons, List.length_cons] at this; omega)]
      exact iteT (q _ (Same.refl _))
  | int i => exact iteT (iteT q1)
  | bool i => exact iteT (iteT q1)
  | none => exact iteT (iteT q1)
  | list _ => exact iteT (iteT q1)
  | str _ => exact iteT (iteT q1)
  | dict _ => cases hd
theorem ok_tfits (D : Df K mg "_law_test_fits" sTFit ["_law_thing", "_law_deep"] f fd) (GN : FnG P w K mg base CX0 3 "_law_is_name" ["_law_thing"] (spB K TxOk isNm)) (GL : ∀ n, FnG P w K mg base CX0 (n + 4) "_law_look_fits" ["_law_thing", "_law_deep"] (spFit K n))
    (m_isinstance : mg "isinstance" = none) (m_tuple : mg "tuple" = none) (m_str : mg "str" = none) (m_len : mg "len" = none) : ∀ n, FnG P w K mg base CX0 (n + 5) "_law_test_fits" ["_law_thing", "_law_deep"] (spTFit K n)
  | 0 => D.g (ok_tfit0 (k := 4) D.F (GN.mono (by omega)) (GL 0) ⟨f, fd, ⟨fun _ _ _ _ h => h.elim, fun _ _ _ _ _ _ _ _ _ _ _ _ _ h => h.elim⟩, D.m, D.F.kp, D.b⟩ m_isinstance m_tuple m_str m_len)
  | n + 1 => D.g (ok_tfit (k := n + 5) D.F (GN.mono (by omega)) ((GL n).mono (by omega)) (ok_tfits D GN GL m_isinstance m_tuple m_str m_len n) m_isinstance m_tuple m_str m_len)
end
/-! ### the two agree -/
theorem part_figure (n : Nat) (d : PyData) : isPart n "figure" d = isNm d := by
  cases n <;> (unfold isPart; rw [show isKd "figure" = true by decide +kernel]; rfl)
theorem kd_test : isKd "test" = false := by decide +kernel
theorem gT_none {z : Str} (h : ∀ p ∈ pkL, Fw.key p ≠ (["test", z] : List Str)) : gP ["test", z] = none := by
  unfold gP
  rw [List.find?_eq_none.mpr fun p hp => by rw [decide_eq_false (h p hp)]; exact Bool.false_ne_true]
  rfl
theorem has_atT {f : Str → PyData → Bool} {z : Str} {r : List PyData} {ks : List Str} (h : gP ["test", z] = some ks) : hasP f "test" (.tuple (.str z :: r)) = (decide (r.length = ks.length) && (r.zip ks).all fun p => f p.2 p.1) := by
  unfold hasP
  dsimp only
  rw [h]
theorem has_tfits {f : Str → PyData → Bool} {t g : PyData → Bool} (hn : ∀ d, f "figure" d = isNm d) (ht : ∀ d, f "test" d = t d) (hk : ∀ d, f "look" d = g d) (z : Str) (r : List PyData) : hasP f "test" (.tuple (.str z :: r)) = tfitsP t g z r := by
  by_cases e1 : z = "meets"
  · subst e1; rw [has_atT (ks := ["figure"]) (by decide +kernel), one_all hn]; unfold tfitsP; rw [if_pos rfl]
  by_cases e2 : z = "not"
  · subst e2; rw [has_atT (ks := ["test"]) (by decide +kernel), one_all ht]; unfold tfitsP; rw [if_neg (by decide +kernel), if_pos rfl]
  by_cases e3 : z = "like"
  · subst e3; rw [has_atT (ks := ["look", "look"]) (by decide +kernel), two_all (f := g) hk hk]; unfold tfitsP; rw [if_neg (by decide +kernel), if_neg (by decide +kernel), if_pos (by decide +kernel)]
  by_cases e4 : z = "below"
  · subst e4; rw [has_atT (ks := ["look", "look"]) (by decide +kernel), two_all (f := g) hk hk]; unfold tfitsP; rw [if_neg (by decide +kernel), if_neg (by decide +kernel), if_pos (by decide +kernel)]
  by_cases e5 : z = "both"
  · subst e5; rw [has_atT (ks := ["test", "test"]) (by decide +kernel), two_all (f := g) ht ht]; unfold tfitsP; rw [if_neg (by decide +kernel), if_neg (by decide +kernel), if_neg (by decide +kernel), if_pos (by decide +kernel)]
  by_cases e6 : z = "any"
  · subst e6; rw [has_atT (ks := ["test", "test"]) (by decide +kernel), two_all (f := g) ht ht]; unfold tfitsP; rw [if_neg (by decide +kernel), if_neg (by decide +kernel), if_neg (by decide +kernel), if_pos (by decide +kernel)]
  have no : ∀ (l : List Str), (∀ y ∈ l, ¬ z = y) → inV (.str z) (l.map V.str) = false := fun l h => by
    unfold inV
    rw [List.any_map]
    refine List.any_eq_false.mpr fun y hy => ?_
    show ¬ eqV (.str y) (.str z) = true
    intro c
    have c : decide (y = z) = true := c
    exact h y hy (of_decide_eq_true c).symm
  have g0 : gP ["test", z] = none := gT_none fun p hp e => by
    unfold pkL at hp
    simp only [List.mem_cons, List.not_mem_nil, or_false] at hp
    have e' := List.cons.inj e
    have ez := (List.cons.inj e'.2).1
    have el := e'.1
    rcases hp with rfl | rfl | rfl | rfl | rfl | rfl | rfl | rfl | rfl | rfl | rfl | rfl | rfl | rfl | rfl | rfl | rfl | rfl
    all_goals first | exact absurd ez.symm (by assumption) | exact absurd el (by decide +kernel)
  rw [show hasP f "test" (.tuple (.str z :: r)) = false by unfold hasP; dsimp only; rw [g0]]
  unfold tfitsP
  rw [if_neg e1, if_neg e2, if_neg (by rw [show wLike = (["like", "below"] : List Str).map V.str from rfl, no _ (by simp [e3, e4])]; exact Bool.false_ne_true),
    if_neg (by rw [show wBoth = (["both", "any"] : List Str).map V.str from rfl, no _ (by simp [e5, e6])]; exact Bool.false_ne_true)]
theorem part_tfits : ∀ (n : Nat) (d : PyData), isPart n "test" d = tfits n d
  | 0, d => by unfold isPart; rw [kd_test]; rfl
  | n + 1, d => by
    have e : isPart (n + 1) "test" d = hasP (isPart n) "test" d := by
      show (if isKd "test" then _ else (decide (("test" : Str) = "look") && isVal d) || _) = _
      rw [kd_test, decide_eq_false (by decide +kernel), Bool.false_and, Bool.false_or]
      rfl
    rw [e]
    have ih := has_tfits (f := isPart n) (t := tfits n) (g := fits n) (part_figure n) (part_tfits n) (part_fits n)
    match d with
    | .int i => rfl
    | .tuple [] => rfl
    | .tuple (.str z :: r) =>
      show hasP (isPart n) "test" (.tuple (.str z :: r)) = tfitsP (tfits n) (fits n) z r
      rw [ih]
    | .tuple (.int _ :: _) => rfl
    | .tuple (.bool _ :: _) => rfl
    | .tuple (.none :: _) => rfl
    | .tuple (.list _ :: _) => rfl
    | .tuple (.tuple _ :: _) => rfl
    | .tuple (.dict _ :: _) => rfl
    | .bool _ => rfl
    | .none => rfl
    | .list _ => rfl
    | .str _ => rfl
    | .dict _ => rfl
end Fd

set_option Elab.async false
set_option linter.all false
set_option maxRecDepth 100000
set_option maxHeartbeats 2000000
namespace Fd
open PySem PySem.Spec PyProof.Rows L2 RZ
/-! ### pieces of plain data -/
theorem dpAll_app {K : PySem.W.Frag} {H : Hp} {ys : List V} {es : List PyData} (hy : DpAll K H ys es) : ∀ {vs : List V} {ds : List PyData}, DpAll K H vs ds → DpAll K H (vs ++ ys) (ds ++ es)
  | _, _, .nil => hy
  | _, _, .cons q r => .cons q (dpAll_app hy r)
theorem dpAll_drop {K : PySem.W.Frag} {H : Hp} : ∀ (n : Nat) {vs : List V} {ds : List PyData}, DpAll K H vs ds → DpAll K H (vs.drop n) (ds.drop n)
  | 0, _, _, h => h
  | _ + 1, _, _, .nil => .nil
  | n + 1, _, _, .cons _ r => dpAll_drop n r
theorem dpAll_take {K : PySem.W.Frag} {H : Hp} : ∀ (n : Nat) {vs : List V} {ds : List PyData}, DpAll K H vs ds → DpAll K H (vs.take n) (ds.take n)
  | 0, _, _, _ => .nil
  | _ + 1, _, _, .nil => .nil
  | n + 1, _, _, .cons q r => .cons q (dpAll_take n r)
theorem dpAll_rev {K : PySem.W.Frag} {H : Hp} : ∀ {vs : List V} {ds : List PyData}, DpAll K H vs ds → DpAll K H vs.reverse ds.reverse
  | _, _, .nil => .nil
  | _, _, .cons q r => by
    rw [List.reverse_cons, List.reverse_cons]
    exact dpAll_app (.cons q .nil) (dpAll_rev r)
theorem wt_app : ∀ (a b : List PyData), PyData.weightAll (a ++ b) = PyData.weightAll a + PyData.weightAll b
  | [], b => by show _ = 0 + _; rw [Nat.zero_add]; rfl
  | d :: a, b => by
    show d.weight + 1 + PyData.weightAll (a ++ b) = d.weight + 1 + PyData.weightAll a + _
    rw [wt_app a b]
    omega
theorem wt_split (a : List PyData) (n : Nat) : PyData.weightAll (a.take n) + PyData.weightAll (a.drop n) = PyData.weightAll a := by
  rw [← wt_app, List.take_append_drop]
theorem wt_rev : ∀ (a : List PyData), PyData.weightAll a.reverse = PyData.weightAll a
  | [] => rfl
  | d :: a => by
    rw [List.reverse_cons, wt_app, wt_rev a]
    show _ + (d.weight + 1 + 0) = d.weight + 1 + _
    omega
/-- a row of things: each so deep, so heavy in all, so many -/
structure Gs (e n w l : Nat) (ds : List PyData) : Prop where
  ok : ∀ d ∈ ds, OkT e n d
  wt : PyData.weightAll ds ≤ w
  ln : ds.length ≤ l
theorem Gs.take {e n w l : Nat} {ds : List PyData} (h : Gs e n w l ds) (i : Nat) : Gs e n w l (ds.take i) :=
  ⟨fun d hd => h.ok d (List.mem_of_mem_take hd), by have := wt_split ds i; have := h.wt; omega, by rw [List.length_take]; have := h.ln; omega⟩
theorem Gs.drop {e n w l : Nat} {ds : List PyData} (h : Gs e n w l ds) (i : Nat) : Gs e n w l (ds.drop i) :=
  ⟨fun d hd => h.ok d (List.mem_of_mem_drop hd), by have := wt_split ds i; have := h.wt; omega, by rw [List.length_drop]; have := h.ln; omega⟩
theorem Gs.rev {e n w l : Nat} {ds : List PyData} (h : Gs e n w l ds) : Gs e n w l ds.reverse :=
  ⟨fun d hd => h.ok d (List.mem_reverse.mp hd), by rw [wt_rev]; exact h.wt, by rw [List.length_reverse]; exact h.ln⟩
theorem Gs.app {e n w l w' l' : Nat} {a b : List PyData} (h : Gs e n w l a) (h' : Gs e n w' l' b) : Gs e n (w + w') (l + l') (a ++ b) :=
  ⟨fun d hd => (List.mem_append.mp hd).elim (h.ok d) (h'.ok d), by rw [wt_app]; exact Nat.add_le_add h.wt h'.wt, by rw [List.length_append]; exact Nat.add_le_add h.ln h'.ln⟩
theorem Gs.nil {e n w l : Nat} : Gs e n w l [] := ⟨(fun _ h => nomatch h), Nat.zero_le _, Nat.zero_le _⟩
theorem Gs.cons {e n w l w' : Nat} {d : PyData} {a : List PyData} (h : OkT e n d) (hw : d.weight ≤ w') (h' : Gs e n w l a) : Gs e n (w' + 1 + w) (l + 1) (d :: a) :=
  ⟨fun x hx => (List.mem_cons.mp hx).elim (fun z => z ▸ h) (h'.ok x), Nat.add_le_add (Nat.succ_le_succ hw) h'.wt, Nat.succ_le_succ h'.ln⟩
theorem Gs.le {e n w l e' n' w' l' : Nat} {ds : List PyData} (h : Gs e n w l ds) (he : e ≤ e') (hn : n ≤ n') (hw : w ≤ w') (hl : l ≤ l') : Gs e' n' w' l' ds :=
  ⟨fun d hd => (h.ok d hd).mono he hn, Nat.le_trans h.wt hw, Nat.le_trans h.ln hl⟩
theorem Gs.tup {e n w : Nat} {ds : List PyData} (h : Gs e n w (8 + e) ds) : OkT e (n + 1) (.tuple ds) ∧ (PyData.tuple ds).weight ≤ w := ⟨⟨h.ln, h.ok⟩, h.wt⟩
theorem Gs.lst {e n w : Nat} {ds : List PyData} (h : Gs e n w (8 + e) ds) : OkT e (n + 1) (.list ds) ∧ (PyData.list ds).weight ≤ w := ⟨⟨h.ln, h.ok⟩, h.wt⟩
/-- a thing that stands beside the box -/
def Gv (K : PySem.W.Frag) (a : Addr) (e n w : Nat) (H : Hp) (v : V) : Prop := ∃ d, Dp K (rm a H) v d ∧ OkT e n d ∧ d.weight ≤ w
def Gt (K : PySem.W.Frag) (a : Addr) (e n w l : Nat) (H : Hp) (t : Addr) (k : Nat) : Prop := ∃ xs ds, SqT K (rm a H) t xs ∧ xs.length = k ∧ DpAll K (rm a H) xs ds ∧ Gs e n w l ds
theorem Gv.but {K : PySem.W.Frag} {a : Addr} {e n w : Nat} {H H' : Hp} {v : V} (h : Gv K a e n w H v) (s : But a H H') : Gv K a e n w H' v := by
  obtain ⟨d, h1, h2⟩ := h
  exact ⟨d, dp_same (rm_but s) _ _ h1, h2⟩
theorem Gv.le {K : PySem.W.Frag} {a : Addr} {e n w e' n' w' : Nat} {H : Hp} {v : V} (h : Gv K a e n w H v) (he : e ≤ e') (hn : n ≤ n') (hw : w ≤ w') : Gv K a e' n' w' H v := by
  obtain ⟨d, h1, h2, h3⟩ := h
  exact ⟨d, h1, h2.mono he hn, Nat.le_trans h3 hw⟩
theorem Gt.v {K : PySem.W.Frag} {a : Addr} {e n w : Nat} {H : Hp} {t : Addr} {k : Nat} (h : Gt K a e n w (8 + e) H t k) : Gv K a e (n + 1) w H (.ref t) := by
  obtain ⟨xs, ds, h1, h2, h3, h4⟩ := h
  exact ⟨_, .tup h1 h3, h4.tup.1, h4.tup.2⟩
theorem cut_whole {xs : List V} {lo hi : Option Int} (h : HT.sIx xs.length 0 lo = 0 ∧ HT.sIx xs.length xs.length hi = xs.length) : cutV xs lo hi = xs := by
  unfold cutV
  rw [h.1, h.2]
  exact List.take_of_length_le (by rw [List.length_drop]; omega)
theorem slA_all {K : PySem.W.Frag} {H : Hp} {a t : Addr} {xs : List V} {lo hi : Option Int} {Q : VK} (hb : ∃ u, H a = some u) (ha : SqT K (rm a H) t xs) (h : ∀ p H2, Same H H2 → SqT K (rm a H2) p (cutV xs lo hi) → Q (.ref p) H2) : rSlA K (.ref t) lo hi H Q := by
  obtain ⟨u, hu⟩ := hb
  exact ⟨t, xs, rfl, seqT rm_sub ha, fun z => h t H (Same.refl _) (by rw [cut_whole z]; exact ha), fun _ p np => h p _ (same_upd np) (SqT.of (rm_new hu np))⟩
theorem catA_all {K : PySem.W.Frag} {H : Hp} {a t b : Addr} {xs ys : List V} {Q : VK} (hb : ∃ u, H a = some u) (ha : SqT K (rm a H) t xs) (hy : SqT K (rm a H) b ys) (hl : xs.length + ys.length ≤ 1000) (h : ∀ p H2, Same H H2 → SqT K (rm a H2) p (xs ++ ys) → Q (.ref p) H2) : rCatA K (.ref t) (.ref b) H Q := by
  obtain ⟨u, hu⟩ := hb
  refine ⟨t, b, xs, ys, rfl, rfl, seqT rm_sub ha, seqT rm_sub hy, Nat.le_of_lt (small1000 hl), fun z => ?_, fun _ z => ?_, fun _ _ p np => h p _ (same_upd np) (SqT.of (rm_new hu np))⟩
  · subst z
    exact h b H (Same.refl _) hy
  · subst z
    exact h t H (Same.refl _) (by rw [List.append_nil]; exact ha)
theorem dpAll_cut {K : PySem.W.Frag} {H : Hp} {xs : List V} {ds : List PyData} (h : DpAll K H xs ds) (lo hi : Option Int) : ∃ i j, DpAll K H (cutV xs lo hi) ((ds.drop i).take j) := ⟨_, _, dpAll_take _ (dpAll_drop _ h)⟩
/-! ### leaves -/
theorem wt_int {i : Int} (h1 : -8000000 ≤ i) (h2 : i ≤ 8000000) : (PyData.int i).weight ≤ 24 := by
  show (if i == 0 then 0 else i.natAbs.log2 + 1) ≤ 24
  split
  · exact Nat.zero_le _
  · rename_i z
    have z0 : i.natAbs ≠ 0 := fun e => z (by rw [show i = 0 by omega]; rfl)
    have := (Nat.log2_lt z0 (k := 23)).mpr (by omega)
    omega
theorem ok_int {e n : Nat} {i : Int} (h1 : -1000001 ≤ i) (h2 : i ≤ 1000001) : OkT e (n + 1) (.int i) := by
  constructor <;> omega
theorem asc_of {z : Str} (h : z.cps.all (· < 128) = true) : ∀ c ∈ z.cps.toList, c < 128 := fun c hc => by
  rw [← Array.all_toList] at h
  exact of_decide_eq_true (List.all_eq_true.mp h c hc)
theorem ok_str {e n : Nat} {z : Str} (h1 : z.cps.size ≤ 8) (h : z.cps.all (· < 128) = true) : OkT e (n + 1) (.str z) := ⟨by omega, asc_of h⟩
theorem cutS_codes {z : Str} {lo hi : Option Int} (h : ∀ c ∈ z.cps.toList, c < 128) : ∀ c ∈ (cutS z lo hi).cps.toList, c < 128 := fun c hc => by
  have hc : c ∈ (((z.cps.toList.drop (HT.sIx z.length 0 lo)).take (HT.sIx z.length z.length hi - HT.sIx z.length 0 lo)).toArray).toList := hc
  rw [List.toList_toArray] at hc
  exact h c (List.mem_of_mem_drop (List.mem_of_mem_take hc))
theorem cutS_len (z : Str) (lo hi : Option Int) : (cutS z lo hi).cps.size = min (HT.sIx z.length z.length hi - HT.sIx z.length 0 lo) (z.cps.size - HT.sIx z.length 0 lo) := by
  show (((z.cps.toList.drop (HT.sIx z.length 0 lo)).take (HT.sIx z.length z.length hi - HT.sIx z.length 0 lo)).toArray).size = _
  rw [List.size_toArray, List.length_take, List.length_drop, Array.length_toList]
theorem app_codes {x y : Str} (h : ∀ c ∈ x.cps.toList, c < 128) (h' : ∀ c ∈ y.cps.toList, c < 128) : ∀ c ∈ (x ++ y).cps.toList, c < 128 := fun c hc => by
  have hc : c ∈ (x.cps ++ y.cps).toList := hc
  rw [Array.toList_append] at hc
  exact (List.mem_append.mp hc).elim (h c) (h' c)
theorem app_size (x y : Str) : (x ++ y).cps.size = x.cps.size + y.cps.size := by
  show (x.cps ++ y.cps).size = _
  rw [Array.size_append]
end Fd

set_option Elab.async false
set_option linter.all false
set_option maxRecDepth 100000
set_option maxHeartbeats 4000000
namespace Fd
open PySem PySem.Spec PyProof.Rows L2 RZ
theorem cut_from (xs : List V) (m : Nat) : cutV xs (some (m : Int)) none = xs.drop m := by
  unfold cutV
  rw [HT.sIx_nat, HT.sIx_none]
  by_cases h : m ≤ xs.length
  · rw [Nat.min_eq_left h]
    exact List.take_of_length_le (by rw [List.length_drop]; omega)
  · rw [Nat.min_eq_right (by omega), List.drop_eq_nil_of_le (Nat.le_refl _), List.drop_eq_nil_of_le (by omega), List.take_nil]
abbrev oddV (t1 t2 t3 t4 : Addr) : List V := [.non, .bl true, .bl false, .int (-1), .int (10 ^ (6 : Int).toNat), .int (10 ^ (6 : Int).toNat + 1), .int (-(10 ^ (6 : Int).toNat) - 1), .str "", .str "x", .ref t1, .ref t2, .ref t3, .ref t4, .str "plus"]
theorem fix_at : ∀ {j : Nat} {v : V}, [V.str "", .str "a", .str "Z", .str "1", .str " "][j]? = some v → ∃ y : Str, v = .str y ∧ y.cps.size ≤ 1 ∧ ∀ c ∈ y.cps.toList, c < 128
  | 0, _, h => ⟨_, (Option.some.inj h).symm, by decide +kernel, asc_of (by decide +kernel)⟩
  | 1, _, h => ⟨_, (Option.some.inj h).symm, by decide +kernel, asc_of (by decide +kernel)⟩
  | 2, _, h => ⟨_, (Option.some.inj h).symm, by decide +kernel, asc_of (by decide +kernel)⟩
  | 3, _, h => ⟨_, (Option.some.inj h).symm, by decide +kernel, asc_of (by decide +kernel)⟩
  | 4, _, h => ⟨_, (Option.some.inj h).symm, by decide +kernel, asc_of (by decide +kernel)⟩
  | j + 5, _, h => by simp at h
theorem num_at : ∀ {j : Nat} {v : V}, [V.int 1, .int (-1), .int (10 ^ (6 : Int).toNat), .int (-10 ^ (6 : Int).toNat)][j]? = some v → ∃ y : Int, v = .int y ∧ -1000000 ≤ y ∧ y ≤ 1000000
  | 0, _, h => ⟨_, (Option.some.inj h).symm, by decide, by decide⟩
  | 1, _, h => ⟨_, (Option.some.inj h).symm, by decide, by decide⟩
  | 2, _, h => ⟨_, (Option.some.inj h).symm, by decide, by decide⟩
  | 3, _, h => ⟨_, (Option.some.inj h).symm, by decide, by decide⟩
  | j + 4, _, h => by simp at h
theorem late {R G : Prop} (g : R → G) (h : R) : G := g h
section
variable {P : Program} {w : World} {K : PySem.W.Frag} {mg : Str → Option Value} {base : Heap} {f f' : Addr} {fd fd' : FuncData}
abbrev sBent : Stmt := top 28
theorem scBent : FnScope ["_law_box", "_law_thing", "_law_way", "_law_at", "_law_odd", "_law_some"] ["_law_box", "_law_thing"] (defScope sBent) := ⟨rfl, rfl, rfl, by decide +kernel, rfl, by decide +kernel, by decide +kernel⟩
def cb (n : Nat) : Nat := 2 * n + 6
def spBent (K : PySem.W.Frag) (n : Nat) : Sp := fun vs H Q _ => ∃ (a : Addr) (x : V) (c e wt : Nat), vs = [.ref a, x] ∧ Box H a c ∧ c + cb n ≤ 1000000 ∧ e ≤ 2 ∧ Gv K a e n wt H x ∧
  ∀ v H', But a H H' → Box H' a (c + cb n) → Gv K a (e + 1) (n + 1) (2 * wt + 60) H' v → Q v H'
theorem ok_bent {k n : Nat} (F : Fun K "_law_bent" "_law_bent" sBent f fd) (GT : FnG P w K mg base CX0 k "_law_take" ["_law_box", "_law_many"] spTake) (GP : FnG P w K mg base CX0 k "_law_pick" ["_law_box", "_law_some"] (spPick K))
    (GI : FnG P w K mg base CX0 k "_law_is_number" ["_law_thing"] (spB K (fun _ => True) isNum)) (GB : FnG P w K mg base CX0 k "_law_bent" ["_law_box", "_law_thing"] (spBent K n))
    (m_isinstance : mg "isinstance" = none) (m_tuple : mg "tuple" = none) (m_str : mg "str" = none) (m_len : mg "len" = none) (m_list : mg "list" = none) :
    FnOk P w K mg base CX0 (k + 1) f fd ["_law_box", "_law_thing"] (spBent K (n + 1)) := by
  obtain ⟨_, _, G__law_take, m__law_take, k__law_take, b__law_take⟩ := GT
  obtain ⟨_, _, G__law_pick, m__law_pick, k__law_pick, b__law_pick⟩ := GP
  obtain ⟨_, _, G__law_is_number, m__law_is_number, k__law_is_number, b__law_is_number⟩ := GI
  obtain ⟨_, _, G__law_bent, m__law_bent, k__law_bent, b__law_bent⟩ := GB
  have sc := scBent
  refine F.ok sc (fun vs H Q E h => ?_) (fun cdv A outer s H vs Q E hr h => ?_)
  · obtain ⟨a, x, c, e, wt, rfl, _⟩ := h
    rfl
  obtain ⟨a, x, c, e, wt, rfl, hB, hc, he, ⟨d, hd, ok, hw⟩, q⟩ := h
  refine ⟨_, (pss_cons (ps_set (i := 2) sc.nd rfl (.inl rfl) (pe_call G__law_take (hr.mono (by omega)) (by rfl) m__law_take k__law_take b__law_take .nil pass0 (pa_cons (pv 0) (pa_cons pe_int pa_nil))))
      (pss_cons (ps_if (PW.pt (pw_and (pt_val (pe_callB call_isi (by rfl) m_isinstance (by decide +kernel) (pa_cons (pv 1) (pa_cons (pe_bltn (v := .ty "tuple") (by rfl) m_tuple (by decide +kernel) rfl) pa_nil)))) (pw_and (pt_cmpR op_gt (pe_callB (CallR.or call_len_seq call_len_str) (by rfl) m_len (by decide +kernel) (pa_cons (pv 1) pa_nil)) pe_int (nomark _)) (pw_and1 (pt_cmpR op_lt (pv 2) pe_int (nomark _)))))) (pss_cons (ps_set (i := 3) sc.nd rfl (.inl rfl) (pe_call G__law_take (hr.mono (by omega)) (by rfl) m__law_take k__law_take b__law_take .nil pass0 (pa_cons (pv 0) (pa_cons (pe_callB (CallR.or call_len_seq call_len_str) (by rfl) m_len (by decide +kernel) (pa_cons (pv 1) pa_nil)) pa_nil))))
      (pss_one (ps_ret (pe_op op_catA (pe_op op_catA (pe_slice (SlR.or sl_tupA sl_str) (pv 1) po_none (po_some (pv 3))) (pe_tup (pa_cons (pe_call G__law_bent (hr.mono (by omega)) (by rfl) m__law_bent k__law_bent b__law_bent .nil pass0 (pa_cons (pv 0) (pa_cons (pe_ix ix_tup (pv 1) (pv 3) (fun _ _ => rfl)) pa_nil))) pa_nil))) (pe_slice sl_tupA (pv 1) (po_some (pe_op op_add (pv 3) pe_int)) po_none))))) pss_nil)
      (pss_cons (ps_set (i := 4) sc.nd rfl (.inl rfl) (pe_lst (pa_cons pe_non (pa_cons pe_bl (pa_cons pe_bl (pa_cons (pe_un un_neg pe_int) (pa_cons (pe_op op_pow pe_int pe_int) (pa_cons (pe_op op_add (pe_op op_pow pe_int pe_int) pe_int) (pa_cons (pe_op op_sub (pe_un un_neg (pe_op op_pow pe_int pe_int)) pe_int) (pa_cons pe_str (pa_cons pe_str (pa_cons (pe_tup (pa_cons pe_str pa_nil)) (pa_cons (pe_tup pa_nil) (pa_cons (pe_lst pa_nil) (pa_cons (pe_tup (pa_cons pe_str (pa_cons pe_str pa_nil))) (pa_cons pe_str pa_nil))))))))))))))))
      (pss_cons (ps_if (PW.pt (pw_and (pt_val (pe_callB call_isi (by rfl) m_isinstance (by decide +kernel) (pa_cons (pv 1) (pa_cons (pe_bltn (v := .ty "tuple") (by rfl) m_tuple (by decide +kernel) rfl) pa_nil)))) (pw_and1 (pt_cmpR op_lt (pv 2) pe_int (nomark _))))) (pss_cons (ps_set (i := 5) sc.nd rfl (.inl rfl) (pe_lst (pa_cons (pe_callTy call_list_of (by rfl) m_list (by decide +kernel) (pa_cons (pv 1) pa_nil)) (pa_cons (pe_slice sl_tupA (pv 1) (po_some pe_int) po_none) (pa_cons (pe_slice sl_tupA (pv 1) po_none (po_some (pe_un un_neg pe_int))) (pa_cons (pe_op op_catA (pv 1) (pe_slice sl_tupA (pv 1) po_none (po_some pe_int))) (pa_cons (Fw.pe_revT (pv 1)) (pa_cons (pe_tup (pa_cons (pv 1) pa_nil)) (pa_cons (pe_op op_catA (pv 1) (pe_tup (pa_cons pe_int pa_nil))) pa_nil)))))))))
      (pss_cons (ps_set (i := 5) sc.nd rfl (.inl rfl) (pe_op op_cat (pv 5) (pe_lst (pa_cons (pe_tup (pa_cons pe_str (pa_cons (pv 1) (pa_cons pe_int pa_nil)))) (pa_cons (pe_tup (pa_cons pe_str (pa_cons (pv 1) pa_nil))) (pa_cons (pe_tup (pa_cons pe_str (pa_cons pe_str (pa_cons (pv 1) pa_nil)))) (pa_cons (pe_tup (pa_cons pe_str (pa_cons (pv 1) (pa_cons (pv 1) pa_nil)))) pa_nil)))))))
      (pss_one (ps_ret (pe_ix ix_list (pv 5) (pe_call G__law_take (hr.mono (by omega)) (by rfl) m__law_take k__law_take b__law_take .nil pass0 (pa_cons (pv 0) (pa_cons pe_int pa_nil))) (fun _ _ => rfl)))))) pss_nil)
      (pss_cons (ps_if (PW.pt (pw_and (pt_val (pe_callB call_isi (by rfl) m_isinstance (by decide +kernel) (pa_cons (pv 1) (pa_cons (pe_bltn (v := .ty "str") (by rfl) m_str (by decide +kernel) rfl) pa_nil)))) (pw_and1 (pt_cmpR op_lt (pv 2) pe_int (nomark _))))) (pss_cons (ps_set (i := 3) sc.nd rfl (.inl rfl) (pe_call G__law_take (hr.mono (by omega)) (by rfl) m__law_take k__law_take b__law_take .nil pass0 (pa_cons (pv 0) (pa_cons (pe_op op_add (pe_callB (CallR.or call_len_seq call_len_str) (by rfl) m_len (by decide +kernel) (pa_cons (pv 1) pa_nil)) pe_int) pa_nil))))
      (pss_one (ps_ret (pe_op op_add_str (pe_op op_add_str (pe_slice (SlR.or sl_tupA sl_str) (pv 1) po_none (po_some (pv 3))) (pe_call G__law_pick (hr.mono (by omega)) (by rfl) m__law_pick k__law_pick b__law_pick .nil pass0 (pa_cons (pv 0) (pa_cons (pe_lst (pa_cons pe_str (pa_cons pe_str (pa_cons pe_str (pa_cons pe_str (pa_cons pe_str pa_nil)))))) pa_nil)))) (pe_slice sl_str (pv 1) (po_some (pe_op op_add (pv 3) (pe_call G__law_take (hr.mono (by omega)) (by rfl) m__law_take k__law_take b__law_take .nil pass0 (pa_cons (pv 0) (pa_cons pe_int pa_nil))))) po_none))))) pss_nil)
      (pss_cons (ps_if (PW.pt (pw_and (pt_val (pe_call G__law_is_number (hr.mono (by omega)) (by rfl) m__law_is_number k__law_is_number b__law_is_number .nil pass0 (pa_cons (pv 1) pa_nil))) (pw_and1 (pt_cmpR op_lt (pv 2) pe_int (nomark _))))) (pss_one (ps_ret (pe_op op_add (pv 1) (pe_call G__law_pick (hr.mono (by omega)) (by rfl) m__law_pick k__law_pick b__law_pick .nil pass0 (pa_cons (pv 0) (pa_cons (pe_lst (pa_cons pe_int (pa_cons (pe_un un_neg pe_int) (pa_cons (pe_op op_pow pe_int pe_int) (pa_cons (pe_un un_neg (pe_op op_pow pe_int pe_int)) pa_nil))))) pa_nil)))))) pss_nil)
      (pss_one (ps_ret (pe_ix ix_list (pv 4) (pe_call G__law_take (hr.mono (by omega)) (by rfl) m__law_take k__law_take b__law_take .nil pass0 (pa_cons (pv 0) (pa_cons pe_int pa_nil))) (fun _ _ => rfl)))))))))), ?_⟩
  refine ⟨_, rfl, a, c, 10, rfl, hB, by unfold cb at hc; omega, by decide, by decide, fun way H1 w0 w1 s1 B1 => ?_⟩
  have z0 : 0 ≤ sizeLine := by decide
  have z1 : 1 ≤ sizeLine := by decide
  have z2 : 2 ≤ sizeLine := by decide
  have z3 : 3 ≤ sizeLine := by decide
  have hd0 := hd
  replace hd := dp_same (rm_but s1) _ _ hd
  have cbe : cb (n + 1) = cb n + 2 := by unfold cb; omega
  have cb6 : 6 ≤ cb n := by unfold cb; omega
  apply late
  · intro rest
    refine ⟨_, rfl, _, _, _, _, _, rfl, .ty _, ty_of (dp_same rm_sub _ _ hd), kit_ty (kT d), _, rfl, ?_⟩
    by_cases hT : isT d = false
    · rw [hT]
      exact iteF (iteF rest)
    replace hT : isT d = true := eq_true_of_ne_false hT
    rw [hT]
    refine iteT ?_
    obtain ⟨ds, rfl⟩ : ∃ ds, d = .tuple ds := by
      cases d <;> first | exact ⟨_, rfl⟩ | cases hT
    cases hd with | @tup t xs _ ht ax =>
    have hl := dpAll_len ax
    have okl : ds.length ≤ 8 + e := ok.1
    refine ⟨_, rfl, .inl ⟨t, xs, rfl, .inr (seqT rm_sub ht), _, 0, rfl, rfl, _, rfl, ite2 (fun c1 => ?_) (fun c1 => iteF rest)⟩⟩
    refine ⟨_, rfl, _, _, rfl, rfl, _, rfl, ite2 (fun c2 => ?_) (fun c2 => rest)⟩
    have c1 : 0 < xs.length := by
      have := of_decide_eq_true c1
      omega
    refine ⟨_, rfl, _, rfl, .inl ⟨t, xs, rfl, .inr (seqT rm_sub ht), a, c + 1, _, rfl, B1, by omega, by omega, by omega, fun at_ H2 a0 a1 s2 B2 => ?_⟩⟩
    obtain ⟨i, rfl⟩ : ∃ i : Nat, at_ = (i : Int) := ⟨at_.toNat, by omega⟩
    have hi : i < xs.length := by omega
    replace ht := seqT (rm_but s2) ht
    replace ax := dpAll_same (rm_but s2) _ _ ax
    obtain ⟨dc, edc, hdc⟩ := dpAll_at ax (List.getElem?_eq_getElem hi)
    refine ⟨_, rfl, _, rfl, i, rfl, .inl (slA_all B2.get ht fun p H3 s3 hp => ?_)⟩
    rw [cut_to] at hp
    replace ht := seqT (rm_same s3) ht
    replace ax := dpAll_same (rm_same s3) _ _ ax
    have B3 := B2.same s3
    have okc : OkT e n dc := ok.2 _ (List.mem_of_getElem? edc)
    refine ⟨_, rfl, _, rfl, _, rfl, t, xs, i, xs[i], rfl, rfl, seqT rm_sub ht, atI_nat (List.getElem?_eq_getElem hi), a, xs[i], c + 2, e, dc.weight, rfl, B3, by omega, he, ⟨dc, dp_same (rm_same s3) _ _ hdc, okc, Nat.le_refl _⟩, fun v' H4 s4 B4 g4 => ⟨z1, fun u nu => ?_⟩⟩
    obtain ⟨o4, ho4⟩ := B4.get
    have su := same_upd (o := .tup [v']) nu
    have S4 := (rm_but s4).trans (rm_same su)
    have B5 := B4.same su
    obtain ⟨d4, hd4, ok4, w4⟩ := g4
    refine catA_all B5.get (seqT S4 hp) (SqT.of (rm_new ho4 nu)) (by rw [List.length_take]; show _ + 1 ≤ 1000; omega) fun p2 H6 s6 hp2 => ?_
    refine ⟨_, rfl, _, rfl, _, 1, rfl, rfl, _, rfl, ?_⟩
    unfold tNoPart
    show rSlA K (.ref t) (some ((i : Int) + 1)) none H6 _
    refine slA_all (B5.same s6).get (seqT (S4.trans (rm_same s6)) ht) fun p3 H7 s7 hp3 => ?_
    rw [show cutV xs (some ((i : Int) + 1)) none = xs.drop (i + 1) from cut_from xs (i + 1)] at hp3
    have B7 := (B5.same s6).same s7
    refine catA_all B7.get (seqT (rm_same s7) hp2) hp3 (by rw [List.length_append, List.length_take, List.length_drop]; show _ + 1 + _ ≤ 1000; omega) fun p4 H8 s8 hp4 => ?_
    have S8 := (rm_same (a := a) s6).trans ((rm_same s7).trans (rm_same s8))
    have i_lt : i < ds.length := by omega
    have eds : PyData.weightAll ds = PyData.weightAll (ds.take i) + (dc.weight + 1 + PyData.weightAll (ds.drop (i + 1))) := by
      rw [← wt_split ds i, List.drop_eq_getElem_cons i_lt, show ds[i] = dc from Option.some.inj ((List.getElem?_eq_getElem i_lt).symm.trans edc)]
      rfl
    refine q _ _ (((s1.trans s2).trans (But.of s3)).trans (s4.trans (But.of (su.trans (s6.trans (s7.trans s8)))))) ((B7.same s8).le (by omega))
      ⟨.tuple ((ds.take i ++ [d4]) ++ ds.drop (i + 1)), .tup hp4 (dpAll_app (dpAll_drop _ (dpAll_same (S4.trans S8) _ _ ax)) (dpAll_app (.cons (dp_same ((rm_same su).trans S8) _ _ hd4) .nil) (dpAll_take _ (dpAll_same (S4.trans S8) _ _ ax)))), ⟨?_, fun x hx => ?_⟩, ?_⟩
    · rw [List.length_append, List.length_append, List.length_take, List.length_drop]
      show _ + 1 + _ ≤ 8 + (e + 1)
      omega
    · rcases List.mem_append.mp hx with hx | hx
      · rcases List.mem_append.mp hx with hx | hx
        · exact (ok.2 x (List.mem_of_mem_take hx)).mono (by omega) (by omega)
        · rw [List.mem_singleton.mp hx]
          exact ok4
      · exact (ok.2 x (List.mem_of_mem_drop hx)).mono (by omega) (by omega)
    · show PyData.weightAll _ ≤ _
      rw [wt_app, wt_app]
      show PyData.weightAll (ds.take i) + (d4.weight + 1 + 0) + PyData.weightAll (ds.drop (i + 1)) ≤ 2 * wt + 60
      have : PyData.weightAll ds ≤ wt := hw
      omega
  have p6 : (10 : Int) ^ (6 : Int).toNat = 1000000 := by decide
  have cp : CPow 10 6 := ⟨by decide, by decide, by decide⟩
  refine ⟨1, rfl, 10, 6, rfl, rfl, cp, 10, 6, rfl, rfl, cp, _, 1, rfl, rfl, 10, 6, rfl, rfl, cp, _, rfl, _, 1, rfl, rfl, z1, fun t1 n1 => ⟨z0, fun t2 n2 => ⟨z0, fun t3 n3 => ⟨z2, fun t4 n4 => ⟨by show 14 ≤ sizeLine; decide, fun l nl => ?_⟩⟩⟩⟩⟩
  have f1 := same_upd (o := .tup [.str "x"]) n1
  have f2 := same_upd (o := .tup []) n2
  have f3 := same_upd (o := .lst []) n3
  have f4 := same_upd (o := .tup [.str "name", .str "a"]) n4
  have f5 := same_upd (o := .lst (oddV t1 t2 t3 t4)) nl
  have bx := B1.get
  obtain ⟨u1, hu1⟩ := B1.get
  obtain ⟨u2, hu2⟩ := (B1.same f1).get
  obtain ⟨u3, hu3⟩ := ((B1.same f1).same f2).get
  obtain ⟨u4, hu4⟩ := (((B1.same f1).same f2).same f3).get
  obtain ⟨u5, hu5⟩ := ((((B1.same f1).same f2).same f3).same f4).get
  have S1 := f1.trans (f2.trans (f3.trans (f4.trans f5)))
  have hl := rm_new (o := .lst (oddV t1 t2 t3 t4)) hu5 nl
  have g1 : Dp K (rm a (upd (upd (upd (upd (upd H1 t1 (.tup [.str "x"])) t2 (.tup [])) t3 (.lst [])) t4 (.tup [.str "name", .str "a"])) l (.lst (oddV t1 t2 t3 t4)))) (.ref t1) (.tuple [.str "x"]) := .tup (seqT (rm_same (f2.trans (f3.trans (f4.trans f5)))) (SqT.of (rm_new hu1 n1))) (.cons (.str _) .nil)
  have g2 : Dp K (rm a (upd (upd (upd (upd (upd H1 t1 (.tup [.str "x"])) t2 (.tup [])) t3 (.lst [])) t4 (.tup [.str "name", .str "a"])) l (.lst (oddV t1 t2 t3 t4)))) (.ref t2) (.tuple []) := .tup (seqT (rm_same (f3.trans (f4.trans f5))) (SqT.of (rm_new hu2 n2))) .nil
  have g3 : Dp K (rm a (upd (upd (upd (upd (upd H1 t1 (.tup [.str "x"])) t2 (.tup [])) t3 (.lst [])) t4 (.tup [.str "name", .str "a"])) l (.lst (oddV t1 t2 t3 t4)))) (.ref t3) (.list []) := .lst ((rm_same (f4.trans f5)).seq (SqL.of (rm_new hu3 n3))) .nil
  have g4 : Dp K (rm a (upd (upd (upd (upd (upd H1 t1 (.tup [.str "x"])) t2 (.tup [])) t3 (.lst [])) t4 (.tup [.str "name", .str "a"])) l (.lst (oddV t1 t2 t3 t4)))) (.ref t4) (.tuple [.str "name", .str "a"]) := .tup (seqT (rm_same f5) (SqT.of (rm_new hu4 n4))) (.cons (.str _) (.cons (.str _) .nil))
  generalize upd (upd (upd (upd (upd H1 t1 (.tup [.str "x"])) t2 (.tup [])) t3 (.lst [])) t4 (.tup [.str "name", .str "a"])) l (.lst (oddV t1 t2 t3 t4)) = H2 at S1 hl g1 g2 g3 g4 ⊢
  have go : ∀ v ∈ oddV t1 t2 t3 t4, Gv K a (e + 1) (n + 1 + 1) (2 * wt + 60) H2 v := by
    have sc : ∀ {v d}, Dp K (rm a H2) v d → OkT (e + 1) 3 d → d.weight ≤ 60 → OkT (e + 1) (n + 1 + 1) d → Gv K a (e + 1) (n + 1 + 1) (2 * wt + 60) H2 v := fun h1 _ h3 h4 => ⟨_, h1, h4, by omega⟩
    intro v hv
    unfold oddV at hv
    simp only [List.mem_cons, List.not_mem_nil, or_false] at hv
    rcases hv with rfl | rfl | rfl | rfl | rfl | rfl | rfl | rfl | rfl | rfl | rfl | rfl | rfl | rfl
    · exact ⟨_, .non, trivial, by show 0 ≤ _; omega⟩
    · exact ⟨_, .bl _, trivial, by show 0 ≤ _; omega⟩
    · exact ⟨_, .bl _, trivial, by show 0 ≤ _; omega⟩
    · exact ⟨_, .int _, ok_int (by decide) (by decide), Nat.le_trans (wt_int (by decide) (by decide)) (by omega)⟩
    · exact ⟨_, .int _, ok_int (by decide) (by decide), Nat.le_trans (wt_int (by decide) (by decide)) (by omega)⟩
    · exact ⟨_, .int _, ok_int (by decide) (by decide), Nat.le_trans (wt_int (by decide) (by decide)) (by omega)⟩
    · exact ⟨_, .int _, ok_int (by decide) (by decide), Nat.le_trans (wt_int (by decide) (by decide)) (by omega)⟩
    · exact ⟨_, .str _, ok_str (by decide +kernel) (by decide +kernel), Nat.le_trans (show _ ≤ 8 by decide +kernel) (by omega)⟩
    · exact ⟨_, .str _, ok_str (by decide +kernel) (by decide +kernel), Nat.le_trans (show _ ≤ 8 by decide +kernel) (by omega)⟩
    · exact ⟨_, g1, ⟨by show 1 ≤ _; omega, fun d hd => by rw [List.mem_singleton.mp hd]; exact ok_str (by decide +kernel) (by decide +kernel)⟩, Nat.le_trans (show _ ≤ 20 by decide +kernel) (by omega)⟩
    · exact ⟨_, g2, ⟨by show 0 ≤ _; omega, (fun d hd => nomatch hd)⟩, Nat.le_trans (show _ ≤ 20 by decide +kernel) (by omega)⟩
    · exact ⟨_, g3, ⟨by show 0 ≤ _; omega, (fun d hd => nomatch hd)⟩, Nat.le_trans (show _ ≤ 20 by decide +kernel) (by omega)⟩
    · exact ⟨_, g4, ⟨by show 2 ≤ _; omega, fun d hd => by
        rcases List.mem_cons.mp hd with z | z
        · rw [z]; exact ok_str (by decide +kernel) (by decide +kernel)
        · rw [List.mem_singleton.mp z]; exact ok_str (by decide +kernel) (by decide +kernel)⟩, Nat.le_trans (show _ ≤ 20 by decide +kernel) (by omega)⟩
    · exact ⟨_, .str _, ok_str (by decide +kernel) (by decide +kernel), Nat.le_trans (show _ ≤ 8 by decide +kernel) (by omega)⟩
  have B2 := B1.same S1
  replace hd := dp_same (rm_same S1) _ _ hd
  replace s1 := s1.trans (But.of S1)
  clear g1 g2 g3 g4 bx hu1 hu2 hu3 hu4 hu5 f1 f2 f3 f4 f5 nl n1 n2 n3 n4 B1 hd0 S1
  apply late
  · intro rest
    refine ⟨_, rfl, _, _, _, _, _, rfl, .ty _, ty_of (dp_same rm_sub _ _ hd), kit_ty (kT d), _, rfl, ?_⟩
    by_cases hT : isT d = false
    · rw [hT]
      exact iteF (iteF rest)
    replace hT : isT d = true := eq_true_of_ne_false hT
    rw [hT]
    refine iteT ⟨_, rfl, _, _, rfl, rfl, _, rfl, ite2 (fun c2 => ?_) (fun c2 => rest)⟩
    obtain ⟨ds, rfl⟩ : ∃ ds, d = .tuple ds := by
      cases d <;> first | exact ⟨_, rfl⟩ | cases hT
    clear rest
    have gs : Gs e n wt (8 + e) ds := ⟨ok.2, hw, ok.1⟩
    have okT : OkT e (n + 1) (.tuple ds) := ok
    cases hd with | @tup t xs _ ht ax =>
    have hxl : xs.length ≤ 10 := by rw [dpAll_len ax]; have : ds.length ≤ 8 + e := ok.1; omega
    have mk : ∀ {H : Hp} {p : Addr} {ys : List V} {es : List PyData} {w' l' : Nat}, SqT K (rm a H) p ys → DpAll K (rm a H) ys es → Gs e n w' l' es → w' ≤ 2 * wt + 60 → l' ≤ 9 + e → Gv K a (e + 1) (n + 1 + 1) (2 * wt + 60) H (.ref p) := fun h1 h2 h3 h4 h5 =>
      ⟨_, .tup h1 h2, ((h3.le (Nat.le_succ _) (Nat.le_succ _) h4 (show _ ≤ 8 + (e + 1) by omega)).tup).1, ((h3.le (Nat.le_succ e) (Nat.le_succ n) h4 (show _ ≤ 8 + (e + 1) by omega)).tup).2⟩
    have ok1 : OkT (e + 1) (n + 1) (.tuple ds) := okT.mono (Nat.le_succ _) (Nat.le_refl _)
    have mkN : ∀ {H : Hp} {p : Addr} {ys : List V} {es : List PyData} {w' l' : Nat}, SqT K (rm a H) p ys → DpAll K (rm a H) ys es → Gs (e + 1) (n + 1) w' l' es → w' ≤ 2 * wt + 60 → l' ≤ 9 + e → Gv K a (e + 1) (n + 1 + 1) (2 * wt + 60) H (.ref p) := fun h1 h2 h3 h4 h5 =>
      ⟨_, .tup h1 h2, ((h3.le (Nat.le_refl _) (Nat.le_refl _) h4 (show _ ≤ 8 + (e + 1) by omega)).tup).1, ((h3.le (Nat.le_refl (e + 1)) (Nat.le_refl (n + 1)) h4 (show _ ≤ 8 + (e + 1) by omega)).tup).2⟩
    -- list(thing)
    refine ⟨_, rfl, t, xs, rfl, .inr (seqT rm_sub ht), fun l1 nl1 => ?_⟩
    obtain ⟨u2, hu2⟩ := B2.get
    have x1 := same_upd (o := .lst xs) nl1
    have G1 : Gv K a (e + 1) (n + 1 + 1) (2 * wt + 60) (upd H2 l1 (.lst xs)) (.ref l1) := ⟨_, .lst (SqL.of (rm_new hu2 nl1)) (dpAll_same (rm_same x1) _ _ ax), ((gs.le (Nat.le_succ _) (Nat.le_succ _) (show wt ≤ 2 * wt + 60 by omega) (show _ ≤ 8 + (e + 1) by omega)).lst).1, ((gs.le (Nat.le_succ e) (Nat.le_succ n) (show wt ≤ 2 * wt + 60 by omega) (show _ ≤ 8 + (e + 1) by omega)).lst).2⟩
    replace s1 := s1.trans (But.of x1)
    replace ht := seqT (rm_same x1) ht
    replace ax := dpAll_same (rm_same x1) _ _ ax
    replace go := fun v hv => (go v hv).but (But.of x1)
    have B3 := B2.same x1
    generalize upd H2 l1 (.lst xs) = H3 at *
    clear x1 hl hu2 B2
    -- thing[1:]
    refine ⟨_, rfl, 1, rfl, ?_⟩
    unfold tNoPart
    refine slA_all B3.get ht fun p2 H4 x1 hp => ?_
    obtain ⟨i, j, hc⟩ := dpAll_cut (dpAll_same (rm_same x1) _ _ ax) (some 1) none
    have G2 := mk hp hc ((gs.drop i).take j) (by omega) (by omega)
    replace s1 := s1.trans (But.of x1)
    replace ht := seqT (rm_same x1) ht
    replace ax := dpAll_same (rm_same x1) _ _ ax
    replace G1 := G1.but (But.of x1)
    have B4 := B3.same x1
    clear x1 hp hc
    -- thing[:-1]
    refine ⟨_, rfl, 1, rfl, -1, rfl, ?_⟩
    refine slA_all B4.get ht fun p3 H5 x1 hp => ?_
    obtain ⟨i, j, hc⟩ := dpAll_cut (dpAll_same (rm_same x1) _ _ ax) none (some (-1))
    have G3 := mk hp hc ((gs.drop i).take j) (by omega) (by omega)
    replace s1 := s1.trans (But.of x1)
    replace ht := seqT (rm_same x1) ht
    replace ax := dpAll_same (rm_same x1) _ _ ax
    replace G1 := G1.but (But.of x1)
    replace G2 := G2.but (But.of x1)
    have B5 := B4.same x1
    clear x1 hp hc
    -- thing + thing[:1]
    refine ⟨_, rfl, _, rfl, 1, rfl, ?_⟩
    refine slA_all B5.get ht fun p4 H6 x1 hp => ?_
    obtain ⟨i, j, hc⟩ := dpAll_cut (dpAll_same (rm_same x1) _ _ ax) none (some 1)
    have hcl := cutV_length xs none (some 1)
    replace s1 := s1.trans (But.of x1)
    replace ht := seqT (rm_same x1) ht
    replace ax := dpAll_same (rm_same x1) _ _ ax
    replace G1 := G1.but (But.of x1)
    replace G2 := G2.but (But.of x1)
    replace G3 := G3.but (But.of x1)
    have B6 := B5.same x1
    clear x1
    refine catA_all B6.get ht hp (by omega) fun p5 H7 x1 hp' => ?_
    have G4 := mk hp' (dpAll_app (dpAll_same (rm_same x1) _ _ hc) (dpAll_same (rm_same x1) _ _ ax)) (gs.app (l' := 1) ⟨((gs.drop i).take j).ok, ((gs.drop i).take j).wt, by
      have e1 := dpAll_len hc
      rw [← e1, show cutV xs none (some 1) = xs.take 1 from cut_to xs 1, List.length_take]
      omega⟩) (by omega) (by omega)
    replace s1 := s1.trans (But.of x1)
    replace ht := seqT (rm_same x1) ht
    replace ax := dpAll_same (rm_same x1) _ _ ax
    replace G1 := G1.but (But.of x1)
    replace G2 := G2.but (But.of x1)
    replace G3 := G3.but (But.of x1)
    have B7 := B6.same x1
    clear x1 hp hp' hc
    -- thing[::-1]
    refine ⟨_, rfl, t, xs, rfl, seqT rm_sub ht, fun p6 np => ?_⟩
    obtain ⟨u7, hu7⟩ := B7.get
    have x1 := same_upd (o := .tup xs.reverse) np
    have G5 := mk (H := upd H7 p6 (.tup xs.reverse)) (SqT.of (rm_new hu7 np)) (dpAll_rev (dpAll_same (rm_same x1) _ _ ax)) gs.rev (by omega) (by omega)
    replace s1 := s1.trans (But.of x1)
    replace ht := seqT (rm_same x1) ht
    replace ax := dpAll_same (rm_same x1) _ _ ax
    replace G1 := G1.but (But.of x1)
    replace G2 := G2.but (But.of x1)
    replace G3 := G3.but (But.of x1)
    replace G4 := G4.but (But.of x1)
    have B8 := B7.same x1
    generalize upd H7 p6 (.tup xs.reverse) = H8 at *
    clear x1 hu7
    -- (thing,)
    refine ⟨_, rfl, z1, fun p7 np => ?_⟩
    obtain ⟨u8, hu8⟩ := B8.get
    have x1 := same_upd (o := .tup [.ref t]) np
    have G6 := mkN (H := upd H8 p7 (.tup [.ref t])) (SqT.of (rm_new hu8 np)) (.cons (dp_same (rm_same x1) _ _ (.tup ht ax)) .nil) (.cons ok1 hw .nil (w := 0) (l := 0)) (by omega) (by omega)
    replace s1 := s1.trans (But.of x1)
    replace ht := seqT (rm_same x1) ht
    replace ax := dpAll_same (rm_same x1) _ _ ax
    replace G1 := G1.but (But.of x1)
    replace G2 := G2.but (But.of x1)
    replace G3 := G3.but (But.of x1)
    replace G4 := G4.but (But.of x1)
    replace G5 := G5.but (But.of x1)
    have B9 := B8.same x1
    generalize upd H8 p7 (.tup [.ref t]) = H9 at *
    clear x1 hu8
    -- thing + (3,)
    refine ⟨_, rfl, z1, fun p8 np => ?_⟩
    obtain ⟨u9, hu9⟩ := B9.get
    have x1 := same_upd (o := .tup [.int 3]) np
    have hp : SqT K (rm a (upd H9 p8 (.tup [.int 3]))) p8 [.int 3] := SqT.of (rm_new hu9 np)
    replace s1 := s1.trans (But.of x1)
    replace ht := seqT (rm_same x1) ht
    replace ax := dpAll_same (rm_same x1) _ _ ax
    replace G1 := G1.but (But.of x1)
    replace G2 := G2.but (But.of x1)
    replace G3 := G3.but (But.of x1)
    replace G4 := G4.but (But.of x1)
    replace G5 := G5.but (But.of x1)
    replace G6 := G6.but (But.of x1)
    have B10 := B9.same x1
    generalize upd H9 p8 (.tup [.int 3]) = H10 at *
    clear x1 hu9
    refine catA_all B10.get ht hp (by show _ + 1 ≤ 1000; omega) fun p9 H11 x1 hp' => ?_
    have G7 := mkN hp' (dpAll_app (.cons (.int 3) .nil) (dpAll_same (rm_same x1) _ _ ax)) ((gs.le (Nat.le_succ _) (Nat.le_succ _) (Nat.le_refl _) (Nat.le_refl _)).app (.cons (ok_int (by decide) (by decide)) (wt_int (by decide) (by decide)) .nil (w := 0) (l := 0))) (by omega) (by omega)
    replace s1 := s1.trans (But.of x1)
    replace ht := seqT (rm_same x1) ht
    replace ax := dpAll_same (rm_same x1) _ _ ax
    replace G1 := G1.but (But.of x1)
    replace G2 := G2.but (But.of x1)
    replace G3 := G3.but (But.of x1)
    replace G4 := G4.but (But.of x1)
    replace G5 := G5.but (But.of x1)
    replace G6 := G6.but (But.of x1)
    have B11 := B10.same x1
    clear x1 hp hp'
    refine ⟨by show 7 ≤ sizeLine; decide, fun l8 np => ?_⟩
    obtain ⟨u11, hu11⟩ := B11.get
    have x1 := same_upd (o := .lst [.ref l1, .ref p2, .ref p3, .ref p5, .ref p6, .ref p7, .ref p9]) np
    have hl8 := rm_new (o := .lst [.ref l1, .ref p2, .ref p3, .ref p5, .ref p6, .ref p7, .ref p9]) hu11 np
    replace s1 := s1.trans (But.of x1)
    replace ht := seqT (rm_same x1) ht
    replace ax := dpAll_same (rm_same x1) _ _ ax
    replace G1 := G1.but (But.of x1)
    replace G2 := G2.but (But.of x1)
    replace G3 := G3.but (But.of x1)
    replace G4 := G4.but (But.of x1)
    replace G5 := G5.but (But.of x1)
    replace G6 := G6.but (But.of x1)
    replace G7 := G7.but (But.of x1)
    have B12 := B11.same x1
    generalize upd H11 l8 (.lst [.ref l1, .ref p2, .ref p3, .ref p5, .ref p6, .ref p7, .ref p9]) = H12 at *
    clear x1 hu11
    have ds1 : Dp K (rm a H12) (.ref t) (.tuple ds) := .tup ht ax
    -- ('plus', thing, 1)
    refine ⟨_, rfl, _, rfl, z3, fun q1 np => ?_⟩
    obtain ⟨u12, hu12⟩ := B12.get
    have x1 := same_upd (o := .tup [.str "plus", .ref t, .int 1]) np
    have G8 := mkN (H := upd H12 q1 (.tup [.str "plus", .ref t, .int 1])) (SqT.of (rm_new hu12 np)) (.cons (.str _) (.cons (dp_same (rm_same x1) _ _ ds1) (.cons (.int _) .nil)))
      (.cons (w' := 8) (ok_str (by decide +kernel) (by decide +kernel)) (by decide +kernel) (.cons ok1 hw (.cons (ok_int (by decide) (by decide)) (wt_int (by decide) (by decide)) (.nil (w := 0) (l := 0))))) (by omega) (by omega)
    replace s1 := s1.trans (But.of x1)
    replace ht := seqT (rm_same x1) ht
    replace ax := dpAll_same (rm_same x1) _ _ ax
    replace G1 := G1.but (But.of x1)
    replace G2 := G2.but (But.of x1)
    replace G3 := G3.but (But.of x1)
    replace G4 := G4.but (But.of x1)
    replace G5 := G5.but (But.of x1)
    replace G6 := G6.but (But.of x1)
    replace G7 := G7.but (But.of x1)
    have B13 := B12.same x1
    replace ds1 := dp_same (rm_same x1) _ _ ds1
    replace hl8 := rm_same x1 _ _ hl8
    generalize upd H12 q1 (.tup [.str "plus", .ref t, .int 1]) = H13 at *
    clear x1 hu12
    -- ('not', thing)
    refine ⟨_, rfl, z2, fun q2 np => ?_⟩
    obtain ⟨u13, hu13⟩ := B13.get
    have x1 := same_upd (o := .tup [.str "not", .ref t]) np
    have G9 := mkN (H := upd H13 q2 (.tup [.str "not", .ref t])) (SqT.of (rm_new hu13 np)) (.cons (.str _) (.cons (dp_same (rm_same x1) _ _ ds1) .nil))
      (.cons (w' := 8) (ok_str (by decide +kernel) (by decide +kernel)) (by decide +kernel) (.cons ok1 hw (.nil (w := 0) (l := 0)))) (by omega) (by omega)
    replace s1 := s1.trans (But.of x1)
    replace ht := seqT (rm_same x1) ht
    replace ax := dpAll_same (rm_same x1) _ _ ax
    replace G1 := G1.but (But.of x1)
    replace G2 := G2.but (But.of x1)
    replace G3 := G3.but (But.of x1)
    replace G4 := G4.but (But.of x1)
    replace G5 := G5.but (But.of x1)
    replace G6 := G6.but (But.of x1)
    replace G7 := G7.but (But.of x1)
    replace G8 := G8.but (But.of x1)
    have B14 := B13.same x1
    replace ds1 := dp_same (rm_same x1) _ _ ds1
    replace hl8 := rm_same x1 _ _ hl8
    generalize upd H13 q2 (.tup [.str "not", .ref t]) = H14 at *
    clear x1 hu13
    -- ('item', 'a', thing)
    refine ⟨_, rfl, z3, fun q3 np => ?_⟩
    obtain ⟨u14, hu14⟩ := B14.get
    have x1 := same_upd (o := .tup [.str "item", .str "a", .ref t]) np
    have G10 := mkN (H := upd H14 q3 (.tup [.str "item", .str "a", .ref t])) (SqT.of (rm_new hu14 np)) (.cons (.str _) (.cons (.str _) (.cons (dp_same (rm_same x1) _ _ ds1) .nil)))
      (.cons (w' := 8) (ok_str (by decide +kernel) (by decide +kernel)) (by decide +kernel) (.cons (w' := 8) (ok_str (by decide +kernel) (by decide +kernel)) (by decide +kernel) (.cons ok1 hw (.nil (w := 0) (l := 0))))) (by omega) (by omega)
    replace s1 := s1.trans (But.of x1)
    replace ht := seqT (rm_same x1) ht
    replace ax := dpAll_same (rm_same x1) _ _ ax
    replace G1 := G1.but (But.of x1)
    replace G2 := G2.but (But.of x1)
    replace G3 := G3.but (But.of x1)
    replace G4 := G4.but (But.of x1)
    replace G5 := G5.but (But.of x1)
    replace G6 := G6.but (But.of x1)
    replace G7 := G7.but (But.of x1)
    replace G8 := G8.but (But.of x1)
    replace G9 := G9.but (But.of x1)
    have B15 := B14.same x1
    replace ds1 := dp_same (rm_same x1) _ _ ds1
    replace hl8 := rm_same x1 _ _ hl8
    generalize upd H14 q3 (.tup [.str "item", .str "a", .ref t]) = H15 at *
    clear x1 hu14
    -- ('both', thing, thing)
    refine ⟨_, rfl, _, rfl, z3, fun q4 np => ?_⟩
    obtain ⟨u15, hu15⟩ := B15.get
    have x1 := same_upd (o := .tup [.str "both", .ref t, .ref t]) np
    have G11 := mkN (H := upd H15 q4 (.tup [.str "both", .ref t, .ref t])) (SqT.of (rm_new hu15 np)) (.cons (.str _) (.cons (dp_same (rm_same x1) _ _ ds1) (.cons (dp_same (rm_same x1) _ _ ds1) .nil)))
      (.cons (w' := 8) (ok_str (by decide +kernel) (by decide +kernel)) (by decide +kernel) (.cons ok1 hw (.cons ok1 hw (.nil (w := 0) (l := 0))))) (by omega) (by omega)
    replace s1 := s1.trans (But.of x1)
    replace ht := seqT (rm_same x1) ht
    replace ax := dpAll_same (rm_same x1) _ _ ax
    replace G1 := G1.but (But.of x1)
    replace G2 := G2.but (But.of x1)
    replace G3 := G3.but (But.of x1)
    replace G4 := G4.but (But.of x1)
    replace G5 := G5.but (But.of x1)
    replace G6 := G6.but (But.of x1)
    replace G7 := G7.but (But.of x1)
    replace G8 := G8.but (But.of x1)
    replace G9 := G9.but (But.of x1)
    replace G10 := G10.but (But.of x1)
    have B16 := B15.same x1
    replace hl8 := rm_same x1 _ _ hl8
    generalize upd H15 q4 (.tup [.str "both", .ref t, .ref t]) = H16 at *
    clear x1 hu15 ds1
    refine ⟨by show 4 ≤ sizeLine; decide, fun l9 np => ?_⟩
    have x1 := same_upd (o := .lst [.ref q1, .ref q2, .ref q3, .ref q4]) np
    refine ⟨l8, l9, _, _, rfl, rfl, x1 _ _ (rm_sub _ _ hl8), upd_same, by show 7 + 4 ≤ sizeLine; decide, fun l10 np' => ?_⟩
    have x2 := same_upd (o := .lst ([.ref l1, .ref p2, .ref p3, .ref p5, .ref p6, .ref p7, .ref p9] ++ [.ref q1, .ref q2, .ref q3, .ref q4])) np'
    have B17 := (B16.same x1).same x2
    refine ⟨_, rfl, _, rfl, a, c + 1, 11, rfl, B17, by omega, by decide, by decide, fun r H18 r0 r1 s18 B18 => ?_⟩
    have hlt : r.toNat < ([V.ref l1, V.ref p2, V.ref p3, V.ref p5, V.ref p6, V.ref p7, V.ref p9] ++ [V.ref q1, V.ref q2, V.ref q3, V.ref q4]).length := by show _ < 11; omega
    have ne : l10 ≠ a := fun z => by obtain ⟨u, hu⟩ := (B16.same x1).get; rw [z, hu] at np'; cases np'
    refine ⟨l10, _, r, _, rfl, rfl, SqL.of (s18 _ _ ne upd_same), at_of (j := r.toNat) (by omega) (List.getElem?_eq_getElem hlt), ?_⟩
    refine q _ _ ((s1.trans (But.of (x1.trans x2))).trans s18) (B18.le (by omega)) ?_
    have mem := List.getElem_mem hlt
    generalize ([V.ref l1, V.ref p2, V.ref p3, V.ref p5, V.ref p6, V.ref p7, V.ref p9] ++ [V.ref q1, V.ref q2, V.ref q3, V.ref q4])[r.toNat] = v at mem ⊢
    refine Gv.but (H := H16) ?_ ((But.of (x1.trans x2)).trans s18)
    simp only [List.cons_append, List.nil_append, List.mem_cons, List.not_mem_nil, or_false] at mem
    rcases mem with rfl | rfl | rfl | rfl | rfl | rfl | rfl | rfl | rfl | rfl | rfl
    · exact G1
    · exact G2
    · exact G3
    · exact G4
    · exact G5
    · exact G6
    · exact G7
    · exact G8
    · exact G9
    · exact G10
    · exact G11
  apply late
  · intro rest
    refine ⟨_, rfl, _, _, _, _, _, rfl, .ty _, ty_of (dp_same rm_sub _ _ hd), kit_ty (kS d), _, rfl, ?_⟩
    by_cases hT : isS d = false
    · rw [hT]
      exact iteF (iteF rest)
    replace hT : isS d = true := eq_true_of_ne_false hT
    rw [hT]
    refine iteT ⟨_, rfl, _, _, rfl, rfl, _, rfl, ite2 (fun c2 => ?_) (fun c2 => rest)⟩
    obtain ⟨z, rfl⟩ : ∃ z, d = .str z := by
      cases d <;> first | exact ⟨_, rfl⟩ | cases hT
    clear rest
    cases hd
    obtain ⟨okz, okc⟩ : z.cps.size ≤ 8 + e ∧ ∀ c ∈ z.cps.toList, c < 128 := ok
    have hw : z.cps.size ≤ wt := hw
    have zl : z.length ≤ sizeLine := Nat.le_trans okz (Nat.le_trans (show 8 + e ≤ 10 by omega) (by decide))
    refine ⟨_, rfl, _, rfl, .inr ⟨z, rfl, zl, _, 1, rfl, rfl, a, c + 1, _, rfl, B2, by omega, by show (0 : Int) < (z.cps.size : Nat) + 1; omega, by show ((z.cps.size : Nat) : Int) + 1 ≤ 100000; omega, fun at_ H3 a0 a1 s3 B3 => ?_⟩⟩
    obtain ⟨i, rfl⟩ : ∃ i : Nat, at_ = (i : Int) := ⟨at_.toNat, by omega⟩
    have hi : i ≤ z.cps.size := by
      have a1 : (i : Int) < (z.cps.size : Nat) + 1 := a1
      omega
    refine ⟨_, rfl, _, rfl, i, rfl, .inr ⟨z, rfl, zl, _, rfl, by show 5 ≤ sizeLine; decide, fun l' nl' => ?_⟩⟩
    obtain ⟨u3, hu3⟩ := B3.get
    refine ⟨a, l', c + 2, _, rfl, B3.same (same_upd nl'), by omega, rm_new hu3 nl', by decide, by decide, fun j v H5 hj s5 B5 => ?_⟩
    obtain ⟨y, rfl, y1, yc⟩ := fix_at hj
    have e1 : (cutS z none (some (i : Int))).cps.size ≤ i := by
      rw [cutS_len, HT.sIx_nat, HT.sIx_none]
      omega
    refine ⟨_, _, rfl, rfl, ?_, _, rfl, _, rfl, _, rfl, a, c + 3, 2, rfl, B5, by omega, by decide, by decide, fun r H6 r0 r1 s6 B6 => ?_⟩
    · show (cutS z none (some (i : Int))).cps.size + y.cps.size ≤ sizeLine
      exact Nat.le_trans (show _ ≤ 20 by omega) (by decide)
    obtain ⟨r', rfl⟩ : ∃ r' : Nat, r = (r' : Int) := ⟨r.toNat, by omega⟩
    refine ⟨_, _, rfl, rfl, _, rfl, ?_⟩
    unfold tNoPart
    have e2 : (cutS z (some ((i : Int) + (r' : Int))) none).cps.size ≤ z.cps.size - i := by
      rw [cutS_len, show (i : Int) + (r' : Int) = ((i + r' : Nat) : Int) by omega, HT.sIx_nat, HT.sIx_none]
      show min (z.cps.size - min (i + r') z.cps.size) _ ≤ _
      omega
    have e3 := app_size (cutS z none (some (i : Int))) y
    have e4 := app_size (cutS z none (some (i : Int)) ++ y) (cutS z (some ((i : Int) + (r' : Int))) none)
    refine ⟨z, rfl, zl, _, _, rfl, rfl, ?_, ?_⟩
    · show (cutS z none (some (i : Int)) ++ y).cps.size + (cutS z (some ((i : Int) + (r' : Int))) none).cps.size ≤ sizeLine
      exact Nat.le_trans (show _ ≤ 20 by omega) (by decide)
    refine q _ _ (s1.trans (s3.trans ((But.of (same_upd nl')).trans (s5.trans s6)))) (B6.le (by omega)) ⟨_, .str _, ⟨?_, app_codes (app_codes (cutS_codes okc) yc) (cutS_codes okc)⟩, ?_⟩
    · rw [e4, e3]
      omega
    · show (_ : Str).cps.size ≤ _
      rw [e4, e3]
      omega
  refine ⟨_, rfl, x, d, rfl, dp_same rm_sub _ _ hd, trivial, fun H3 s3 => ⟨_, rfl, ?_⟩⟩
  have B3 := B2.same s3
  replace hl := rm_same s3 _ _ hl
  replace go := fun v hv => (go v hv).but (But.of s3)
  replace s1 := s1.trans (But.of s3)
  replace hd := dp_same (rm_same s3) _ _ hd
  clear s3 B2
  apply late
  · intro rest
    by_cases hT : isNum d = false
    · rw [hT]
      exact iteF (iteF rest)
    replace hT : isNum d = true := eq_true_of_ne_false hT
    rw [hT]
    refine iteT ⟨_, rfl, _, _, rfl, rfl, _, rfl, ite2 (fun c2 => ?_) (fun c2 => rest)⟩
    obtain ⟨i, rfl⟩ : ∃ i, d = .int i := by
      cases d <;> first | exact ⟨_, rfl⟩ | cases hT
    clear rest
    cases hd
    obtain ⟨i0, i1⟩ : -(1000001 + 1000000 * (e : Int)) ≤ i ∧ i ≤ 1000001 + 1000000 * (e : Int) := ok
    refine ⟨_, rfl, _, rfl, 1, rfl, 10, 6, rfl, rfl, cp, 10, 6, rfl, rfl, cp, _, rfl, by show 4 ≤ sizeLine; decide, fun l' nl' => ?_⟩
    obtain ⟨u3, hu3⟩ := B3.get
    refine ⟨a, l', c + 1, _, rfl, B3.same (same_upd nl'), by omega, rm_new hu3 nl', by decide, by decide, fun j v H5 hj s5 B5 => ?_⟩
    obtain ⟨y, rfl, y0, y1⟩ := num_at hj
    refine ⟨_, _, rfl, rfl, q _ _ (s1.trans ((But.of (same_upd nl')).trans s5)) (B5.le (by omega)) ⟨_, .int _, ⟨?_, ?_⟩, Nat.le_trans (wt_int ?_ ?_) (by omega)⟩⟩
    · show -(1000001 + 1000000 * ((e + 1 : Nat) : Int)) ≤ i + y
      omega
    · show i + y ≤ 1000001 + 1000000 * ((e + 1 : Nat) : Int)
      omega
    · show -8000000 ≤ i + y
      omega
    · show i + y ≤ 8000000
      omega
  refine ⟨_, rfl, _, rfl, a, c + 1, 14, rfl, B3, by omega, by decide, by decide, fun r H4 r0 r1 s4 B4 => ?_⟩
  have hlt : r.toNat < (oddV t1 t2 t3 t4).length := by show _ < 14; omega
  refine ⟨l, _, r, _, rfl, rfl, SqL.of (rm_sub _ _ (rm_but s4 _ _ hl)), at_of (j := r.toNat) (by omega) (List.getElem?_eq_getElem hlt), ?_⟩
  exact q _ _ (s1.trans s4) (B4.le (by omega)) ((go _ (List.getElem_mem hlt)).but s4)
theorem ok_bents (D : Df K mg "_law_bent" sBent ["_law_box", "_law_thing"] f fd) (GT : FnG P w K mg base CX0 3 "_law_take" ["_law_box", "_law_many"] spTake) (GP : FnG P w K mg base CX0 3 "_law_pick" ["_law_box", "_law_some"] (spPick K))
    (GI : FnG P w K mg base CX0 3 "_law_is_number" ["_law_thing"] (spB K (fun _ => True) isNum)) (m_isinstance : mg "isinstance" = none) (m_tuple : mg "tuple" = none) (m_str : mg "str" = none) (m_len : mg "len" = none) (m_list : mg "list" = none) :
    ∀ n, FnOk P w K mg base CX0 (n + 3) f fd ["_law_box", "_law_thing"] (spBent K n)
  | 0 => ⟨fun vs H Q E h => by
      obtain ⟨a, x, c, e, wt, rfl, _⟩ := h
      rfl, fun A outer s H args us vs Q E _ _ _ _ h => by
      obtain ⟨a, x, c, e, wt, _, _, _, _, ⟨_, _, h, _⟩, _⟩ := h
      exact h.elim⟩
  | n + 1 => ok_bent (k := n + 3) D.F (GT.mono (by omega)) (GP.mono (by omega)) (GI.mono (by omega)) (D.g (ok_bents D GT GP GI m_isinstance m_tuple m_str m_len m_list n)) m_isinstance m_tuple m_str m_len m_list
def spBentA (K : PySem.W.Frag) (m : Nat) : Sp := fun vs H Q E => ∃ n, n ≤ m ∧ spBent K n vs H Q E
theorem ok_bentA {m : Nat} (h : ∀ n, FnOk P w K mg base CX0 (n + 3) f fd ["_law_box", "_law_thing"] (spBent K n)) : FnOk P w K mg base CX0 (m + 3) f fd ["_law_box", "_law_thing"] (spBentA K m) :=
  ⟨fun vs H Q E ⟨n, _, g⟩ => (h n).1 vs H Q E g, fun A outer s H args us vs Q E a b c d ⟨n, hn, g⟩ => ((h n).mono (by omega : n + 3 ≤ m + 3)).2 A outer s H args us vs Q E a b c d g⟩
end
end Fd

set_option Elab.async false
set_option linter.all false
set_option maxRecDepth 100000
set_option maxHeartbeats 4000000
namespace Fd
open PySem PySem.Spec PyProof.Rows L2 RZ
section
variable {P : Program} {w : World} {K : PySem.W.Frag} {mg : Str → Option Value} {base : Heap} {f f' : Addr} {fd fd' : FuncData}
abbrev sChain : Stmt := top 29
theorem scChain : FnScope ["_law_box", "_law_inner", "_law_steps", "_law_kind", "_law_turn", "_law_word", "_law_more", "_law_some", "_law_beside"] ["_law_box", "_law_inner", "_law_steps", "_law_kind"] (defScope sChain) := ⟨rfl, rfl, rfl, by decide +kernel, rfl, by decide +kernel, by decide +kernel⟩
theorem six_at : ∀ {j : Nat} {v : V}, [V.str "plus", .str "minus", .str "by", .str "over", .str "rest", .str "item"][j]? = some v → ∃ y : Str, v = .str y ∧ y.cps.size ≤ 8 ∧ y.cps.all (· < 128) = true
  | 0, _, h => ⟨_, (Option.some.inj h).symm, by decide +kernel, by decide +kernel⟩
  | 1, _, h => ⟨_, (Option.some.inj h).symm, by decide +kernel, by decide +kernel⟩
  | 2, _, h => ⟨_, (Option.some.inj h).symm, by decide +kernel, by decide +kernel⟩
  | 3, _, h => ⟨_, (Option.some.inj h).symm, by decide +kernel, by decide +kernel⟩
  | 4, _, h => ⟨_, (Option.some.inj h).symm, by decide +kernel, by decide +kernel⟩
  | 5, _, h => ⟨_, (Option.some.inj h).symm, by decide +kernel, by decide +kernel⟩
  | j + 6, _, h => by simp at h
theorem three_at : ∀ {j : Nat} {v : V}, [V.str "not", .str "both", .str "any"][j]? = some v → ∃ y : Str, v = .str y ∧ y.cps.size ≤ 8 ∧ y.cps.all (· < 128) = true
  | 0, _, h => ⟨_, (Option.some.inj h).symm, by decide +kernel, by decide +kernel⟩
  | 1, _, h => ⟨_, (Option.some.inj h).symm, by decide +kernel, by decide +kernel⟩
  | 2, _, h => ⟨_, (Option.some.inj h).symm, by decide +kernel, by decide +kernel⟩
  | j + 3, _, h => by simp at h
def spChain (K : PySem.W.Frag) : Sp := fun vs H Q _ => ∃ (a : Addr) (x : V) (m : Nat) (kd : Str) (c e n wt : Nat), vs = [.ref a, x, .int m, .str kd] ∧ Box H a c ∧ c + 20 ≤ 1000000 ∧ m ≤ 10 ∧ Gv K a e (n + 2) wt H x ∧
  ∀ v H', But a H H' → Box H' a (c + 20) → Gv K a e (n + 2 + m) (wt + 60 * m) H' v → Q v H'
theorem ok_chain {k : Nat} (F : Fun K "_law_chain" "_law_chain" sChain f fd) (GT : FnG P w K mg base CX0 k "_law_take" ["_law_box", "_law_many"] spTake) (GP : FnG P w K mg base CX0 k "_law_pick" ["_law_box", "_law_some"] (spPick K)) (m_range : mg "range" = none) :
    FnOk P w K mg base CX0 (k + 1) f fd ["_law_box", "_law_inner", "_law_steps", "_law_kind"] (spChain K) := by
  obtain ⟨_, _, G__law_take, m__law_take, k__law_take, b__law_take⟩ := GT
  obtain ⟨_, _, G__law_pick, m__law_pick, k__law_pick, b__law_pick⟩ := GP
  have sc := scChain
  refine F.ok sc (fun vs H Q E h => ?_) (fun cdv A outer s H vs Q E hr h => ?_)
  · obtain ⟨a, x, m, kd, c, e, n, wt, rfl, _⟩ := h
    rfl
  obtain ⟨a, x, m, kd, c, e, n, wt, rfl, hB, hc, hm, hx, q⟩ := h
  refine ⟨_, (pss_cons (ps_for PassesOwn.never rfl (pi_range1 (by rfl) m_range (pa_cons (pv 2) pa_nil)) (pg_name (i := 4) sc.nd rfl (.inl rfl)) (pss_one (ps_if (pt_cmpR op_eq (pv 3) pe_str (nomark _)) (pss_cons (ps_set (i := 5) sc.nd rfl (.inl rfl) (pe_call G__law_pick (hr.mono (by omega)) (by rfl) m__law_pick k__law_pick b__law_pick .nil pass0 (pa_cons (pv 0) (pa_cons (pe_lst (pa_cons pe_str (pa_cons pe_str (pa_cons pe_str (pa_cons pe_str (pa_cons pe_str (pa_cons pe_str pa_nil))))))) pa_nil))))
      (pss_cons (ps_set (i := 6) sc.nd rfl (.inl rfl) (pe_ix ix_list (pe_lst (pa_cons (pe_tup (pa_cons (pv 5) (pa_cons (pv 1) (pa_cons pe_int pa_nil)))) (pa_cons (pe_tup (pa_cons (pv 5) (pa_cons (pe_tup (pa_cons pe_str pa_nil)) (pa_cons (pv 1) pa_nil)))) pa_nil))) (pe_call G__law_take (hr.mono (by omega)) (by rfl) m__law_take k__law_take b__law_take .nil pass0 (pa_cons (pv 0) (pa_cons pe_int pa_nil))) (fun _ _ => rfl)))
      (pss_one (ps_set (i := 1) sc.nd rfl (.inl rfl) (pe_ifExp (pt_cmpR op_eq (pv 5) pe_str (nomark _)) (pe_tup (pa_cons pe_str (pa_cons pe_str (pa_cons (pv 1) pa_nil)))) (pv 6)))))) (pss_cons (ps_par (i := 5) (j := 8) (by rfl) sc.nd rfl rfl (by decide) rfl rfl (pa_cons (pe_call G__law_pick (hr.mono (by omega)) (by rfl) m__law_pick k__law_pick b__law_pick .nil pass0 (pa_cons (pv 0) (pa_cons (pe_lst (pa_cons pe_str (pa_cons pe_str (pa_cons pe_str pa_nil)))) pa_nil))) (pa_cons (pe_tup (pa_cons pe_str (pa_cons pe_str pa_nil))) pa_nil)) (by rfl))
      (pss_cons (ps_set (i := 7) sc.nd rfl (.inl rfl) (pe_lst (pa_cons (pe_tup (pa_cons (pv 5) (pa_cons (pv 1) (pa_cons (pv 8) pa_nil)))) (pa_cons (pe_tup (pa_cons (pv 5) (pa_cons (pv 8) (pa_cons (pv 1) pa_nil)))) (pa_cons (pe_tup (pa_cons pe_str (pa_cons (pv 1) pa_nil))) pa_nil)))))
      (pss_one (ps_set (i := 1) sc.nd rfl (.inl rfl) (pe_ix ix_list (pv 7) (pe_ifExp (pt_cmpR op_eq (pv 5) pe_str (nomark _)) pe_int (pe_call G__law_take (hr.mono (by omega)) (by rfl) m__law_take k__law_take b__law_take .nil pass0 (pa_cons (pv 0) (pa_cons pe_int pa_nil)))) (fun _ _ => rfl)))))))))
      (pss_one (ps_ret (pv 1)))), ?_⟩
  have z1 : 1 ≤ sizeLine := by decide
  have z2 : 2 ≤ sizeLine := by decide
  have z3 : 3 ≤ sizeLine := by decide
  refine ⟨_, rfl, m, rfl, by omega, by omega, for_it (walk_range (lo := 0) (n := m)) (fun i σ H' => ∃ x' v4 v5 v6 v7 v8, σ = [some (.ref a), some x', some (.int m), some (.str kd), v4, v5, v6, v7, v8] ∧ But a H H' ∧ Box H' a (c + 2 * i) ∧ Gv K a e (n + 2 + i) (wt + 60 * i) H' x') ?_ ?_ ?_ ?_⟩
  · exact ⟨x, none, none, none, none, none, rfl, But.refl _ _, hB, hx⟩
  · exact fun i σ H' _ _ => trivial
  · rintro i v σ H1 H2 hi ⟨x', v4, v5, v6, v7, v8, rfl, sm, B1, g1⟩ ⟨rfl, rfl⟩
    have mk : ∀ {H : Hp} {p : Addr} {ys : List V} {es : List PyData} {w' l' : Nat}, SqT K (rm a H) p ys → DpAll K (rm a H) ys es → Gs e (n + 2 + i) w' l' es → w' ≤ wt + 60 * (i + 1) → l' ≤ 3 → Gv K a e (n + 2 + (i + 1)) (wt + 60 * (i + 1)) H (.ref p) := fun h1 h2 h3 h4 h5 =>
      ⟨_, .tup h1 h2, ((h3.le (Nat.le_refl _) (Nat.le_refl _) h4 (show _ ≤ 8 + e by omega)).tup).1, ((h3.le (Nat.le_refl e) (Nat.le_refl (n + 2 + i)) h4 (show _ ≤ 8 + e by omega)).tup).2⟩
    have okx : OkT e (n + 2 + i) (.tuple [.str "x"]) := by
      rw [show n + 2 + i = n + i + 1 + 1 by omega]
      exact ⟨by show 1 ≤ _; omega, fun d hd => by rw [List.mem_singleton.mp hd]; exact ok_str (by decide +kernel) (by decide +kernel)⟩
    have okm : OkT e (n + 2 + i) (.tuple [.str "meets", .str "ab"]) := by
      rw [show n + 2 + i = n + i + 1 + 1 by omega]
      exact ⟨by show 2 ≤ _; omega, fun d hd => by
        rcases List.mem_cons.mp hd with z | z
        · rw [z]; exact ok_str (by decide +kernel) (by decide +kernel)
        · rw [List.mem_singleton.mp z]; exact ok_str (by decide +kernel) (by decide +kernel)⟩
    have e1 : n + 2 + i = (n + i + 1) + 1 := by omega
    have okS : ∀ {z : Str}, z.cps.size ≤ 8 → z.cps.all (· < 128) = true → OkT e (n + 2 + i) (.str z) := fun h1 h2 => by rw [e1]; exact ok_str h1 h2
    have ok3 : OkT e (n + 2 + i) (.int 3) := by rw [e1]; exact ok_int (by decide) (by decide)
    refine ⟨_, rfl, rfl, _, rfl, ?_⟩
    rw [eq_str]
    refine ite2 (fun c1 => ?_) (fun c1 => ?_)
    · refine ⟨_, rfl, by show 6 ≤ sizeLine; decide, fun l nl => ?_⟩
      obtain ⟨u1, hu1⟩ := B1.get
      refine ⟨a, l, c + 2 * i, _, rfl, B1.same (same_upd nl), by omega, rm_new hu1 nl, by decide, by decide, fun j v H3 hj s3 B3 => ?_⟩
      obtain ⟨y, rfl, y8, yc⟩ := six_at hj
      replace g1 := g1.but ((But.of (same_upd nl)).trans s3)
      replace sm := sm.trans ((But.of (same_upd nl)).trans s3)
      clear s3 nl hu1 B1
      obtain ⟨dx, hdx, okd, wdx⟩ := g1
      have wy : (PyData.str y).weight ≤ 8 := y8
      refine ⟨_, rfl, _, rfl, z3, fun t1 n1 => ?_⟩
      obtain ⟨u1, hu1⟩ := B3.get
      have x1 := same_upd (o := .tup [.str y, x', .int 3]) n1
      have G1 := mk (H := upd H3 t1 (.tup [.str y, x', .int 3])) (SqT.of (rm_new hu1 n1)) (.cons (.str _) (.cons (dp_same (rm_same x1) _ _ hdx) (.cons (.int _) .nil))) (.cons (okS y8 yc) wy (.cons okd wdx (.cons ok3 (wt_int (by decide) (by decide)) (.nil (w := 0) (l := 0))))) (by omega) (by omega)
      replace hdx := dp_same (rm_same x1) _ _ hdx
      replace sm := sm.trans (But.of x1)
      have B4 := B3.same x1
      generalize upd H3 t1 (.tup [.str y, x', .int 3]) = H4 at *
      clear x1 hu1
      refine ⟨_, rfl, z1, fun t2 n2 => ?_⟩
      obtain ⟨u1, hu1⟩ := B4.get
      have x1 := same_upd (o := .tup [.str "x"]) n2
      have ht2 : Dp K (rm a (upd H4 t2 (.tup [.str "x"]))) (.ref t2) (.tuple [.str "x"]) := .tup (SqT.of (rm_new hu1 n2)) (.cons (.str _) .nil)
      replace hdx := dp_same (rm_same x1) _ _ hdx
      replace sm := sm.trans (But.of x1)
      replace G1 := G1.but (But.of x1)
      have B5 := B4.same x1
      generalize upd H4 t2 (.tup [.str "x"]) = H5 at *
      clear x1 hu1
      refine ⟨_, rfl, z3, fun t3 n3 => ?_⟩
      obtain ⟨u1, hu1⟩ := B5.get
      have x1 := same_upd (o := .tup [.str y, .ref t2, x']) n3
      have G2 := mk (H := upd H5 t3 (.tup [.str y, .ref t2, x'])) (SqT.of (rm_new hu1 n3)) (.cons (.str _) (.cons (dp_same (rm_same x1) _ _ ht2) (.cons (dp_same (rm_same x1) _ _ hdx) .nil))) (.cons (okS y8 yc) wy (.cons okx (show _ ≤ 8 by decide +kernel) (.cons okd wdx (.nil (w := 0) (l := 0))))) (by omega) (by omega)
      replace hdx := dp_same (rm_same x1) _ _ hdx
      replace sm := sm.trans (But.of x1)
      replace G1 := G1.but (But.of x1)
      have B6 := B5.same x1
      generalize upd H5 t3 (.tup [.str y, .ref t2, x']) = H6 at *
      clear x1 hu1 ht2
      refine ⟨z2, fun l nl => ?_⟩
      have x1 := same_upd (o := .lst [.ref t1, .ref t3]) nl
      refine ⟨_, rfl, a, c + 2 * i + 1, 2, rfl, B6.same x1, by omega, by decide, by decide, fun r H7 r0 r1 s7 B7 => ?_⟩
      obtain ⟨u1, hu1⟩ := B6.get
      have ne : l ≠ a := fun z => by rw [z, hu1] at nl; cases nl
      have hlt : r.toNat < [V.ref t1, V.ref t3].length := by show _ < 2; omega
      refine ⟨l, _, r, _, rfl, rfl, SqL.of (s7 _ _ ne upd_same), at_of (j := r.toNat) (by omega) (List.getElem?_eq_getElem hlt), ?_⟩
      have mem := List.getElem_mem hlt
      generalize [V.ref t1, V.ref t3][r.toNat] = v at mem ⊢
      have gv : Gv K a e (n + 2 + (i + 1)) (wt + 60 * (i + 1)) H7 v := by
        refine Gv.but (H := H6) ?_ ((But.of x1).trans s7)
        simp only [List.mem_cons, List.not_mem_nil, or_false] at mem
        rcases mem with rfl | rfl
        · exact G1
        · exact G2
      replace hdx := dp_same ((rm_same x1).trans (rm_but s7)) _ _ hdx
      replace sm := sm.trans ((But.of x1).trans s7)
      refine ⟨_, rfl, rfl, _, rfl, ?_⟩
      rw [eq_str]
      refine ite2 (fun c2 => ?_) (fun c2 => ?_)
      · refine ⟨_, rfl, z3, fun t4 n4 => ?_⟩
        obtain ⟨u7, hu7⟩ := B7.get
        have x2 := same_upd (o := .tup [.str "item", .str "ab", x']) n4
        have G3 := mk (H := upd H7 t4 (.tup [.str "item", .str "ab", x'])) (SqT.of (rm_new hu7 n4)) (.cons (.str _) (.cons (.str _) (.cons (dp_same (rm_same x2) _ _ hdx) .nil)))
          (.cons (okS (z := "item") (by decide +kernel) (by decide +kernel)) (show _ ≤ 8 by decide +kernel) (.cons (okS (z := "ab") (by decide +kernel) (by decide +kernel)) (show _ ≤ 8 by decide +kernel) (.cons okd wdx (.nil (w := 0) (l := 0))))) (by omega) (by omega)
        exact ⟨_, _, _, _, _, _, rfl, sm.trans (But.of x2), (B7.same x2).le (by omega), G3⟩
      · exact ⟨_, rfl, _, _, _, _, _, _, rfl, sm, B7.le (by omega), gv⟩
    · refine ⟨_, rfl, z3, fun l nl => ?_⟩
      obtain ⟨u1, hu1⟩ := B1.get
      refine ⟨a, l, c + 2 * i, _, rfl, B1.same (same_upd nl), by omega, rm_new hu1 nl, by decide, by decide, fun j v H3 hj s3 B3 => ?_⟩
      obtain ⟨y, rfl, y8, yc⟩ := three_at hj
      replace g1 := g1.but ((But.of (same_upd nl)).trans s3)
      replace sm := sm.trans ((But.of (same_upd nl)).trans s3)
      clear s3 nl hu1 B1
      obtain ⟨dx, hdx, okd, wdx⟩ := g1
      have wy : (PyData.str y).weight ≤ 8 := y8
      refine ⟨z2, fun t2 n2 => ?_⟩
      obtain ⟨u1, hu1⟩ := B3.get
      have x1 := same_upd (o := .tup [.str "meets", .str "ab"]) n2
      have ht2 : Dp K (rm a (upd H3 t2 (.tup [.str "meets", .str "ab"]))) (.ref t2) (.tuple [.str "meets", .str "ab"]) := .tup (SqT.of (rm_new hu1 n2)) (.cons (.str _) (.cons (.str _) .nil))
      replace hdx := dp_same (rm_same x1) _ _ hdx
      replace sm := sm.trans (But.of x1)
      have B4 := B3.same x1
      generalize upd H3 t2 (.tup [.str "meets", .str "ab"]) = H4 at *
      clear x1 hu1 B3
      refine ⟨_, _, rfl, ?_⟩
      refine ⟨_, rfl, _, rfl, _, rfl, z3, fun t1 n1 => ?_⟩
      obtain ⟨u1, hu1⟩ := B4.get
      have x1 := same_upd (o := .tup [.str y, x', .ref t2]) n1
      have G1 := mk (H := upd H4 t1 (.tup [.str y, x', .ref t2])) (SqT.of (rm_new hu1 n1)) (.cons (.str _) (.cons (dp_same (rm_same x1) _ _ hdx) (.cons (dp_same (rm_same x1) _ _ ht2) .nil))) (.cons (okS y8 yc) wy (.cons okd wdx (.cons okm (show _ ≤ 16 by decide +kernel) (.nil (w := 0) (l := 0))))) (by omega) (by omega)
      replace hdx := dp_same (rm_same x1) _ _ hdx
      replace ht2 := dp_same (rm_same x1) _ _ ht2
      replace sm := sm.trans (But.of x1)
      have B5 := B4.same x1
      generalize upd H4 t1 (.tup [.str y, x', .ref t2]) = H5 at *
      clear x1 hu1
      refine ⟨_, rfl, _, rfl, _, rfl, z3, fun t3 n3 => ?_⟩
      obtain ⟨u1, hu1⟩ := B5.get
      have x1 := same_upd (o := .tup [.str y, .ref t2, x']) n3
      have G2 := mk (H := upd H5 t3 (.tup [.str y, .ref t2, x'])) (SqT.of (rm_new hu1 n3)) (.cons (.str _) (.cons (dp_same (rm_same x1) _ _ ht2) (.cons (dp_same (rm_same x1) _ _ hdx) .nil))) (.cons (okS y8 yc) wy (.cons okm (show _ ≤ 16 by decide +kernel) (.cons okd wdx (.nil (w := 0) (l := 0))))) (by omega) (by omega)
      replace hdx := dp_same (rm_same x1) _ _ hdx
      replace sm := sm.trans (But.of x1)
      replace G1 := G1.but (But.of x1)
      have B6 := B5.same x1
      generalize upd H5 t3 (.tup [.str y, .ref t2, x']) = H6 at *
      clear x1 hu1 ht2
      refine ⟨_, rfl, z2, fun t4 n4 => ?_⟩
      obtain ⟨u1, hu1⟩ := B6.get
      have x1 := same_upd (o := .tup [.str "not", x']) n4
      have G3 := mk (H := upd H6 t4 (.tup [.str "not", x'])) (SqT.of (rm_new hu1 n4)) (.cons (.str _) (.cons (dp_same (rm_same x1) _ _ hdx) .nil)) (.cons (okS (z := "not") (by decide +kernel) (by decide +kernel)) (show _ ≤ 8 by decide +kernel) (.cons okd wdx (.nil (w := 0) (l := 0)))) (by omega) (by omega)
      replace sm := sm.trans (But.of x1)
      replace G1 := G1.but (But.of x1)
      replace G2 := G2.but (But.of x1)
      have B7 := B6.same x1
      generalize upd H6 t4 (.tup [.str "not", x']) = H7 at *
      clear x1 hu1
      refine ⟨z3, fun l nl => ?_⟩
      have x1 := same_upd (o := .lst [.ref t1, .ref t3, .ref t4]) nl
      obtain ⟨u1, hu1⟩ := B7.get
      have ne : l ≠ a := fun z => by rw [z, hu1] at nl; cases nl
      refine ⟨_, rfl, _, rfl, rfl, _, rfl, ?_⟩
      rw [eq_str]
      refine ite2 (fun c2 => ?_) (fun c2 => ?_)
      · refine ⟨l, _, 2, _, rfl, rfl, SqL.of upd_same, rfl, ?_⟩
        exact ⟨_, _, _, _, _, _, rfl, sm.trans (But.of x1), (B7.same x1).le (by omega), G3.but (But.of x1)⟩
      · refine ⟨_, rfl, a, c + 2 * i + 1, 2, rfl, B7.same x1, by omega, by decide, by decide, fun r H8 r0 r1 s8 B8 => ?_⟩
        have hlt : r.toNat < [V.ref t1, V.ref t3, V.ref t4].length := by show _ < 3; omega
        refine ⟨l, _, r, _, rfl, rfl, SqL.of (s8 _ _ ne upd_same), at_of (j := r.toNat) (by omega) (List.getElem?_eq_getElem hlt), ?_⟩
        have mem := List.getElem_mem hlt
        generalize [V.ref t1, V.ref t3, V.ref t4][r.toNat] = v at mem ⊢
        have gv : Gv K a e (n + 2 + (i + 1)) (wt + 60 * (i + 1)) H8 v := by
          refine Gv.but (H := H7) ?_ ((But.of x1).trans s8)
          simp only [List.mem_cons, List.not_mem_nil, or_false] at mem
          rcases mem with rfl | rfl | rfl
          · exact G1
          · exact G2
          · exact G3
        exact ⟨_, _, _, _, _, _, rfl, sm.trans ((But.of x1).trans s8), B8.le (by omega), gv⟩
  · rintro σ H' ⟨x', v4, v5, v6, v7, v8, rfl, sm, B1, g1⟩
    exact ⟨_, rfl, q _ _ sm (B1.le (by omega)) g1⟩
end
end Fd

set_option Elab.async false
set_option linter.all false
set_option maxRecDepth 100000
set_option maxHeartbeats 2000000
namespace Fd
open PySem PySem.Spec PyProof.Rows L2
/-! ### repr of any plain thing -/
section
variable {X : Cx}
def rReprA (K : PySem.W.Frag) : List V → Hp → VK → Prop := fun xs H Q => ∃ (v : V) (d : PyData), xs = [v] ∧ Dp K H v d ∧ d.showable = true ∧ d.hasDict = false ∧ d.depth ≤ 60 ∧ d.shown.length ≤ sizeLine ∧ ∃ z, d.shown = z ∧ Q (.str z) H
theorem call_reprA (hg : X.A.guards = some []) (hu : X.A.units + 64 < cLine) : CallR X (.builtin "repr") (rReprA X.K) := by
  intro pins s σ H xs us Q I r h
  obtain ⟨v, d, rfl, hd, h2, h3, h4, h5, _, rfl, q⟩ := h
  obtain ⟨u, rfl, rx⟩ := vals1 r
  cases d with
  | none =>
    cases hd
    cases (show u = Value.none from rx)
    exact PySem.P.repr_of_none ⟨.str "None", H, I.tok _, ⟨_, rfl⟩, q⟩
  | bool b =>
    cases hd
    cases (show u = Value.bool b from rx)
    exact PySem.P.repr_of_bool ⟨.str (if b then "True" else "False"), H, I.tok _, ⟨_, rfl⟩, q⟩
  | int i =>
    cases hd
    obtain ⟨t, rfl⟩ := rx
    exact PySem.P.repr_of_int (of_decide_eq_true h2) ⟨.str (toString i), H, I.tok _, ⟨_, rfl⟩, q⟩
  | str x =>
    cases hd
    obtain ⟨t, rfl⟩ := rx
    exact PySem.P.repr_of_str ⟨.str (reprText x), H, I.tok _, ⟨_, rfl⟩, q⟩ (hsz := h5)
  | list ds =>
    obtain ⟨as, rd⟩ := Dp.reads I _ v u hd rx
    obtain ⟨a, rfl⟩ := PyProof.Rows.isRef_of_reads rd rfl
    exact repr_of_reads' rd h2 (PyData.noDict_hsm h3) hg (by omega) (fun _ _ e => e) (fun h' u tk hk => ⟨.str (PyData.list ds).shown, H, I.kept hk, ⟨_, rfl⟩, q⟩) h5
  | tuple ds =>
    obtain ⟨as, rd⟩ := Dp.reads I _ v u hd rx
    obtain ⟨a, rfl⟩ := PyProof.Rows.isRef_of_reads rd rfl
    exact repr_of_reads' rd h2 (PyData.noDict_hsm h3) hg (by omega) (fun _ _ e => e) (fun h' u tk hk => ⟨.str (PyData.tuple ds).shown, H, I.kept hk, ⟨_, rfl⟩, q⟩) h5
  | dict _ => cases hd
end
theorem sh_all : ∀ {ds : List PyData}, (∀ d ∈ ds, d.showable = true ∧ d.hasDict = false ∧ d.leavesShort 13 = true) → PyData.showableAll ds = true ∧ PyData.hasDictAll ds = false ∧ PyData.leavesShortAll 13 ds = true
  | [], _ => ⟨rfl, rfl, rfl⟩
  | d :: ds, h => by
    obtain ⟨a1, a2, a3⟩ := h d (List.mem_cons_self ..)
    obtain ⟨b1, b2, b3⟩ := sh_all fun x hx => h x (List.mem_cons_of_mem _ hx)
    refine ⟨?_, ?_, ?_⟩
    · show (d.showable && PyData.showableAll ds) = true
      rw [a1, b1]; rfl
    · show (d.hasDict || PyData.hasDictAll ds) = false
      rw [a2, b2]; rfl
    · show (d.leavesShort 13 && PyData.leavesShortAll 13 ds) = true
      rw [a3, b3]; rfl
theorem OkT.shows {e : Nat} (he : e ≤ 3) : ∀ {n : Nat} {d : PyData}, OkT e n d → d.showable = true ∧ d.hasDict = false ∧ d.leavesShort 13 = true
  | 0, _, h => h.elim
  | _ + 1, .none, _ => ⟨rfl, rfl, rfl⟩
  | _ + 1, .bool _, _ => ⟨rfl, rfl, rfl⟩
  | _ + 1, .int i, h => by
    obtain ⟨h1, h2⟩ := (show -(1000001 + 1000000 * (e : Int)) ≤ i ∧ i ≤ 1000001 + 1000000 * (e : Int) from h)
    refine ⟨decide_eq_true ?_, rfl, decide_eq_true (PyData.shown_int_le2 (by omega) (by omega))⟩
    by_cases z : i.natAbs = 0
    · rw [z]; decide
    · have := (Nat.log2_lt z (k := 23)).mpr (by omega)
      omega
  | _ + 1, .str z, h => ⟨rfl, rfl, List.all_eq_true.mpr fun c hc => decide_eq_true (Nat.lt_of_lt_of_le (h.2 c hc) (by decide))⟩
  | n + 1, .list ds, h => sh_all fun d hd => (h.2 d hd).shows he
  | n + 1, .tuple ds, h => sh_all fun d hd => (h.2 d hd).shows he
  | _ + 1, .dict _, h => h.elim
theorem shown_fits {e n : Nat} {d : PyData} (he : e ≤ 3) (h : OkT e n d) (hw : d.weight ≤ 100000) : d.shown.length ≤ sizeLine := by
  have := PyData.shown_le 13 (by decide) d (h.shows he).2.2
  have e : sizeLine = 16777216 := by decide
  omega
/-! ### looks and tests are such things -/
theorem ok_nm {e n : Nat} {x : Str} (h : IsNm x) : OkT e (n + 1) (.str x) ∧ (PyData.str x).weight ≤ 8 := ⟨⟨Nat.le_trans h.2.1 (by omega), fun c hc => by have := (h.2.2 c hc).2; omega⟩, h.2.1⟩
theorem ok_w {e n : Nat} {x : Str} (h1 : x.cps.size ≤ 8) (h2 : x.cps.all (· < 128) = true) : OkT e (n + 1) (.str x) ∧ (PyData.str x).weight ≤ 8 := ⟨ok_str h1 h2, h1⟩
theorem ok_bop {e n : Nat} (o : BOp) : OkT e (n + 1) (.str o.word) ∧ (PyData.str o.word).weight ≤ 8 := by
  cases o <;> exact ok_w (by decide +kernel) (by decide +kernel)
theorem ok_spot {e n k : Nat} (h : k < 4) : OkT e (n + 1) (.str (spotWords.getD k "")) ∧ (PyData.str (spotWords.getD k "")).weight ≤ 8 := by
  have : k = 0 ∨ k = 1 ∨ k = 2 ∨ k = 3 := by omega
  rcases this with rfl | rfl | rfl | rfl <;> exact ok_w (by decide +kernel) (by decide +kernel)
theorem gs1 {n : Nat} {d : PyData} {w : Nat} (h : OkT 0 n d ∧ d.weight ≤ w) : Gs 0 n (w + 1 + 0) (0 + 1) [d] := .cons h.1 h.2 (.nil (w := 0) (l := 0))
theorem gs2 {n : Nat} {d d' : PyData} {w w' : Nat} (h : OkT 0 n d ∧ d.weight ≤ w) (h' : OkT 0 n d' ∧ d'.weight ≤ w') : Gs 0 n (w + 1 + (w' + 1 + 0)) (0 + 1 + 1) [d, d'] := .cons h.1 h.2 (gs1 h')
theorem gs3 {n : Nat} {d d' d'' : PyData} {w w' w'' : Nat} (h : OkT 0 n d ∧ d.weight ≤ w) (h' : OkT 0 n d' ∧ d'.weight ≤ w') (h'' : OkT 0 n d'' ∧ d''.weight ≤ w'') : Gs 0 n (w + 1 + (w' + 1 + (w'' + 1 + 0))) (0 + 1 + 1 + 1) [d, d', d''] := .cons h.1 h.2 (gs2 h' h'')
theorem gsT {n w l n' w' : Nat} {ds : List PyData} (h : Gs 0 n w l ds) (hl : l ≤ 8) (hn : n + 1 = n') (hw : w ≤ w') : OkT 0 n' (.tuple ds) ∧ (PyData.tuple ds).weight ≤ w' := by
  subst hn
  exact (h.le (Nat.le_refl 0) (Nat.le_refl _) hw (show l ≤ 8 + 0 by omega)).tup
theorem up {n n' w : Nat} {d : PyData} (h : OkT 0 n d ∧ d.weight ≤ w) (hn : n ≤ n') : OkT 0 n' d ∧ d.weight ≤ w := ⟨h.1.mono (Nat.le_refl _) hn, h.2⟩
def wl (k : Nat) : Nat := 41 * 2 ^ k - 11
theorem wl_succ (k : Nat) : wl (k + 1) = 2 * wl k + 11 := by
  unfold wl
  rw [Nat.pow_succ]
  have := Nat.one_le_two_pow (n := k)
  omega
theorem wl_ge (k : Nat) : 30 ≤ wl k := by
  unfold wl
  have := Nat.one_le_two_pow (n := k)
  omega
theorem wl_mono {k m : Nat} (h : k ≤ m) : wl k ≤ wl m := by
  unfold wl
  have : 2 ^ k ≤ 2 ^ m := Nat.pow_le_pow_right (by decide) h
  omega
theorem okt_lk {ws : List Str} (hw : ∀ z ∈ ws, IsNm z) : ∀ {L : Lk}, LkOk ws L → OkT 0 (L.deep + 1) (lkD L) ∧ (lkD L).weight ≤ wl L.deep
  | .num i, h => ⟨ok_int (Int.le_trans (by decide) (inB_lo h)) (Int.le_trans (inB_hi h) (by decide)), Nat.le_trans (wt_int (Int.le_trans (by decide) (inB_lo h)) (Int.le_trans (inB_hi h) (by decide))) (show 24 ≤ wl 1 by decide)⟩
  | .name x, h => gsT (gs2 (n := 1) (ok_w (x := "name") (by decide +kernel) (by decide +kernel)) (ok_nm (hw x h))) (by decide) rfl (show _ ≤ wl 1 by decide)
  | .many x, h => gsT (gs2 (n := 1) (ok_w (x := "many") (by decide +kernel) (by decide +kernel)) (ok_nm (hw x h))) (by decide) rfl (show _ ≤ wl 1 by decide)
  | .spot k, h => gsT (gs1 (n := 1) (ok_spot h)) (by decide) rfl (show _ ≤ wl 1 by decide)
  | .item x a, h => by
    have ih := okt_lk hw h.2
    refine gsT (gs3 (ok_w (x := "item") (by decide +kernel) (by decide +kernel)) (ok_nm (hw x h.1)) ih) (by decide) rfl ?_
    show _ ≤ wl (a.deep + 1)
    have := wl_succ a.deep
    have := wl_ge a.deep
    omega
  | .bin o a b, h => by
    have i1 := up (okt_lk hw h.1) (Nat.succ_le_succ (Nat.le_max_left a.deep b.deep))
    have i2 := up (okt_lk hw h.2) (Nat.succ_le_succ (Nat.le_max_right a.deep b.deep))
    refine gsT (gs3 (ok_bop o) i1 i2) (by decide) rfl ?_
    show _ ≤ wl (max a.deep b.deep + 1)
    have := wl_succ (max a.deep b.deep)
    have := wl_mono (Nat.le_max_left a.deep b.deep)
    have := wl_mono (Nat.le_max_right a.deep b.deep)
    omega
theorem okt_ts {ws : List Str} (hw : ∀ z ∈ ws, IsNm z) : ∀ (t : Ts), TsOk ws t → OkT 0 (t.deep + 1) (tsD t) ∧ (tsD t).weight ≤ wl t.deep
  | .like a b, h => by
    have i1 := up (okt_lk hw h.1) (Nat.succ_le_succ (Nat.le_max_left a.deep b.deep))
    have i2 := up (okt_lk hw h.2) (Nat.succ_le_succ (Nat.le_max_right a.deep b.deep))
    refine gsT (gs3 (ok_w (x := "like") (by decide +kernel) (by decide +kernel)) i1 i2) (by decide) rfl ?_
    show _ ≤ wl (max a.deep b.deep + 1)
    have := wl_succ (max a.deep b.deep)
    have := wl_mono (Nat.le_max_left a.deep b.deep)
    have := wl_mono (Nat.le_max_right a.deep b.deep)
    omega
  | .less a b, h => by
    have i1 := up (okt_lk hw h.1) (Nat.succ_le_succ (Nat.le_max_left a.deep b.deep))
    have i2 := up (okt_lk hw h.2) (Nat.succ_le_succ (Nat.le_max_right a.deep b.deep))
    refine gsT (gs3 (ok_w (x := "below") (by decide +kernel) (by decide +kernel)) i1 i2) (by decide) rfl ?_
    show _ ≤ wl (max a.deep b.deep + 1)
    have := wl_succ (max a.deep b.deep)
    have := wl_mono (Nat.le_max_left a.deep b.deep)
    have := wl_mono (Nat.le_max_right a.deep b.deep)
    omega
  | .not_ t, h => by
    have ih := okt_ts hw t h
    refine gsT (gs2 (ok_w (x := "not") (by decide +kernel) (by decide +kernel)) ih) (by decide) rfl ?_
    show _ ≤ wl (t.deep + 1)
    have := wl_succ t.deep
    have := wl_ge t.deep
    omega
  | .both t u, h => by
    have i1 := up (okt_ts hw t h.1) (Nat.succ_le_succ (Nat.le_max_left t.deep u.deep))
    have i2 := up (okt_ts hw u h.2) (Nat.succ_le_succ (Nat.le_max_right t.deep u.deep))
    refine gsT (gs3 (ok_w (x := "both") (by decide +kernel) (by decide +kernel)) i1 i2) (by decide) rfl ?_
    show _ ≤ wl (max t.deep u.deep + 1)
    have := wl_succ (max t.deep u.deep)
    have := wl_mono (Nat.le_max_left t.deep u.deep)
    have := wl_mono (Nat.le_max_right t.deep u.deep)
    omega
  | .any_ t u, h => by
    have i1 := up (okt_ts hw t h.1) (Nat.succ_le_succ (Nat.le_max_left t.deep u.deep))
    have i2 := up (okt_ts hw u h.2) (Nat.succ_le_succ (Nat.le_max_right t.deep u.deep))
    refine gsT (gs3 (ok_w (x := "any") (by decide +kernel) (by decide +kernel)) i1 i2) (by decide) rfl ?_
    show _ ≤ wl (max t.deep u.deep + 1)
    have := wl_succ (max t.deep u.deep)
    have := wl_mono (Nat.le_max_left t.deep u.deep)
    have := wl_mono (Nat.le_max_right t.deep u.deep)
    omega
  | .meets x, h => gsT (gs2 (n := 1) (ok_w (x := "meets") (by decide +kernel) (by decide +kernel)) (ok_nm (hw x h))) (by decide) rfl (show _ ≤ wl 1 by decide)
end Fd

set_option Elab.async false
set_option linter.all false
set_option maxRecDepth 100000
set_option maxHeartbeats 8000000
namespace Fd
open PySem PySem.Spec PyProof.Rows L2
/-- the list of things at p -/
def Ths (K : PySem.W.Frag) (a : Addr) (H : Hp) (p : Addr) (m : Nat) : Prop := ∃ vs, rm a H p = some (.lst vs) ∧ vs.length ≤ m ∧ ∀ v ∈ vs, Gv K a 2 19 13000 H v
theorem Ths.but {K : PySem.W.Frag} {a : Addr} {H H' : Hp} {p : Addr} {m : Nat} (h : Ths K a H p m) (s : But a H H') : Ths K a H' p m := by
  obtain ⟨vs, h1, h2, h3⟩ := h
  exact ⟨vs, rm_but s _ _ h1, h2, fun v hv => (h3 v hv).but s⟩
theorem cat_ths {K : PySem.W.Frag} {a : Addr} {H : Hp} {p b : Addr} {m : Nat} {ys : List V} {Q : VK} (hB : ∃ u, H a = some u) (ht : Ths K a H p m) (hb : rm a H b = some (.lst ys)) (hy : ∀ v ∈ ys, Gv K a 2 19 13000 H v) (hl : m + ys.length ≤ 1000)
    (h : ∀ l H2, Same H H2 → Ths K a H2 l (m + ys.length) → Q (.ref l) H2) : rCat (.ref p) (.ref b) H Q := by
  obtain ⟨vs, h1, h2, h3⟩ := ht
  obtain ⟨u, hu⟩ := hB
  refine ⟨p, b, vs, ys, rfl, rfl, rm_sub _ _ h1, rm_sub _ _ hb, Nat.le_of_lt (small1000 (by omega)), fun l nl => h l _ (same_upd nl) ⟨vs ++ ys, rm_new hu nl, by rw [List.length_append]; omega, fun v hv => ?_⟩⟩
  rcases List.mem_append.mp hv with z | z
  · exact (h3 v z).but (But.of (same_upd nl))
  · exact (hy v z).but (But.of (same_upd nl))
theorem new_tup {K : PySem.W.Frag} {a p : Addr} {H : Hp} {c e n w l : Nat} {xs : List V} {ds : List PyData} (hB : Box H a c) (np : H p = none) (hx : DpAll K (rm a H) xs ds) (g : Gs e n w l ds) (hl : l ≤ 8) : Gv K a e (n + 1) w (upd H p (.tup xs)) (.ref p) := by
  obtain ⟨u, hu⟩ := hB.get
  have g' := g.le (Nat.le_refl e) (Nat.le_refl n) (Nat.le_refl w) (show l ≤ 8 + e by omega)
  exact ⟨_, .tup (SqT.of (rm_new hu np)) (dpAll_same (rm_same (same_upd np)) _ _ hx), g'.tup.1, g'.tup.2⟩
theorem new_lst {K : PySem.W.Frag} {a p : Addr} {H : Hp} {c e n w l : Nat} {xs : List V} {ds : List PyData} (hB : Box H a c) (np : H p = none) (hx : DpAll K (rm a H) xs ds) (g : Gs e n w l ds) (hl : l ≤ 8) : Gv K a e (n + 1) w (upd H p (.lst xs)) (.ref p) := by
  obtain ⟨u, hu⟩ := hB.get
  have g' := g.le (Nat.le_refl e) (Nat.le_refl n) (Nat.le_refl w) (show l ≤ 8 + e by omega)
  exact ⟨_, .lst (SqL.of (rm_new hu np)) (dpAll_same (rm_same (same_upd np)) _ _ hx), g'.lst.1, g'.lst.2⟩
theorem gv_int {K : PySem.W.Frag} {a : Addr} {H : Hp} {e n : Nat} {i : Int} (h1 : -1000001 ≤ i) (h2 : i ≤ 1000001) : Gv K a e (n + 1) 24 H (.int i) := ⟨_, .int i, ok_int h1 h2, wt_int (by omega) (by omega)⟩
theorem gv_str {K : PySem.W.Frag} {a : Addr} {H : Hp} {e n : Nat} {x : Str} (h1 : x.cps.size ≤ 8) (h2 : x.cps.all (· < 128) = true) : Gv K a e (n + 1) 8 H (.str x) := ⟨_, .str x, ok_str h1 h2, h1⟩
theorem gv_bl {K : PySem.W.Frag} {a : Addr} {H : Hp} {e n : Nat} {b : Bool} : Gv K a e (n + 1) 0 H (.bl b) := ⟨_, .bl b, trivial, Nat.le_refl _⟩
theorem gv_non {K : PySem.W.Frag} {a : Addr} {H : Hp} {e n : Nat} : Gv K a e (n + 1) 0 H .non := ⟨_, .non, trivial, Nat.le_refl _⟩
theorem w_ok {n : Nat} {x : Str} (h1 : x.cps.size ≤ 8) (h2 : x.cps.all (· < 128) = true) : OkT 0 (n + 1) (.str x) ∧ (PyData.str x).weight ≤ 8 := ok_w h1 h2
theorem i_ok {n : Nat} {i : Int} (h1 : -1000001 ≤ i) (h2 : i ≤ 1000001) : OkT 0 (n + 1) (.int i) ∧ (PyData.int i).weight ≤ 24 := ⟨ok_int h1 h2, wt_int (by omega) (by omega)⟩
theorem gv_lk {K : PySem.W.Frag} {a : Addr} {H : Hp} {ws : List Str} {v : V} {L : Lk} (hw : ∀ z ∈ ws, IsNm z) (h : Dp K (rm a H) v (lkD L)) (o : LkOk ws L) (h6 : L.deep ≤ 6) : Gv K a 0 7 2613 H v :=
  ⟨_, h, (okt_lk hw o).1.mono (Nat.le_refl _) (by omega), Nat.le_trans (okt_lk hw o).2 (Nat.le_trans (wl_mono h6) (by decide))⟩
theorem gv_ts {K : PySem.W.Frag} {a : Addr} {H : Hp} {ws : List Str} {v : V} {t : Ts} (hw : ∀ z ∈ ws, IsNm z) (h : Dp K (rm a H) v (tsD t)) (o : TsOk ws t) (h6 : t.deep ≤ 6) : Gv K a 0 7 2613 H v :=
  ⟨_, h, (okt_ts hw t o).1.mono (Nat.le_refl _) (by omega), Nat.le_trans (okt_ts hw t o).2 (Nat.le_trans (wl_mono h6) (by decide))⟩
theorem iteBF {b : Bool} {A B : Prop} (h : b = false) (a : B) : if b = true then A else B := by subst h; exact iteF a
theorem two_pow6 : (10 : Int) ^ (6 : Int).toNat = 1000000 := by decide
section
variable {P : Program} {w : World} {K : PySem.W.Frag} {mg : Str → Option Value} {base : Heap} {f : Addr} {fd : FuncData}
abbrev sLaw : Stmt := top 30
theorem scLaw : FnScope ["_law_script", "_law_cells", "_law_k", "_law_box", "_law_words", "_law_things", "_law_turn", "_law_thing", "_law_ends", "_law_inner", "_law_some", "_law_test", "_law_many", "_law_made", "_law_kept", "_law_due"] ["_law_script"] (defScope sLaw) := ⟨rfl, rfl, rfl, by decide +kernel, rfl, by decide +kernel, by decide +kernel⟩
def spLaw (K : PySem.W.Frag) : Sp := fun vs H Q _ => ∃ (a : Addr) (ns : List Int), vs = [.ref a] ∧ SqL K H a (ns.map V.int) ∧ ns.length ≤ 63 ∧ ∀ H', Q (.bl true) H'
/-- the defs that the law calls -/
structure LawD (P : Program) (w : World) (K : PySem.W.Frag) (mg : Str → Option Value) (base : Heap) (k : Nat) : Prop where
  GF : FnG P w K mg base CX0 k "_law_folded" ["_law_script", "_law_many"] (spFolded K)
  GD : FnG P w K mg base CX0 k "_law_draws" ["_law_script", "_law_k"] (spDraws K)
  GN : FnG P w K mg base CX0 k "_law_names" ["_law_box", "_law_many"] spNames
  GT : FnG P w K mg base CX0 k "_law_take" ["_law_box", "_law_many"] spTake
  GP : FnG P w K mg base CX0 k "_law_pick" ["_law_box", "_law_some"] (spPick K)
  GL : FnG P w K mg base CX0 k "_law_a_look" ["_law_box", "_law_words", "_law_deep"] (spALook K 6)
  GE : FnG P w K mg base CX0 k "_law_a_test" ["_law_box", "_law_words", "_law_deep"] (spATest K 6)
  GC : FnG P w K mg base CX0 k "_law_chain" ["_law_box", "_law_inner", "_law_steps", "_law_kind"] (spChain K)
  GB : FnG P w K mg base CX0 k "_law_bent" ["_law_box", "_law_thing"] (spBentA K 17)
  GI : FnG P w K mg base CX0 k "is_test" ["thing"] (spB K OkA (isPart 6 "test"))
  GO : FnG P w K mg base CX0 k "_law_test_fits" ["_law_thing", "_law_deep"] (spTFit K 6)
  GS : FnG P w K mg base CX0 k "_law_same" ["_law_found", "_law_due"] (spSame K 3)
  ml : mg "len" = none
  mr : mg "range" = none
  mp : mg "repr" = none
theorem law_body {k : Nat} (D : LawD P w K mg base k) (cdv : Value) (A : Around) (outer : List Env) (s : Shared) (H : Hp) (vs : List V) (Q : VK) (E : XK) (hA : A.guards = some []) (hr : Room k (A.deeper (envOfC "law" (defScope sLaw) s.heap.objs.size f cdv))) (h : spLaw K vs H Q E) :
    ∃ t, PSs (cxOf CX0 P w K mg base ["_law_script", "_law_cells", "_law_k", "_law_box", "_law_words", "_law_things", "_law_turn", "_law_thing", "_law_ends", "_law_inner", "_law_some", "_law_test", "_law_many", "_law_made", "_law_kept", "_law_due"] "law" (defScope sLaw) f cdv A outer s H E).nox (defBody sLaw) t ∧ t { nx := fun _ H' => Q .non H', rt := Q } (L2.start ["_law_script", "_law_cells", "_law_k", "_law_box", "_law_words", "_law_things", "_law_turn", "_law_thing", "_law_ends", "_law_inner", "_law_some", "_law_test", "_law_many", "_law_made", "_law_kept", "_law_due"] vs) H := by
  obtain ⟨⟨_, _, G__law_folded, m__law_folded, k__law_folded, b__law_folded⟩, ⟨_, _, G__law_draws, m__law_draws, k__law_draws, b__law_draws⟩, ⟨_, _, G__law_names, m__law_names, k__law_names, b__law_names⟩,
    ⟨_, _, G__law_take, m__law_take, k__law_take, b__law_take⟩, ⟨_, _, G__law_pick, m__law_pick, k__law_pick, b__law_pick⟩, ⟨_, _, G__law_a_look, m__law_a_look, k__law_a_look, b__law_a_look⟩, ⟨_, _, G__law_a_test, m__law_a_test, k__law_a_test, b__law_a_test⟩,
    ⟨_, _, G__law_chain, m__law_chain, k__law_chain, b__law_chain⟩, ⟨_, _, G__law_bent, m__law_bent, k__law_bent, b__law_bent⟩, ⟨_, _, G_is_test, m_is_test, k_is_test, b_is_test⟩, ⟨_, _, G__law_test_fits, m__law_test_fits, k__law_test_fits, b__law_test_fits⟩,
    ⟨_, _, G__law_same, m__law_same, k__law_same, b__law_same⟩, m_len, m_range, m_repr⟩ := D
  have sc := scLaw
  obtain ⟨a, ns, rfl, hS, hl, q⟩ := h
  refine ⟨_, (pss_cons (ps_set (i := 1) sc.nd rfl (.inl rfl) (pe_call G__law_folded (hr.mono (by omega)) (by rfl) m__law_folded k__law_folded b__law_folded .nil pass0 (pa_cons (pv 0) (pa_cons pe_int pa_nil))))
      (pss_cons (ps_for PassesOwn.never rfl (pi_range1 (by rfl) m_range (pa_cons (pe_callB call_len_seq (by rfl) m_len (by decide +kernel) (pa_cons (pv 1) pa_nil)) pa_nil)) (pg_name (i := 2) sc.nd rfl (.inl rfl)) (pss_cons (ps_set (i := 3) sc.nd rfl (.inl rfl) (pe_call G__law_draws (hr.mono (by omega)) (by rfl) m__law_draws k__law_draws b__law_draws .nil pass0 (pa_cons (pv 1) (pa_cons (pv 2) pa_nil))))
      (pss_cons (ps_set (i := 4) sc.nd rfl (.inl rfl) (pe_call G__law_names (hr.mono (by omega)) (by rfl) m__law_names k__law_names b__law_names .nil pass0 (pa_cons (pv 3) (pa_cons pe_int pa_nil))))
      (pss_cons (ps_set (i := 5) sc.nd rfl (.inl rfl) (pe_lst (pa_cons pe_non (pa_cons pe_bl (pa_cons pe_bl (pa_cons pe_str (pa_cons pe_str (pa_cons (pe_tup pa_nil) (pa_cons (pe_lst pa_nil) (pa_cons (pe_tup (pa_cons pe_str pa_nil)) (pa_cons (pe_tup (pa_cons pe_str (pa_cons pe_str pa_nil))) (pa_cons (pe_tup (pa_cons pe_str (pa_cons pe_str (pa_cons pe_str pa_nil)))) (pa_cons pe_int pa_nil)))))))))))))
      (pss_cons (ps_set (i := 5) sc.nd rfl (.inl rfl) (pe_op op_cat (pv 5) (pe_lst (pa_cons (pe_lst (pa_cons pe_str (pa_cons pe_str pa_nil))) (pa_cons (pe_tup (pa_cons pe_str (pa_cons pe_int pa_nil))) (pa_cons (pe_tup (pa_cons pe_str (pa_cons (pe_tup (pa_cons pe_str (pa_cons pe_str pa_nil))) (pa_cons pe_int pa_nil)))) (pa_cons (pe_tup (pa_cons pe_str (pa_cons pe_int pa_nil))) pa_nil)))))))
      (pss_cons (ps_for PassesOwn.never rfl (pi_range1 (by rfl) m_range (pa_cons pe_int pa_nil)) (pg_name (i := 6) sc.nd rfl (.inl rfl)) (pss_cons (ps_par (i := 11) (j := 12) (by rfl) sc.nd rfl rfl (by decide) rfl rfl (pa_cons (pe_call G__law_a_test (hr.mono (by omega)) (by rfl) m__law_a_test k__law_a_test b__law_a_test .nil pass0 (pa_cons (pv 3) (pa_cons (pv 4) (pa_cons (pe_op op_add pe_int (pe_call G__law_take (hr.mono (by omega)) (by rfl) m__law_take k__law_take b__law_take .nil pass0 (pa_cons (pv 3) (pa_cons pe_int pa_nil)))) pa_nil)))) (pa_cons (pe_call G__law_take (hr.mono (by omega)) (by rfl) m__law_take k__law_take b__law_take .nil pass0 (pa_cons (pv 3) (pa_cons pe_int pa_nil))) pa_nil)) (by rfl))
      (pss_cons (ps_set (i := 8) sc.nd rfl (.inl rfl) (pe_call G__law_chain (hr.mono (by omega)) (by rfl) m__law_chain k__law_chain b__law_chain .nil pass0 (pa_cons (pv 3) (pa_cons (pe_call G__law_pick (hr.mono (by omega)) (by rfl) m__law_pick k__law_pick b__law_pick .nil pass0 (pa_cons (pv 3) (pa_cons (pe_lst (pa_cons pe_int (pa_cons (pe_tup (pa_cons pe_str pa_nil)) (pa_cons (pe_tup (pa_cons pe_str (pa_cons (pe_ix ix_list (pv 4) pe_int (fun _ _ => rfl)) pa_nil))) pa_nil)))) pa_nil))) (pa_cons (pe_call G__law_take (hr.mono (by omega)) (by rfl) m__law_take k__law_take b__law_take .nil pass0 (pa_cons (pv 3) (pa_cons pe_int pa_nil))) (pa_cons pe_str pa_nil))))))
      (pss_cons (ps_set (i := 9) sc.nd rfl (.inl rfl) (pe_call G__law_pick (hr.mono (by omega)) (by rfl) m__law_pick k__law_pick b__law_pick .nil pass0 (pa_cons (pv 3) (pa_cons (pe_lst (pa_cons (pv 11) (pa_cons (pe_tup (pa_cons pe_str (pa_cons (pv 8) (pa_cons pe_int pa_nil)))) (pa_cons (pe_tup (pa_cons pe_str (pa_cons (pe_tup (pa_cons pe_str pa_nil)) (pa_cons (pv 8) pa_nil)))) (pa_cons (pe_tup (pa_cons pe_str (pa_cons (pe_ix ix_list (pv 4) pe_int (fun _ _ => rfl)) pa_nil))) pa_nil))))) pa_nil))))
      (pss_cons (ps_set (i := 10) sc.nd rfl (.inl rfl) (pe_lst (pa_cons (pv 11) (pa_cons (pe_call G__law_chain (hr.mono (by omega)) (by rfl) m__law_chain k__law_chain b__law_chain .nil pass0 (pa_cons (pv 3) (pa_cons (pv 9) (pa_cons (pv 12) (pa_cons pe_str pa_nil))))) (pa_cons (pe_call G__law_a_look (hr.mono (by omega)) (by rfl) m__law_a_look k__law_a_look b__law_a_look .nil pass0 (pa_cons (pv 3) (pa_cons (pv 4) (pa_cons pe_int pa_nil)))) pa_nil)))))
      (pss_cons (ps_set (i := 5) sc.nd rfl (.inl rfl) (pe_op op_cat (pe_op op_cat (pv 5) (pv 10)) (pe_lst (pa_cons (pe_call G__law_chain (hr.mono (by omega)) (by rfl) m__law_chain k__law_chain b__law_chain .nil pass0 (pa_cons (pv 3) (pa_cons (pe_tup (pa_cons pe_str (pa_cons pe_int (pa_cons pe_int pa_nil)))) (pa_cons (pe_op op_add pe_int (pe_call G__law_take (hr.mono (by omega)) (by rfl) m__law_take k__law_take b__law_take .nil pass0 (pa_cons (pv 3) (pa_cons pe_int pa_nil)))) (pa_cons pe_str pa_nil))))) pa_nil))))
      (pss_one (ps_for PassesOwn.never rfl (pi_list (pe_slice sl_list (pv 10) po_none (po_some pe_int))) (pg_name (i := 7) sc.nd rfl (.inl rfl)) (pss_cons (ps_set (i := 13) sc.nd rfl (.inl rfl) (pe_call G__law_bent (hr.mono (by omega)) (by rfl) m__law_bent k__law_bent b__law_bent .nil pass0 (pa_cons (pv 3) (pa_cons (pv 7) pa_nil))))
      (pss_one (ps_set (i := 5) sc.nd rfl (.inl rfl) (pe_op op_cat (pv 5) (pe_lst (pa_cons (pv 13) (pa_cons (pe_call G__law_bent (hr.mono (by omega)) (by rfl) m__law_bent k__law_bent b__law_bent .nil pass0 (pa_cons (pv 3) (pa_cons (pv 13) pa_nil))) pa_nil)))))))))))))))
      (pss_one (ps_for PassesOwn.never rfl (pi_list (pv 5)) (pg_name (i := 7) sc.nd rfl (.inl rfl)) (pss_cons (ps_par (i := 14) (j := 15) (by rfl) sc.nd rfl rfl (by decide) rfl rfl (pa_cons (pe_callB (call_reprA hA hr.units) (by rfl) m_repr (by decide +kernel) (pa_cons (pv 7) pa_nil)) (pa_cons (pe_call G__law_test_fits (hr.mono (by omega)) (by rfl) m__law_test_fits k__law_test_fits b__law_test_fits .nil pass0 (pa_cons (pv 7) (pa_cons pe_int pa_nil))) pa_nil)) (by rfl))
      (pss_one (ps_if (PW.pt (pw_or (pt_not (pt_val (pe_call G__law_same (hr.mono (by omega)) (by rfl) m__law_same k__law_same b__law_same .nil pass0 (pa_cons (pe_call G_is_test (hr.mono (by omega)) (by rfl) m_is_test k_is_test b_is_test .nil pass0 (pa_cons (pv 7) pa_nil)) (pa_cons (pv 15) pa_nil))))) (pw_or1 (pt_cmpR op_ne (pe_callB (call_reprA hA hr.units) (by rfl) m_repr (by decide +kernel) (pa_cons (pv 7) pa_nil)) (pv 14) (nomark _))))) (pss_one (ps_ret pe_bl)) pss_nil)))))))))))
      (pss_one (ps_ret pe_bl)))), ?_⟩
  have c6 : cost 6 = 638 := by decide
  have c3 : cost 3 = 78 := by decide
  have z0 : 0 ≤ sizeLine := by decide
  have z1 : 1 ≤ sizeLine := by decide
  have z2 : 2 ≤ sizeLine := by decide
  have z3 : 3 ≤ sizeLine := by decide
  have cp : CPow 10 6 := ⟨by decide, by decide, by decide⟩
  refine ⟨_, rfl, a, 3, ns, rfl, hS, hl, by decide, by decide, fun p ms H1 s1 hp mn ml => ?_⟩
  refine ⟨_, rfl, p, _, rfl, .inl (SqL.of hp), _, rfl, by omega, by rw [List.length_map]; omega, for_it walk_range
    (fun i σ H' => Same H1 H' ∧ ∃ o2 o3 o4 o5 o6 o7 o8 o9 o10 o11 o12 o13 o14 o15, σ = [some (.ref a), some (.ref p), o2, o3, o4, o5, o6, o7, o8, o9, o10, o11, o12, o13, o14, o15]) ⟨fun _ _ h => h, none, none, none, none, none, none, none, none, none, none, none, none, none, none, rfl⟩ (fun _ _ _ _ _ => trivial) ?_ ?_⟩
  · rintro i x σ _ H2 hi ⟨s2, o2, o3, o4, o5, o6, o7, o8, o9, o10, o11, o12, o13, o14, o15, rfl⟩ ⟨rfl, ex⟩
    obtain rfl : x = V.int i := ex.trans (congrArg V.int (Int.zero_add _))
    have hi' : i < ms.length := by
      rw [List.length_map] at hi
      omega
    refine ⟨_, rfl, _, rfl, p, i, ms, rfl, SqL.of (s2 _ _ hp), by omega, fun b H3 s3 nb B3 => ?_⟩
    refine ⟨_, rfl, b, 0, 7, rfl, B3, by decide, by decide, fun wl ws H4 s4 B4 nw hw wl7 wd wn => ?_⟩
    have wb : wl ≠ b := fun z => by
      obtain ⟨u, hu⟩ := B3.get
      rw [z, hu] at nw
      cases nw
    replace hw : rm b H4 wl = some (.lst (ws.map V.str)) := by rw [rm_at wb]; exact hw
    replace s4 : But b H2 H4 := (But.of s3).trans s4
    have nb2 : H2 b = none := nb
    clear wb nw B3 s3
    refine ⟨z0, fun t1 np => ?_⟩
    have Gt1 := new_tup (K := K) B4 np .nil (.nil (e := 0) (n := 3) (w := 0) (l := 0)) (by decide)
    have x1 := same_upd (o := .tup []) np
    replace s4 := s4.trans (But.of x1)
    replace hw := rm_same x1 _ _ hw
    have B5 := B4.same x1
    generalize upd H4 t1 (.tup []) = H5 at *
    clear x1 np B4
    refine ⟨z0, fun t2 np => ?_⟩
    have Gt2 := new_lst (K := K) B5 np .nil (.nil (e := 0) (n := 3) (w := 0) (l := 0)) (by decide)
    have x1 := same_upd (o := .lst []) np
    replace Gt1 := Gt1.but (But.of x1)
    replace s4 := s4.trans (But.of x1)
    replace hw := rm_same x1 _ _ hw
    have B6 := B5.same x1
    generalize upd H5 t2 (.lst []) = H6 at *
    clear x1 np B5
    refine ⟨z1, fun t3 np => ?_⟩
    have Gt3 := new_tup (K := K) B6 np (.cons (.str _) .nil) (gs1 (w_ok (n := 3) (x := "not") (by decide +kernel) (by decide +kernel))) (by decide)
    have x1 := same_upd (o := .tup [.str "not"]) np
    replace Gt1 := Gt1.but (But.of x1)
    replace Gt2 := Gt2.but (But.of x1)
    replace s4 := s4.trans (But.of x1)
    replace hw := rm_same x1 _ _ hw
    have B7 := B6.same x1
    generalize upd H6 t3 (.tup [.str "not"]) = H7 at *
    clear x1 np B6
    refine ⟨z2, fun t4 np => ?_⟩
    have Gt4 := new_tup (K := K) B7 np (.cons (.str _) (.cons (.str _) .nil)) (gs2 (w_ok (n := 3) (x := "meets") (by decide +kernel) (by decide +kernel)) (w_ok (n := 3) (x := "Ab") (by decide +kernel) (by decide +kernel))) (by decide)
    have x1 := same_upd (o := .tup [.str "meets", .str "Ab"]) np
    replace Gt1 := Gt1.but (But.of x1)
    replace Gt2 := Gt2.but (But.of x1)
    replace Gt3 := Gt3.but (But.of x1)
    replace s4 := s4.trans (But.of x1)
    replace hw := rm_same x1 _ _ hw
    have B8 := B7.same x1
    generalize upd H7 t4 (.tup [.str "meets", .str "Ab"]) = H8 at *
    clear x1 np B7
    refine ⟨z3, fun t5 np => ?_⟩
    have Gt5 := new_tup (K := K) B8 np (.cons (.str _) (.cons (.str _) (.cons (.str _) .nil))) (gs3 (w_ok (n := 3) (x := "meets") (by decide +kernel) (by decide +kernel)) (w_ok (n := 3) (x := "a") (by decide +kernel) (by decide +kernel)) (w_ok (n := 3) (x := "b") (by decide +kernel) (by decide +kernel))) (by decide)
    have x1 := same_upd (o := .tup [.str "meets", .str "a", .str "b"]) np
    replace Gt1 := Gt1.but (But.of x1)
    replace Gt2 := Gt2.but (But.of x1)
    replace Gt3 := Gt3.but (But.of x1)
    replace Gt4 := Gt4.but (But.of x1)
    replace s4 := s4.trans (But.of x1)
    replace hw := rm_same x1 _ _ hw
    have B9 := B8.same x1
    generalize upd H8 t5 (.tup [.str "meets", .str "a", .str "b"]) = H9 at *
    clear x1 np B8
    refine ⟨by show 11 ≤ sizeLine; decide, fun l1 np => ?_⟩
    obtain ⟨u1, hu1⟩ := B9.get
    have hl1 := rm_new (o := .lst [.non, .bl true, .bl false, .str "", .str "not", .ref t1, .ref t2, .ref t3, .ref t4, .ref t5, .int 3]) hu1 np
    have x1 := same_upd (o := .lst [.non, .bl true, .bl false, .str "", .str "not", .ref t1, .ref t2, .ref t3, .ref t4, .ref t5, .int 3]) np
    replace Gt1 := Gt1.but (But.of x1)
    replace Gt2 := Gt2.but (But.of x1)
    replace Gt3 := Gt3.but (But.of x1)
    replace Gt4 := Gt4.but (But.of x1)
    replace Gt5 := Gt5.but (But.of x1)
    replace s4 := s4.trans (But.of x1)
    replace hw := rm_same x1 _ _ hw
    have B10 := B9.same x1
    generalize upd H9 l1 (.lst [.non, .bl true, .bl false, .str "", .str "not", .ref t1, .ref t2, .ref t3, .ref t4, .ref t5, .int 3]) = H10 at *
    clear x1 np B9 hu1
    have T1 : Ths K b H10 l1 11 := by
      refine ⟨_, hl1, Nat.le_refl 11, fun v hv => ?_⟩
      simp only [List.mem_cons, List.not_mem_nil, or_false] at hv
      rcases hv with rfl | rfl | rfl | rfl | rfl | rfl | rfl | rfl | rfl | rfl | rfl
      · exact gv_non.le (e := 0) (n := 1) (by decide) (by decide) (by decide)
      · exact gv_bl.le (e := 0) (n := 1) (by decide) (by decide) (by decide)
      · exact gv_bl.le (e := 0) (n := 1) (by decide) (by decide) (by decide)
      · exact (gv_str (e := 0) (n := 0) (by decide +kernel) (by decide +kernel)).le (by decide) (by decide) (by decide)
      · exact (gv_str (e := 0) (n := 0) (by decide +kernel) (by decide +kernel)).le (by decide) (by decide) (by decide)
      · exact Gt1.le (by decide) (by decide) (by decide)
      · exact Gt2.le (by decide) (by decide) (by decide)
      · exact Gt3.le (by decide) (by decide) (by decide)
      · exact Gt4.le (by decide) (by decide) (by decide)
      · exact Gt5.le (by decide) (by decide) (by decide)
      · exact (gv_int (e := 0) (n := 0) (by decide) (by decide)).le (by decide) (by decide) (by decide)
    clear Gt1 Gt2 Gt3 Gt4 Gt5 hl1
    refine ⟨_, rfl, z2, fun t7 np => ?_⟩
    have Gt7 := new_lst (K := K) B10 np (.cons (.str _) (.cons (.str _) .nil)) (gs2 (w_ok (n := 3) (x := "meets") (by decide +kernel) (by decide +kernel)) (w_ok (n := 3) (x := "a") (by decide +kernel) (by decide +kernel))) (by decide)
    have x1 := same_upd (o := .lst [.str "meets", .str "a"]) np
    replace T1 := T1.but (But.of x1)
    replace s4 := s4.trans (But.of x1)
    replace hw := rm_same x1 _ _ hw
    have B11 := B10.same x1
    generalize upd H10 t7 (.lst [.str "meets", .str "a"]) = H11 at *
    clear x1 np B10
    refine ⟨z2, fun t8 np => ?_⟩
    have Gt8 := new_tup (K := K) B11 np (.cons (.str _) (.cons (.int _) .nil)) (gs2 (w_ok (n := 3) (x := "like") (by decide +kernel) (by decide +kernel)) (i_ok (n := 3) (i := 1) (by decide) (by decide))) (by decide)
    have x1 := same_upd (o := .tup [.str "like", .int 1]) np
    replace T1 := T1.but (But.of x1)
    replace Gt7 := Gt7.but (But.of x1)
    replace s4 := s4.trans (But.of x1)
    replace hw := rm_same x1 _ _ hw
    have B12 := B11.same x1
    generalize upd H11 t8 (.tup [.str "like", .int 1]) = H12 at *
    clear x1 np B11
    refine ⟨z2, fun t9 np => ?_⟩
    have Gt9 := new_tup (K := K) B12 np (.cons (.str _) (.cons (.str _) .nil)) (gs2 (w_ok (n := 3) (x := "meets") (by decide +kernel) (by decide +kernel)) (w_ok (n := 3) (x := "a") (by decide +kernel) (by decide +kernel))) (by decide)
    have x1 := same_upd (o := .tup [.str "meets", .str "a"]) np
    replace T1 := T1.but (But.of x1)
    replace Gt7 := Gt7.but (But.of x1)
    replace Gt8 := Gt8.but (But.of x1)
    replace s4 := s4.trans (But.of x1)
    replace hw := rm_same x1 _ _ hw
    have B13 := B12.same x1
    generalize upd H12 t9 (.tup [.str "meets", .str "a"]) = H13 at *
    clear x1 np B12
    obtain ⟨d3, hd3, ok3, wd3⟩ := id Gt9
    refine ⟨z3, fun t10 np => ?_⟩
    have Gt10 := new_tup (K := K) B13 np (.cons (.str _) (.cons hd3 (.cons (.int _) .nil))) (gs3 (w_ok (n := 4) (x := "below") (by decide +kernel) (by decide +kernel)) ⟨ok3, wd3⟩ (i_ok (n := 4) (i := 1) (by decide) (by decide))) (by decide)
    have x1 := same_upd (o := .tup [.str "below", .ref t9, .int 1]) np
    replace T1 := T1.but (But.of x1)
    replace Gt7 := Gt7.but (But.of x1)
    replace Gt8 := Gt8.but (But.of x1)
    replace Gt9 := Gt9.but (But.of x1)
    replace s4 := s4.trans (But.of x1)
    replace hw := rm_same x1 _ _ hw
    have B14 := B13.same x1
    generalize upd H13 t10 (.tup [.str "below", .ref t9, .int 1]) = H14 at *
    clear x1 np B13
    clear hd3 ok3 wd3
    refine ⟨z2, fun t11 np => ?_⟩
    have Gt11 := new_tup (K := K) B14 np (.cons (.str _) (.cons (.int _) .nil)) (gs2 (w_ok (n := 3) (x := "not") (by decide +kernel) (by decide +kernel)) (i_ok (n := 3) (i := 1) (by decide) (by decide))) (by decide)
    have x1 := same_upd (o := .tup [.str "not", .int 1]) np
    replace T1 := T1.but (But.of x1)
    replace Gt7 := Gt7.but (But.of x1)
    replace Gt8 := Gt8.but (But.of x1)
    replace Gt9 := Gt9.but (But.of x1)
    replace Gt10 := Gt10.but (But.of x1)
    replace s4 := s4.trans (But.of x1)
    replace hw := rm_same x1 _ _ hw
    have B15 := B14.same x1
    generalize upd H14 t11 (.tup [.str "not", .int 1]) = H15 at *
    clear x1 np B14
    refine ⟨by show 4 ≤ sizeLine; decide, fun l2 np => ?_⟩
    obtain ⟨u1, hu1⟩ := B15.get
    have hl2 := rm_new (o := .lst [.ref t7, .ref t8, .ref t10, .ref t11]) hu1 np
    have x1 := same_upd (o := .lst [.ref t7, .ref t8, .ref t10, .ref t11]) np
    replace T1 := T1.but (But.of x1)
    replace Gt7 := Gt7.but (But.of x1)
    replace Gt8 := Gt8.but (But.of x1)
    replace Gt9 := Gt9.but (But.of x1)
    replace Gt10 := Gt10.but (But.of x1)
    replace Gt11 := Gt11.but (But.of x1)
    replace s4 := s4.trans (But.of x1)
    replace hw := rm_same x1 _ _ hw
    have B16 := B15.same x1
    generalize upd H15 l2 (.lst [.ref t7, .ref t8, .ref t10, .ref t11]) = H16 at *
    clear x1 np B15 hu1
    refine cat_ths B16.get T1 hl2 (fun v hv => ?_) (by show 11 + 4 ≤ 1000; decide) fun th0 HA xA TA => ?_
    · simp only [List.mem_cons, List.not_mem_nil, or_false] at hv
      rcases hv with rfl | rfl | rfl | rfl
      · exact Gt7.le (by decide) (by decide) (by decide)
      · exact Gt8.le (by decide) (by decide) (by decide)
      · exact Gt10.le (by decide) (by decide) (by decide)
      · exact Gt11.le (by decide) (by decide) (by decide)
    have BA := B16.same xA
    replace s4 := s4.trans (But.of xA)
    replace hw := rm_same xA _ _ hw
    replace TA : Ths K b HA th0 17 := by
      obtain ⟨vs, h1, h2, h3⟩ := TA
      exact ⟨vs, h1, Nat.le_trans h2 (by show 15 ≤ 17; decide), h3⟩
    clear xA Gt7 Gt8 Gt9 Gt10 Gt11 T1 hl2 B16
    refine ⟨10, rfl, by decide, by decide, for_it walk_range
      (fun j σ H' => But b H2 H' ∧ Box H' b (12 + 2000 * j) ∧ rm b H' wl = some (.lst (ws.map V.str)) ∧ ∃ th o6 o7 o8 o9 o10 o11 o12 o13 o14 o15, Ths K b H' th (17 + 8 * j) ∧ σ = [some (.ref a), some (.ref p), some (.int i), some (.ref b), some (.ref wl), some (.ref th), o6, o7, o8, o9, o10, o11, o12, o13, o14, o15])
      ⟨s4, BA, hw, th0, _, _, _, _, _, _, _, _, _, _, TA, rfl⟩ (fun _ _ _ _ _ => trivial) ?_ ?_⟩
    · clear TA BA hw s4 th0 HA o2 o3 o4 o5 o6 o7 o8 o9 o10 o11 o12 o13 o14 o15
      rintro j x σ _ H5 hj ⟨s5, B5, hw, th, o6, o7, o8, o9, o10, o11, o12, o13, o14, o15, T5, rfl⟩ ⟨rfl, ex⟩
      have hj' : j < 10 := hj
      generalize hc : 12 + 2000 * j = c at B5
      have hcb : c + 2000 ≤ 100000 := by omega
      -- the test
      refine ⟨_, rfl, _, rfl, _, rfl, b, _, 6, rfl, B5, by omega, by decide, by decide, fun r H6 r0 r1 s6 B6 => ⟨1, r, rfl, rfl, b, wl, _, 1 + r, ws, rfl, B6, by omega, by omega, by omega, rm_but s6 _ _ hw, by omega, fun v t H7 s7 B7 dL oL e7 => ?_⟩⟩
      have Gl := gv_ts wn dL oL e7
      replace s5 := s5.trans (s6.trans s7)
      replace hw := rm_but (s6.trans s7) _ _ hw
      replace T5 := T5.but (s6.trans s7)
      clear s6 s7 B6 B5 dL oL e7 r0 r1 r
      rw [c6] at B7
      refine ⟨_, rfl, b, _, 8, rfl, B7, by omega, by decide, by decide, fun many H8 m0 m1 s8 B8 => ⟨_, _, rfl, ?_⟩⟩
      obtain ⟨mm, rfl⟩ : ∃ mm : Nat, many = (mm : Int) := ⟨many.toNat, by omega⟩
      replace Gl := Gl.but s8
      replace s5 := s5.trans s8
      replace hw := rm_but s8 _ _ hw
      replace T5 := T5.but s8
      clear s8 B7
      -- the ends
      obtain ⟨w0, hw0, ew0⟩ := at_words (ws := ws) (i := 0) (by decide) (by rw [wl7]; decide)
      obtain ⟨w1, hw1, ew1⟩ := at_words (ws := ws) (i := 1) (by decide) (by rw [wl7]; decide)
      refine ⟨_, rfl, _, rfl, z1, fun t1 np => ?_⟩
      have G1 := new_tup (K := K) B8 np (.cons (.str _) .nil) (gs1 (ok_w (n := 0) (x := "y") (by decide +kernel) (by decide +kernel))) (by decide)
      have x1 := same_upd (o := .tup [.str "y"]) np
      replace Gl := Gl.but (But.of x1)
      replace s5 := s5.trans (But.of x1)
      replace hw := rm_same x1 _ _ hw
      replace T5 := T5.but (But.of x1)
      have B9 := B8.same x1
      generalize upd H8 t1 (.tup [.str "y"]) = H9 at *
      clear x1 np B8
      refine ⟨_, rfl, wl, _, 0, _, rfl, rfl, SqL.of (rm_sub _ _ hw), ew0, z2, fun t2 np => ?_⟩
      have G2 := new_tup (K := K) B9 np (.cons (.str _) (.cons (.str w0) .nil)) (gs2 (ok_w (n := 0) (x := "name") (by decide +kernel) (by decide +kernel)) (ok_nm (wn _ hw0))) (by decide)
      have x1 := same_upd (o := .tup [.str "name", .str w0]) np
      replace Gl := Gl.but (But.of x1)
      replace G1 := G1.but (But.of x1)
      replace s5 := s5.trans (But.of x1)
      replace hw := rm_same x1 _ _ hw
      replace T5 := T5.but (But.of x1)
      have BA := B9.same x1
      generalize upd H9 t2 (.tup [.str "name", .str w0]) = HA at *
      clear x1 np B9
      refine ⟨z3, fun l np => ?_⟩
      obtain ⟨u1, hu1⟩ := BA.get
      have x1 := same_upd (o := .lst [.int 5, .ref t1, .ref t2]) np
      refine ⟨b, l, _, _, rfl, BA.same x1, by omega, rm_new hu1 np, by show 0 < 3; decide, by show 3 ≤ 1000; decide, fun jj v1 HB hjj sB BB => ?_⟩
      have Gi : Gv K b 0 2 24 HA v1 := by
        have hv := List.mem_of_getElem? hjj
        simp only [List.mem_cons, List.not_mem_nil, or_false] at hv
        rcases hv with rfl | rfl | rfl
        · exact (gv_int (e := 0) (n := 1) (by decide) (by decide)).le (by decide) (by decide) (by decide)
        · exact G1.le (by decide) (by decide) (by decide)
        · exact G2.le (by decide) (by decide) (by decide)
      have xB := (But.of x1).trans sB
      replace Gl := Gl.but xB
      replace Gi := Gi.but xB
      replace s5 := s5.trans xB
      replace hw := rm_but xB _ _ hw
      replace T5 := T5.but xB
      clear x1 np hu1 sB xB G1 G2 BA hjj
      refine ⟨_, rfl, b, _, 7, rfl, BB, by omega, by decide, by decide, fun r HC r0 r1 sC BC => ?_⟩
      obtain ⟨r', rfl⟩ : ∃ r' : Nat, r = (r' : Int) := ⟨r.toNat, by omega⟩
      refine ⟨b, v1, r', "look", _, 0, 0, 24, rfl, BC, by omega, by omega, Gi.but sC, fun v2 HD sD BD Ge => ?_⟩
      replace Ge : Gv K b 0 8 384 HD v2 := Ge.le (Nat.le_refl _) (by omega) (by omega)
      have xD := sC.trans sD
      replace Gl := Gl.but xD
      replace s5 := s5.trans xD
      replace hw := rm_but xD _ _ hw
      replace T5 := T5.but xD
      clear sC sD xD r0 r1 Gi BB BC
      -- the inner one
      obtain ⟨de, hde, oke, wde⟩ := id Ge
      refine ⟨_, rfl, _, rfl, _, rfl, z3, fun t1 np => ?_⟩
      have G1 := new_tup (K := K) BD np (.cons (.str _) (.cons hde (.cons (.int 3) .nil))) (gs3 (ok_w (n := 7) (x := "like") (by decide +kernel) (by decide +kernel)) ⟨oke, wde⟩ (i_ok (n := 7) (by decide) (by decide))) (by decide)
      have x1 := same_upd (o := .tup [.str "like", v2, .int 3]) np
      replace Gl := Gl.but (But.of x1)
      replace hde := dp_same (rm_same x1) _ _ hde
      replace s5 := s5.trans (But.of x1)
      replace hw := rm_same x1 _ _ hw
      replace T5 := T5.but (But.of x1)
      have BE := BD.same x1
      generalize upd HD t1 (.tup [.str "like", v2, .int 3]) = HE at *
      clear x1 np BD Ge
      refine ⟨z1, fun t2 np => ?_⟩
      have G2 := new_tup (K := K) BE np (.cons (.str _) .nil) (gs1 (ok_w (n := 0) (x := "x") (by decide +kernel) (by decide +kernel))) (by decide)
      have x1 := same_upd (o := .tup [.str "x"]) np
      replace Gl := Gl.but (But.of x1)
      replace G1 := G1.but (But.of x1)
      replace hde := dp_same (rm_same x1) _ _ hde
      replace s5 := s5.trans (But.of x1)
      replace hw := rm_same x1 _ _ hw
      replace T5 := T5.but (But.of x1)
      have BF := BE.same x1
      generalize upd HE t2 (.tup [.str "x"]) = HF at *
      clear x1 np BE
      obtain ⟨dx, hdx, okx, wdx⟩ := id G2
      refine ⟨_, rfl, z3, fun t3 np => ?_⟩
      have G3 := new_tup (K := K) BF np (.cons (.str _) (.cons hdx (.cons hde .nil))) (gs3 (ok_w (n := 7) (x := "below") (by decide +kernel) (by decide +kernel)) ⟨okx.mono (Nat.le_refl _) (by decide), wdx⟩ ⟨oke, wde⟩) (by decide)
      have x1 := same_upd (o := .tup [.str "below", .ref t2, v2]) np
      replace Gl := Gl.but (But.of x1)
      replace G1 := G1.but (But.of x1)
      replace s5 := s5.trans (But.of x1)
      replace hw := rm_same x1 _ _ hw
      replace T5 := T5.but (But.of x1)
      have BG := BF.same x1
      generalize upd HF t3 (.tup [.str "below", .ref t2, v2]) = HG at *
      clear x1 np BF hde hdx
      refine ⟨_, rfl, wl, _, 1, _, rfl, rfl, SqL.of (rm_sub _ _ hw), ew1, z2, fun t4 np => ?_⟩
      have G4 := new_tup (K := K) BG np (.cons (.str _) (.cons (.str w1) .nil)) (gs2 (ok_w (n := 0) (x := "meets") (by decide +kernel) (by decide +kernel)) (ok_nm (wn _ hw1))) (by decide)
      have x1 := same_upd (o := .tup [.str "meets", .str w1]) np
      replace Gl := Gl.but (But.of x1)
      replace G1 := G1.but (But.of x1)
      replace G3 := G3.but (But.of x1)
      replace s5 := s5.trans (But.of x1)
      replace hw := rm_same x1 _ _ hw
      replace T5 := T5.but (But.of x1)
      have BH := BG.same x1
      generalize upd HG t4 (.tup [.str "meets", .str w1]) = HH at *
      clear x1 np BG
      refine ⟨by show 4 ≤ sizeLine; decide, fun l np => ?_⟩
      obtain ⟨u1, hu1⟩ := BH.get
      have x1 := same_upd (o := .lst [v, .ref t1, .ref t3, .ref t4]) np
      refine ⟨b, l, _, _, rfl, BH.same x1, by omega, rm_new hu1 np, by show 0 < 4; decide, by show 4 ≤ 1000; decide, fun jj v3 HI hjj sI BI => ?_⟩
      have Gi : Gv K b 0 9 2613 HH v3 := by
        have hv := List.mem_of_getElem? hjj
        simp only [List.mem_cons, List.not_mem_nil, or_false] at hv
        rcases hv with rfl | rfl | rfl | rfl
        · exact Gl.le (by decide) (by decide) (by decide)
        · exact G1.le (by decide) (by decide) (by decide)
        · exact G3.le (by decide) (by decide) (by decide)
        · exact G4.le (by decide) (by decide) (by decide)
      have xI := (But.of x1).trans sI
      replace Gl := Gl.but xI
      replace Gi := Gi.but xI
      replace s5 := s5.trans xI
      replace hw := rm_but xI _ _ hw
      replace T5 := T5.but xI
      clear x1 np hu1 sI xI G1 G2 G3 G4 BH hjj
      -- some
      refine ⟨_, rfl, _, rfl, _, rfl, _, rfl, b, v3, mm, "test", _, 0, 7, 2613, rfl, BI, by omega, by omega, Gi, fun v4 HJ sJ BJ G2 => ?_⟩
      replace G2 : Gv K b 0 16 3153 HJ v4 := G2.le (Nat.le_refl _) (by omega) (by omega)
      replace Gl := Gl.but sJ
      replace s5 := s5.trans sJ
      replace hw := rm_but sJ _ _ hw
      replace T5 := T5.but sJ
      clear sJ Gi BI
      refine ⟨_, rfl, _, rfl, b, wl, _, 3, ws, rfl, BJ, by omega, by decide, by decide, hw, by omega, fun v5 L HK sK BK d3 o3 e3 => ⟨z3, fun l np => ?_⟩⟩
      have G3 := gv_lk wn d3 o3 e3
      rw [c6] at BK
      obtain ⟨u1, hu1⟩ := BK.get
      have x1 := same_upd (o := .lst [v, v4, v5]) np
      have hl := rm_new (o := .lst [v, v4, v5]) hu1 np
      have xE := sK.trans (But.of x1)
      replace Gl := Gl.but xE
      replace G2 := G2.but xE
      replace G3 := G3.but (But.of x1)
      replace s5 := s5.trans xE
      replace hw := rm_but xE _ _ hw
      replace T5 := T5.but xE
      have BL := BK.same x1
      generalize upd HK l (.lst [v, v4, v5]) = HL at *
      clear sK x1 xE np hu1 d3 o3 e3 BK BJ
      -- things
      refine ⟨_, rfl, _, rfl, cat_ths BL.get T5 hl (fun v' hv => ?_) (by show _ + 3 ≤ 1000; omega) fun l3 HM xG TG => ?_⟩
      · simp only [List.mem_cons, List.not_mem_nil, or_false] at hv
        rcases hv with rfl | rfl | rfl
        · exact Gl.le (by decide) (by decide) (by decide)
        · exact G2.le (by decide) (by decide) (by decide)
        · exact G3.le (by decide) (by decide) (by decide)
      replace TG : Ths K b HM l3 (17 + 8 * j + 3) := TG
      have BM := BL.same xG
      replace Gl := Gl.but (But.of xG)
      replace G2 := G2.but (But.of xG)
      replace s5 := s5.trans (But.of xG)
      replace hw := rm_same xG _ _ hw
      replace hl := rm_same xG _ _ hl
      clear xG T5 G3 BL
      refine ⟨_, rfl, z3, fun t1 np => ?_⟩
      have G5 := new_tup (K := K) BM np (.cons (.str _) (.cons (.int 1) (.cons (.int 2) .nil))) (gs3 (ok_w (n := 0) (x := "like") (by decide +kernel) (by decide +kernel)) (i_ok (n := 0) (by decide) (by decide)) (i_ok (n := 0) (by decide) (by decide))) (by decide)
      have x1 := same_upd (o := .tup [.str "like", .int 1, .int 2]) np
      replace Gl := Gl.but (But.of x1)
      replace G2 := G2.but (But.of x1)
      replace TG := TG.but (But.of x1)
      replace s5 := s5.trans (But.of x1)
      replace hw := rm_same x1 _ _ hw
      replace hl := rm_same x1 _ _ hl
      have BN := BM.same x1
      generalize upd HM t1 (.tup [.str "like", .int 1, .int 2]) = HN at *
      clear x1 np BM
      refine ⟨_, rfl, b, _, 3, rfl, BN, by omega, by decide, by decide, fun r HO r0 r1 sI BO => ⟨3, r, rfl, rfl, ?_⟩⟩
      obtain ⟨r', rfl⟩ : ∃ r' : Nat, r = (r' : Int) := ⟨r.toNat, by omega⟩
      refine ⟨b, .ref t1, 3 + r', "test", _, 0, 0, 59, congrArg (fun k => [V.ref b, V.ref t1, V.int k, V.str "test"]) (by show (3 : Int) + (r' : Int) = ((3 + r' : Nat) : Int); omega), BO, by omega, by omega, (G5.but sI).le (by decide) (by decide) (by decide), fun v6 HP sJ BP G4 => ⟨z1, fun l4 np => ?_⟩⟩
      replace G4 : Gv K b 0 8 400 HP v6 := G4.le (Nat.le_refl _) (by omega) (by omega)
      obtain ⟨u1, hu1⟩ := BP.get
      have x1 := same_upd (o := .lst [v6]) np
      have hl4 := rm_new (o := .lst [v6]) hu1 np
      have xJ := (sI.trans sJ).trans (But.of x1)
      replace Gl := Gl.but xJ
      replace G2 := G2.but xJ
      replace G4 := G4.but (But.of x1)
      replace s5 := s5.trans xJ
      replace hw := rm_but xJ _ _ hw
      replace hl := rm_but xJ _ _ hl
      replace TG := TG.but xJ
      have BK := BP.same x1
      generalize upd HP l4 (.lst [v6]) = HK at *
      clear sI sJ x1 xJ np hu1 BP BO BN r0 r1 G5
      refine cat_ths BK.get TG hl4 (fun v' hv => ?_) (by show _ + 1 ≤ 1000; omega) fun l5 HL xL TL => ?_
      · rw [List.mem_singleton.mp hv]
        exact G4.le (by decide) (by decide) (by decide)
      replace TL : Ths K b HL l5 (17 + 8 * j + 4) := TL
      have BL := BK.same xL
      replace Gl := Gl.but (But.of xL)
      replace G2 := G2.but (But.of xL)
      replace s5 := s5.trans (But.of xL)
      replace hw := rm_same xL _ _ hw
      replace hl := rm_same xL _ _ hl
      clear xL TG G4 hl4 BK
      -- bent ones
      refine ⟨_, rfl, 2, rfl, l, _, rfl, SqL.of (rm_sub _ _ hl), fun e ne => ?_⟩
      rw [show cutV [v, v4, v5] none (some 2) = [v, v4] from cut_to [v, v4, v5] 2]
      obtain ⟨u1, hu1⟩ := BL.get
      have x1 := same_upd (o := .lst [v, v4]) ne
      have he := rm_new (o := .lst [v, v4]) hu1 ne
      replace Gl := Gl.but (But.of x1)
      replace G2 := G2.but (But.of x1)
      replace s5 := s5.trans (But.of x1)
      replace hw := rm_same x1 _ _ hw
      replace TL := TL.but (But.of x1)
      have BM := BL.same x1
      generalize upd HL e (.lst [v, v4]) = HM at *
      clear x1 ne hu1 BL hl
      refine ⟨e, rfl, ⟨[v, v4], SqL.of (rm_sub _ _ he)⟩, for_it (walk_list (xs := [v, v4])) (fun m σ H' => But b H2 H' ∧ But b HM H' ∧ Box H' b (c + 1400 + 80 * m) ∧ ∃ th o6 o7 o8 o9 o10 o11 o12 o13 o14 o15, Ths K b H' th (17 + 8 * j + 4 + 2 * m) ∧ σ = [some (.ref a), some (.ref p), some (.int i), some (.ref b), some (.ref wl), some (.ref th), o6, o7, o8, o9, o10, o11, o12, o13, o14, o15])
        ⟨s5, But.refl _ _, BM.le (by omega), l5, _, _, _, _, _, _, _, _, _, _, TL, rfl⟩ (fun m σ H' _ h => SqL.of (rm_sub _ _ (rm_but h.2.1 _ _ he))) ?_ ?_⟩
      · clear BM TL s5
        rintro m x' σ _ HN hm ⟨sN, sN', BN, th', o6, o7, o8, o9, o10, o11, o12, o13, o14, o15, TN, rfl⟩ ⟨rfl, ex'⟩
        have hm' : m < 2 := hm
        have Gx : Gv K b 0 16 3153 HN x' := by
          have hv := List.mem_of_getElem? ex'
          simp only [List.mem_cons, List.not_mem_nil, or_false] at hv
          rcases hv with rfl | rfl
          · exact (Gl.but sN').le (by decide) (by decide) (by decide)
          · exact G2.but sN'
        have c16 : cb 16 = 38 := by decide
        have c17 : cb 17 = 40 := by decide
        refine ⟨_, rfl, _, rfl, 16, by decide, b, x', _, 0, 3153, rfl, BN, by omega, by decide, Gx, fun v5 HO sO BO G5 => ?_⟩
        replace TN := TN.but sO
        rw [c16] at BO
        refine ⟨_, rfl, _, rfl, _, rfl, _, rfl, 17, by decide, b, v5, _, 1, 6366, rfl, BO, by omega, by decide, G5, fun v6 HP sP BP G6 => ⟨z2, fun l6 np => ?_⟩⟩
        replace TN := TN.but sP
        replace G5 := G5.but sP
        rw [c17] at BP
        obtain ⟨u1, hu1⟩ := BP.get
        have x1 := same_upd (o := .lst [v5, v6]) np
        have hl6 := rm_new (o := .lst [v5, v6]) hu1 np
        replace TN := TN.but (But.of x1)
        replace G5 := G5.but (But.of x1)
        replace G6 := G6.but (But.of x1)
        have BQ := BP.same x1
        have xQ := (sO.trans sP).trans (But.of x1)
        generalize upd HP l6 (.lst [v5, v6]) = HQ at *
        refine cat_ths BQ.get TN hl6 (fun v' hv => ?_) (by show _ + 2 ≤ 1000; omega) fun l7 HR xR TR => ?_
        · simp only [List.mem_cons, List.not_mem_nil, or_false] at hv
          rcases hv with rfl | rfl
          · exact G5.le (by decide) (by decide) (by decide)
          · exact G6.le (by decide) (by decide) (by decide)
        replace TR : Ths K b HR l7 (17 + 8 * j + 4 + 2 * m + 2) := TR
        have xR' := xQ.trans (But.of xR)
        exact ⟨sN.trans xR', sN'.trans xR', (BQ.same xR).le (by omega), l7, _, _, _, _, _, _, _, _, _, _, TR, rfl⟩
      · rintro σ HN ⟨sN, sN', BN, th', o6, o7, o8, o9, o10, o11, o12, o13, o14, o15, TN, rfl⟩
        exact ⟨sN, BN.le (by show c + 1400 + 80 * 2 ≤ 12 + 2000 * (j + 1); omega), rm_but sN' _ _ hw, th', _, _, _, _, _, _, _, _, _, _, TN, rfl⟩
    · clear TA BA hw s4 th0 HA o2 o3 o4 o5 o6 o7 o8 o9 o10 o11 o12 o13 o14 o15
      rintro σ H5 ⟨s5, B5, hw5, th, o6, o7, o8, o9, o10, o11, o12, o13, o14, o15, T5, rfl⟩
      obtain ⟨vs, hth, vsl, hvs⟩ := T5
      refine ⟨_, rfl, th, rfl, ⟨vs, SqL.of (rm_sub _ _ hth)⟩, for_it (walk_list (xs := vs)) (fun m σ H' => But b H2 H' ∧ But b H5 H' ∧ ∃ o6 o7 o8 o9 o10 o11 o12 o13 o14 o15, σ = [some (.ref a), some (.ref p), some (.int i), some (.ref b), some (.ref wl), some (.ref th), o6, o7, o8, o9, o10, o11, o12, o13, o14, o15])
        ⟨s5, But.refl _ _, _, _, _, _, _, _, _, _, _, _, rfl⟩ (fun m σ H' _ h => SqL.of (rm_sub _ _ (rm_but h.2.1 _ _ hth))) ?_ ?_⟩
      · rintro m x' σ _ HN hm ⟨sN, sN', o6, o7, o8, o9, o10, o11, o12, o13, o14, o15, rfl⟩ ⟨rfl, ex'⟩
        obtain ⟨d, hd, ok, hwt⟩ := (hvs x' (List.mem_of_getElem? ex')).but sN'
        have gd := dp_same rm_sub _ _ hd
        have oA : OkA d := ⟨19, by decide, ok.mono (by decide) (Nat.le_refl _)⟩
        obtain ⟨sh1, sh2, sh3⟩ := ok.shows (by decide)
        have dp60 : d.depth ≤ 60 := Nat.le_trans ok.lay.2 (by decide)
        have fit := shown_fits (by decide) ok (Nat.le_trans hwt (by decide))
        obtain ⟨z, hz⟩ : ∃ z, d.shown = z := ⟨_, rfl⟩
        refine ⟨_, rfl, x', d, rfl, gd, sh1, sh2, dp60, fit, z, hz, _, rfl, x', d, rfl, gd, oA, fun HO sO => ?_⟩
        refine ⟨_, _, rfl, ?_⟩
        refine ⟨_, rfl, x', d, rfl, dp_same sO _ _ gd, oA, fun HP sP => ?_⟩
        refine ⟨_, rfl, _, _, .bool (tfits 6 d), rfl, by rw [part_tfits]; exact .bl _, .bl _, trivial, fun HQ sQ => ⟨_, rfl, iteF ?_⟩⟩
        have t := sO.trans (sP.trans sQ)
        refine ⟨_, rfl, x', d, rfl, dp_same t _ _ gd, sh1, sh2, dp60, fit, z, hz, _, rfl, rfl, _, rfl, iteBF (by rw [decide_eq_true rfl]; rfl) ?_⟩
        exact ⟨sN.trans (But.of t), sN'.trans (But.of t), _, _, _, _, _, _, _, _, _, _, rfl⟩
      · rintro σ HN ⟨sN, sN', o6, o7, o8, o9, o10, o11, o12, o13, o14, o15, rfl⟩
        exact ⟨fun c o h => sN _ _ (ne_of_none (s2 _ _ h) nb2) (s2 _ _ h), _, _, _, _, _, _, _, _, _, _, _, _, _, _, rfl⟩
  · rintro σ H2 ⟨s2, o2, o3, o4, o5, o6, o7, o8, o9, o10, o11, o12, o13, o14, o15, rfl⟩
    exact q _
end
end Fd

set_option Elab.async false
set_option linter.all false
set_option maxRecDepth 100000
set_option maxHeartbeats 4000000
namespace Fd
open PySem PySem.Spec PyProof.Rows L2
section
variable {P : Program} {w : World} {K : PySem.W.Frag} {mg : Str → Option Value} {base : Heap}
/-- one entry of a def, by its body there -/
theorem enter {x qual : Str} {st : Stmt} {f : Addr} {fd : FuncData} {N ps : List Str} {k : Nat} {A : Around} {outer : List Env} {s : Shared} {H : Hp} {args : Args} {us : List Value} {vs : List V} {Q : VK} {E : XK} (F : Fun K x qual st f fd) (S : FnScope N ps (defScope st))
    (hl : vs.length = ps.length) (hr : Room (k + 1) A) (e0 : Env0 P w K mg base A outer s H) (hb : BindsTo s fd args (ps.zip us)) (r : Vals vs us)
    (body : ∀ cdv : Value, Room k (A.deeper (envOfC qual (defScope st) s.heap.objs.size f cdv)) → ∃ t, PSs (cxOf CX0 P w K mg base N qual (defScope st) f cdv A outer s H E).nox (defBody st) t ∧ t { nx := fun _ H' => Q .non H', rt := Q } (L2.start N vs) H) :
    codeAny (model P w) A (.call (.ref f) args) (CR CX0 outer P w H s Q E) s := by
  obtain ⟨oc, od, kV, doc, pm, an, cdv, ct, osl, rfl, lk, hcd⟩ := F.ex
  obtain ⟨t, ht, hq⟩ := body cdv (hr.deeper _)
  have old : ∀ b o, base.get? b = some o → s.heap.get? b = some o := fun b o e => (e0.bs b o e).1
  refine codeAny_call_function hr.depth ((e0.mod.kin.keeps old) _ _ lk) rfl S.co S.gen rfl (PySem.W.codeRec_of (e0.mod.kin.keeps old) hcd) (hb _ _ _ _ (wpAny_newFunctionEnv_cells S.kind (fun y hy => ?_) fun env he s1 x => ?_))
  · exact (S.par y.1 (List.of_mem_zip (show (y.1, y.2) ∈ ps.zip us from hy)).1).elim .inl fun z => .inr ⟨z, PySem.W.cellsFrom_some _ _ _ (.inl z)⟩
  subst he
  refine ⟨(e0.mod.nolimit.keeps old).keeps x.toInCall.keep, codeAny_func (wpAny_mono (ht.nox.run [] s1 _ H _ (inv_start S hr.hd e0 hl r x) hq) (fun fl s' hs => ?_) fun _ _ hs => hs)⟩
  cases fl with
  | ret u =>
    obtain ⟨v, _, H', J, rv, q⟩ := hs
    exact ⟨v, H', J.os, J.bare, J.base, J.hok, rv, q⟩
  | next =>
    obtain ⟨_, H', J, q⟩ := hs
    exact ⟨.non, H', J.os, J.bare, J.base, J.hok, (rfl : RelV .non Value.none), q⟩
  | brk => obtain ⟨_, _, _, q⟩ := hs; exact q.elim
  | cont => obtain ⟨_, _, _, q⟩ := hs; exact q.elim
/-- the tracked heap at the law's entry: nothing, or the script alone -/
structure Entry (P : Program) (w : World) (K : PySem.W.Frag) (a : Addr) (h : Heap) (H : Hp) : Prop where
  only : Only H
  ok : HOk P w H h
  one : ∀ b, H b ≠ none → b = a
  free : H a ≠ none → K.lookup a = none
theorem Entry.none_of {a b : Addr} {h : Heap} {H : Hp} {o : Obj} (e : Entry P w K a h H) (hb : K.lookup b = some o) : H b = none := by
  cases z : H b with
  | none => rfl
  | some u =>
    have n : H b ≠ none := by rw [z]; exact nofun
    obtain rfl := e.one b n
    rw [e.free n] at hb
    cases hb
theorem Entry.dict {a b : Addr} {h : Heap} {H : Hp} {vs : Array Value} {o : Obj} {es : Array DictEntry} {ep n : Nat} (e : Entry P w K a h H) (ha : h.get? a = some { cls := .type "list", data := .seq vs n }) (hb : h.get? b = some o) (hd : o.data = .dict es ep) : H b = none := by
  cases z : H b with
  | none => rfl
  | some u =>
    obtain rfl := e.one b (by rw [z]; exact nofun)
    rw [ha] at hb
    cases hb
    cases hd
theorem entry_of {a : Addr} {h : Heap} {vs : List Value} {ns : List Int} (KX : K.In h) (ha : h.get? a = some { cls := .type "list", data := .seq vs.toArray }) (hi : IntsAre vs ns) (hl : ns.length ≤ sizeLine) : ∃ H, Entry P w K a h H ∧ SqL K H a (ns.map V.int) := by
  cases hk : K.lookup a with
  | some o =>
    have e := KX a o hk
    rw [ha] at e
    cases e
    exact ⟨fun _ => none, ⟨fun _ => .inl rfl, fun b u z => (nomatch (show (none : Option HO) = some u from z)), fun b z => absurd rfl z, fun z => absurd rfl z⟩,
      .inr ⟨_, vs.toArray, _, hk, rfl, rfl, rfl, by rw [List.size_toArray, hi.length]; exact hl, by simpa using vals_ints hi⟩⟩
  | none =>
    let o : HO := .frz { cls := .type "list", data := .seq vs.toArray } (.lst (ns.map V.int))
    have u1 : upd (fun _ => none) a o a = some o := upd_same
    have un : ∀ {b}, b ≠ a → upd (fun _ => none) a o b = none := fun n => upd_ne n
    refine ⟨upd (fun _ => none) a o, ⟨fun b => ?_, fun b u z => ?_, fun b n => ?_, fun _ => hk⟩, .inl (.inr ⟨_, u1⟩)⟩
    · by_cases e : b = a
      · subst e; exact .inr ⟨_, _, u1⟩
      · exact .inl (un e)
    · by_cases e : b = a
      · subst e
        rw [u1] at z
        cases z
        exact ⟨ha, by rw [List.length_map]; exact hl, vs, _, vals_ints hi, ha⟩
      · rw [un e] at z; cases z
    · exact Classical.byContradiction fun e => n (un e)
theorem law_at {mb : Str → Option Value} {k : Nat} {fa a : Addr} {fd : FuncData} {x : Str} {st : Stmt} {N : List Str} {nm : Str} {s₁ : Shared} {vs : List Value} {ns : List Int} (F : Fun K nm nm st fa fd) (S : FnScope N [x] (defScope st))
    (KX : K.In s₁.heap) (hns : s₁.heap.Ns mainGlobals mg) (hb : s₁.heap.Ns builtinsNs mb) (hbb : ∀ x : Str, x ≠ "__name__" → mb x = bootBuiltins x) (hlim : s₁.heap.NoLimit) (hg : s₁.gens = #[])
    (ha : s₁.heap.get? a = some { cls := .type "list", data := .seq vs.toArray }) (hi : IntsAre vs ns) (hl : ns.length ≤ sizeLine) (hr : Room (k + 1) callerA) (hbind : ∀ (s : Shared) (u : Value), BindsTo s fd ⟨[u], []⟩ [(x, u)])
    (body : ∀ (base : Heap) (cdv : Value) (H : Hp), K.In base → base.Ns mainGlobals mg → SqL K H a (ns.map V.int) → Room k (callerA.deeper (envOfC nm (defScope st) s₁.heap.objs.size fa cdv)) →
      ∃ t, PSs (cxOf CX0 P w K mg base N nm (defScope st) fa cdv callerA [] s₁ H fun _ _ _ => False).nox (defBody st) t ∧ t { nx := fun _ _ => V.non = .bl true, rt := fun v _ => v = .bl true } (L2.start N [.ref a]) H) :
    codeAny (model P w) callerA (.call (.ref fa) ⟨[.ref a], []⟩) (fun r s' => r = .ok (.ret (.bool true)) ∧ OldK s₁.heap s'.heap ∧ s'.os = s₁.os ∧ AllBare s'.gens) s₁ := by
  obtain ⟨H, en, hS⟩ := entry_of (P := P) (w := w) KX ha hi hl
  have kb : K.In (hidT s₁.heap H) := fun b o e => hidT_get (KX b o e) (en.none_of e)
  have nb : ∀ {b : Addr} {m : Str → Option Value}, s₁.heap.Ns b m → (hidT s₁.heap H).Ns b m := fun ⟨o, es, ep, e, d, r⟩ => ⟨o, es, ep, hidT_get e (en.dict ha e d), d, r⟩
  have lim : (hidT s₁.heap H).NoLimit := by
    obtain ⟨mc, h1, h2⟩ := hlim
    exact ⟨mc, nb h1, h2⟩
  have e0 : Env0 P w K mg (hidT s₁.heap H) callerA [] s₁ H := ⟨rfl, ⟨kb, nb hns, ⟨mb, nb hb, hbb⟩, lim⟩, fun b o e => of_hidT e, Nat.le_of_eq (hidT_size _ _), trivial, fun b hb => absurd (show b ∈ ([] : List Addr) from hb) (by simp), en.ok, .of_eq hg⟩
  refine codeAny_mono (enter (vs := [.ref a]) (us := [.ref a]) (Q := fun v _ => v = .bl true) (E := fun _ _ _ => False) F S rfl hr e0 (hbind s₁ (.ref a)) (.cons rfl .nil) fun cdv hr' => body _ cdv H kb (nb hns) hS hr') fun r s' h => ?_
  cases r with
  | error e => exact h.elim
  | ok fl =>
    cases fl with
    | ret u =>
      obtain ⟨v, H', os, bare, un, ok', rv, q⟩ := h
      obtain rfl : v = .bl true := q
      obtain rfl : u = Value.bool true := rv
      refine ⟨rfl, OldK.of_keep fun b o e => ?_, os, bare⟩
      rcases en.only b with z | ⟨ob, xs, z⟩
      · exact un.keep b o e z (fun y => absurd (show b ∈ ([] : List Addr) from y) (by simp)) (by simp)
      · obtain ⟨e1, _⟩ := en.ok b _ z
        obtain ⟨e2, _⟩ := ok' b _ (un.frzs b ob _ z)
        rw [e] at e1
        cases e1
        exact e2
    | next => exact h.elim
    | brk => exact h.elim
    | cont => exact h.elim
end
theorem walk_ex {l : PySem.W.OpenLaw} {n : Nat} {q : Program} {loose : List Str} {XP : (Str → Option Value) → Heap → Prop} {YP : World → Heap → Prop} {d : DefRec} (hn : l.most = some n) (hn2 : n ≤ 63) (hdf : d.params.defaults = []) (hd : d.name = "law")
    (F : ∀ (w : World) (mg : Str → Option Value) (fa : Addr) (h : Heap), YP w h → h.Ns mainGlobals mg → mg "law" = some (.ref fa) →
      ∃ (K : PySem.W.Frag) (fd : FuncData), K.In h ∧ Fun K "law" "law" sLaw fa fd ∧ (∀ (s : Shared) (v : Value), BindsTo s fd ⟨[v], []⟩ [("_law_script", v)]) ∧ ∀ base : Heap, K.In base → base.Ns mainGlobals mg → LawD l.prog w K mg base 30) :
    PySem.W.WalkO q loose XP YP l.row.toRowW d [] (fun f vs => PySem.call f vs) := by
  refine Att.attach_call hn hdf fun w s₀ s₁ mg mb fa o pm cd doc a vs ns G Y ho hd' hcd hmg hobj hints hlen hg => ?_
  rw [hd] at hmg
  obtain ⟨K, fd, hK, hF, hb, hL⟩ := F w mg fa _ Y G.T.g hmg
  exact law_at (k := 30) (x := "_law_script") hF scLaw hK G.T.g G.T.b G.T.builtins G.T.nolimit hg hobj hints (Nat.le_trans (Nat.le_trans hlen hn2) (by decide)) ⟨rfl, by decide, by decide⟩ hb
    fun base cdv H kb nb hS hr => law_body (hL base kb nb) cdv callerA [] s₁ H [.ref a] (fun v _ => v = .bl true) (fun _ _ _ => False) rfl hr ⟨a, ns, rfl, hS, Nat.le_trans hlen hn2, fun _ => rfl⟩
end Fd

set_option Elab.async false
set_option linter.all false
set_option maxRecDepth 100000
set_option maxHeartbeats 0
noncomputable section
namespace K2
open PySem PySem.W PySem.Calls PyProof.Rows HandSHeadRun Fw
abbrev pr : Program := PySem.Challenge.pw_figuredeeds_k02_what_tests_are
def dk (s : Stmt) : List (Option Expr) := match s with
  | .Assign _ (.Dict ks _ _) _ => ks
  | _ => []
def dv (s : Stmt) : List Expr := match s with
  | .Assign _ (.Dict _ vs _) _ => vs
  | _ => []
def dp (s : Stmt) : Pos := match s with
  | .Assign _ (.Dict _ _ p) _ => p
  | _ => default
def ap (s : Stmt) : Pos := match s with
  | .Assign _ _ p => p
  | _ => default
def np (s : Stmt) : Pos := match s with
  | .Assign [.Name _ p] _ _ => p
  | _ => default
def st6 : Stmt := pr.main.body.getD 6 (.Pass ⟨0, 0, 0, 0⟩)
def parts : List PK := [("look", "name", ["name"]), ("look", "plus", ["look", "look"]), ("look", "minus", ["look", "look"]), ("look", "by", ["look", "look"]), ("look", "over", ["look", "look"]), ("look", "rest", ["look", "look"]), ("look", "item", ["list", "look"]), ("look", "many", ["list"]),
  ("look", "x", []), ("look", "y", []), ("look", "way", []), ("look", "number", []), ("test", "like", ["look", "look"]), ("test", "below", ["look", "look"]), ("test", "not", ["test"]), ("test", "both", ["test", "test"]), ("test", "any", ["test", "test"])]
def D : Plan where
  p := pr
  env := { scope := pr.main.scope, locals := mainNs, globals := mainNs, cells := [], code := .ref 13, frame := some 14 }
  q0 := ⟨0, 0, 0, 0⟩
  pos0 := ⟨0, 0, 0, 0⟩
  l := pr.main.body.take 6
  rest := pr.main.body.drop 7
  x := "PARTS"
  np := np st6
  keys := dk st6
  values := dv st6
  dpos := dp st6
  apos := ap st6
  L := parts
  pk := ("test", "meets", ["figure"])
  k0 := 12
  kB := 3
  kL := 200
  kF := 60
  M := 1500
def top (i : Nat) : Stmt := pr.main.body.getD i (.Pass ⟨0, 0, 0, 0⟩)
def fnd (x : Str) (i : Nat) : He.FnD := ⟨(x, none), x, x, L2.defArgs (top i), L2.defBody (top i), L2.defScope (top i)⟩
def fn : List He.FnD := [fnd "is_number" 7, fnd "is_value" 8, fnd "is_name" 9, fnd "is_test" 10, fnd "is_part" 11, fnd "is_worded" 12, fnd "has_parts" 13, fnd "_law_folded" 15, fnd "_law_draws" 16, fnd "_law_take" 17, fnd "_law_pick" 18, fnd "_law_same" 19, fnd "_law_names" 20, fnd "_law_a_value" 21, fnd "_law_a_look" 22, fnd "_law_a_test" 23, fnd "_law_is_number" 24, fnd "_law_is_name" 25, fnd "_law_look_fits" 26, fnd "_law_test_fits" 27, fnd "_law_bent" 28, fnd "_law_chain" 29, fnd "law" 30]
def fa : List He.Fa := [.glo "is_number", .keep "is_number", .glo "is_value", .keep "is_value", .glo "is_name", .keep "is_name", .glo "is_test", .keep "is_test", .glo "is_part", .keep "is_part", .glo "is_worded", .keep "is_worded", .glo "has_parts", .keep "has_parts", .glo "_law_folded", .keep "_law_folded", .glo "_law_draws", .keep "_law_draws", .glo "_law_take", .keep "_law_take", .glo "_law_pick", .keep "_law_pick", .glo "_law_same", .keep "_law_same", .glo "_law_names", .keep "_law_names", .glo "_law_a_value", .keep "_law_a_value", .glo "_law_a_look", .keep "_law_a_look", .glo "_law_a_test", .keep "_law_a_test", .glo "_law_is_number", .keep "_law_is_number", .glo "_law_is_name", .keep "_law_is_name", .glo "_law_look_fits", .keep "_law_look_fits", .glo "_law_test_fits", .keep "_law_test_fits", .glo "_law_bent", .keep "_law_bent", .glo "_law_chain", .keep "_law_chain", .glo "law", .keep "law", .free "len", .free "int", .free "divmod", .free "list", .free "isinstance", .free "tuple", .free "all", .free "abs", .free "zip", .free "str", .free "bool", .free "range", .free "repr", .free "enumerate", .int "LEAST_VALUE" (-1000000), .int "MOST_VALUE" 1000000, .int "LONGEST_NAME" 8, .int "DEEPEST" 6]
def gs : List (Str × Addr) := [("NAME_KINDS", 15), ("PARTS", 16)]
def objs (w : World) : List Obj := tO 198 ["name", "list", "figure"] :: finObjs w pr 16 202 parts ("test", "meets", ["figure"])
abbrev R : OpenRow := OpenLaw.row PySem.Challenge.rw_figuredeeds_k02_what_tests_are
abbrev q : Program := view R.prog [30]
def loose : List PySem.Str := ["__name__", "LEAST_VALUE", "MOST_VALUE", "LONGEST_NAME", "DEEPEST", "NAME_KINDS", "PARTS", "is_number", "is_value", "is_name", "is_test", "is_part", "is_worded", "has_parts", "_law_folded", "_law_draws", "_law_take", "_law_pick", "_law_same", "_law_names", "_law_a_value", "_law_a_look", "_law_a_test", "_law_is_number", "_law_is_name", "_law_look_fits", "_law_test_fits", "_law_bent", "_law_chain"]
theorem run : RunB D q loose (fun s => xlAt q [] s && recOk R.toRowW.records s) (obX fa fn gs 15 39 205) (hookX fa fn gs 15 39 205 objs).val := by
  intro w os p2
  kernel_rfl
end K2

end
set_option Elab.async false
set_option linter.all false
set_option maxRecDepth 100000
set_option maxHeartbeats 0
namespace K2
open PySem PySem.W PySem.Calls PyProof.Rows HandSHeadRun Fw
theorem D_ok : D.Ok := Plan.ok_of (by kernel_rfl) (by rfl) (by kernel_rfl) (by rfl) (by decide +kernel) (by decide +kernel)
theorem op_ok : opening D.p = plainProg D.p.main.scope.names := by kernel_rfl
theorem fe_ok : ∀ s, fenceModules? D.p s = some s := fun s => by rfl
end K2

open PySem PySem.W PyProof.Rows
set_option Elab.async false
set_option linter.all false
set_option maxRecDepth 100000
set_option maxHeartbeats 8000000
namespace Fd
open PySem PySem.Spec PyProof.Rows L2
theorem law_mk {w : World} {h : Heap} {mg : Str → Option Value} {fa : Addr} (Y : (Fw.hookX K2.fa K2.fn K2.gs 15 39 205 K2.objs).says w h) (G : h.Ns mainGlobals mg) (hfa : mg "law" = some (.ref fa)) :
    ∃ (K : PySem.W.Frag) (fd : FuncData), K.In h ∧ Fun K "law" "law" sLaw fa fd ∧ (∀ (s : Shared) (v : Value), BindsTo s fd ⟨[v], []⟩ [("_law_script", v)]) ∧ ∀ base : Heap, K.In base → base.Ns mainGlobals mg → LawD PySem.Challenge.rw_figuredeeds_k02_what_tests_are.prog w K mg base 30 := by
  obtain ⟨K, X, c, hgs, hob⟩ := Y
  obtain ⟨oc0, od0, osl0, kV0, dc0, pm0, an0, cd0, ct0, l0, e0⟩ := c.def_ 0
  have F_is_number := fun_mk (x := "is_number") (qual := "is_number") (st := sIsNum) (f := He.ga K "is_number") l0 e0 (He.keep_ok (c.fact 1))
  have D_is_number : Df K mg "is_number" sIsNum ["thing"] (He.ga K "is_number") _ := ⟨F_is_number, He.glo_ok X G (c.fact 0), F_is_number.binds fun _ _ _ _ _ _ us hl => match us, hl with | [_], _ => rfl⟩
  obtain ⟨oc1, od1, osl1, kV1, dc1, pm1, an1, cd1, ct1, l1, e1⟩ := c.def_ 1
  have F_is_value := fun_mk (x := "is_value") (qual := "is_value") (st := sIsVal) (f := He.ga K "is_value") l1 e1 (He.keep_ok (c.fact 3))
  have D_is_value : Df K mg "is_value" sIsVal ["thing"] (He.ga K "is_value") _ := ⟨F_is_value, He.glo_ok X G (c.fact 2), F_is_value.binds fun _ _ _ _ _ _ us hl => match us, hl with | [_], _ => rfl⟩
  obtain ⟨oc2, od2, osl2, kV2, dc2, pm2, an2, cd2, ct2, l2, e2⟩ := c.def_ 2
  have F_is_name := fun_mk (x := "is_name") (qual := "is_name") (st := sIsName) (f := He.ga K "is_name") l2 e2 (He.keep_ok (c.fact 5))
  have D_is_name : Df K mg "is_name" sIsName ["thing"] (He.ga K "is_name") _ := ⟨F_is_name, He.glo_ok X G (c.fact 4), F_is_name.binds fun _ _ _ _ _ _ us hl => match us, hl with | [_], _ => rfl⟩
  obtain ⟨oc3, od3, osl3, kV3, dc3, pm3, an3, cd3, ct3, l3, e3⟩ := c.def_ 3
  have F_is_test := fun_mk (x := "is_test") (qual := "is_test") (st := sIsTs) (f := He.ga K "is_test") l3 e3 (He.keep_ok (c.fact 7))
  have D_is_test : Df K mg "is_test" sIsTs ["thing"] (He.ga K "is_test") _ := ⟨F_is_test, He.glo_ok X G (c.fact 6), F_is_test.binds fun _ _ _ _ _ _ us hl => match us, hl with | [_], _ => rfl⟩
  obtain ⟨oc4, od4, osl4, kV4, dc4, pm4, an4, cd4, ct4, l4, e4⟩ := c.def_ 4
  have F_is_part := fun_mk (x := "is_part") (qual := "is_part") (st := sPart) (f := He.ga K "is_part") l4 e4 (He.keep_ok (c.fact 9))
  have D_is_part : Df K mg "is_part" sPart ["thing", "kind", "deep"] (He.ga K "is_part") _ := ⟨F_is_part, He.glo_ok X G (c.fact 8), F_is_part.binds fun _ _ _ _ _ _ us hl => match us, hl with | [_, _, _], _ => rfl⟩
  obtain ⟨oc5, od5, osl5, kV5, dc5, pm5, an5, cd5, ct5, l5, e5⟩ := c.def_ 5
  have F_is_worded := fun_mk (x := "is_worded") (qual := "is_worded") (st := sIsWd) (f := He.ga K "is_worded") l5 e5 (He.keep_ok (c.fact 11))
  have D_is_worded : Df K mg "is_worded" sIsWd ["thing"] (He.ga K "is_worded") _ := ⟨F_is_worded, He.glo_ok X G (c.fact 10), F_is_worded.binds fun _ _ _ _ _ _ us hl => match us, hl with | [_], _ => rfl⟩
  obtain ⟨oc6, od6, osl6, kV6, dc6, pm6, an6, cd6, ct6, l6, e6⟩ := c.def_ 6
  have F_has_parts := fun_mk (x := "has_parts") (qual := "has_parts") (st := sHas) (f := He.ga K "has_parts") l6 e6 (He.keep_ok (c.fact 13))
  have D_has_parts : Df K mg "has_parts" sHas ["thing", "kind", "deep"] (He.ga K "has_parts") _ := ⟨F_has_parts, He.glo_ok X G (c.fact 12), F_has_parts.binds fun _ _ _ _ _ _ us hl => match us, hl with | [_, _, _], _ => rfl⟩
  obtain ⟨oc7, od7, osl7, kV7, dc7, pm7, an7, cd7, ct7, l7, e7⟩ := c.def_ 7
  have F__law_folded := fun_mk (x := "_law_folded") (qual := "_law_folded") (st := sFolded) (f := He.ga K "_law_folded") l7 e7 (He.keep_ok (c.fact 15))
  have D__law_folded : Df K mg "_law_folded" sFolded ["_law_script", "_law_many"] (He.ga K "_law_folded") _ := ⟨F__law_folded, He.glo_ok X G (c.fact 14), F__law_folded.binds fun _ _ _ _ _ _ us hl => match us, hl with | [_, _], _ => rfl⟩
  obtain ⟨oc8, od8, osl8, kV8, dc8, pm8, an8, cd8, ct8, l8, e8⟩ := c.def_ 8
  have F__law_draws := fun_mk (x := "_law_draws") (qual := "_law_draws") (st := sDraws) (f := He.ga K "_law_draws") l8 e8 (He.keep_ok (c.fact 17))
  have D__law_draws : Df K mg "_law_draws" sDraws ["_law_script", "_law_k"] (He.ga K "_law_draws") _ := ⟨F__law_draws, He.glo_ok X G (c.fact 16), F__law_draws.binds fun _ _ _ _ _ _ us hl => match us, hl with | [_, _], _ => rfl⟩
  obtain ⟨oc9, od9, osl9, kV9, dc9, pm9, an9, cd9, ct9, l9, e9⟩ := c.def_ 9
  have F__law_take := fun_mk (x := "_law_take") (qual := "_law_take") (st := sTake) (f := He.ga K "_law_take") l9 e9 (He.keep_ok (c.fact 19))
  have D__law_take : Df K mg "_law_take" sTake ["_law_box", "_law_many"] (He.ga K "_law_take") _ := ⟨F__law_take, He.glo_ok X G (c.fact 18), F__law_take.binds fun _ _ _ _ _ _ us hl => match us, hl with | [_, _], _ => rfl⟩
  obtain ⟨oc10, od10, osl10, kV10, dc10, pm10, an10, cd10, ct10, l10, e10⟩ := c.def_ 10
  have F__law_pick := fun_mk (x := "_law_pick") (qual := "_law_pick") (st := sPick) (f := He.ga K "_law_pick") l10 e10 (He.keep_ok (c.fact 21))
  have D__law_pick : Df K mg "_law_pick" sPick ["_law_box", "_law_some"] (He.ga K "_law_pick") _ := ⟨F__law_pick, He.glo_ok X G (c.fact 20), F__law_pick.binds fun _ _ _ _ _ _ us hl => match us, hl with | [_, _], _ => rfl⟩
  obtain ⟨oc11, od11, osl11, kV11, dc11, pm11, an11, cd11, ct11, l11, e11⟩ := c.def_ 11
  have F__law_same := fun_mk (x := "_law_same") (qual := "_law_same") (st := sSame) (f := He.ga K "_law_same") l11 e11 (He.keep_ok (c.fact 23))
  have D__law_same : Df K mg "_law_same" sSame ["_law_found", "_law_due"] (He.ga K "_law_same") _ := ⟨F__law_same, He.glo_ok X G (c.fact 22), F__law_same.binds fun _ _ _ _ _ _ us hl => match us, hl with | [_, _], _ => rfl⟩
  obtain ⟨oc12, od12, osl12, kV12, dc12, pm12, an12, cd12, ct12, l12, e12⟩ := c.def_ 12
  have F__law_names := fun_mk (x := "_law_names") (qual := "_law_names") (st := sNames) (f := He.ga K "_law_names") l12 e12 (He.keep_ok (c.fact 25))
  have D__law_names : Df K mg "_law_names" sNames ["_law_box", "_law_many"] (He.ga K "_law_names") _ := ⟨F__law_names, He.glo_ok X G (c.fact 24), F__law_names.binds fun _ _ _ _ _ _ us hl => match us, hl with | [_, _], _ => rfl⟩
  obtain ⟨oc13, od13, osl13, kV13, dc13, pm13, an13, cd13, ct13, l13, e13⟩ := c.def_ 13
  have F__law_a_value := fun_mk (x := "_law_a_value") (qual := "_law_a_value") (st := sAValue) (f := He.ga K "_law_a_value") l13 e13 (He.keep_ok (c.fact 27))
  have D__law_a_value : Df K mg "_law_a_value" sAValue ["_law_box"] (He.ga K "_law_a_value") _ := ⟨F__law_a_value, He.glo_ok X G (c.fact 26), F__law_a_value.binds fun _ _ _ _ _ _ us hl => match us, hl with | [_], _ => rfl⟩
  obtain ⟨oc14, od14, osl14, kV14, dc14, pm14, an14, cd14, ct14, l14, e14⟩ := c.def_ 14
  have F__law_a_look := fun_mk (x := "_law_a_look") (qual := "_law_a_look") (st := sALook) (f := He.ga K "_law_a_look") l14 e14 (He.keep_ok (c.fact 29))
  have D__law_a_look : Df K mg "_law_a_look" sALook ["_law_box", "_law_words", "_law_deep"] (He.ga K "_law_a_look") _ := ⟨F__law_a_look, He.glo_ok X G (c.fact 28), F__law_a_look.binds fun _ _ _ _ _ _ us hl => match us, hl with | [_, _, _], _ => rfl⟩
  obtain ⟨oc15, od15, osl15, kV15, dc15, pm15, an15, cd15, ct15, l15, e15⟩ := c.def_ 15
  have F__law_a_test := fun_mk (x := "_law_a_test") (qual := "_law_a_test") (st := sATest) (f := He.ga K "_law_a_test") l15 e15 (He.keep_ok (c.fact 31))
  have D__law_a_test : Df K mg "_law_a_test" sATest ["_law_box", "_law_words", "_law_deep"] (He.ga K "_law_a_test") _ := ⟨F__law_a_test, He.glo_ok X G (c.fact 30), F__law_a_test.binds fun _ _ _ _ _ _ us hl => match us, hl with | [_, _, _], _ => rfl⟩
  obtain ⟨oc16, od16, osl16, kV16, dc16, pm16, an16, cd16, ct16, l16, e16⟩ := c.def_ 16
  have F__law_is_number := fun_mk (x := "_law_is_number") (qual := "_law_is_number") (st := sLNum) (f := He.ga K "_law_is_number") l16 e16 (He.keep_ok (c.fact 33))
  have D__law_is_number : Df K mg "_law_is_number" sLNum ["_law_thing"] (He.ga K "_law_is_number") _ := ⟨F__law_is_number, He.glo_ok X G (c.fact 32), F__law_is_number.binds fun _ _ _ _ _ _ us hl => match us, hl with | [_], _ => rfl⟩
  obtain ⟨oc17, od17, osl17, kV17, dc17, pm17, an17, cd17, ct17, l17, e17⟩ := c.def_ 17
  have F__law_is_name := fun_mk (x := "_law_is_name") (qual := "_law_is_name") (st := sLName) (f := He.ga K "_law_is_name") l17 e17 (He.keep_ok (c.fact 35))
  have D__law_is_name : Df K mg "_law_is_name" sLName ["_law_thing"] (He.ga K "_law_is_name") _ := ⟨F__law_is_name, He.glo_ok X G (c.fact 34), F__law_is_name.binds fun _ _ _ _ _ _ us hl => match us, hl with | [_], _ => rfl⟩
  obtain ⟨oc18, od18, osl18, kV18, dc18, pm18, an18, cd18, ct18, l18, e18⟩ := c.def_ 18
  have F__law_look_fits := fun_mk (x := "_law_look_fits") (qual := "_law_look_fits") (st := sFit) (f := He.ga K "_law_look_fits") l18 e18 (He.keep_ok (c.fact 37))
  have D__law_look_fits : Df K mg "_law_look_fits" sFit ["_law_thing", "_law_deep"] (He.ga K "_law_look_fits") _ := ⟨F__law_look_fits, He.glo_ok X G (c.fact 36), F__law_look_fits.binds fun _ _ _ _ _ _ us hl => match us, hl with | [_, _], _ => rfl⟩
  obtain ⟨oc19, od19, osl19, kV19, dc19, pm19, an19, cd19, ct19, l19, e19⟩ := c.def_ 19
  have F__law_test_fits := fun_mk (x := "_law_test_fits") (qual := "_law_test_fits") (st := sTFit) (f := He.ga K "_law_test_fits") l19 e19 (He.keep_ok (c.fact 39))
  have D__law_test_fits : Df K mg "_law_test_fits" sTFit ["_law_thing", "_law_deep"] (He.ga K "_law_test_fits") _ := ⟨F__law_test_fits, He.glo_ok X G (c.fact 38), F__law_test_fits.binds fun _ _ _ _ _ _ us hl => match us, hl with | [_, _], _ => rfl⟩
  obtain ⟨oc20, od20, osl20, kV20, dc20, pm20, an20, cd20, ct20, l20, e20⟩ := c.def_ 20
  have F__law_bent := fun_mk (x := "_law_bent") (qual := "_law_bent") (st := sBent) (f := He.ga K "_law_bent") l20 e20 (He.keep_ok (c.fact 41))
  have D__law_bent : Df K mg "_law_bent" sBent ["_law_box", "_law_thing"] (He.ga K "_law_bent") _ := ⟨F__law_bent, He.glo_ok X G (c.fact 40), F__law_bent.binds fun _ _ _ _ _ _ us hl => match us, hl with | [_, _], _ => rfl⟩
  obtain ⟨oc21, od21, osl21, kV21, dc21, pm21, an21, cd21, ct21, l21, e21⟩ := c.def_ 21
  have F__law_chain := fun_mk (x := "_law_chain") (qual := "_law_chain") (st := sChain) (f := He.ga K "_law_chain") l21 e21 (He.keep_ok (c.fact 43))
  have D__law_chain : Df K mg "_law_chain" sChain ["_law_box", "_law_inner", "_law_steps", "_law_kind"] (He.ga K "_law_chain") _ := ⟨F__law_chain, He.glo_ok X G (c.fact 42), F__law_chain.binds fun _ _ _ _ _ _ us hl => match us, hl with | [_, _, _, _], _ => rfl⟩
  obtain ⟨oc22, od22, osl22, kV22, dc22, pm22, an22, cd22, ct22, l22, e22⟩ := c.def_ 22
  have F_law := fun_mk (x := "law") (qual := "law") (st := sLaw) (f := He.ga K "law") l22 e22 (He.keep_ok (c.fact 45))
  obtain rfl : fa = He.ga K "law" := Value.ref.inj (Option.some.inj (hfa.symm.trans (He.glo_ok X G (c.fact 44))))
  have m_len : mg "len" = none := He.free_ok X G (c.fact 46)
  have m_int : mg "int" = none := He.free_ok X G (c.fact 47)
  have m_divmod : mg "divmod" = none := He.free_ok X G (c.fact 48)
  have m_list : mg "list" = none := He.free_ok X G (c.fact 49)
  have m_isinstance : mg "isinstance" = none := He.free_ok X G (c.fact 50)
  have m_tuple : mg "tuple" = none := He.free_ok X G (c.fact 51)
  have m_all : mg "all" = none := He.free_ok X G (c.fact 52)
  have m_abs : mg "abs" = none := He.free_ok X G (c.fact 53)
  have m_zip : mg "zip" = none := He.free_ok X G (c.fact 54)
  have m_str : mg "str" = none := He.free_ok X G (c.fact 55)
  have m_bool : mg "bool" = none := He.free_ok X G (c.fact 56)
  have m_range : mg "range" = none := He.free_ok X G (c.fact 57)
  have m_repr : mg "repr" = none := He.free_ok X G (c.fact 58)
  have m_enumerate : mg "enumerate" = none := He.free_ok X G (c.fact 59)
  obtain ⟨t_LEAST, m_LEAST⟩ := He.int_ok X G (c.fact 60)
  obtain ⟨t_MOST, m_MOST⟩ := He.int_ok X G (c.fact 61)
  obtain ⟨t_LONGEST, m_LONGEST⟩ := He.int_ok X G (c.fact 62)
  obtain ⟨t_DEEPEST, m_DEEPEST⟩ := He.int_ok X G (c.fact 63)
  have m_NAME_KINDS : mg "NAME_KINDS" = some (.ref 15) := PySem.W.mg_of X G (hgs ("NAME_KINDS", 15) (List.mem_cons_self ..))
  have m_PARTS : mg "PARTS" = some (.ref 16) := PySem.W.mg_of X G (hgs ("PARTS", 16) (List.mem_cons_of_mem _ (List.mem_cons_self ..)))
  have hK : ∀ H, SqT K H 15 kindsV := fun H => Fw.tO_sqT (t := 198) (zs := ["name", "list", "figure"]) (hob 0 _ rfl) (by decide)
  have hP : Fw.Parts PySem.Challenge.rw_figuredeeds_k02_what_tests_are.prog w K 16 gP := Fw.parts_of (t := 202) (L := K2.parts) (p := ("test", "meets", ["figure"])) (fun i o ho => by
    have := hob (i + 1) o ho
    rw [show 16 + i = 15 + (i + 1) by omega]
    exact this) (by decide) (by decide +kernel) (fun x hx => by
    have : ∀ x ∈ K2.parts ++ ([("test", "meets", ["figure"])] : List Fw.PK), x.2.2.length ≤ 2 := by decide +kernel
    exact Nat.le_trans (this x hx) (by decide))
  refine ⟨K, _, X, F_law, fun s v => .of_eq rfl, fun base _ _ => ?_⟩
  have gN : FnG PySem.Challenge.rw_figuredeeds_k02_what_tests_are.prog w K mg base CX0 1 "is_number" ["thing"] (spB K (fun _ => True) isNum) := D_is_number.g (ok_isNum D_is_number.F m_isinstance m_int m_bool)
  have gI : FnG PySem.Challenge.rw_figuredeeds_k02_what_tests_are.prog w K mg base CX0 2 "is_value" ["thing"] (spB K (fun _ => True) isVal) := D_is_value.g (ok_isVal D_is_value.F gN m_LEAST m_MOST)
  have gM : FnG PySem.Challenge.rw_figuredeeds_k02_what_tests_are.prog w K mg base CX0 1 "is_name" ["thing"] (spB K TxOk isNm) := D_is_name.g (ok_isName D_is_name.F m_isinstance m_str m_len m_all m_LONGEST)
  have gW : FnG PySem.Challenge.rw_figuredeeds_k02_what_tests_are.prog w K mg base CX0 1 "is_worded" ["thing"] (spB K (fun _ => True) isWd) := D_is_worded.g (ok_isWd D_is_worded.F m_isinstance m_tuple m_str m_len)
  have gPt := ok_parts D_is_part D_has_parts (gM.mono (by decide)) (gI.mono (by decide)) (gW.mono (by decide)) m_len m_all m_zip m_PARTS hP m_NAME_KINDS hK 6
  have gLk : FnG PySem.Challenge.rw_figuredeeds_k02_what_tests_are.prog w K mg base CX0 17 "is_test" ["thing"] (spB K OkA (isPart 6 "test")) := D_is_test.g (ok_isTs D_is_test.F gPt m_DEEPEST)
  have gT : FnG PySem.Challenge.rw_figuredeeds_k02_what_tests_are.prog w K mg base CX0 1 "_law_take" ["_law_box", "_law_many"] spTake := D__law_take.g (ok_take D__law_take.F m_divmod)
  have gP' : FnG PySem.Challenge.rw_figuredeeds_k02_what_tests_are.prog w K mg base CX0 2 "_law_pick" ["_law_box", "_law_some"] (spPick K) := D__law_pick.g (ok_pick D__law_pick.F gT m_len)
  have gNm : FnG PySem.Challenge.rw_figuredeeds_k02_what_tests_are.prog w K mg base CX0 2 "_law_names" ["_law_box", "_law_many"] spNames := D__law_names.g (ok_names D__law_names.F gT m_len m_range)
  have gA : FnG PySem.Challenge.rw_figuredeeds_k02_what_tests_are.prog w K mg base CX0 2 "_law_a_value" ["_law_box"] spAValue := D__law_a_value.g (ok_aValue D__law_a_value.F gT)
  have gD : FnG PySem.Challenge.rw_figuredeeds_k02_what_tests_are.prog w K mg base CX0 1 "_law_draws" ["_law_script", "_law_k"] (spDraws K) := D__law_draws.g (ok_draws D__law_draws.F m_len m_abs m_int)
  have gF : FnG PySem.Challenge.rw_figuredeeds_k02_what_tests_are.prog w K mg base CX0 1 "_law_folded" ["_law_script", "_law_many"] (spFolded K) := D__law_folded.g (ok_folded D__law_folded.F m_list m_enumerate)
  have gS : FnG PySem.Challenge.rw_figuredeeds_k02_what_tests_are.prog w K mg base CX0 3 "_law_same" ["_law_found", "_law_due"] (spSame K 3) := D__law_same.g (ok_same D__law_same.F ⟨m_isinstance, m_list, m_tuple, m_len, m_all, m_zip, m_str, m_int, m_bool⟩ D__law_same.m D__law_same.b 3)
  have gL : ∀ d, FnG PySem.Challenge.rw_figuredeeds_k02_what_tests_are.prog w K mg base CX0 (d + 3) "_law_a_look" ["_law_box", "_law_words", "_law_deep"] (spALook K d) := ok_aLooks D__law_a_look (gT.mono (by decide)) (gP'.mono (by decide)) (gA.mono (by decide))
  have gE := ok_aTests D__law_a_test (gT.mono (by decide)) (gP'.mono (by decide)) gL 6
  have gIn : FnG PySem.Challenge.rw_figuredeeds_k02_what_tests_are.prog w K mg base CX0 1 "_law_is_number" ["_law_thing"] (spB K (fun _ => True) isNum) := D__law_is_number.g (ok_lNum D__law_is_number.F m_isinstance m_int m_bool)
  have gNa : FnG PySem.Challenge.rw_figuredeeds_k02_what_tests_are.prog w K mg base CX0 1 "_law_is_name" ["_law_thing"] (spB K TxOk isNm) := D__law_is_name.g (ok_lName D__law_is_name.F m_isinstance m_str m_len m_all)
  have gFt := ok_fits D__law_look_fits (gIn.mono (by decide)) (gNa.mono (by decide)) m_isinstance m_tuple m_str m_len m_abs
  have gTf := ok_tfits D__law_test_fits (gNa.mono (by decide)) gFt m_isinstance m_tuple m_str m_len 6
  have gB : FnG PySem.Challenge.rw_figuredeeds_k02_what_tests_are.prog w K mg base CX0 20 "_law_bent" ["_law_box", "_law_thing"] (spBentA K 17) := D__law_bent.g (ok_bentA (m := 17) (ok_bents D__law_bent (gT.mono (by decide)) (gP'.mono (by decide)) (gIn.mono (by decide)) m_isinstance m_tuple m_str m_len m_list))
  have gC : FnG PySem.Challenge.rw_figuredeeds_k02_what_tests_are.prog w K mg base CX0 3 "_law_chain" ["_law_box", "_law_inner", "_law_steps", "_law_kind"] (spChain K) := D__law_chain.g (ok_chain (k := 2) D__law_chain.F (gT.mono (by decide)) gP' m_range)
  exact ⟨gF.mono (by decide), gD.mono (by decide), gNm.mono (by decide), gT.mono (by decide), gP'.mono (by decide), (gL 6).mono (by decide), gE.mono (by decide), gC.mono (by decide), gB.mono (by decide), gLk.mono (by decide), gTf.mono (by decide), gS.mono (by decide), m_len, m_range, m_repr⟩
end Fd

open PySem PySem.W PyProof.Rows
set_option Elab.async false
set_option linter.all false
set_option maxRecDepth 100000 in
set_option maxHeartbeats 0 in
theorem PySem.Challenge.cw_figuredeeds_k02_what_tests_are_holds : PySem.Challenge.rw_figuredeeds_k02_what_tests_are.Holds := by
  w_on; o_law
  refine Fw.head_big (r := K2.R) (D := K2.D) (q := K2.q) (loose := K2.loose) (H := Fw.hookX K2.fa K2.fn K2.gs 15 39 205 K2.objs) (ob := Fw.obX K2.fa K2.fn K2.gs 15 39 205) (d := HandSHeadRun.topDef K2.R.prog 30) (kwd := []) rfl K2.D_ok (fun s => Fw.obX_eq _ _ _ _ _ _ _ s) K2.op_ok K2.fe_ok K2.run
    (by kernel_rfl) (by kernel_rfl) (by kernel_rfl) (by rfl) (by first | assumption | decide +kernel) (by decide +kernel) ⟨rfl, rfl, rfl, rfl, rfl, by decide +kernel⟩ ?hw ?hc
  case hw => w_witness2
  case hc =>
    refine Fd.walk_ex (l := PySem.Challenge.rw_figuredeeds_k02_what_tests_are) (n := 63) rfl (by decide) (by kernel_rfl) (by kernel_rfl) ?F
    intro w mg fa h Y G hmg
    exact Fd.law_mk Y G hmg

