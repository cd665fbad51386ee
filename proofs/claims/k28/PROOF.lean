import PyProof.Rows.All
import Wide.All
import OpenK.AllK
import Wide.FinOn
import PyProof.EqAt
import PyProof.EqKinds
import PyProof.TupleCall
import KE.KExcInit
import KE.KExcIs
import HandS.ForMost
import HandS.ForExc
import HandS.IsInst
import HandS.ExcValue
import HandS.ExcField
import HandS.Walk
import KE.GoesRaise
import KE.GoesEnum
import KE.KDictZip
import PyProof.TupleOfGen
import HandS.Wide
import HandS.Zip
import HandS.Codes
import HandS.Style
import HandS.CallLocal
import HandS.WordsList
import HandS.TupAny
import HandS.Strs
import HandS.More
import PyProof.ReprLen
import PyProof.ReprRoads
import PyProof.Rows.ReprShort
import PyProof.Rows.NestShow
import HandS.Star
import HandS.Ends
import HandS.ExcIs
import PySem.Challenge.RW_figuredeeds_k28_rests_that_fall
set_option Elab.async false
set_option linter.all false
set_option maxRecDepth 100000
set_option maxHeartbeats 2000000
namespace PySem
namespace FellX
open PySem.W PySem.Calls PyProof.Rows PySem.HandSPX Builtin Builtin.ObjectAttr
abbrev rtTail : List Value := [.type "RuntimeError", .type "Exception", .type "BaseException", .type "object"]
/-- a first field of a fresh error whose class stands straight under RuntimeError -/
theorem rt_osa {prog : Program} {w : World} {A : Around} {R : Result → Shared → Prop} {hp : Heap} {gs : Array GenState} {dr : Drawn} {n : Nat} {os : OsState}
    {K : W.Frag} {f : Str} {tk : Tok} {v : Value} {x C : Addr} {fv : Array Value} {cd : ClassData} (X : K.In hp)
    (hx : hp.get? x = some { cls := .ref C, data := .fields fv }) (hcd : W.clsIn K C = some cd) (hm : cd.mro = .ref C :: rtTail) (hh : cd.hasDict = true)
    (ha : W.findIn K (.ref C) f = some none)
    (hq : ∀ h' tk' dx, (∀ b o, b ≠ x → hp.get? b = some o → h'.get? b = some o) → hp.objs.size ≤ dx → dx ≠ x →
      h'.get? x = some { cls := .ref C, dict := some dx, data := .fields fv } → h'.Ns1 dx (fun y => if y = f then some v else none) →
      R (.ok (.ret .none)) ⟨h', gs, dr, tk', os⟩) :
    codeAny (model prog w) A (.call (.builtin "object.__setattr__") ⟨[.ref x, .str f tk, v], []⟩) R ⟨hp, gs, dr, n, os⟩ := by
  have J : W.InstAt hp x { cls := .ref C, data := .fields fv } C none := ⟨hx, rfl, rfl, trivial⟩
  have S := F.store_object
  have hob : cd.mro.contains (.type "object") = true := by
    rw [hm, List.contains_cons, show rtTail.contains (.type "object") = true by decide +kernel, Bool.or_true]
  have xs : x ≠ hp.objs.size := Nat.ne_of_lt (Heap.lt_size hx)
  have su : W.Looks (model prog w) hp (isInstance (.ref x) (.type "object")) true := J.type.andThen
    (W.looks_mroIn X (by unfold W.mroIn; rw [hcd, Option.bind_some, if_neg (by rw [hm]; intro z; cases z), hob]))
  refine codeAny_call_builtin S.slot.plain S.entry
    (@W.check_slot (model prog w) _ _ ⟨hp, gs, dr, n, os⟩ "object.__setattr__" "object" "__setattr__" (.ref x) [.str f tk, v] [] _ S.kind S.split su
      (S.args (.ref x) (.str f tk) v) ?_)
  have lm : W.Looks (model prog w) hp (mroOf (.ref C)) cd.mro := (W.looks_clsIn X hcd).andThen .now
  have lt : W.Looks (model prog w) hp (storeTaker? none) none := .now
  have lc : W.Looks (model prog w) hp (classData C) cd := W.looks_clsIn X hcd
  rw [W.osa_eq, refuse_eq]
  refine wpAny_bind (wpAny_bind (J.type.at (wpAny_bind (lm.at ?_))))
  rw [hm, refuseLoop_ref, show refuseLoop (Value.ref x) "__setattr__" rtTail = pure () from F.store_RuntimeError.passes _]
  refine wpAny_pure (wpAny_bind (J.type.at (wpAny_bind
    ((W.looks_findIn X ha).at (wpAny_bind (lt.at ?_))))))
  show wpAny _ _ (storeInOwnDict (.ref x) (.ref C) (.str f tk) f v false) _ _ _
  obtain ⟨_, _, mro, _, _, hd, _, _, _, _, _⟩ := cd
  dsimp only at hh
  subst hh
  unfold storeInOwnDict ownDictForStores
  repeat (first
    | with_reducible refine store_in_new ?_ ?_
    | with_reducible refine wpAny_loadPart_at hx ?_
    | with_reducible refine lc.at ?_
    | wp_step)
  · exact ⟨_, #[], _, (Heap.get?_update_ne _ _ _ _ xs.symm).trans (Heap.get?_push_at rfl rfl), rfl,
      fun e he => absurd he (by simp), fun _ => rfl⟩
  · intro h' tk' hn' hs
    have hx' : (hp.push { cls := .type "dict", data := .dict #[] }).get? x = some { cls := .ref C, data := .fields fv } :=
      Heap.get?_push_of_some _ hx
    refine hq h' tk' hp.objs.size (fun b o nb e => ?_) (Nat.le_refl _) xs.symm ?_ hn'
    · exact (hs.2 b (Nat.ne_of_lt (Heap.lt_size e))).trans
        ((Heap.get?_update_ne _ _ _ _ nb).trans (Heap.get?_push_of_some _ e))
    · exact (hs.2 x xs).trans (Heap.get?_update_self _ hx' rfl)
end FellX
end PySem
namespace PySem
namespace FellX
open PySem.W PySem.Calls PyProof.Rows PySem.HandSPX
/-! ### the text of __init__ -/
def iA (p1 p2 : Pos) : Arguments := { posonlyargs := [], args := [{ arg := "self", annotation := none, pos := p1 }, { arg := "word", annotation := none, pos := p2 }], vararg := none, kwonlyargs := [], kw_defaults := [], kwarg := none, defaults := [] }
def iB (q1 q2 q3 q4 : Pos) : List Stmt := [.Assign [.Attribute (.Name "self" q1) "word" q2] (.Name "word" q3) q4]
def iS : Scope := { kind := .function, names := [(PySem.Str.ofString "self", .local), (PySem.Str.ofString "word", .local)], isGenerator := false, isCoroutine := false, more := [] }
/-- what the written part says of Fell, at C, and of its __init__, at fI -/
structure FellTxt (K : Frag) (mg : Str → Option Value) (C fI : Addr) : Prop where
  gC : mg "Fell" = some (.ref C)
  cls : ∃ nm q N bs bm sn sub ab col dd k0 k1 k2 k3 k5, K.lookup C = some (excClassObj nm q C N bs bm true sn sub ab col dd k0 k1 k2 k3 k5 "RuntimeError.__new__") ∧ bm = rtTail
  sa : findIn K (.ref C) "__setattr__" = some (some (.builtin "object.__setattr__"))
  ga : findIn K (.ref C) "__getattribute__" = some (some (.builtin "BaseException.__getattribute__"))
  gg : findIn K (.ref C) "__getattr__" = some none
  noN : findIn K (.ref C) "word" = some none
  iC : findIn K (.ref C) "__init__" = some (some (.ref fI))
  tC : typeIn K (.ref fI) = some (.type "function")
  kC : keepIn K (.ref C) = true
  exC : subIn K (.ref C) (.type "BaseException") = some true
  tyC : typeIn K (.ref C) = some (.type "type")
  hdC : hasDictIn K C = true
  te : exmOne K (.ref C) (.ref C) = some true
  fn : ∃ (oc : Value) (od : Option Addr) (doc pm : Value) (an : Option Addr) (cdv ct : Value) (osl : Array (Option Value)) (p1 p2 q1 q2 q3 q4 : Pos),
    K.lookup fI = some ⟨oc, od, .func (fnOf "__init__" "Fell.__init__" (iA p1 p2) (iB q1 q2 q3 q4) iS .none .none doc pm an cdv ct), osl⟩ ∧ codeIn K cdv "Fell.__init__" = true
theorem one_size (v : Value) : [v].length ≤ sizeLine := by
  rw [sizeLine_eq]
  exact (by decide : 1 ≤ 16777216)
theorem kept_but {K : Frag} {h h' : Heap} {x : Addr} (X : K.In h) (hx : K.lookup x = none) (k : ∀ b o, b ≠ x → h.get? b = some o → h'.get? b = some o) : K.In h' := fun a o e =>
  k a o (fun z => by rw [z, hx] at e; cases e) (X a o e)
theorem ldC {M : Model} {s : Shared} {name : Str} {scope : Scope} {L a : Addr} {cd : Value} {m : Str → Option Value} {x : Str} {pos : Pos} {v : Value} {Q : Value → Shared → Prop} {A : Around} {E : Value → Shared → Prop} (hn : s.heap.Ns L m) (hv : m x = some v) (h : Q v s)
    (hk : scope.kind = .function := by rfl) (hl : (envOfC name scope L a cd).kindOf x = some .local := by rfl) (hd : (x == ("__debug__" : Str)) = false := by decide) :
    wpAny M A (eval (.Name x pos) (envOfC name scope L a cd)) Q E s := wpAny_Name (wpAny_loadName_local hk hl hn hv h) hd
/-- what __init__ leaves of a fresh exception at x -/
structure InitEnd (h h' : Heap) (x C dx t1 : Addr) (v : Value) : Prop where
  keep : ∀ b o, b ≠ x → h.get? b = some o → h'.get? b = some o
  obj : h'.get? x = some { cls := .ref C, dict := some dx, data := .fields #[.ref t1, .none, .none, .none, .bool false, .none] }
  dbig : h.objs.size ≤ dx
  dne : dx ≠ x
  ns : h'.Ns1 dx (fun y => if y = "word" then some v else none)
/-- a made Fell -/
structure OwnMade (h h' : Heap) (e C d : Addr) (v : Value) : Prop where
  keep : ∀ b o, h.get? b = some o → h'.get? b = some o
  new : h.objs.size ≤ e
  obj : ∃ oe vs, h'.get? e = some oe ∧ oe.cls = .ref C ∧ oe.dict = some d ∧ oe.data = .fields vs ∧ vs[1]? = some .none
  dbig : h.objs.size ≤ d
  dne : d ≠ e
  ns : h'.Ns1 d (fun y => if y = "word" then some v else none)
section
variable {prog : Program} {w : World} {A : Around} {E : Value → Shared → Prop} {R : Result → Shared → Prop} {s : Shared} {K : Frag} {mg : Str → Option Value} {C fI : Addr}
theorem fell_init (T : FellTxt K mg C fI) {x t0 : Addr} {v : Value} (X : K.In s.heap) (hlim : s.heap.NoLimit) (hx : s.heap.get? x = some (excO C t0)) (hnx : K.lookup x = none) (hroom : A.depth < recursionLimit)
    (hq : ∀ h' tk dx, InitEnd s.heap h' x C dx t0 v → R (.ok (.ret .none)) { s with heap := h', toks := tk }) :
    codeAny (model prog w) A (.call (.ref fI) ⟨[.ref x, v], []⟩) R s := by
  obtain ⟨oc, od, doc, pm, an, cdv, ct, osl, p1, p2, q1, q2, q3, q4, ho, hcd⟩ := T.fn
  obtain ⟨nm, q, N, bs, bm, sn, sub, ab, col, dd, k0, k1, k2, k3, k5, hC, hbm⟩ := T.cls
  have hcl : clsIn K C = some { name := nm, bases := bs, mro := .ref C :: bm, ns := N, qualname := q, hasDict := true, slotNames := sn, subclasses := sub, abstract := ab, collection := col, hasDel := false } := by unfold clsIn; rw [hC] <;> rfl
  refine Att.call_fn (binds := [("self", .ref x), ("word", v)]) X hlim ho hcd hroom (BindsTo.of_eq (by first | rfl | with_unfolding_all rfl)) (by first | rfl | decide | with_unfolding_all rfl) (fun s₁ IC => ?_) rfl rfl rfl
  obtain ⟨h₁, tk₁, rfl⟩ := IC.toInCall.same
  have k : ∀ b o, s.heap.get? b = some o → h₁.get? b = some o := IC.toInCall.keep
  have hn := IC.toInCall.ns
  have hxL : s.heap.objs.size ≠ x := Nat.ne_of_gt (Heap.lt_size hx)
  have X₁ : K.In h₁ := X.keeps k
  have hx₁ := k _ _ hx
  -- self.by = by
  show wpAny _ _ (execs _ _) _ _ _
  refine wpAny_execs_cons (plainObj_wpAny_Assign_Attribute ?_)
  refine ldC (v := v) hn (by first | rfl | with_unfolding_all rfl | kernel_rfl) (ldC (v := .ref x) hn (by first | rfl | with_unfolding_all rfl | kernel_rfl) ?_)
  refine set_plain X₁ (ox := excO C t0) (od := none) ⟨hx₁, rfl, rfl, trivial⟩ T.sa ?_
  refine rt_osa X₁ hx₁ hcl (show (Value.ref C :: bm) = .ref C :: rtTail by rw [hbm]) rfl T.noN (fun h₃ tk₃ dx k₃ dn dne hx₃ hn₃ => ?_)
  show wpAny _ _ (execs _ _) _ _ _
  have z : s.heap.objs.size < h₁.objs.size := hn.lt
  exact wpAny_execs_nil (hq h₃ tk₃ dx ⟨fun b o hb e => k₃ b o hb (k b o e), hx₃, Nat.le_of_lt (Nat.lt_of_lt_of_le z dn), dne, hn₃⟩)
theorem fell_made (T : FellTxt K mg C fI) {v : Value} (X : K.In s.heap) (hlim : s.heap.NoLimit) (hroom : A.depth + 1 < recursionLimit)
    (hq : ∀ h' tk e d, OwnMade s.heap h' e C d v → R (.ok (.ret (.ref e))) { s with heap := h', toks := tk }) :
    codeAny (model prog w) A (.call (.ref C) ⟨[v], []⟩) R s := by
  obtain ⟨nm, q, N, bs, bm, sn, sub, ab, col, dd, k0, k1, k2, k3, k5, hC, hbm⟩ := T.cls
  obtain ⟨hp, g, dr, tk, os⟩ := s
  have k : ∀ b o, hp.get? b = some o → ((hp.push (kdv_tup [v])).push (excO C hp.objs.size)).get? b = some o := fun b o e => Heap.get?_push_of_some _ (Heap.get?_push_of_some _ e)
  have hget : ((hp.push (kdv_tup [v])).push (excO C hp.objs.size)).get? (hp.objs.size + 1) = some (excO C hp.objs.size) := by heap_get
  have hnx : K.lookup (hp.objs.size + 1) = none := by
    cases e : K.lookup (hp.objs.size + 1) with
    | none => rfl
    | some o =>
      have z : hp.get? (hp.objs.size + 1) = some o := X _ _ e
      exact absurd (Nat.lt_of_succ_lt (Heap.lt_size z)) (Nat.lt_irrefl _)
  refine call_own F.excBase_RuntimeError (fun X => by rw [hbm]) (X _ _ hC) (looks_findIn X T.iC) (fun self => bind_fn X self T.tC) (one_size v) ?_
  refine fell_init (s := ⟨(hp.push (kdv_tup [v])).push (excO C hp.objs.size), g, dr, tk, os⟩) T (X.keeps k) (hlim.keeps k) hget hnx ?_ fun h' tk' dx ⟨k', hx, dn, dne, hns⟩ => ?_
  · show A.depth + 1 < recursionLimit
    exact hroom
  · have old : ∀ b o, hp.get? b = some o → h'.get? b = some o := fun b o e => k' b o (Nat.ne_of_lt (Nat.lt_succ_of_lt (Heap.lt_size e))) (k b o e)
    have z : hp.objs.size + 1 + 1 ≤ dx := by
      first
        | (simpa only [Heap.size_push] using dn)
        | exact dn
        | (have q := dn; rw [Heap.size_push, Heap.size_push] at q; exact q)
    exact ⟨rfl, hq h' tk' (hp.objs.size + 1) dx ⟨old, Nat.le_succ _, ⟨_, _, hx, rfl, rfl, rfl, rfl⟩, Nat.le_trans (Nat.le_trans (Nat.le_succ _) (Nat.le_succ _)) z, dne, hns⟩⟩
end
end FellX
end PySem
namespace L2
open PySem PySem.Spec PyProof.Rows
theorem relO_fell {v : V} {v' : Value} (r : RelV v v') (f : Str) : RelO (List.lookup f [(("word" : Str), v)]) (if f = "word" then some v' else none) := by
  by_cases hw : f = "word"
  · subst hw
    rw [if_pos rfl]
    have q : List.lookup ("word" : Str) [(("word" : Str), v)] = some v := by simp [List.lookup]
    rw [q]
    exact r
  · rw [if_neg hw]
    have qw : (f == ("word" : Str)) = false := by simpa using hw
    have q2 : List.lookup f [(("word" : Str), v)] = none := by simp [List.lookup, qw]
    rw [q2]
    trivial
section
variable {X : Cx} {C fI : Addr}
/-- Fell(e) -/
def tMkFell (C : Addr) (ta : TA) : St → Hp → XK → Prop := fun σ H Q => ta σ H fun vs H1 => ∃ v, vs = [v] ∧ ∀ d, H1 d = none → Q (.ref C) (some d) (upd H1 d (.xd [(("word" : Str), v)]))
theorem pmk_fell {a : Expr} {ta : TA} {p pos : Pos} {k : Nat} (T : PySem.FellX.FellTxt X.K X.mg C fI) (hr : Room k X.A) (ha : PA X [a] ta) (hg : Gl X "Fell" := by rfl)
    (he : starEach (a :: []) X.env = (false, eval a X.env) :: starEach [] X.env := by rfl) (hpl : (backTo pos (starEach [] X.env)).any (·.1) = false := by rfl) :
    PMk X (.Call (.Name "Fell" p) [a] [] pos) (tMkFell C ta) := by
  intro pins s σ H Q I h
  refine wpAny_Call_Name_kw (ld_glob I hg T.gC ?_)
  refine PySem.W.callWith_K (h₀ := X.base) I.ok.mod.kin T.kC (thn (ha.run pos pins s σ H _ I h) fun us s1 hh => ?_) he hpl
  obtain ⟨vs, H1, I1, r1, v, ev, q1⟩ := hh
  subst ev
  refine ⟨I1.kIn, ?_⟩
  cases r1 with
  | cons rv rn =>
    rename_i v' us'
    cases rn
    show wpAny _ _ (call (.ref C) [v']) _ _ _
    have hlim := I1.nolimit
    obtain ⟨hp, g, dr, tk, os⟩ := s1
    refine wpAny_call (PySem.FellX.fell_made T I1.kIn hlim (by have := hr.dp; omega) fun h' tk' e d M => ?_)
    show MkP X pins σ Q (.ref e) ⟨h', g, dr, tk', os⟩
    obtain ⟨oe, fv, hoe, hc, hd, hdat, h1⟩ := M.obj
    have hns := M.ns
    obtain ⟨G', g1, g2⟩ := restrict h' fun b => decide (b ≠ e)
    have gk : ∀ b, b ≠ e → G'.get? b = h'.get? b := fun b hb => g1 b (decide_eq_true hb)
    have ge : G'.get? e = none := g2 e (by simp)
    have old : ∀ b o, hp.get? b = some o → G'.get? b = some o := fun b o q => (gk b (Nat.ne_of_lt (Nat.lt_of_lt_of_le (Heap.lt_size q) M.new))).trans (M.keep b o q)
    have ob : ObjOk X.prog X.w (upd H1 d (.xd [(("word" : Str), v)])) G' d (.xd [(("word" : Str), v)]) :=
      ⟨_, hns.at (fun o q => (gk d M.dne).trans q), fun f => relO_fell rv f⟩
    have J : Inv X pins σ (upd H1 d (.xd [(("word" : Str), v)])) ⟨G', g, dr, tk', os⟩ := I1.laid (t' := tk') old M.dbig ob
    refine ⟨e, oe, fv, ⟨G', g, dr, tk', os⟩, _, .ref C, some d, rfl, J, fun b o q => ?_, ge, hoe, ⟨hc, hd⟩, hdat, h1, ?_, rfl, I1.bare, raises_own T.exC T.tyC, q1 d (I1.hok.fresh M.dbig)⟩
    · by_cases hb : b = e
      · have q' : G'.get? b = some o := q
        rw [hb, ge] at q'; cases q'
      · exact (gk b hb).symm.trans q
    · rw [upd_ne (Ne.symm M.dne)]
      exact I1.hok.fresh M.new
/-- raise Fell(e) -/
def tRaiseFell (C : Addr) (W : WX) (ta : TA) : TS := fun _ σ H => tMkFell C ta σ H fun cls d H' => W cls d σ H'
theorem ps_raiseFell {a : Expr} {ta : TA} {W : WX} {p pos pos2 : Pos} {k : Nat} (hc : X.calm = true) (T : PySem.FellX.FellTxt X.K X.mg C fI) (hr : Room k X.A) (tk : Takes X W) (ha : PA X [a] ta) (hg : Gl X "Fell" := by rfl)
    (he : starEach (a :: []) X.env = (false, eval a X.env) :: starEach [] X.env := by rfl) (hpl : (backTo pos (starEach [] X.env)).any (·.1) = false := by rfl) :
    PS X (.Raise (some (.Call (.Name "Fell" p) [a] [] pos)) none pos2) (tRaiseFell C W ta) := ps_raise hc tk (pmk_fell T hr ha hg he hpl)
/-- low.by, low the exception that the suite holds (at a; its class cls, its dict d) -/
def tWord (C : Addr) (a : Addr) (cls : Value) (d : Option Addr) (te : TE) : TE := fun σ H Q => te σ H fun x H1 => x = .ref a ∧ cls = .ref C ∧ ∃ (dd : Addr) (v : V), d = some dd ∧ H1 dd = some (.xd [(("word" : Str), v)]) ∧ Q v H1
theorem pe_word {a : Addr} {oe : Obj} {cls : Value} {d : Option Addr} {pn : List (Addr × Obj)} {e : Expr} {te : TE} {pos : Pos} (T : PySem.FellX.FellTxt X.K X.mg C fI) (hz : Zc cls d oe) (hf : ∃ vs, oe.data = .fields vs) (he : PE (X.suite a ((a, oe) :: pn)) e te)
    (hb : attributeBase e "word" X.env (eval e X.env) = eval e X.env := by rfl) :
    PE (X.suite a ((a, oe) :: pn)) (.Attribute e "word" pos) (tWord C a cls d te) := by
  refine ⟨fun pins s σ H Q I h => ?_⟩
  refine attr_of hb (thn (he.run pins s σ H _ I h) fun u s1 hh => ?_)
  obtain ⟨x, H1, I1, rx, ex, ec, dd, v, ed, ea, q⟩ := hh
  subst ex
  obtain rfl : u = Value.ref a := rx
  subst ec
  subst ed
  obtain ⟨ha, _⟩ := I1.pin (a, oe) (List.mem_append_left _ List.mem_cons_self)
  obtain ⟨vs, hd⟩ := hf
  have hx : ObjOk X.prog X.w H1 s1.heap dd (.xd [(("word" : Str), v)]) := I1.hok dd _ ea
  obtain ⟨mA, hns, hr⟩ := hx
  obtain ⟨od, ho, hl⟩ := lookIn_ns hns
  have l : List.lookup ("word" : Str) [(("word" : Str), v)] = some v := by simp [List.lookup]
  obtain ⟨u, hu, ru⟩ := RelO.some_of (v := v) (o := mA "word") (by rw [← l]; exact hr "word")
  have J : PySem.W.InstAt s1.heap a oe C (some od) := ⟨ha, hz.1, by unfold PySem.W.notCls; rw [hd] <;> rfl, by rw [hz.2]; exact ho⟩
  exact HandSPX.exc_get I1.kIn J T.ga T.gg T.exC (PySem.W.findObj_own T.hdC T.noN rfl (by rw [hl, hu])) (handed_of ru) ⟨v, H1, I1.tok _, ru, q⟩
end
end L2


set_option Elab.async false
set_option linter.all false
set_option maxRecDepth 100000
set_option maxHeartbeats 2000000
/-! A try whose suite keeps the error by another name: behind it the error is tracked, its class and its fields are read. -/
namespace L2
open PySem PySem.Spec PyProof.Rows
/-- a caught error at a: its class, its own dict -/
def ErrO (cls : Value) (d : Option Addr) (a : Addr) : HO :=
  .ext fun h => ∃ (oe : Obj) (vs : Array Value), h.get? a = some oe ∧ Zc cls d oe ∧ oe.data = .fields vs
theorem errO_at {P : Program} {w : World} {H : Hp} {h : Heap} {a : Addr} {cls : Value} {d : Option Addr}
    (hk : HOk P w H h) (e : H a = some (ErrO cls d a)) : ∃ (oe : Obj) (vs : Array Value), h.get? a = some oe ∧ Zc cls d oe ∧ oe.data = .fields vs :=
  (show ObjOk P w H h a (ErrO cls d a) from hk a _ e).1
section
variable {X : Cx} {pins : List (Addr × Obj)} {σ : St} {H : Hp} {s : Shared}
/-- what was pinned is tracked from here on -/
theorem Inv.track {a : Addr} {oe : Obj} {cls : Value} {d : Option Addr} (I : Inv X ((a, oe) :: pins) σ H s) (hz : Zc cls d oe) (hf : ∃ vs, oe.data = .fields vs)
    (h0 : ∀ o, X.s_0.heap.get? a = some o → a ∉ X.ex → False) (hp : ∀ p ∈ X.pn ++ pins, p.1 ≠ a) : Inv X pins σ (upd H a (ErrO cls d a)) s := by
  have mem : (a, oe) ∈ X.pn ++ (a, oe) :: pins := List.mem_append_right _ List.mem_cons_self
  obtain ⟨ga, na, nl, nf, nc⟩ := I.pin _ mem
  dsimp only at ga na nl nf nc
  obtain ⟨vs, hv⟩ := hf
  have ne : ∀ {b : Addr} {o : HO}, H b = some o → b ≠ a := fun q => ne_of_none q na
  refine ⟨I.ok, I.os, I.bare, ⟨I.base.keep, I.base.slot, fun b o e n hx => ?_, I.base.there, fun b xs q => ?_, fun b o u q => ?_, fun b ps q => ?_⟩,
    I.loc, I.cell, ?_, fun x c e => ?_, fun p hm => ?_, ?_, I.len⟩
  · by_cases hb : b = a
    · subst hb
      exact (h0 o e hx).elim
    · rw [upd_ne hb]
      exact I.base.free b o e n hx
  · have q' := I.base.tups b xs q
    rw [upd_ne (ne q')]
    exact q'
  · have q' := I.base.frzs b o u q
    rw [upd_ne (ne q')]
    exact q'
  · obtain ⟨more, q'⟩ := I.base.tbls b ps q
    exact ⟨more, by rw [upd_ne (ne q')]; exact q'⟩
  · rw [upd_ne nl.symm]
    exact I.free
  · have nca : c ≠ a := fun z => by
      obtain ⟨v, o, go, hd⟩ := I.cell x c e
      rw [z, ga] at go
      cases go
      exact nc _ hd
    rw [upd_ne nca]
    exact I.freeC x c e
  · have hm' : p ∈ X.pn ++ (a, oe) :: pins := by
      rcases List.mem_append.mp hm with z | z
      · exact List.mem_append_left _ z
      · exact List.mem_append_right _ (List.mem_cons_of_mem _ z)
    obtain ⟨g1, n1, r1⟩ := I.pin p hm'
    exact ⟨g1, by rw [upd_ne (hp p hm)]; exact n1, r1⟩
  · exact I.hok.laidN (fun _ _ q => q) na ⟨⟨oe, vs, ga, hz, hv⟩, ⟨oe, ga⟩, fun _ _ ⟨o, v, q, r⟩ k => ⟨o, v, k o q, r⟩⟩
end
/-- what «except x as n» wishes of an error of the body, the error being tracked behind the suite -/
def wKeep (K : PySem.W.Frag) (c : Value) (i : Nat) (ts : Addr → Value → Option Addr → TS) (Wout : WX) (D : Ends) : WX := fun cls d σ H =>
  ∃ b, PySem.W.exmOne K cls c = some b ∧ (b = false → Wout cls d σ H) ∧ (b = true → ∀ a, H a = none →
    ts a cls d ({ nx := fun σ' H' => H' a = none → D.nx (σ'.set i none) (upd H' a (ErrO cls d a)), rt := fun _ _ => False, bk := fun _ _ => False, ct := fun _ _ => False } : Ends) (σ.set i (some (.ref a))) H)
section
variable {X : Cx} {x n : Str} {c : Value} {i : Nat} {body suite : List Stmt} {b₀ : Stmt} {np pos pos' : Pos} {tb : WX → TS} {ts : Addr → Value → Option Addr → TS} {Wout : WX}
theorem ps_try_keep (hs : X.stack = X.env :: X.outer) (hf : X.env.frame = some X.env.locals) (hN : X.N.Nodup) (hi : X.N[i]? = some n)
    (hln : X.env.kindOf n = some .local) (hc : Names X x c) (tk : Takes X Wout)
    (hb : ∀ (W : WX) (pn : List (Addr × Obj)) (xe : Value → Shared → Prop), Takes (X.tr pn xe) W →
      PassesOwn (model X.prog X.w) X.A X.env xe → PSs (X.tr pn xe) body (tb W))
    (hsu : ∀ (a : Addr) (oe : Obj) (cls : Value) (d : Option Addr) (pn : List (Addr × Obj)), Zc cls d oe → (∃ vs, oe.data = .fields vs) →
      PSs (X.suite a ((a, oe) :: pn)) (b₀ :: suite) (ts a cls d)) :
    PS X (.Try body [.ExceptHandler (some (.Name x np)) (some n) (b₀ :: suite) pos'] [] [] pos) (fun D σ H => tb (wKeep X.K c i ts Wout D) D σ H) := by
  refine ⟨fun pins s σ H D I h => ?_⟩
  have fr : X.A.frames = some (X.env :: X.outer) := by rw [I.ok.frames, hs]
  refine wpAny_Try_except ?_
  refine wpAny_mono ((hb (wKeep X.K c i ts Wout D) (X.pn ++ pins)
    (fun e s₁ => wpAny (model X.prog X.w) X.A (noteFrame e X.env) (fun _ s₂ =>
      wpAny (model X.prog X.w) X.A (setFlight e none) (fun _ s₃ =>
        wpAny (model X.prog X.w) X.A (handleBy e X.env [.ExceptHandler (some (.Name x np)) (some n) (b₀ :: suite) pos'])
          (SP X pins D) X.xe s₃) X.xe s₂) X.xe s₁)
    (fun u s' xx => ?_) PassesOwn.looking).run [] s σ H D (I.toTry _) h) (fun f s1 end1 => ?_) (fun e s1 he => he)
  · obtain ⟨a, B, sI, pi', σ1, H1, cls, d, rfl, I1', nb, up, sky, na, os, ag, b, hb1, hno, hyes⟩ := xx
    have I1 : Inv X pins σ1 H1 sI := I1'.ofTry I.ok
    have sk : Sky B (X.env :: X.outer) a (Zc cls d) X.env.locals s'.heap := by rw [← hs]; exact sky
    show wpAny (model X.prog X.w) X.A (noteFrame (.ref a) X.env) _ _ _
    refine Sky.land Zc.steady fr hf sk fun h3 fl up3 => ?_
    have I3 : Inv X pins σ1 H1 { s' with heap := h3 } := I1.landed nb fl.1 (up.trans up3) os ag
    obtain ⟨o3, v3, g3, z3, d3⟩ := fl.there
    have nfr : a ∉ frs (X.env :: X.outer) := fun hm => by
      obtain ⟨_, o', e', hnf⟩ := fl.2.2.1.mem hm
      rw [g3] at e'
      cases e'
      exact hnf _ d3
    have nL : a ≠ X.env.locals := fun z => nfr (List.mem_filterMap.mpr ⟨X.env, List.mem_cons_self, by rw [hf, z]⟩)
    have nF : a ∉ X.fs := fun hm => by
      obtain ⟨e, he, q⟩ := List.mem_filterMap.mp hm
      exact nfr (List.mem_filterMap.mpr ⟨e, List.mem_cons_of_mem _ he, q⟩)
    have nB : B.get? a = none := by
      rcases sky with z | z | z
      · exact z.2.1
      · exact z.2.1
      · exact z.2.1
    have gone : ∀ {b : Addr} {o : Obj}, sI.heap.get? b = some o → b ∉ frs X.stack → b ≠ a := fun {b o} q hb z => by
      have q' := nb b o q hb
      rw [z, nB] at q'
      cases q'
    have h0 : ∀ o, X.s_0.heap.get? a = some o → a ∉ X.ex → False := fun o q hx => by
      obtain ⟨o', q'⟩ := I1.base.there a o q hx
      exact gone q' (by rw [hs]; exact nfr) rfl
    have hp : ∀ p ∈ X.pn ++ pins, p.1 ≠ a := fun p hm => by
      obtain ⟨g, _, nl, nf, _⟩ := I1.pin p hm
      refine gone g fun hq => ?_
      rcases List.mem_cons.mp (I1.stkSub _ hq) with z | z
      · exact nl z
      · exact nf z
    have S3 := I3.suite g3 d3 na nL nF
    refine wpAny_handleBy_cons (codeAny_handlers_test ?_) (by intro q; cases q)
    have LT : PySem.W.Looks (model X.prog X.w) h3 (typeOf (.ref a)) cls := fun _ _ _ _ k q =>
      wpAny_typeOf_ref (k _ _ g3) (by rw [z3.1]; exact q)
    have LM := PySem.W.exm_one (M := model X.prog X.w) I3.kIn LT hb1
    have nameIs : ∀ {Q : Value → Shared → Prop} {E : Value → Shared → Prop}, Q c { s' with heap := h3 } →
        wpAny (model X.prog X.w) (X.A.mark (some (.ref a))) (eval (.Name x np) X.env) Q E { s' with heap := h3 } := fun {Q E} q => by
      obtain ⟨hg, hdbg, hm | ⟨hm, hv, hnn⟩⟩ := hc
      · exact ld_glob (X := X.suite a ((a, o3) :: (X.pn ++ pins))) S3 hg hm q hdbg
      · exact ld_blt (X := X.suite a ((a, o3) :: (X.pn ++ pins))) S3 hg hm hv q hnn hdbg
    refine nameIs (LM.here ?_)
    cases b with
    | true =>
      refine codeAny_handlers_suite_as ?_
      refine HandSPX.lands_againZ fl fun h4 fl4 up4 => ?_
      have I4 : Inv X pins σ1 H1 { s' with heap := h4 } := I1.landed nb fl4.1 ((up.trans up3).trans up4) os ag
      obtain ⟨o4, v4, g4, z4, d4⟩ := fl4.there
      have S4 := I4.suite g4 d4 na nL nF
      refine store_ok (X := X.suite a ((a, o4) :: (X.pn ++ pins))) (v := .ref a) S4 hN hi (.inl hln) rfl (fun s5 S5 => ?_) (.inr hln)
      refine wpAny_mono ((hsu a o4 cls d (X.pn ++ pins) z4 ⟨_, d4⟩).run [] s5 _ H1 _ S5 (hyes rfl a na)) (fun f s6 e6 => ?_) (fun _ _ z => False.elim z)
      cases f with
      | next =>
        obtain ⟨σ6, H6, S6, q6⟩ := e6
        have K6 : Inv X ((a, o4) :: pins) σ6 H6 s6 := ⟨I.ok, S6.os, S6.bare, S6.base, S6.loc, S6.cell, S6.free, S6.freeC, fun p hm => S6.pin p (by
          rw [List.append_nil]
          rcases List.mem_append.mp hm with z | z
          · exact List.mem_cons_of_mem _ (List.mem_append_left _ z)
          · rcases List.mem_cons.mp z with z | z
            · rw [z]; exact List.mem_cons_self
            · exact List.mem_cons_of_mem _ (List.mem_append_right _ z)), S6.hok, S6.len⟩
        have n6 : H6 a = none := (S6.pin (a, o4) (List.mem_append_left _ List.mem_cons_self)).2.1
        exact gone_ok K6 hN hi hln fun s7 K7 => ⟨_, _, K7.track z4 ⟨_, d4⟩ h0 hp, q6 n6⟩
      | brk => obtain ⟨_, _, _, q6⟩ := e6; exact q6.elim
      | cont => obtain ⟨_, _, _, q6⟩ := e6; exact q6.elim
      | ret u => obtain ⟨_, _, _, _, _, q6⟩ := e6; exact q6.elim
    | false =>
      show wpAny _ X.A (handleBy (.ref a) X.env []) _ _ _
      refine wpAny_handleBy_nil ?_
      obtain ⟨k1, k2, k3, oe, vs, T, oT, ts', he, hz, hd, h1, hr⟩ := id fl
      unfold PySem.passOn
      refine wpAny_bind (wpAny_field he hd h1 ?_)
      rw [if_neg (show ¬ ((Value.ref T == Value.none) = true) from by simp)]
      have fin : wpAny (model X.prog X.w) X.A (setFlight (.ref a) X.env.frame) (fun _ s4 =>
          wpAny (model X.prog X.w) X.A (throw (.ref a) : Sem Flow) (SP X pins D) X.xe s4) X.xe { s' with heap := h3 } := by
        rw [hf]
        refine HandSPX.setFlight_upZ fl fun h4 hh4 up4 => wpAny_throw (tk _ _ ?_)
        exact ⟨a, B, sI, pins, σ1, H1, cls, d, rfl, I1, nb, (up.trans up3).trans up4,
          .inr (.inr (by rw [hs]; exact hh4)), na, os, ag, hno rfl⟩
      first
        | exact wpAny_bind (wpAny_pure (wpAny_bind fin))
        | exact wpAny_bind fin
  · cases f with
    | next => obtain ⟨σ', H', J', q⟩ := end1; exact wpAny_execs_nil ⟨σ', H', J'.ofTry I.ok, q⟩
    | brk => obtain ⟨σ', H', J', q⟩ := end1; exact ⟨σ', H', J'.ofTry I.ok, q⟩
    | cont => obtain ⟨σ', H', J', q⟩ := end1; exact ⟨σ', H', J'.ofTry I.ok, q⟩
    | ret u => obtain ⟨v, σ', H', J', r, q⟩ := end1; exact ⟨v, σ', H', J'.ofTry I.ok, r, q⟩
end
/-! ### what a tracked error tells -/
/-- what its class says -/
structure ErrC (K : PySem.W.Frag) (C : Addr) : Prop extends XfC K C where
  ac : PySem.W.findIn K (.ref C) "__class__" = some (some (.builtin "object.__class__"))
  sg : PySem.W.specialIn K (.builtin "object.__class__") "__get__" = some (some (.builtin "getset_descriptor.__get__"))
  tk : PySem.W.takesIn K (.builtin "object.__class__") = some true
  mo : PySem.W.mroIn K C (.type "object") = some true
section
variable {X : Cx} {pins : List (Addr × Obj)} {σ : St} {H : Hp} {s : Shared} {C a d : Addr} {fs : List (Str × V)}
theorem errO_inst (I : Inv X pins σ H s) (ea : H a = some (ErrO (.ref C) (some d) a)) (ed : H d = some (.xd fs)) :
    ∃ (oe : Obj) (od : Obj), PySem.W.InstAt s.heap a oe C (some od) ∧ ∃ mA : Str → Option Value, (∀ n, PySem.W.lookIn n od = some (mA n)) ∧ ∀ f, RelO (fs.lookup f) (mA f) := by
  obtain ⟨oe, vs, g, hz, hv⟩ := errO_at I.hok ea
  obtain ⟨mA, hns, hr⟩ := (show ObjOk X.prog X.w H s.heap d (.xd fs) from I.hok d _ ed)
  obtain ⟨od, ho, hl⟩ := lookIn_ns hns
  exact ⟨oe, od, ⟨g, hz.1, by unfold PySem.W.notCls; rw [hv] <;> rfl, by rw [hz.2]; exact ho⟩, mA, hl, hr⟩
/-- e.f of a tracked error -/
def tErrF (C : Addr) (f : Str) (te : TE) : TE := fun σ H Q => te σ H fun x H1 => ∃ (a d : Addr) (fs : List (Str × V)) (v : V),
  x = .ref a ∧ H1 a = some (ErrO (.ref C) (some d) a) ∧ H1 d = some (.xd fs) ∧ fs.lookup f = some v ∧ Q v H1
theorem pe_errF {e : Expr} {te : TE} {pos : Pos} {n : Str} (T : ErrC X.K C) (hno : PySem.W.findIn X.K (.ref C) n = some none) (he : PE X e te)
    (hb : attributeBase e n X.env (eval e X.env) = eval e X.env := by rfl) : PE X (.Attribute e n pos) (tErrF C n te) := by
  refine ⟨fun pins s σ H Q I h => attr_of hb (thn (he.run pins s σ H _ I h) fun u s1 hh => ?_)⟩
  obtain ⟨x, H1, I1, rx, a, d, fs, v, rfl, ea, ed, l, q⟩ := hh
  obtain rfl : u = Value.ref a := rx
  obtain ⟨oe, od, J, mA, hl, hr⟩ := errO_inst I1 ea ed
  obtain ⟨u, hu, ru⟩ := RelO.some_of (v := v) (o := mA n) (by rw [← l]; exact hr n)
  exact HandSPX.exc_get I1.kIn J T.ga T.gg T.exC (PySem.W.findObj_own T.hdC hno rfl (by rw [hl, hu])) (handed_of ru) ⟨v, H1, I1.tok _, ru, q⟩
/-- isinstance(e, T) of a tracked error, T a built-in class -/
def rIsErr (K : PySem.W.Frag) (C : Addr) : List V → Hp → VK → Prop := fun xs H Q => ∃ (a d : Addr) (fs : List (Str × V)) (n : String) (b : Bool),
  xs = [.ref a, .ty n] ∧ H a = some (ErrO (.ref C) (some d) a) ∧ H d = some (.xd fs) ∧ PySem.W.kitOne K (.ref C) (.type n) = some b ∧ Q (.bl b) H
theorem call_isErr (T : ErrC X.K C) : CallR X (.builtin "isinstance") (rIsErr X.K C) := by
  intro pins s σ H xs us Q I r h
  obtain ⟨a, d, fs, n, b, rfl, ea, ed, e, q⟩ := h
  obtain ⟨u1, u2, rfl, r1, r2⟩ := vals2 r
  cases (show u1 = Value.ref a from r1)
  cases (show u2 = Value.type n from r2)
  obtain ⟨oe, od, J, _⟩ := errO_inst I ea ed
  have hcl : (PySem.W.clsIn X.K C).isSome = true := by
    obtain ⟨cd, hc, _⟩ := PySem.W.any_some T.hdC
    rw [hc]
    rfl
  exact PySem.W.kia_one (PySem.W.kitx_exc hcl T.ga T.gg T.exC T.ac T.sg T.tk T.mo) I.kIn J e (fun z => nomatch z) fun tk => ⟨.bl b, H, I.tok tk, rfl, q⟩
end
end L2

set_option Elab.async false
set_option linter.all false
set_option maxRecDepth 100000
set_option maxHeartbeats 2000000
/-! «except (X1, .., X8) as n: y = n», the error tracked behind the suite; isinstance of a tracked error with own classes, one or a tuple. -/
namespace PySem.W
open PySem PySem.Spec PySem.Calls PyProof.Rows
section
variable {M : Model} {K : Frag}
theorem loopA {A : Around} {E : Value → Shared → Prop} {s : Shared} {β : Type} {b0 : β} {f : Value → β → Sem (ForInStep β)} {Q : β → Shared → Prop} : ∀ {cs : List Value}, (∀ c ∈ cs, ∀ Q' : ForInStep β → Shared → Prop, Q' (.yield b0) s → wpAny M A (f c b0) Q' E s) → Q b0 s → wpAny M A (forIn cs b0 f) Q E s
  | [], _, q => by
    rw [List.forIn_nil]
    exact wpAny_pure q
  | c :: cs, h, q => by
    rw [List.forIn_cons]
    exact wpAny_bind (h c (List.mem_cons_self ..) _ (loopA (fun c' hc => h c' (List.mem_cons_of_mem _ hc)) q))
theorem loopB {A : Around} {E : Value → Shared → Prop} {s : Shared} {β : Type} {b0 b1 : β} {f : Value → β → Sem (ForInStep β)} {Q : β → Shared → Prop} {cls : Value} : ∀ {cs : List Value} {b : Bool}, exmAny K cls cs = some b →
    (∀ c ∈ cs, ∀ r, exmOne K cls c = some r → ∀ Q' : ForInStep β → Shared → Prop, Q' (if r = true then .done b1 else .yield b0) s → wpAny M A (f c b0) Q' E s) → Q (if b = true then b1 else b0) s → wpAny M A (forIn cs b0 f) Q E s
  | [], b, e, _, q => by
    have e : some false = some b := e
    cases e
    rw [List.forIn_nil]
    exact wpAny_pure q
  | c :: cs, b, e, h, q => by
    obtain ⟨r, d, e1, e2, rfl⟩ := exmAny_cons e
    rw [List.forIn_cons]
    refine wpAny_bind (h c (List.mem_cons_self ..) r e1 _ ?_)
    cases r with
    | true => exact wpAny_pure q
    | false => exact loopB e2 (fun c' hc => h c' (List.mem_cons_of_mem _ hc)) q
theorem exm_in {cls : Value} : ∀ {cs : List Value} {b : Bool}, exmAny K cls cs = some b → ∀ c ∈ cs, ∃ r, exmOne K cls c = some r
  | [], _, _, c, h => nomatch h
  | c0 :: cs, b, e, c, h => by
    obtain ⟨r, d, e1, e2, _⟩ := exmAny_cons e
    rcases List.mem_cons.mp h with rfl | h
    · exact ⟨r, e1⟩
    · exact exm_in e2 c h
theorem exm_tupN {cs : List Value} {cls : Value} {tp e : Addr} {b : Bool} {h : Heap} (X : K.In h) (LT : Looks M h (typeOf (.ref e)) cls) (hp : h.get? tp = some { cls := .type "tuple", data := .seq cs.toArray }) (hx : exmAny K cls cs = some b) :
    Looks M h (excMatches (.ref e) (.ref tp)) b := by
  intro A Q E s k₀ q
  obtain ⟨hh, g, d, tk, os⟩ := s
  have k : ∀ b o, h.get? b = some o → hh.get? b = some o := k₀
  have LT0 : Looks M h (isInstance (.ref tp) (.type "tuple")) true := ((Looks.ld hp).andThen .now).andThen (Looks.of_pure isSubtype_tuple_tuple)
  have LT := LT.keeps k
  have LT0 := LT0.keeps k
  have hp' := k _ _ hp
  unfold excMatches
  refine wpAny_bind (LT0.at ?_)
  dsimp only
  rw [if_pos rfl]
  first
    | refine wpAny_bind (wpAny_seqItems hp' rfl ?_)
    | refine wpAny_bind (wpAny_bind (wpAny_seqItems hp' rfl (wpAny_pure ?_)))
  dsimp only [Option.getD_some, Option.getD]
  refine wpAny_bind (wpAny_pure (wpAny_bind (loopA (fun c hc Q' q' => ?_) ?_)))
  · obtain ⟨r, e1⟩ := exm_in hx c hc
    obtain ⟨e1, _⟩ := exm_cls (M := M) X e1
    have e1 := e1.keeps k
    refine wpAny_bind (e1.at ?_)
    simp only [Bool.not_true, Bool.false_eq_true, if_false]
    first
      | exact wpAny_pure q'
      | exact wpAny_bind (wpAny_pure (wpAny_pure q'))
  · refine wpAny_bind (LT.at ?_)
    refine wpAny_bind (loopB (K := K) (cls := cls) (b1 := (some true, ())) hx (fun c hc r e1 Q' q' => ?_) ?_)
    · obtain ⟨_, S1⟩ := exm_cls (M := M) X e1
      have S1 := S1.keeps k
      refine wpAny_bind (S1.at ?_)
      cases r <;> exact wpAny_pure q'
    · cases b <;> exact wpAny_pure q
end
end PySem.W
namespace L2
open PySem PySem.Spec PyProof.Rows
theorem flyZ_keeps {B h h' : Heap} {l : List Env} {a : Addr} {Z : Obj → Prop} (R : HandSPX.FlyingZ B l a Z h) (k : ∀ b o, h.get? b = some o → h'.get? b = some o) : HandSPX.FlyingZ B l a Z h' := by
  obtain ⟨f1, f2, f3, oe, vs, T, oT, ts, he, hz, hd, h1, hn, hne, hT, hdT, h3⟩ := R
  exact ⟨fun b o q => k b o (f1 b o q), f2, f3.of_keeps fun b o q _ => ⟨o, k b o q, rfl⟩, oe, vs, T, oT, ts, k _ _ he, hz, hd, h1, hn, hne, k _ _ hT, hdT, h3⟩
/-- what «except (x1, .., x8) as n» wishes of an error of the body, one of them taking it, the error being tracked behind the suite -/
def wKeepT (K : PySem.W.Frag) (cs : List Value) (i : Nat) (ts : Addr → Value → Option Addr → TS) (D : Ends) : WX := fun cls d σ H =>
  PySem.W.exmAny K cls cs = some true ∧ ∀ a, H a = none →
    ts a cls d ({ nx := fun σ' H' => H' a = none → D.nx (σ'.set i none) (upd H' a (ErrO cls d a)), rt := fun _ _ => False, bk := fun _ _ => False, ct := fun _ _ => False } : Ends) (σ.set i (some (.ref a))) H
section
variable {X : Cx} {n : Str} {i : Nat} {body suite : List Stmt} {b₀ : Stmt} {pos pos' tpos : Pos} {kk : Nat} {tb : WX → TS} {ts : Addr → Value → Option Addr → TS}
  {x1 x2 x3 x4 x5 x6 x7 x8 : Str} {c1 c2 c3 c4 c5 c6 c7 c8 : Value} {p1 p2 p3 p4 p5 p6 p7 p8 : Pos}
theorem ps_try_keepT (hs : X.stack = X.env :: X.outer) (hf : X.env.frame = some X.env.locals) (hN : X.N.Nodup) (hi : X.N[i]? = some n)
    (hln : X.env.kindOf n = some .local) (n1 : Names X x1 c1) (n2 : Names X x2 c2) (n3 : Names X x3 c3) (n4 : Names X x4 c4) (n5 : Names X x5 c5) (n6 : Names X x6 c6) (n7 : Names X x7 c7) (n8 : Names X x8 c8)
    (hb : ∀ (W : WX) (pn : List (Addr × Obj)) (xe : Value → Shared → Prop), Takes (X.tr pn xe) W →
      PassesOwn (model X.prog X.w) X.A X.env xe → PSs (X.tr pn xe) body (tb W))
    (hsu : ∀ (a : Addr) (oe : Obj) (cls : Value) (d : Option Addr) (pn : List (Addr × Obj)), Zc cls d oe → (∃ vs, oe.data = .fields vs) →
      PSs (X.suite a ((a, oe) :: pn)) (b₀ :: suite) (ts a cls d)) :
    PS X (.Try body [.ExceptHandler (some (.Tuple [.Name x1 p1, .Name x2 p2, .Name x3 p3, .Name x4 p4, .Name x5 p5, .Name x6 p6, .Name x7 p7, .Name x8 p8] kk tpos)) (some n) (b₀ :: suite) pos'] [] [] pos)
      (fun D σ H => tb (wKeepT X.K [c1, c2, c3, c4, c5, c6, c7, c8] i ts D) D σ H) := by
  refine ⟨fun pins s σ H D I h => ?_⟩
  have fr : X.A.frames = some (X.env :: X.outer) := by rw [I.ok.frames, hs]
  refine wpAny_Try_except ?_
  refine wpAny_mono ((hb (wKeepT X.K [c1, c2, c3, c4, c5, c6, c7, c8] i ts D) (X.pn ++ pins)
    (fun e s₁ => wpAny (model X.prog X.w) X.A (noteFrame e X.env) (fun _ s₂ =>
      wpAny (model X.prog X.w) X.A (setFlight e none) (fun _ s₃ =>
        wpAny (model X.prog X.w) X.A (handleBy e X.env [.ExceptHandler (some (.Tuple [.Name x1 p1, .Name x2 p2, .Name x3 p3, .Name x4 p4, .Name x5 p5, .Name x6 p6, .Name x7 p7, .Name x8 p8] kk tpos)) (some n) (b₀ :: suite) pos'])
          (SP X pins D) X.xe s₃) X.xe s₂) X.xe s₁)
    (fun u s' xx => ?_) PassesOwn.looking).run [] s σ H D (I.toTry _) h) (fun f s1 end1 => ?_) (fun e s1 he => he)
  · obtain ⟨a, B, sI, pi', σ1, H1, cls, d, rfl, I1', nb, up, sky, na, os, ag, hb1, hyes⟩ := xx
    have I1 : Inv X pins σ1 H1 sI := I1'.ofTry I.ok
    have sk : Sky B (X.env :: X.outer) a (Zc cls d) X.env.locals s'.heap := by rw [← hs]; exact sky
    show wpAny (model X.prog X.w) X.A (noteFrame (.ref a) X.env) _ _ _
    refine Sky.land Zc.steady fr hf sk fun h3 fl up3 => ?_
    have I3 : Inv X pins σ1 H1 { s' with heap := h3 } := I1.landed nb fl.1 (up.trans up3) os ag
    obtain ⟨o3, v3, g3, z3, d3⟩ := fl.there
    have nfr : a ∉ frs (X.env :: X.outer) := fun hm => by
      obtain ⟨_, o', e', hnf⟩ := fl.2.2.1.mem hm
      rw [g3] at e'
      cases e'
      exact hnf _ d3
    have nL : a ≠ X.env.locals := fun z => nfr (List.mem_filterMap.mpr ⟨X.env, List.mem_cons_self, by rw [hf, z]⟩)
    have nF : a ∉ X.fs := fun hm => by
      obtain ⟨e, he, q⟩ := List.mem_filterMap.mp hm
      exact nfr (List.mem_filterMap.mpr ⟨e, List.mem_cons_of_mem _ he, q⟩)
    have nB : B.get? a = none := by
      rcases sky with z | z | z
      · exact z.2.1
      · exact z.2.1
      · exact z.2.1
    have gone : ∀ {b : Addr} {o : Obj}, sI.heap.get? b = some o → b ∉ frs X.stack → b ≠ a := fun {b o} q hb z => by
      have q' := nb b o q hb
      rw [z, nB] at q'
      cases q'
    have h0 : ∀ o, X.s_0.heap.get? a = some o → a ∉ X.ex → False := fun o q hx => by
      obtain ⟨o', q'⟩ := I1.base.there a o q hx
      exact gone q' (by rw [hs]; exact nfr) rfl
    have hp : ∀ p ∈ X.pn ++ pins, p.1 ≠ a := fun p hm => by
      obtain ⟨g, _, nl, nf, _⟩ := I1.pin p hm
      refine gone g fun hq => ?_
      rcases List.mem_cons.mp (I1.stkSub _ hq) with z | z
      · exact nl z
      · exact nf z
    have S3 := I3.suite g3 d3 na nL nF
    refine wpAny_handleBy_cons (codeAny_handlers_test ?_) (by intro q; cases q)
    have LT : PySem.W.Looks (model X.prog X.w) h3 (typeOf (.ref a)) cls := fun _ _ _ _ k q =>
      wpAny_typeOf_ref (k _ _ g3) (by rw [z3.1]; exact q)
    have nameIs : ∀ {x : Str} {c : Value} {np : Pos} {Q : Value → Shared → Prop} {E : Value → Shared → Prop}, Names X x c → Q c { s' with heap := h3 } →
        wpAny (model X.prog X.w) (X.A.mark (some (.ref a))) (eval (.Name x np) X.env) Q E { s' with heap := h3 } := fun {x c np Q E} hc q => by
      obtain ⟨hg, hdbg, hm | ⟨hm, hv, hnn⟩⟩ := hc
      · exact ld_glob (X := X.suite a ((a, o3) :: (X.pn ++ pins))) S3 hg hm q hdbg
      · exact ld_blt (X := X.suite a ((a, o3) :: (X.pn ++ pins))) S3 hg hm hv q hnn hdbg
    refine wpAny_Tuple ?_
    refine wpAny_items_cons (nameIs n1 (wpAny_items_cons (nameIs n2 (wpAny_items_cons (nameIs n3 (wpAny_items_cons (nameIs n4 (wpAny_items_cons (nameIs n5 (wpAny_items_cons (nameIs n6 (wpAny_items_cons (nameIs n7 (wpAny_items_cons (nameIs n8 ?_)))))))))))))))
    refine wpAny_items_nil ⟨by show 8 ≤ sizeLine; decide, ?_⟩
    have kp : ∀ q o, h3.get? q = some o → (h3.push { cls := .type "tuple", data := .seq [c1, c2, c3, c4, c5, c6, c7, c8].toArray }).get? q = some o := fun _ _ z => Heap.get?_push_of_some _ z
    refine (PySem.W.exm_tupN (I3.kIn.keeps kp) (LT.keeps kp) (Heap.get?_push_size h3 rfl) hb1).here ?_
    have fl := flyZ_keeps fl kp
    have up3 := up3.trans (Heap.UpToSlots.of_keeps kp)
    generalize h3.push { cls := .type "tuple", data := .seq [c1, c2, c3, c4, c5, c6, c7, c8].toArray } = h3' at *
    refine codeAny_handlers_suite_as ?_
    refine HandSPX.lands_againZ fl fun h4 fl4 up4 => ?_
    have I4 : Inv X pins σ1 H1 { s' with heap := h4 } := I1.landed nb fl4.1 ((up.trans up3).trans up4) os ag
    obtain ⟨o4, v4, g4, z4, d4⟩ := fl4.there
    have S4 := I4.suite g4 d4 na nL nF
    refine store_ok (X := X.suite a ((a, o4) :: (X.pn ++ pins))) (v := .ref a) S4 hN hi (.inl hln) rfl (fun s5 S5 => ?_) (.inr hln)
    refine wpAny_mono ((hsu a o4 cls d (X.pn ++ pins) z4 ⟨_, d4⟩).run [] s5 _ H1 _ S5 (hyes a na)) (fun f s6 e6 => ?_) (fun _ _ z => False.elim z)
    cases f with
    | next =>
      obtain ⟨σ6, H6, S6, q6⟩ := e6
      have K6 : Inv X ((a, o4) :: pins) σ6 H6 s6 := ⟨I.ok, S6.os, S6.bare, S6.base, S6.loc, S6.cell, S6.free, S6.freeC, fun p hm => S6.pin p (by
        rw [List.append_nil]
        rcases List.mem_append.mp hm with z | z
        · exact List.mem_cons_of_mem _ (List.mem_append_left _ z)
        · rcases List.mem_cons.mp z with z | z
          · rw [z]; exact List.mem_cons_self
          · exact List.mem_cons_of_mem _ (List.mem_append_right _ z)), S6.hok, S6.len⟩
      have n6 : H6 a = none := (S6.pin (a, o4) (List.mem_append_left _ List.mem_cons_self)).2.1
      exact gone_ok K6 hN hi hln fun s7 K7 => ⟨_, _, K7.track z4 ⟨_, d4⟩ h0 hp, q6 n6⟩
    | brk => obtain ⟨_, _, _, q6⟩ := e6; exact q6.elim
    | cont => obtain ⟨_, _, _, q6⟩ := e6; exact q6.elim
    | ret u => obtain ⟨_, _, _, _, _, q6⟩ := e6; exact q6.elim
  · cases f with
    | next => obtain ⟨σ', H', J', q⟩ := end1; exact wpAny_execs_nil ⟨σ', H', J'.ofTry I.ok, q⟩
    | brk => obtain ⟨σ', H', J', q⟩ := end1; exact ⟨σ', H', J'.ofTry I.ok, q⟩
    | cont => obtain ⟨σ', H', J', q⟩ := end1; exact ⟨σ', H', J'.ofTry I.ok, q⟩
    | ret u => obtain ⟨v, σ', H', J', r, q⟩ := end1; exact ⟨v, σ', H', J'.ofTry I.ok, r, q⟩
end
section
variable {X : Cx} {C : Addr}
/-- isinstance(e, c) of a tracked error, c any class -/
def rIsErrC (K : PySem.W.Frag) (C : Addr) : List V → Hp → VK → Prop := fun xs H Q => ∃ (a d : Addr) (fs : List (Str × V)) (c : V) (u : Value) (b : Bool),
  xs = [.ref a, c] ∧ ClsV c u ∧ H a = some (ErrO (.ref C) (some d) a) ∧ H d = some (.xd fs) ∧ PySem.W.kitOne K (.ref C) u = some b ∧ Q (.bl b) H
theorem call_isErrC (T : ErrC X.K C) : CallR X (.builtin "isinstance") (rIsErrC X.K C) := by
  intro pins s σ H xs us Q I r h
  obtain ⟨a, d, fs, c, u, b, rfl, hc, ea, ed, e, q⟩ := h
  obtain ⟨u1, u2, rfl, r1, r2⟩ := vals2 r
  cases (show u1 = Value.ref a from r1)
  cases hc.eq r2
  obtain ⟨oe, od, J, _⟩ := errO_inst I ea ed
  have hcl : (PySem.W.clsIn X.K C).isSome = true := by
    obtain ⟨cd, hc, _⟩ := PySem.W.any_some T.hdC
    rw [hc]
    rfl
  exact PySem.W.kia_one (PySem.W.kitx_exc hcl T.ga T.gg T.exC T.ac T.sg T.tk T.mo) I.kIn J e (fun z => nomatch z) fun tk => ⟨.bl b, H, I.tok tk, rfl, q⟩
/-- isinstance(e, (c1, ..)) of a tracked error -/
def rIsErrT (K : PySem.W.Frag) (C : Addr) : List V → Hp → VK → Prop := fun xs H Q => ∃ (a d tp : Addr) (fs : List (Str × V)) (cs : List V) (us : List Value) (b : Bool),
  xs = [.ref a, .ref tp] ∧ H tp = some (.tup cs) ∧ Paired ClsV cs us ∧ H a = some (ErrO (.ref C) (some d) a) ∧ H d = some (.xd fs) ∧ PySem.W.kitAny K (.ref C) us = some b ∧ Q (.bl b) H
theorem call_isErrT (T : ErrC X.K C) : CallR X (.builtin "isinstance") (rIsErrT X.K C) := by
  intro pins s σ H xs us Q I r h
  obtain ⟨a, d, tp, fs, cs, ws, b, rfl, hT, k, ea, ed, e, q⟩ := h
  obtain ⟨u1, u2, rfl, r1, r2⟩ := vals2 r
  cases (show u1 = Value.ref a from r1)
  cases (show u2 = Value.ref tp from r2)
  obtain ⟨oe, od, J, _⟩ := errO_inst I ea ed
  have hcl : (PySem.W.clsIn X.K C).isSome = true := by
    obtain ⟨cd, hc, _⟩ := PySem.W.any_some T.hdC
    rw [hc]
    rfl
  obtain ⟨_, its, rv, o, h1, h2, n, h3⟩ := (show ObjOk X.prog X.w H s.heap tp (.tup cs) from I.hok tp _ hT)
  have e3 := ClsV.all k rv
  subst e3
  obtain ⟨oc, odd, dt, sl⟩ := o
  simp only at h2 h3
  subst h2 h3
  exact PySem.W.kia_tup (PySem.W.kitx_exc hcl T.ga T.gg T.exC T.ac T.sg T.tk T.mo) I.kIn J h1 e (fun z => nomatch z) fun tk => ⟨.bl b, H, I.tok tk, rfl, q⟩
end
end L2

set_option Elab.async false
set_option linter.all false
set_option maxRecDepth 100000
set_option maxHeartbeats 2000000
/-! A list comprehension whose element is a call that may raise: y = [f(..) for target in iter if ..]. -/
namespace L2
open PySem PySem.Spec PyProof.Rows
theorem hideFr {h base : Heap} {C : Addr} : ∀ {l : List Env}, h.FunFrames base l → h.FunFrames (base.hide C) l
  | [], _ => trivial
  | env :: rest, ⟨k, ⟨L, o, e1, e2, e3, e4⟩, r⟩ => by
    have q : (base.hide C).get? L = none := by
      cases q : (base.hide C).get? L with
      | none => rfl
      | some o' =>
        rw [Heap.of_hide q] at e2
        cases e2
    exact ⟨k, ⟨L, o, e1, q, e3, e4⟩, hideFr r⟩
section
variable {X : Cx} {E : XK}
/-- an exception that a call in the block let out leaves the block, and flies on in the def's own frame -/
theorem lcx_fails {W0 : WX} {C : Addr} {ce : Env} {u : Value} {s' : Shared} {m : Str → Option Value} (hs : X.stack = X.env :: X.outer) (hf : X.env.frame = some X.env.locals) (tk : Takes X W0) (hcf : ce.frame = X.env.frame) (hC : ce.locals = C)
    (f1 : C ≠ X.env.locals) (f2 : C ∉ X.fs) (f3 : C ∈ X.ex ∨ X.s_0.heap.objs.size ≤ C) (f4 : ∀ x c, X.env.cells.lookup x = some c → c ≠ C) (f5 : ∀ p ∈ X.pn, p.1 ≠ C) (hn : s'.heap.Ns C m)
    (x : XE X (fun c d σ H => W0 c d σ H ∧ H C = none) u s') : notedBy (model X.prog X.w) X.A ce (CompFails (model X.prog X.w) X.A X.xe ce) u s' := by
  obtain ⟨a, B, sI, pins, σ, H, cls, d, rfl, I, nb, up, sky, na, os, ag, w, hHC⟩ := x
  have onTop : X.A.frames = some (X.env :: X.outer) := I.ok.frames.trans (congrArg some hs)
  have Cst : C ∉ frs X.stack := fun hm => by
    rcases List.mem_cons.mp (I.stkSub C hm) with z | z
    · exact f1 z
    · exact f2 z
  obtain ⟨oC, esC, epC, hoC, hdC, _⟩ := hn
  rw [hs] at sky
  have fin : ∀ h1, HandSPX.HeldZ B (X.env :: X.outer) a (Zc cls d) X.env.locals h1 → s'.heap.UpToSlots h1 → CompFails (model X.prog X.w) X.A X.xe ce (.ref a) { s' with heap := h1 } := fun h1 hh up1 => by
    have hn1 : h1.Ns ce.locals m := by
      rw [hC]
      exact Heap.Ns.upToSlots ⟨oC, esC, epC, hoC, hdC, ‹_›⟩ up1
    refine ⟨m, hn1, fun h2 m2 hn2 sb => ?_⟩
    rw [hC] at hn1 hn2 sb
    obtain ⟨k1, k2, k3, oe, vs, T, oT, ts, he, hz, hd, hv1, hnT, hTe, hT, hdT, hv3⟩ := hh
    obtain ⟨oD, esD, epD, hoD, hdD, _⟩ := hn1
    have aC : a ≠ C := fun z => by
      rw [z, hoD] at he
      cases he
      rw [hdD] at hd
      cases hd
    have TC : T ≠ C := fun z => by
      rw [z, hoD] at hT
      cases hT
      rw [hdD] at hdT
      cases hdT
    have hb : HandSPX.HeldZ (B.hide C) (X.env :: X.outer) a (Zc cls d) X.env.locals h2 := by
      refine ⟨fun b o e => ?_, ?_, ?_, oe, vs, T, oT, ts, (sb.2 a aC).trans he, hz, hd, hv1, ?_, hTe, (sb.2 T TC).trans hT, hdT, hv3⟩
      · have nC : b ≠ C := fun z => by rw [z, Heap.hide_self] at e; cases e
        exact (sb.2 b nC).trans (k1 b o (Heap.of_hide e))
      · rw [Heap.hide_ne _ aC]; exact k2
      · have fr : h2.FunFrames B (X.env :: X.outer) := Heap.FunFrames.sameBut sb hn2 k3
        exact hideFr fr
      · rw [Heap.hide_ne _ TC]; exact hnT
    have hb4 := hb
    obtain ⟨_, _, _, oe', vs', T', oT', ts', he', hz', hd', hv1', _⟩ := hb
    unfold PySem.passOn
    refine wpAny_bind (wpAny_field he' hd' hv1' ?_)
    rw [if_neg (by simp : ¬ ((Value.ref T' == Value.none) = true)), hcf, hf]
    refine wpAny_bind (HandSPX.setFlight_onZ hb4 fun h3 hh3 up3 => ?_)
    refine wpAny_throw (tk _ _ ⟨a, B.hide C, { sI with heap := sI.heap.hide C }, [], σ, H, cls, d, rfl, ?_, fun b o e hb => ?_, fun b o e nf => ?_, .inr (.inr (by rw [hs]; exact hh3)), na, os, ag, w⟩)
    · have I0 : Inv X [] σ H sI := I.unpinned (pins := [])
      exact I0.turned (t' := sI.toks) (fun b o hb e => by rw [Heap.hide_ne _ hb]; exact e) hHC f1 f3 f4 fun p hp => f5 p (by simpa using hp)
    · have nC : b ≠ C := fun z => by rw [z, Heap.hide_self] at e; cases e
      rw [Heap.hide_ne _ nC]
      exact nb b o (Heap.of_hide e) hb
    · have nC : b ≠ C := fun z => by rw [z, Heap.hide_self] at e; cases e
      obtain ⟨sl, e1⟩ := up b o (Heap.of_hide e) nf
      obtain ⟨sl2, e2⟩ := up1 b _ e1 nf
      obtain ⟨sl3, e3⟩ := up3 b _ ((sb.2 b nC).trans e2) nf
      exact ⟨sl3, e3⟩
  show wpAny _ _ (noteFrame (.ref a) ce) _ _ s'
  rw [noteFrame_env _ hcf]
  rcases sky with ⟨hB, hn', hl, oe, vs, he, hz, hd, h1⟩ | fl | atL
  · exact HandSPX.look_newZ Zc.steady onTop hl hf he hB hn' hd h1 hz fin
  · exact HandSPX.looks_onZ Zc.steady onTop hf fl fin
  · exact HandSPX.againZ hf atL.2.2.2 (fin s'.heap atL (Heap.UpToSlots.refl _))
/-- the block's loop in its own context B, by a measure of the turns that are left; R is what is owed behind it -/
theorem lcx_loop {B : Cx} {R : Result → Shared → Prop} {elt tg iter : Expr} {scope : Scope} {pos : Pos} {it D : Addr} {walked : List Addr} {tn : Nat → Heap → Prop} {J : It} {g : TG} {te : TE} {vs : List Nat} {σ₀ : St} {Qd : Hp → Prop} {Wv : Nat → Nat → Hp → Prop}
    (calm : B.calm = true) (walk : Turn B.prog B.w B.K tg J walked it tn) (still : ∀ {σ : St} {H : Hp} {s : Shared}, Inv B [] σ H s → (∀ b ∈ walked, H b = none) → ∀ b ∈ walked, FpOk B [] H b)
    (tgt : PG B.nox tg g) (el : PE (B.wish (notedBy (model B.prog B.w) B.A B.env fun e s => R (.error e) s)) elt te) (over : ∀ {H : Hp} {s : Shared}, Inv B [] σ₀ H s → Qd H → R (.ok .next) s)
    (each : ∀ i m H, Wv i m H → (J.stop i H ∧ Qd H) ∨ (J.go i H ∧ ∃ N : Hp → Prop, (∀ H', N H' → ∃ m', m' < m ∧ Wv (i + 1) m' H') ∧ ∀ x H', J.yld i H x H' → g x σ₀ H' fun σ2 H2 => wipe σ2 vs = σ₀ ∧ tYes σ2 H2 fun b H3 =>
      if b = true then te σ2 H3 fun y H4 => ∃ acc, H4 D = some (.lst acc) ∧ acc.length < sizeLine ∧ N (upd H4 D (.lst (acc ++ [y]))) else N H3))
    {m : Nat} {H : Hp} {s : Shared} (inv : Inv B [] σ₀ H s) (at0 : tn 0 s.heap) (free : ∀ b ∈ walked, H b = none) (start : Wv 0 m H) :
    codeAny (model B.prog B.w) B.A (.compLoop (.ListComp elt [⟨tg, iter, [], 0⟩] scope pos) 0 (.ref it) (.ref D) B.env) R s := by
  refine compLoop_any (fun left st => ∃ k Hk, Inv B [] σ₀ Hk st ∧ tn k st.heap ∧ (∀ b ∈ walked, Hk b = none) ∧ Wv k left Hk) (fun left st ⟨k, Hk, ik, tk, fk, wk⟩ => ?_) m ⟨0, H, inv, at0, free, start⟩
  rcases each k left Hk wk with ⟨no, qd⟩ | ⟨yes, N, less, run⟩
  · exact thnF (walk.done B rfl rfl rfl calm k [] st σ₀ Hk (fun _ _ => False) ik (still ik fk) tk no) fun r st' ⟨hr, ie⟩ => by
      rw [hr]
      exact over ie qd
  refine thnF (walk.item B rfl rfl rfl calm k [] st σ₀ Hk (fun _ _ => False) ik (still ik fk) tk yes) fun r st1 ⟨u, hr, nxt⟩ => ?_
  rw [hr]
  refine thnF nxt fun _ st2 ⟨x, H2, i2, rx, yx, t2, f2⟩ => ?_
  have held := i2.pinned (still i2 f2) (walk.obj _ _ t2)
  have keeps : ∀ {Hz : Hp} {σz : St} {sz : Shared}, wipe σz vs = σ₀ → Inv B ([] ++ pinsAt walked st2.heap) σz Hz sz → N Hz → ∃ m', m' < left ∧ ∃ k' Hk', Inv B [] σ₀ Hk' sz ∧ tn k' sz.heap ∧ (∀ b ∈ walked, Hk' b = none) ∧ Wv k' m' Hk' := fun {Hz σz sz} hz iz nz => by
    obtain ⟨m', lt, wz⟩ := less Hz nz
    have pin : ∀ b ∈ walked, ∀ o, st2.heap.get? b = some o → sz.heap.get? b = some o ∧ Hz b = none := fun b hb o e => by
      have p := iz.pin (b, o) (List.mem_append_right _ (List.mem_append_right _ (mem_pinsAt hb e)))
      exact ⟨p.1, p.2.1⟩
    have same : ∀ (j : Nat) v, σ₀[j]? = some (some v) → σz[j]? = some (some v) := fun j v e => (wipe_some (hz ▸ e)).1
    refine ⟨m', lt, k + 1, Hz, Inv.weak (Inv.unpinned (pins := []) iz) (by rw [← hz]; exact wipe_length ..) same, ?_, ?_, wz⟩
    · exact walk.keep _ _ _ t2 fun b hb o e => (pin b hb o e).1
    · intro b hb
      obtain ⟨o, e, _⟩ := walk.obj _ _ t2 b hb
      exact (pin b hb o e).2
  refine thnF (tgt.run _ st2 σ₀ H2 x u _ (held.wish _) rx (run x H2 yx)) fun _ st3 ⟨σ3, H3, i3, w3, q3⟩ => ?_
  refine thnF ((pts_nil (X := B.nox)).run _ st3 σ3 H3 _ i3 q3) fun b st4 ⟨H4, i4, q4⟩ => ?_
  cases b with
  | false => exact keeps w3 i4.unwish q4
  | true => exact thn (el.run _ st4 σ3 H4 _ (i4.unwish.wish _) q4) fun v st5 ⟨y, H5, i5, ry, acc, hD, hz, n5⟩ => app_ok (X := B) i5.unwish hD hz ry fun st6 i6 => keeps w3 i6 n5
/-- what a call in the block may let out goes where the def's own calls let it -/
abbrev BlkX (X : Cx) (scope : Scope) (E : XK) (elt : Expr) (te : TE) : Prop := ∀ (s : Shared) (H : Hp) (C : Addr) (cl : List (Str × Addr)) (fp : List Addr) (ξ : Value → Shared → Prop),
  (∀ σ, PassesAt (L2.CX X.prog X.w) ((X.blk s H scope (compEnvC scope cl C X.env) fp).wish ξ) σ E) → PE ((X.blk s H scope (compEnvC scope cl C X.env) fp).wish ξ) elt te
/-- y = [f(..) for target in iter], y a local, the element a call that may raise -/
theorem ps_setLcX {i : Nat} {y : Str} {py : Pos} {elt tg iter : Expr} {scope : Scope} {own : List (Str × Nat)} {pos spos : Pos} {wi : TI} {g : TG} {te : TE} (hst : X.stack = X.env :: X.outer) (hfm : X.env.frame = some X.env.locals) (tk : Takes X (fun c d _ H => E c d H))
    (hc : X.calm = true) (hN : X.N.Nodup) (hy : X.N[i]? = some y) (hyl : X.env.scope.names.lookup y = some .local)
    (hsw : swapsWith (.ListComp elt [⟨tg, iter, [], 0⟩] scope pos) (some (.Name y py)) spos.line X.env = pure true) (hi : PI X tg iter wi) (ok : BlkOk X.N X.env.scope scope own)
    (hg : ∀ (s : Shared) (H : Hp) (C : Addr) (cl : List (Str × Addr)) (fp : List Addr), PG (X.blk s H scope (compEnvC scope cl C X.env) fp) tg g)
    (he : BlkX X scope E elt te) (hs : ∀ x, foldedSetIterable iter X.env x = pure x := by intro _; rfl) :
    PS X (.Assign [.Name y py] (.ListComp elt [⟨tg, iter, [], 0⟩] scope pos) spos) (tAsg (tLc wi g tYes te (own.map (·.2))) (gName i)) := by
  refine ⟨fun pins s σ H F I h => ?_⟩
  have fr : ∀ y ∈ scope.names, y.2 = .free → ∃ c, X.env.cells.lookup y.1 = some c := fun y hy e => I.ok.has _ (ok.free y hy e)
  rw [exec_Assign_Name_used _ _ _ _ hsw]
  refine wpAny_bind (wpAny_standAt (wpAny_bind (wpAny_bind (thn (Q := fun _ s' => SP X pins F .next s') ?_ fun _ s' hq => wpAny_pure (wpAny_pure hq)))))
  refine comprehension_at rfl hs (closure_ok fr) ok.kind (fun y hy e => (ok.uniq y hy).trans (congrArg some e)) (thn (hi.run pins s σ H _ I h) fun xv s1 hx => thn hx fun itv s2 ⟨it, walked, tn, J, H2, eit, I2, walk, t2, f2, red⟩ => ?_)
  rw [eit]
  refine wpAny_newObj_type (newEnv_comp ?_) (by show 0 ≤ sizeLine; decide)
  -- the new list
  obtain ⟨D, hD⟩ : ∃ D, s2.heap.objs.size = D := ⟨_, rfl⟩
  rw [hD]
  have freeD : H2 D = none := I2.hok.fresh (Nat.le_of_eq hD)
  obtain ⟨Wv, ⟨m0, w0⟩, each⟩ := red D freeD
  obtain ⟨s3, hs3⟩ : ∃ s3 : Shared, s3 = { s2 with heap := s2.heap.push { cls := .type "list", data := .seq ([] : List Value).toArray } } := ⟨_, rfl⟩
  have old : ∀ b o, s2.heap.get? b = some o → s3.heap.get? b = some o := fun b o e => by rw [hs3]; exact Heap.get?_push_of_some _ e
  have I3 : Inv X pins σ (upd H2 D (.lst [])) s3 := by
    subst hs3
    exact I2.laid (t' := s2.toks) old (Nat.le_of_eq hD) ⟨Nat.zero_le _, [], 0, .nil, by rw [← hD]; exact Heap.get?_push_size _ rfl⟩
  have low : ∀ b ∈ walked, b < s2.heap.objs.size := fun b hb => let ⟨_, e, _⟩ := walk.obj _ _ t2 b hb; Heap.lt_size e
  obtain ⟨H3, hH3⟩ : ∃ H3, upd H2 D (.lst []) = H3 := ⟨_, rfl⟩
  rw [hH3] at I3 w0
  have f3 : ∀ b ∈ walked, FpOk X pins H3 b ∧ b < s3.heap.objs.size := fun b hb => by
    have lt := low b hb
    obtain ⟨z0, z1⟩ := f2 b hb
    refine ⟨⟨?_, z1⟩, by rw [hs3, Heap.size_push]; exact Nat.lt_succ_of_lt lt⟩
    rw [← hH3, upd_ne (Nat.ne_of_lt (hD ▸ lt))]
    exact z0
  have I4 := block_start I3 ok hN f3
  -- the block's own context
  obtain ⟨ce, hce⟩ : ∃ ce, compEnvC scope (cellsFrom (s3.heap.objs.size + 1) scope.names (cloFrom X.env.cells scope.names [])) s3.heap.objs.size X.env = ce := ⟨_, rfl⟩
  have cF : ce.frame = X.env.frame := by rw [← hce]; rfl
  have cL : ce.locals = s3.heap.objs.size := by rw [← hce]; rfl
  have tgt : PG (X.blk s3 H3 scope ce walked) tg g := by rw [← hce]; exact hg ..
  have elx : ∀ ξ, (∀ σ, PassesAt (L2.CX X.prog X.w) ((X.blk s3 H3 scope ce walked).wish ξ) σ E) → PE ((X.blk s3 H3 scope ce walked).wish ξ) elt te := by rw [← hce]; exact fun ξ hp => he _ _ _ _ _ ξ hp
  rw [← hs3]
  show codeAny _ _ (.compStart _ 0 (.ref it) (.ref D) (compEnvC scope (cellsFrom (s3.heap.objs.size + 1) scope.names (cloFrom X.env.cells scope.names [])) s3.heap.objs.size X.env)) (compEnds _ _ _ (some (assign (.Name y py) X.env)) _ (.ref D) (compEnvC scope (cellsFrom (s3.heap.objs.size + 1) scope.names (cloFrom X.env.cells scope.names [])) s3.heap.objs.size X.env)) _
  rw [hce] at I4 ⊢
  obtain ⟨s4, hs4⟩ : ∃ s4 : Shared, s4 = { s3 with heap := pushCells (s3.heap.push { cls := .type "dict", data := .dict #[] }) scope.names } := ⟨_, rfl⟩
  rw [← hs4] at I4 ⊢
  have t4 : tn 0 s4.heap := walk.keep _ _ _ t2 fun b _ o e => by rw [hs4]; exact pushCells_keeps _ _ _ _ (Heap.get?_push_of_some _ (old b o e))
  have back : ∀ {pb : List (Addr × Obj)} {σ' : St} {H' : Hp} {s' : Shared}, Inv (X.blk s3 H3 scope ce walked) pb σ' H' s' → Inv X pins σ H' s' ∧ FpOk X pins H' ce.locals ∧ ∃ m, s'.heap.Ns ce.locals m := fun {pb σ' H' s'} ib => by
    refine ⟨I3.call' (ch := walked) ib.os ib.base ib.hok ib.bare fun b hb => ?_, I3.fpOk (Nat.le_of_eq cL.symm) ib.free, let ⟨m, hn, _⟩ := ib.loc; ⟨m, hn⟩⟩
    obtain ⟨⟨_, q1, _, q3, q4, q5⟩, _⟩ := f3 b hb
    exact ⟨q3, q1, q4, q5⟩
  have still : ∀ {σ' : St} {H' : Hp} {s' : Shared}, Inv (X.blk s3 H3 scope ce walked) [] σ' H' s' → (∀ b ∈ walked, H' b = none) → ∀ b ∈ walked, FpOk (X.blk s3 H3 scope ce walked) [] H' b := fun {σ' H' s'} ib fb b hb => by
    obtain ⟨q1, q2⟩ := ib.ok.exf b hb
    exact ⟨fb b hb, q1, ib.ok.exfs b hb, .inl hb, q2, fun p hp => by cases (show p ∈ ([] : List (Addr × Obj)) from hp)⟩
  -- what a call in it lets out
  have out : ∀ σ', PassesAt (L2.CX X.prog X.w) ((X.blk s3 H3 scope ce walked).wish (notedBy (model X.prog X.w) X.A ce fun e s' => compEnds (model X.prog X.w) X.A X.xe (some (assign (.Name y py) X.env)) (fun _ s' => SP X pins F .next s') (.ref D) ce (.error e) s')) σ' E := fun σ' pb Hb sb u s' Ib c => by
    obtain ⟨IX, ⟨c0, c1, c2, c3, c4, c5⟩, m, oC, es, ep, ho, r⟩ := back Ib.unwish
    obtain ⟨a, B, H', cls, d, eu, fl, hok, ub, na, os, ag, hE⟩ := (show CX X.prog X.w X.stack Hb sb E u s' from c)
    have nst : ce.locals ∉ frs X.stack := fun hm => (List.mem_cons.mp (IX.stkSub _ hm)).elim c1 c2
    have flight := XE.of_call (W := fun c d _ H => E c d H ∧ H ce.locals = none) (E := fun c d H => E c d H ∧ H ce.locals = none) IX (fun _ _ _ z => z) (u := u) (s' := s') ⟨a, B, H', cls, d, eu, fl, hok, ub, na, os, ag, hE, ub.free _ _ ho c0⟩
    exact lcx_fails hst hfm tk cF rfl c1 c2 c3 c4 (fun p hp => c5 p (List.mem_append_left _ hp)) ⟨oC, es, ep, fl.1 _ _ (ub.keep _ _ ho c0 nst), r⟩ flight
  have free3 : ∀ b ∈ walked, H3 b = none := fun b hb => (f3 b hb).1.1
  have loop := lcx_loop (B := X.blk s3 H3 scope ce walked) (R := compEnds (model X.prog X.w) X.A X.xe (some (assign (.Name y py) X.env)) (fun _ s' => SP X pins F .next s') (.ref D) ce) (iter := iter) (scope := scope) (pos := pos) (Qd := fun H1 => gName i (.ref D) σ H1 F.nx)
    hc walk still tgt (elx _ out) (fun {H' s'} ib qd => ?_) each I4 t4 free3 w0
  · exact codeAny_compStart_list loop (walk.self X.A 0 _ _ _ t4 loop)
  -- the end: the name is stored, the block let go
  obtain ⟨IX, ⟨c0, c1, c2, c3, c4, c5⟩, m, hn⟩ := back ib
  show wpAny _ _ (assign (.Name y py) X.env (.ref D)) _ _ _
  refine wpAny_assign_Name (store_ok2 (v := V.ref D) IX hN hy (.inl hyl) rfl (fun s5 I5 ⟨a, sb, ha⟩ => ⟨m, hn.sameBut sb ?_, fun h6 sb6 => ⟨_, H', I5.turned (t' := s5.toks) (fun b o hb e => (sb6.2 b hb).trans e) c0 c1 c3 c4 c5, qd⟩⟩) (.inr hyl))
  rcases ha with z | z
  · rw [z]; exact c1
  · exact fun e => c4 y a z e.symm
end
end L2

set_option Elab.async false
set_option linter.all false
set_option maxRecDepth 100000
set_option maxHeartbeats 2000000
/-! tuple(zip(x, y)): the pairs are kept, so each is a new tuple. -/
namespace L2
open PySem PySem.Spec PyProof.Rows
theorem zip_no_len : typeLookup (.type "zip") "__len__" = pure none := am_miss_of_fast (by decide +kernel)
theorem zip_no_hint : typeLookup (.type "zip") "__length_hint__" = pure none := am_miss_of_fast (by decide +kernel)
section
variable {prog : Program} {w : World} {A : Around} {E : Value → Shared → Prop} {s : Shared} {z TI TO T i1 i2 : Addr} {fp1 fp2 : List Addr} {n1 n2 i : Nat} {P1 P2 : Nat → Value → Prop} {St1 St2 : Nat → Heap → Prop} {f : Bool} {oT : Obj}
/-- the next pair while the one before is still held -/
theorem zipH_item {Q : Option Value → Shared → Prop} (S : ZipSep2 z TI TO i1 i2 fp1 fp2) (D1 : Draws prog w A.in1 i1 fp1 n1 P1 St1) (D2 : Draws prog w A.in1 i2 fp2 n2 P2 St2) (hz : IsZipHeld s.heap z TI TO T f) (hT : s.heap.get? T = some oT)
    (hTI : IsTupOf2 s.heap TI (.ref i1) (.ref i2)) (st1 : St1 i s.heap) (st2 : St2 i s.heap) (l1 : i < n1) (l2 : i < n2)
    (hQ : ∀ x1 x2 h' tk, P1 i x1 → P2 i x2 → IsZipHeld h' z TI TO T true → St1 (i + 1) h' → St2 (i + 1) h' → IsTupOf2 h' s.heap.objs.size x1 x2 → (∀ c o, c ≠ z → c ≠ i1 → c ≠ i2 → s.heap.get? c = some o → h'.get? c = some o) → Q (some (.ref s.heap.objs.size)) { s with heap := h', toks := tk }) :
    wpAny (model prog w) A (pyNext (.ref z)) Q E s := by
  have ty : s.TypeIs (.ref z) "zip" := ⟨_, hz, rfl⟩
  unfold pyNext
  refine wpAny_bind (wpAny_attempt (wpAny_callSpecial?_slot (name := Str.ofString "__next__") ty F.slot_zip_next (wpAny_call_entry F.slot_zip_next ty F.entry_zip_next ?_ (F.args_zip_next_1 _))))
  obtain ⟨hp, g, d, tk0, os⟩ := s
  show wpAny _ A.in1 (field (.ref z) 2 >>= _) _ _ ⟨hp, g, d, tk0, os⟩
  refine wpAny_bind (wpAny_field hz rfl (x := .bool false) rfl ?_)
  show wpAny _ A.in1 (field (.ref z) 3 >>= _) _ _ ⟨hp, g, d, tk0, os⟩
  refine wpAny_bind (wpAny_field hz rfl (x := .ref TI) rfl (wpAny_bind (wpAny_seqItems hTI rfl ?_)))
  show wpAny _ A.in1 (Builtin.SmallTypes.ownedTupleIsFree (.ref z) >>= _) _ _ ⟨hp, g, d, tk0, os⟩
  refine wpAny_bind (wpAny_tupleHeld_zip hz hT fun g0 z0 b0 => ?_)
  simp only [Bool.false_eq_true, if_false]
  refine wpAny_bind ?_
  rw [← Array.forIn_toList]
  simp only [List.forIn_nil, List.forIn_cons]
  refine wpAny_bind (wpAny_bind (wpAny_holding ?_))
  show wpAny _ A.in1 (Builtin.SmallTypes.nextOf (.ref i1) >>= _) _ _ ⟨g0, g, d, tk0, os⟩
  refine wpAny_bind (D1.item i ⟨g0, g, d, tk0, os⟩ _ _ l1 (D1.over st1 b0 S.zf1) fun x1 g1 tk1 px1 q1 b1 => wpAny_pure (wpAny_pure ?_))
  refine wpAny_bind (wpAny_bind (wpAny_holding ?_))
  show wpAny _ A.in1 (Builtin.SmallTypes.nextOf (.ref i2) >>= _) _ _ ⟨g1, g, d, tk1, os⟩
  refine wpAny_bind (D2.item i ⟨g1, g, d, tk1, os⟩ _ _ l2 (D2.over (D2.over st2 b0 S.zf2) b1 S.sep1_2) fun x2 g2 tk2 px2 q2 b2 => wpAny_pure (wpAny_pure (wpAny_pure ?_)))
  show wpAny _ A.in1 (newTuple [x1, x2] >>= _) _ _ ⟨g2, g, d, tk2, os⟩
  refine wpAny_bind (wpAny_newTuple (wpAny_pure ⟨_, rfl, wpAny_pure ?_⟩))
  have size : g2.objs.size = hp.objs.size := b2.1.trans (b1.1.trans b0.1)
  have kept : ∀ c o, c ≠ z → c ≠ i1 → c ≠ i2 → hp.get? c = some o → g2.get? c = some o := fun c o cz c1 c2 e => b2.extBut _ _ c2 (b1.extBut _ _ c1 (b0.extBut _ _ cz e))
  have push : ∀ {c : Addr} {o : Obj}, g2.get? c = some o → (g2.push { cls := .type "tuple", data := .seq #[x1, x2] }).get? c = some o := fun e => Heap.get?_push_of_some _ e
  have pair : IsTupOf2 (g2.push { cls := .type "tuple", data := .seq #[x1, x2] }) g2.objs.size x1 x2 := Heap.get?_push_size _ rfl
  have r := hQ x1 x2 (g2.push { cls := .type "tuple", data := .seq #[x1, x2] }) tk2 px1 px2 (push (b2.extBut _ _ S.zi2 (b1.extBut _ _ S.zi1 z0))) (D1.frame _ _ _ (D1.over q1 b2 S.sep2_1) fun b _ o e => push e) (D2.frame _ _ _ q2 fun b _ o e => push e) (size ▸ pair) fun c o cz c1 c2 e => push (kept c o cz c1 c2 e)
  show Q (some (.ref g2.objs.size)) _
  rw [size]
  exact r
/-- no pair is left, the one before is still held -/
theorem zipH_end {Q : Option Value → Shared → Prop} (S : ZipSep2 z TI TO i1 i2 fp1 fp2) (D1 : Draws prog w A.in1 i1 fp1 n1 P1 St1) (hz : IsZipHeld s.heap z TI TO T f) (hT : s.heap.get? T = some oT)
    (hTI : IsTupOf2 s.heap TI (.ref i1) (.ref i2)) (st1 : St1 n1 s.heap) (hQ : ∀ h', (∀ c o, c ≠ z → c ≠ i1 → s.heap.get? c = some o → h'.get? c = some o) → Q none { s with heap := h' }) :
    wpAny (model prog w) A (pyNext (.ref z)) Q E s := by
  have ty : s.TypeIs (.ref z) "zip" := ⟨_, hz, rfl⟩
  unfold pyNext
  refine wpAny_bind (wpAny_attempt (wpAny_callSpecial?_slot (name := Str.ofString "__next__") ty F.slot_zip_next (wpAny_call_entry F.slot_zip_next ty F.entry_zip_next ?_ (F.args_zip_next_1 _))))
  obtain ⟨hp, g, d, tk0, os⟩ := s
  show wpAny _ A.in1 (field (.ref z) 2 >>= _) _ _ ⟨hp, g, d, tk0, os⟩
  refine wpAny_bind (wpAny_field hz rfl (x := .bool false) rfl ?_)
  show wpAny _ A.in1 (field (.ref z) 3 >>= _) _ _ ⟨hp, g, d, tk0, os⟩
  refine wpAny_bind (wpAny_field hz rfl (x := .ref TI) rfl (wpAny_bind (wpAny_seqItems hTI rfl ?_)))
  show wpAny _ A.in1 (Builtin.SmallTypes.ownedTupleIsFree (.ref z) >>= _) _ _ ⟨hp, g, d, tk0, os⟩
  refine wpAny_bind (wpAny_tupleHeld_zip hz hT fun g0 z0 b0 => ?_)
  simp only [Bool.false_eq_true, if_false]
  refine wpAny_bind ?_
  rw [← Array.forIn_toList]
  simp only [List.forIn_nil, List.forIn_cons]
  refine wpAny_bind (wpAny_bind (wpAny_holding ?_))
  show wpAny _ A.in1 (Builtin.SmallTypes.nextOf (.ref i1) >>= _) _ _ ⟨g0, g, d, tk0, os⟩
  refine wpAny_bind (D1.done ⟨g0, g, d, tk0, os⟩ _ _ (D1.over st1 b0 S.zf1) fun g1 e b1 ⟨o, ho, hc⟩ => ?_)
  refine wpAny_bind (wpAny_isInstance (T := "StopIteration") (b := true) ⟨o, ho, hc⟩ isSubtype_stop (wpAny_pure (hQ g1 fun c o cz c1 e => b1 _ _ c1 (b0.extBut _ _ cz e))))
/-- what the loop has laid into its list so far: each item a pair, a tuple of its own -/
def Pairs (P1 P2 : Nat → Value → Prop) (N : Nat) (h : Heap) (acc : Array Value) : Prop := ∃ ts : List Addr, acc = (ts.map Value.ref).toArray ∧ ts.Pairwise (· < ·) ∧ (∀ t ∈ ts, N ≤ t) ∧ ∀ j t, ts[j]? = some t → ∃ x1 x2, IsTupOf2 h t x1 x2 ∧ P1 j x1 ∧ P2 j x2
theorem Pairs.stay {N : Nat} {h h' : Heap} {acc : Array Value} (p : Pairs P1 P2 N h acc) (k : ∀ b o, N ≤ b → h.get? b = some o → h'.get? b = some o) : Pairs P1 P2 N h' acc := by
  obtain ⟨ts, e, pw, lo, q⟩ := p
  refine ⟨ts, e, pw, lo, fun j t hj => ?_⟩
  obtain ⟨x1, x2, a, b⟩ := q j t hj
  exact ⟨x1, x2, k _ _ (lo t (List.mem_of_getElem? hj)) a, b⟩
theorem Pairs.push {N : Nat} {h h' : Heap} {acc : Array Value} {x1 x2 : Value} (p : Pairs P1 P2 N h acc) (k : ∀ b o, N ≤ b → h.get? b = some o → h'.get? b = some o) (ht : N ≤ h.objs.size) (e : IsTupOf2 h' h.objs.size x1 x2) (p1 : P1 acc.size x1) (p2 : P2 acc.size x2) : Pairs P1 P2 N h' (acc.push (.ref h.objs.size)) := by
  obtain ⟨ts, rfl, pw, lo, q⟩ := p
  have hl : ((ts.map Value.ref).toArray).size = ts.length := by simp
  rw [hl] at p1 p2
  refine ⟨ts ++ [h.objs.size], by simp, ?_, fun t hm => ?_, fun j t hj => ?_⟩
  · rw [List.pairwise_append]
    refine ⟨pw, List.pairwise_singleton .., fun a ha b hb => ?_⟩
    rw [List.mem_singleton.mp hb]
    obtain ⟨j, hj⟩ := List.getElem?_of_mem ha
    obtain ⟨y1, y2, z, _⟩ := q j a hj
    exact Heap.lt_size z
  · rcases List.mem_append.mp hm with z | z
    · exact lo t z
    · rw [List.mem_singleton.mp z]; exact ht
  · by_cases hjl : j < ts.length
    · rw [List.getElem?_append_left hjl] at hj
      obtain ⟨y1, y2, z, r⟩ := q j t hj
      exact ⟨y1, y2, k _ _ (lo t (List.mem_of_getElem? hj)) z, r⟩
    · have hb := (List.getElem?_eq_some_iff.mp hj).1
      rw [List.length_append] at hb
      have e' : j = ts.length := by have : [h.objs.size].length = 1 := rfl; omega
      subst e'
      rw [List.getElem?_append_right (Nat.le_refl _), Nat.sub_self] at hj
      cases hj
      exact ⟨x1, x2, e, p1, p2⟩
/-- the addresses of the walk, all below N -/
structure ZipLow (z TI i1 i2 Sx : Addr) (fp1 fp2 : List Addr) (N : Nat) : Prop where
  lz : z < N
  l1 : i1 < N
  l2 : i2 < N
  lS : Sx < N
  Sz : Sx ≠ z
  ST : TI ≠ Sx
  S1 : Sx ∉ fp1
  S2 : Sx ∉ fp2
theorem high_ne {N : Nat} {b c : Addr} (h : N ≤ b) (l : c < N) : b ≠ c := fun e => Nat.lt_irrefl _ (Nat.lt_of_lt_of_le l (e ▸ h))
theorem ext_held {n Sx : Nat} {N : Nat} {res : Value} {R : Result → Shared → Prop} (S : ZipSep2 z TI TO i1 i2 fp1 fp2) (L : ZipLow z TI i1 i2 Sx fp1 fp2 N) (D1 : Draws prog w A.in1.in1 i1 fp1 n P1 St1) (D2 : Draws prog w A.in1.in1 i2 fp2 n P2 St2) (hn : n ≤ 1000) (hNT : N ≤ T) :
    ∀ (k i : Nat) (s : Shared) (acc : Array Value) (c : Nat) (f : Bool) (oT : Obj), i + k = n → IsZipHeld s.heap z TI TO T f → s.heap.get? T = some oT → IsTupOf2 s.heap TI (.ref i1) (.ref i2) → St1 i s.heap → St2 i s.heap → N ≤ s.heap.objs.size →
    s.heap.get? Sx = some { cls := .type "list", data := .seq acc c } → acc.size = i → Pairs P1 P2 N s.heap acc →
    (∀ h' tk acc' c', (∀ b o, b ≠ z → b ≠ i1 → b ≠ i2 → b ≠ Sx → s.heap.get? b = some o → h'.get? b = some o) → h'.get? Sx = some { cls := .type "list", data := .seq acc' c' } → acc'.size = n → Pairs P1 P2 N h' acc' → R (.ok (.ret res)) { s with heap := h', toks := tk }) →
    codeAny (model prog w) A (.builtin "list.extend.loop" ⟨[.ref Sx, .ref z, res], []⟩) R s := by
  intro k
  have nT : T ≠ z ∧ T ≠ i1 ∧ T ≠ i2 ∧ T ≠ Sx := ⟨high_ne hNT L.lz, high_ne hNT L.l1, high_ne hNT L.l2, high_ne hNT L.lS⟩
  have low : ∀ b, N ≤ b → b ≠ z ∧ b ≠ i1 ∧ b ≠ i2 ∧ b ≠ Sx := fun b hb => ⟨high_ne hb L.lz, high_ne hb L.l1, high_ne hb L.l2, high_ne hb L.lS⟩
  have Si1 : Sx ≠ i1 := fun e => L.S1 (e ▸ S.mem1)
  have Si2 : Sx ≠ i2 := fun e => L.S2 (e ▸ S.mem2)
  induction k with
  | zero =>
    intro i s acc c f oT hi hz hT hTI st1 st2 hN hS ha ps fin
    obtain rfl : i = n := by omega
    refine codeAny_builtin F.entry_extend_loop ?_
    rw [Around.under_plainId F.plain_extend_loop _]
    refine wpAny_bind (zipH_end S D1 hz hT hTI st1 fun h' kp => wpAny_pure (fin h' s.toks acc c (fun b o bz b1 b2 _ e => kp b o bz b1 e) (kp _ _ L.Sz Si1 hS) ha (ps.stay fun b o hb e => kp b o (low b hb).1 (low b hb).2.1 e)))
  | succ k ih =>
    intro i s acc c f oT hi hz hT hTI st1 st2 hN hS ha ps fin
    refine codeAny_builtin F.entry_extend_loop ?_
    rw [Around.under_plainId F.plain_extend_loop _]
    refine wpAny_bind (zipH_item S D1 D2 hz hT hTI st1 st2 (by omega) (by omega) fun x1 x2 h1 tk1 p1 p2 z1 s1 s2 pair kp => ?_)
    have hS1 := kp _ _ L.Sz Si1 Si2 hS
    show wpAny _ A.in1 (updateSeq Sx (·.push (.ref s.heap.objs.size)) >>= _) _ _ _
    refine wpAny_bind (wpAny_updateSeq hS1 rfl (wpAny_pure ⟨plainId_quiet F.plain_extend_loop _, ?_⟩) (by rw [sizeLine_eq]; omega) (by show (acc.push _).size ≤ sizeLine + 1; rw [Array.size_push, ha, sizeLine_eq]; omega))
    obtain ⟨h2, eh2⟩ : ∃ h2, h1.update Sx (Obj.mapSeq (·.push (.ref s.heap.objs.size))) = h2 := ⟨_, rfl⟩
    have oth : ∀ b o, b ≠ Sx → h1.get? b = some o → h2.get? b = some o := fun b o hb e => by rw [← eh2, Heap.get?_update_other _ _ (Ne.symm hb)]; exact e
    obtain ⟨c2, hS2⟩ : ∃ c2, h2.get? Sx = some { cls := .type "list", data := .seq (acc.push (.ref s.heap.objs.size)) c2 } := ⟨_, by rw [← eh2]; exact Heap.get?_update_self (Obj.mapSeq (·.push (.ref s.heap.objs.size))) hS1 rfl⟩
    rw [eh2]
    refine ih (i + 1) _ (acc.push (.ref s.heap.objs.size)) _ true oT (by omega) (oth _ _ (Ne.symm L.Sz) z1) (oth _ _ nT.2.2.2 (kp _ _ nT.1 nT.2.1 nT.2.2.1 hT)) (oth _ _ L.ST (kp _ _ S.TIz S.TIi1 S.TIi2 hTI))
      (D1.frame _ _ _ s1 fun b hb o e => oth b o (fun q => L.S1 (q ▸ hb)) e) (D2.frame _ _ _ s2 fun b hb o e => oth b o (fun q => L.S2 (q ▸ hb)) e) ?_ hS2 (by rw [Array.size_push, ha]) ?_ fun h' tk acc' c' kp' hS' ha' ps' => ?_
    · have : s.heap.objs.size < h2.objs.size := Heap.lt_size (oth _ _ (low _ hN).2.2.2 pair)
      exact Nat.le_trans hN (Nat.le_of_lt this)
    · exact Pairs.push ps (fun b o hb e => oth b o (low b hb).2.2.2 (kp b o (low b hb).1 (low b hb).2.1 (low b hb).2.2.1 e)) hN (oth _ _ (low _ hN).2.2.2 pair) (by rw [ha]; exact p1) (by rw [ha]; exact p2)
    · exact fin h' tk acc' c' (fun b o bz b1 b2 bs e => kp' b o bz b1 b2 bs (oth b o bs (kp b o bz b1 b2 e))) hS' ha' ps'
/-- the whole of it: the list that collect fills -/
theorem collect_zip {n : Nat} {Q : List Value → Shared → Prop} (S : ZipSep2 z TI TO i1 i2 fp1 fp2) (D1 : Draws prog w A.in1.in1 i1 fp1 n P1 St1) (D2 : Draws prog w A.in1.in1 i2 fp2 n P2 St2) (hn : n ≤ 1000) (hz : IsZip s.heap z TI TO .none) (hTI : IsTupOf2 s.heap TI (.ref i1) (.ref i2))
    {a1 a2 : Value} (hTO : IsTupOf2 s.heap TO a1 a2) (st1 : St1 0 s.heap) (st2 : St2 0 s.heap) (b1 : ∀ b ∈ fp1, b < s.heap.objs.size) (b2 : ∀ b ∈ fp2, b < s.heap.objs.size)
    (hQ : ∀ h' tk acc, (∀ b o, b ≠ z → b ≠ TO → b ≠ i1 → b ≠ i2 → s.heap.get? b = some o → h'.get? b = some o) → acc.size = n → Pairs P1 P2 (s.heap.objs.size + 1) h' acc → Q acc.toList { s with heap := h', toks := tk }) :
    wpAny (model prog w) A (collect (.ref z)) Q E s := by
  obtain ⟨Sx, hSx⟩ : ∃ Sx, s.heap.objs.size = Sx := ⟨_, rfl⟩
  have lz : z < Sx := hSx ▸ Heap.lt_size hz
  have lTO : TO < Sx := hSx ▸ Heap.lt_size hTO
  have lTI : TI < Sx := hSx ▸ Heap.lt_size hTI
  have l1 : i1 < Sx := hSx ▸ b1 _ S.mem1
  have l2 : i2 < Sx := hSx ▸ b2 _ S.mem2
  have L : ZipLow z TI i1 i2 Sx fp1 fp2 (Sx + 1) := ⟨Nat.lt_succ_of_lt lz, Nat.lt_succ_of_lt l1, Nat.lt_succ_of_lt l2, Nat.lt_succ_self _, Nat.ne_of_gt lz, Nat.ne_of_lt lTI, fun m => Nat.lt_irrefl _ (hSx ▸ b1 _ m), fun m => Nat.lt_irrefl _ (hSx ▸ b2 _ m)⟩
  unfold collect
  refine wpAny_bind (wpAny_runValue (codeAny_builtin F.entry_proto_collect ?_))
  rw [Around.under_plainId F.plain_proto_collect _]
  show wpAny _ A.in1 (newList [] >>= fun l => again (.builtin "list.__iadd__" ⟨[l, .ref z], []⟩)) _ _ s
  refine wpAny_bind (wpAny_newObj_type (wpAny_pure ⟨plainId_quiet F.plain_list_iadd _, codeAny_builtin F.entry_list_iadd ?_⟩))
  rw [Around.under_plainId F.plain_list_iadd _, hSx]
  obtain ⟨h0, eh0⟩ : ∃ h0, s.heap.push { cls := .type "list", data := .seq ([] : List Value).toArray } = h0 := ⟨_, rfl⟩
  have old0 : ∀ {b o}, s.heap.get? b = some o → h0.get? b = some o := fun e => by rw [← eh0]; exact Heap.get?_push_of_some _ e
  have new0 : h0.get? Sx = some { cls := .type "list", data := .seq ([] : List Value).toArray } := by rw [← eh0, ← hSx]; exact Heap.get?_push_size _ rfl
  rw [eh0]
  show wpAny _ A.in1 (Builtin.List.listExtendWith (.ref Sx) (.ref z) (.ref Sx)) _ _ { s with heap := h0 }
  have ty : ({ s with heap := h0 } : Shared).TypeIs (.ref z) "zip" := ⟨_, old0 hz, rfl⟩
  unfold Builtin.List.listExtendWith
  refine wpAny_bind (wpAny_typeOf ty ?_)
  have c1 : Builtin.List.listSameRef (.ref Sx) (.ref z) = false := by simp [Builtin.List.listSameRef, L.Sz]
  have c2 : (Value.type "zip" == Value.type "list") = false := by decide
  have c3 : (Value.type "zip" == Value.type "tuple") = false := by decide
  simp only [c1, c2, c3, Bool.or_false, Bool.false_eq_true, if_false]
  refine wpAny_bind (wpAny_pyIter_zip (old0 hz) (wpAny_bind (wpAny_holding ?_)))
  unfold Builtin.List.listLengthHint
  refine wpAny_bind (wpAny_specialOf ty zip_no_len ?_)
  show wpAny _ A.in1 (specialOf (.ref z) (Str.ofString "__length_hint__") >>= _) _ _ { s with heap := h0 }
  refine wpAny_bind (wpAny_specialOf ty zip_no_hint (wpAny_pure ?_))
  show wpAny _ A.in1 (rule "list.extend.makes-room" >>= fun _ => Builtin.List.listTouch (.ref Sx) >>= fun _ => again (.builtin "list.extend.loop" ⟨[.ref Sx, .ref z, .ref Sx], []⟩)) _ _ { s with heap := h0 }
  refine wpAny_bind (wpAny_rule (wpAny_bind ?_))
  show wpAny _ A.in1 (updateSeq Sx (·.push .none) >>= fun _ => updateSeq Sx (·.pop)) _ _ { s with heap := h0 }
  have g1 := Heap.get?_update_self (Obj.mapSeq (·.push Value.none)) new0 rfl
  have g2 := Heap.get?_update_self (Obj.mapSeq (·.pop)) g1 rfl
  refine wpAny_bind (wpAny_updateSeq new0 rfl (wpAny_updateSeq g1 rfl (wpAny_pure ⟨plainId_quiet F.plain_extend_loop _, ?_⟩)))
  have off0 : ∀ b o, b ≠ Sx → h0.get? b = some o → ((h0.update Sx (Obj.mapSeq (·.push Value.none))).update Sx (Obj.mapSeq (·.pop))).get? b = some o := fun b o hb e => by
    rw [Heap.get?_update_other _ _ (Ne.symm hb), Heap.get?_update_other _ _ (Ne.symm hb)]
    exact e
  obtain ⟨hh, ehh⟩ : ∃ hh, (h0.update Sx (Obj.mapSeq (·.push Value.none))).update Sx (Obj.mapSeq (·.pop)) = hh := ⟨_, rfl⟩
  obtain ⟨c0, hS⟩ : ∃ c0, hh.get? Sx = some { cls := .type "list", data := .seq #[] c0 } := ⟨_, by rw [← ehh]; exact g2⟩
  show codeAny _ _ _ _ { s with heap := (h0.update Sx (Obj.mapSeq (·.push Value.none))).update Sx (Obj.mapSeq (·.pop)) }
  rw [ehh] at off0 ⊢
  have old : ∀ b o, s.heap.get? b = some o → hh.get? b = some o := fun b o e => off0 b o (Nat.ne_of_lt (hSx ▸ Heap.lt_size e)) (old0 e)
  have zh := old _ _ hz
  have t1 := D1.frame _ _ _ st1 fun b _ o e => old b o e
  have t2 := D2.frame _ _ _ st2 fun b _ o e => old b o e
  have size : Sx < hh.objs.size := Heap.lt_size hS
  have fin : ∀ h' tk acc' c', (∀ b o, b ≠ z → b ≠ TO → b ≠ i1 → b ≠ i2 → b ≠ Sx → hh.get? b = some o → h'.get? b = some o) → h'.get? Sx = some { cls := .type "list", data := .seq acc' c' } → acc'.size = n → Pairs P1 P2 (Sx + 1) h' acc' →
      wpAny (model prog w) A (load Sx >>= fun o => match o.data with | .seq xs _ => pure xs.toList | _ => unsupported "internal:collect") Q E { s with heap := h', toks := tk } := fun h' tk acc' c' kp hS' ha ps =>
    wpAny_bind (wpAny_load hS' (wpAny_pure (hQ h' tk acc' (fun b o bz bT bi bj e => kp b o bz bT bi bj (Nat.ne_of_lt (hSx ▸ Heap.lt_size e)) (old b o e)) ha (hSx ▸ ps))))
  refine codeAny_builtin F.entry_extend_loop ?_
  rw [Around.under_plainId F.plain_extend_loop _]
  have Si1 : Sx ≠ i1 := Nat.ne_of_gt l1
  have Si2 : Sx ≠ i2 := Nat.ne_of_gt l2
  have STO : Sx ≠ TO := Nat.ne_of_gt lTO
  cases n with
  | zero => exact wpAny_bind (wpAny_pyNext_zipD2_end S D1 D2 zh (old _ _ hTI) (old _ _ hTO) t1 t2 (Nat.le_refl _) (Nat.le_refl _) (.inl rfl) fun h' tk kp => wpAny_pure (fin h' tk #[] c0 (fun b o bz bT bi bj _ e => kp b o bz bT bi bj e) (kp _ _ L.Sz STO Si1 Si2 hS) rfl ⟨[], rfl, .nil, (fun t ht => nomatch ht), fun j t hj => (by rw [List.getElem?_nil] at hj; cases hj)⟩))
  | succ n =>
    refine wpAny_bind (wpAny_pyNext_zipD2_item S D1 D2 zh (old _ _ hTI) (old _ _ hTO) t1 t2 (Nat.succ_pos _) (Nat.succ_pos _) fun x1 x2 h1 tk1 p1 p2 z1 _ s1 s2 pair sz kp => ?_)
    have hS1 := kp _ _ L.Sz STO Si1 Si2 hS
    have hT : Sx + 1 ≤ hh.objs.size := size
    have nTS : hh.objs.size ≠ Sx := Nat.ne_of_gt size
    show wpAny _ A.in1 (updateSeq Sx (·.push (.ref hh.objs.size)) >>= _) _ _ { s with heap := h1, toks := tk1 }
    refine wpAny_bind (wpAny_updateSeq hS1 rfl (wpAny_pure ⟨plainId_quiet F.plain_extend_loop _, ?_⟩) (by show 0 ≤ sizeLine; exact Nat.zero_le _) (by show 1 ≤ sizeLine + 1; omega))
    obtain ⟨h2, eh2⟩ : ∃ h2, h1.update Sx (Obj.mapSeq (·.push (.ref hh.objs.size))) = h2 := ⟨_, rfl⟩
    have oth : ∀ b o, b ≠ Sx → h1.get? b = some o → h2.get? b = some o := fun b o hb e => by rw [← eh2, Heap.get?_update_other _ _ (Ne.symm hb)]; exact e
    obtain ⟨c2, hS2⟩ : ∃ c2, h2.get? Sx = some { cls := .type "list", data := .seq #[.ref hh.objs.size] c2 } := ⟨_, by rw [← eh2]; exact Heap.get?_update_self (Obj.mapSeq (·.push (.ref hh.objs.size))) hS1 rfl⟩
    show codeAny _ _ _ _ { s with heap := h1.update Sx (Obj.mapSeq (·.push (.ref hh.objs.size))), toks := tk1 }
    rw [eh2]
    have pair2 := oth _ _ nTS pair
    refine ext_held S L D1 D2 hn hT n 1 _ #[.ref hh.objs.size] c2 false _ (Nat.add_comm _ _) (oth _ _ (Ne.symm L.Sz) z1) pair2 (oth _ _ L.ST (kp _ _ S.TIz S.TITO S.TIi1 S.TIi2 (old _ _ hTI)))
      (D1.frame _ _ _ s1 fun b hb o e => oth b o (fun q => L.S1 (q ▸ hb)) e) (D2.frame _ _ _ s2 fun b hb o e => oth b o (fun q => L.S2 (q ▸ hb)) e) ?_ hS2 rfl ?_ fun h' tk acc' c' kp' hS' ha' ps' => fin h' tk acc' c' (fun b o bz bT bi bj bs e => kp' b o bz bi bj bs (oth b o bs (kp b o bz bT bi bj e))) hS' ha' ps'
    · exact Nat.le_trans hT (Nat.le_of_lt (Heap.lt_size pair2))
    · refine ⟨[hh.objs.size], rfl, List.pairwise_singleton .., fun t ht => by rw [List.mem_singleton.mp ht]; exact hT, fun j t hj => ?_⟩
      cases j with
      | zero => cases hj; exact ⟨x1, x2, pair2, p1, p2⟩
      | succ j => simp at hj
theorem call_tuple_zip {n : Nat} {Q : Value → Shared → Prop} (S : ZipSep2 z TI TO i1 i2 fp1 fp2) (D1 : Draws prog w A.in1.in1.in1.in1 i1 fp1 n P1 St1) (D2 : Draws prog w A.in1.in1.in1.in1 i2 fp2 n P2 St2) (hn : n ≤ 1000) (hz : IsZip s.heap z TI TO .none) (hTI : IsTupOf2 s.heap TI (.ref i1) (.ref i2))
    {a1 a2 : Value} (hTO : IsTupOf2 s.heap TO a1 a2) (st1 : St1 0 s.heap) (st2 : St2 0 s.heap) (b1 : ∀ b ∈ fp1, b < s.heap.objs.size) (b2 : ∀ b ∈ fp2, b < s.heap.objs.size)
    (hQ : ∀ h' tk acc, (∀ b o, b ≠ z → b ≠ TO → b ≠ i1 → b ≠ i2 → s.heap.get? b = some o → h'.get? b = some o) → acc.size = n → Pairs P1 P2 (s.heap.objs.size + 1) h' acc → Q (.ref h'.objs.size) { s with heap := h'.push { cls := .type "tuple", data := .seq acc }, toks := tk }) :
    wpAny (model prog w) A (call (.type "tuple") [.ref z]) Q E s := by
  have fits : ∀ acc : Array Value, acc.size = n → acc.toList.toArray.size ≤ sizeLine := fun acc e => by rw [Array.toArray_toList, e, sizeLine_eq]; omega
  have ty : s.TypeIs (.ref z) "zip" := ⟨_, hz, rfl⟩
  refine callType_codes (Q₁ := fun obj s₁ => s₁.TypeIs obj "tuple" ∧ Q obj s₁) F.called_tuple (F.typeCall_tuple_1 _) F.entry_object_init (codeAny_of_tree ?_) fun obj s₁ h₁ =>
    ⟨h₁.1, F.args_object_init_2 obj _, object_init_meets F.called_tuple.init.lookup F.called_tuple.made (by decide) prog w A.in1 _ s₁ ⟨h₁.1, rfl, h₁.2⟩⟩
  show wpAny _ A.in1.in1 (do checkBuiltinCall "tuple.__new__" ⟨[.type "tuple", .ref z], []⟩; again (.builtin "tuple.__new__" ⟨[.type "tuple", .ref z], []⟩)) _ _ s
  refine wpAny_bind (wpAny_of_eq (F.newCall_tuple_1 _) (wpAny_pure ⟨plainId_quiet F.plain_tuple_new _, codeAny_builtin F.entry_tuple_new ?_⟩))
  rw [Around.under_plainId F.plain_tuple_new _]
  have k1 := sub_tuple_self
  have k2 := init_tuple_lookup
  have k3 := madeHere_tuple
  wp_walk using wpAny_typeOf ty, collect_zip (A := A.in1.in1) S D1 D2 hn hz hTI hTO st1 st2 b1 b2
  intro h' tk acc kp ha ps
  show wpAny _ _ (Builtin.Tuple.tupleExact acc.toList.toArray >>= fun v => ret v) _ _ { s with heap := h', toks := tk }
  unfold Builtin.Tuple.tupleExact
  refine wpAny_bind (wpAny_newObj_type (wpAny_pure ?_) (fits acc ha))
  rw [Array.toArray_toList]
  exact ⟨⟨_, Heap.get?_push_size _ rfl, rfl⟩, hQ h' tk acc kp ha ps⟩
end
/-! ### as a rule: the pairs of x and y in a new tuple -/
def ZPs (H : Hp) : List Addr → List V → List V → Prop
  | [], [], [] => True
  | t :: ts, x :: xs, y :: ys => H t = some (.tup [x, y]) ∧ ZPs H ts xs ys
  | _, _, _ => False
def layZ : List Addr → List V → List V → Hp → Hp
  | t :: ts, x :: xs, y :: ys, H => upd (layZ ts xs ys H) t (.tup [x, y])
  | _, _, _, H => H
theorem layZ_out : ∀ {ts : List Addr} {xs ys : List V} {H : Hp} {b : Addr}, b ∉ ts → layZ ts xs ys H b = H b
  | [], _, _, _, _, _ => by unfold layZ; rfl
  | _ :: _, [], _, _, _, _ => by unfold layZ; rfl
  | _ :: _, _ :: _, [], _, _, _ => by unfold layZ; rfl
  | t :: ts, x :: xs, y :: ys, H, b, h => by
    show upd (layZ ts xs ys H) t (.tup [x, y]) b = _
    rw [upd_ne (fun z => h (by rw [z]; exact List.mem_cons_self ..))]
    exact layZ_out fun z => h (List.mem_cons_of_mem _ z)
theorem layZ_in : ∀ {ts : List Addr} {xs ys : List V} {H : Hp} {j : Nat} {t : Addr}, ts.Pairwise (· < ·) → ts.length = xs.length → xs.length = ys.length → ts[j]? = some t → ∃ x y, xs[j]? = some x ∧ ys[j]? = some y ∧ layZ ts xs ys H t = some (.tup [x, y])
  | [], _, _, _, j, t, _, _, _, hj => by rw [List.getElem?_nil] at hj; cases hj
  | _ :: _, [], _, _, _, _, _, h, _, _ => by cases h
  | _ :: _, _ :: _, [], _, _, _, _, _, h, _ => by cases h
  | t :: ts, x :: xs, y :: ys, H, 0, u, _, _, _, hj => by cases hj; exact ⟨x, y, rfl, rfl, upd_same⟩
  | t :: ts, x :: xs, y :: ys, H, j + 1, u, pw, h1, h2, hj => by
    obtain ⟨p1, p2⟩ := List.pairwise_cons.mp pw
    have hj' : ts[j]? = some u := hj
    obtain ⟨x', y', e1, e2, e3⟩ := layZ_in (H := H) p2 (Nat.succ.inj h1) (Nat.succ.inj h2) hj'
    refine ⟨x', y', e1, e2, ?_⟩
    show upd (layZ ts xs ys H) t (.tup [x, y]) u = _
    rw [upd_ne (Nat.ne_of_gt (p1 u (List.mem_of_getElem? hj')))]
    exact e3
theorem zps_of {H : Hp} : ∀ {ts : List Addr} {xs ys : List V}, ts.length = xs.length → xs.length = ys.length → (∀ (j : Nat) (t : Addr), ts[j]? = some t → ∃ x y, xs[j]? = some x ∧ ys[j]? = some y ∧ H t = some (.tup [x, y])) → ZPs H ts xs ys
  | [], [], [], _, _, _ => trivial
  | [], [], _ :: _, _, h, _ => by cases h
  | [], _ :: _, _, h, _, _ => by cases h
  | _ :: _, [], _, h, _, _ => by cases h
  | _ :: _, _ :: _, [], _, h, _ => by cases h
  | t :: ts, x :: xs, y :: ys, h1, h2, k => by
    obtain ⟨x', y', e1, e2, e3⟩ := k 0 t rfl
    cases e1
    cases e2
    exact ⟨e3, zps_of (Nat.succ.inj h1) (Nat.succ.inj h2) fun j u hj => k (j + 1) u hj⟩
theorem ZPs.same {H H' : Hp} (s : Same H H') : ∀ {ts : List Addr} {xs ys : List V}, ZPs H ts xs ys → ZPs H' ts xs ys
  | [], [], [], h => h
  | [], [], _ :: _, h => h
  | [], _ :: _, _, h => h
  | _ :: _, [], _, h => h
  | _ :: _, _ :: _, [], h => h
  | t :: ts, x :: xs, y :: ys, h => ⟨s _ _ h.1, ZPs.same s h.2⟩
def tTupZip (K : PySem.W.Frag) (t : TA) : TE := fun σ H Q => t σ H fun vs H1 => ∃ a b xs ys, vs = [.ref a, .ref b] ∧ SqT K H1 a xs ∧ SqL K H1 b ys ∧ xs.length = ys.length ∧ xs.length ≤ 1000 ∧
  ∀ p ts H2, Same H1 H2 → H2 p = some (.tup (ts.map V.ref)) → ZPs H2 ts xs ys → Q (.ref p) H2
section
variable {X : Cx}
theorem vals_refs : ∀ ts : List Addr, Vals (ts.map V.ref) (ts.map Value.ref)
  | [] => .nil
  | _ :: ts => .cons rfl (vals_refs ts)
theorem pe_tupzip {e1 e2 : Expr} {t : TA} {p1 p2 p3 p4 : Pos} (hgT : Gl X "tuple") (hmT : X.mg "tuple" = none) (hgZ : Gl X "zip") (hmZ : X.mg "zip" = none) (hc : X.calm = true) (ha : PA X [e1, e2] t)
    (he : starEach [e1, e2] X.env = (false, eval e1 X.env) :: starEach [e2] X.env := by rfl) (hpl : (backTo p3 (starEach [e2] X.env)).any (·.1) = false := by rfl)
    (he' : starEach [.Call (.Name "zip" p2) [e1, e2] [] p3] X.env = (false, eval (.Call (.Name "zip" p2) [e1, e2] [] p3) X.env) :: starEach [] X.env := by rfl) :
    PE X (.Call (.Name "tuple" p1) [.Call (.Name "zip" p2) [e1, e2] [] p3] [] p4) (tTupZip X.K t) := by
  refine ⟨fun pins s σ H Q I h => ?_⟩
  refine wpAny_Call_Name_kw (ld_blt I hgT hmT boot_tuple (PyProof.Rows.callWith_type1 ?_ he' rfl))
  rw [he']
  refine Calls.spliced_cons (wpAny_Call_Name_kw (ld_blt I hgZ hmZ boot_zip (PyProof.Rows.callWith_type1 (thn (ha.run p3 pins s σ H _ I h) fun us s1 ⟨vs, H1, I1, r1, a, b, xs, ys, evs, hT, hL, hxy, h1000, q⟩ => ?_) he hpl)))
  subst evs
  obtain ⟨u1, r, rfl, ru1, rr⟩ : ∃ u r, us = u :: r ∧ RelV (.ref a) u ∧ Vals [V.ref b] r := by
    cases r1 with
    | cons x y => exact ⟨_, _, rfl, x, y⟩
  obtain ⟨u2, rfl, ru2⟩ := vals1 rr
  cases ru1
  cases ru2
  obtain ⟨its1, v1, pt, _⟩ := I1.tuple hT
  obtain ⟨its2, v2, pl, _⟩ := I1.list hL
  have hh : X.A.handled = none := I1.ok.hd hc
  refine zip_begins2 (begins_tuple a its1.toArray) (begins_list b its2.toArray) pt pl.isList fun h0 z0 z1 z2 g1 g2 z5 old => ?_
  obtain ⟨N, hN⟩ : ∃ N, s1.heap.objs.size = N := ⟨_, rfl⟩
  rw [hN] at z0 z1 z2 g1 g2 z5 ⊢
  have low : ∀ {b : Addr} {o : Obj}, s1.heap.get? b = some o → b < N := fun e => hN ▸ Heap.lt_size e
  have la : a < N := let ⟨_, e, _⟩ := pt; low e
  have lb : b < N := let ⟨_, _, e, _⟩ := pl; low e
  have n1 : its1.length = xs.length := v1.length.symm
  have n2 : its2.length = ys.length := v2.length.symm
  have sep := zip_sep2 (N := N) (fp1 := [a]) (fp2 := [b]) (fun c hc' => by rw [List.mem_singleton.mp hc']; exact la) (fun c hc' => by rw [List.mem_singleton.mp hc']; exact lb)
  have D1 := Draws.tuple (prog := X.prog) (w := X.w) (A := X.A.in1.in1.in1.in1) hh N a (Nat.ne_of_lt la) its1.toArray
  have D2 := Draws.list (prog := X.prog) (w := X.w) (A := X.A.in1.in1.in1.in1) hh (N + 1) b (Nat.ne_of_lt (Nat.lt_succ_of_lt lb)) its2.toArray
  have e2 : its2.toArray.size = its1.toArray.size := by rw [List.size_toArray, List.size_toArray, n1, n2, hxy]
  rw [e2] at D2
  refine wpAny_items_nil ?_
  have keep : ∀ {h' : Heap} {acc : Array Value}, (∀ c o, c ≠ N + 4 → c ≠ N + 3 → c ≠ N → c ≠ N + 1 → h0.get? c = some o → h'.get? c = some o) → ∀ c o, s1.heap.get? c = some o → (h'.push { cls := .type "tuple", data := .seq acc }).get? c = some o := fun kp c o e => by
    have l := low e
    exact Heap.get?_push_of_some _ (kp c o (Nat.ne_of_lt (Nat.lt_add_right 4 l)) (Nat.ne_of_lt (Nat.lt_add_right 3 l)) (Nat.ne_of_lt l) (Nat.ne_of_lt (Nat.lt_add_right 1 l)) (old c o e))
  refine call_tuple_zip (s := { s1 with heap := h0 }) sep D1 D2 (by rw [List.size_toArray, n1]; exact h1000) z0 z1 z2 ⟨⟨_, g1, rfl, rfl⟩, let ⟨o, e, r⟩ := pt; ⟨o, old _ _ e, r⟩⟩ ⟨⟨_, g2, rfl, rfl⟩, pl.isList.at fun o e => old _ _ e⟩ (fun c hc' => ?_) (fun c hc' => ?_) fun h' tk acc kp ha ⟨ts, eacc, pw, lo, pr⟩ => ?_
  · show c < h0.objs.size
    rw [z5]
    rcases List.mem_cons.mp hc' with z | z
    · rw [z]; exact Nat.lt_add_of_pos_right (by decide)
    · rw [List.mem_singleton.mp z]; exact Nat.lt_add_right 5 la
  · show c < h0.objs.size
    rw [z5]
    rcases List.mem_cons.mp hc' with z | z
    · rw [z]; exact Nat.add_lt_add_left (by decide) N
    · rw [List.mem_singleton.mp z]; exact Nat.lt_add_right 5 lb
  have kall := keep (h' := h') (acc := acc) kp
  have lo' : ∀ t ∈ ts, N ≤ t := fun t ht => by
    have := lo t ht
    have e : ({ s1 with heap := h0 } : Shared).heap.objs.size = N + 5 := z5
    rw [e] at this
    exact Nat.le_trans (Nat.le_add_right N 6) this
  have tl : ts.length = xs.length := by
    have := ha
    rw [eacc, List.size_toArray, List.length_map, List.size_toArray, n1] at this
    exact this
  have hi : ∀ t ∈ ts, t < h'.objs.size := fun t ht => by
    obtain ⟨j, hj⟩ := List.getElem?_of_mem ht
    obtain ⟨x1, x2, e, _⟩ := pr j t hj
    exact Heap.lt_size e
  have hP : N ≤ h'.objs.size := Nat.le_trans (Nat.le_add_right N 2) (Nat.le_of_lt (Heap.lt_size (kp (N + 2) _ sep.TIz sep.TITO sep.TIi1 sep.TIi2 z1)))
  obtain ⟨P, hPe⟩ : ∃ P, h'.objs.size = P := ⟨_, rfl⟩
  rw [hPe] at hP hi ⊢
  have nP : P ∉ ts := fun z => Nat.lt_irrefl _ (hi P z)
  obtain ⟨hF, ehF⟩ : ∃ hF, h'.push { cls := .type "tuple", data := .seq acc } = hF := ⟨_, rfl⟩
  rw [ehF] at kall ⊢
  have eP : hF.get? P = some { cls := .type "tuple", data := .seq acc } := by rw [← ehF, ← hPe]; exact Heap.get?_push_size _ rfl
  obtain ⟨H2, eH2⟩ : ∃ H2, upd (layZ ts xs ys H1) P (.tup (ts.map V.ref)) = H2 := ⟨_, rfl⟩
  have at_P : H2 P = some (.tup (ts.map V.ref)) := by rw [← eH2]; exact upd_same
  have at_t : ∀ (j : Nat) (t : Addr), ts[j]? = some t → ∃ x y, xs[j]? = some x ∧ ys[j]? = some y ∧ H2 t = some (.tup [x, y]) := fun j t hj => by
    obtain ⟨x, y, k1, k2, k3⟩ := layZ_in (H := H1) pw tl hxy hj
    refine ⟨x, y, k1, k2, ?_⟩
    rw [← eH2, upd_ne (fun z => nP (by rw [← z]; exact List.mem_of_getElem? hj))]
    exact k3
  have at_b : ∀ b, b ≠ P → b ∉ ts → H2 b = H1 b := fun b h1 h2 => by
    rw [← eH2, upd_ne h1]
    exact layZ_out h2
  have below : ∀ b, b < N → H2 b = H1 b := fun b hb => at_b b (fun z => Nat.lt_irrefl _ (Nat.lt_of_lt_of_le hb (by rw [z]; exact hP))) fun z => Nat.lt_irrefl _ (Nat.lt_of_lt_of_le hb (lo' b z))
  have tracked : ∀ b u, H1 b = some u → b < N := fun b u e => Nat.lt_of_not_le fun z => by
    rw [I1.hok.fresh (by rw [hN]; exact z)] at e
    cases e
  have same : Same H1 H2 := fun b u e => by rw [below b (tracked b u e)]; exact e
  have hok : HOk X.prog X.w H2 hF := fun b u e => by
    by_cases hb : b = P
    · subst hb
      rw [at_P] at e
      cases e
      refine ⟨by rw [List.length_map, tl, sizeLine_eq]; omega, ts.map Value.ref, vals_refs ts, _, eP, rfl, 0, ?_⟩
      rw [eacc]
    · by_cases ht : b ∈ ts
      · obtain ⟨j, hj⟩ := List.getElem?_of_mem ht
        obtain ⟨x, y, k1, k2, k3⟩ := at_t j b hj
        rw [k3] at e
        cases e
        obtain ⟨y1, y2, p0, p1, p2⟩ := pr j b hj
        obtain ⟨w1, m1, r1'⟩ := Vals.get v1 k1
        obtain ⟨w2, m2, r2'⟩ := Vals.get v2 k2
        have c1 : y1 = w1 := by simpa [m1] using p1.symm
        have c2 : y2 = w2 := by simpa [m2] using p2.symm
        subst c1
        subst c2
        exact ⟨by show 2 ≤ sizeLine; decide, [y1, y2], .cons r1' (.cons r2' .nil), _, by rw [← ehF]; exact Heap.get?_push_of_some _ p0, rfl, 0, rfl⟩
      · rw [at_b b hb ht] at e
        exact (I1.hok b u e).stay (fun c o _ q => kall c o q) (fun c q => same c _ q) fun c zs q => same c _ q
  have un : Un X.fs [] H1 H2 s1.heap hF := ⟨fun b o e _ _ _ => kall b o e, fun b o e _ _ _ => ⟨o.slots, kall b o e⟩, fun b o e n _ => by rw [below b (low e)]; exact n, fun b o e _ => ⟨o, kall b o e⟩, fun b zs e => same b _ e, fun b o u e => same b _ e, fun b ps e => ⟨#[], by rw [same b _ e]; simp⟩⟩
  exact ⟨.ref P, H2, I1.un (t' := tk) un hok, rfl, q P ts H2 same at_P (zps_of tl hxy at_t)⟩
end
end L2

set_option Elab.async false
set_option linter.all false
set_option maxRecDepth 100000
set_option maxHeartbeats 2000000
namespace Fd
open PySem PySem.Spec PyProof.Rows L2
def top (i : Nat) : Stmt := PySem.Challenge.pw_figuredeeds_k28_rests_that_fall.main.body.getD i (.Pass ⟨0, 0, 0, 0⟩)
/-! ### defs by their names -/
structure Df (K : PySem.W.Frag) (mg : Str → Option Value) (x : Str) (st : Stmt) (ps : List Str) (f : Addr) (fd : FuncData) : Prop where
  F : Fun K x x st f fd
  m : mg x = some (.ref f)
  b : Binds K fd ps []
/-- the def that the module's name x holds keeps sp -/
def FnG (P : Program) (w : World) (K : PySem.W.Frag) (mg : Str → Option Value) (base : Heap) (CX : CXT) (k : Nat) (x : Str) (ps : List Str) (sp : Sp) : Prop :=
  ∃ f fd, FnOk P w K mg base CX k f fd ps sp ∧ mg x = some (.ref f) ∧ PySem.W.keepIn K (.ref f) = true ∧ Binds K fd ps []
theorem Df.g {P : Program} {w : World} {K : PySem.W.Frag} {mg : Str → Option Value} {base : Heap} {CX : CXT} {k : Nat} {x : Str} {st : Stmt} {ps : List Str} {f : Addr} {fd : FuncData} {sp : Sp}
    (D : Df K mg x st ps f fd) (G : FnOk P w K mg base CX k f fd ps sp) : FnG P w K mg base CX k x ps sp := ⟨f, fd, G, D.m, D.F.kp, D.b⟩
/-! ### heaps -/
/-- all that was tracked stands, but for what is at a -/
def But (a : Addr) (H H' : Hp) : Prop := ∀ b o, b ≠ a → H b = some o → H' b = some o
theorem But.refl (a : Addr) (H : Hp) : But a H H := fun _ _ _ h => h
theorem But.trans {a : Addr} {H H1 H2 : Hp} (x : But a H H1) (y : But a H1 H2) : But a H H2 := fun b o n h => y b o n (x b o n h)
theorem But.of {a : Addr} {H H' : Hp} (s : Same H H') : But a H H' := fun b o _ h => s b o h
theorem But.upd {a : Addr} {H : Hp} {o : HO} : But a H (upd H a o) := fun b u n h => by rw [upd_ne n]; exact h
theorem same_upd {H : Hp} {p : Addr} {o : HO} (h : H p = none) : Same H (upd H p o) := fun b x e => by
  rw [upd_ne (ne_of_none e h)]
  exact e
theorem But.get {a b : Addr} {H H' : Hp} {o u : HO} (s : But a H H') (ha : H a = some u) (hb : H b = some o) (d : o ≠ u) : H' b = some o := s b o (ne_of hb ha d) hb
/-- an if whose both ways come to a value of which R holds, the heap as it was -/
theorem ifE {c : Prop} [Decidable c] {ta tb : TE} {σ : L2.St} {H : Hp} {Q : VK} (R : V → Prop) (h1 : c → ∃ v, R v ∧ ∀ Q' : VK, Q' v H → ta σ H Q') (h2 : ¬ c → ∃ v, R v ∧ ∀ Q' : VK, Q' v H → tb σ H Q')
    (h : ∀ v, R v → Q v H) : if c then ta σ H Q else tb σ H Q := by
  by_cases hc : c
  · rw [if_pos hc]
    obtain ⟨v, r, k⟩ := h1 hc
    exact k Q (h v r)
  · rw [if_neg hc]
    obtain ⟨v, r, k⟩ := h2 hc
    exact k Q (h v r)
theorem ixN_is {n j : Nat} (h : j < n) : ixN n (j : Int) = some j := by
  unfold ixN
  rw [if_pos (by omega), if_pos (by omega), Int.toNat_natCast]
theorem cut_to (xs : List V) (m : Nat) : cutV xs none (some (m : Int)) = xs.take m := by
  unfold cutV
  rw [HT.sIx_none, HT.sIx_nat, List.drop_zero, Nat.sub_zero]
  by_cases h : m ≤ xs.length
  · rw [Nat.min_eq_left h]
  · rw [Nat.min_eq_right (by omega), List.take_of_length_le (Nat.le_refl _), List.take_of_length_le (by omega)]
theorem cut_mid (xs : List V) (m n : Nat) : cutV xs (some (m : Int)) (some (n : Int)) = (xs.drop m).take (min n xs.length - min m xs.length) := by
  unfold cutV
  rw [HT.sIx_nat, HT.sIx_nat]
  by_cases h : m ≤ xs.length
  · rw [Nat.min_eq_left h]
  · rw [Nat.min_eq_right (by omega : xs.length ≤ m), List.drop_eq_nil_of_le (Nat.le_refl _), List.drop_eq_nil_of_le (by omega)]
theorem dpAll_ints {K : PySem.W.Frag} {H : Hp} : ∀ ms : List Int, DpAll K H (ms.map V.int) (ms.map PyData.int)
  | [] => .nil
  | m :: r => .cons (.int m) (dpAll_ints r)
theorem lay_ints : ∀ ms : List Int, PyData.canLayAll0 (ms.map PyData.int) = true
  | [] => rfl
  | m :: r => by show (true && PyData.canLayAll0 (r.map PyData.int)) = true; rw [lay_ints r]; rfl
theorem deep_ints : ∀ ms : List Int, PyData.depthAll (ms.map PyData.int) = 0
  | [] => rfl
  | m :: r => by show max 0 (PyData.depthAll (r.map PyData.int)) = 0; rw [deep_ints r]; rfl
theorem shaped_ints (ms : List Int) : SeqAt.shaped (.list (ms.map PyData.int)) = true := by
  unfold SeqAt.shaped
  rw [show (PyData.list (ms.map PyData.int)).canLay0 = PyData.canLayAll0 (ms.map PyData.int) from rfl, lay_ints,
    show (PyData.list (ms.map PyData.int)).depth = PyData.depthAll (ms.map PyData.int) + 1 from rfl, deep_ints]
  rfl
/-! ### the heap without some -/
def rmL (as : List Addr) (H : Hp) : Hp := fun b => if b ∈ as then none else H b
theorem rmL_at {as : List Addr} {b : Addr} {H : Hp} (h : b ∉ as) : rmL as H b = H b := if_neg h
theorem rmL_in {as : List Addr} {b : Addr} {H : Hp} (h : b ∈ as) : rmL as H b = none := if_pos h
theorem rmL_less {as bs : List Addr} {H : Hp} (h : ∀ b ∈ as, b ∈ bs) : Same (rmL bs H) (rmL as H) := fun b o q => by
  by_cases e : b ∈ bs
  · rw [rmL_in e] at q; cases q
  · rw [rmL_at e] at q
    rw [rmL_at (fun z => e (h b z))]
    exact q
theorem rmL_upd {as : List Addr} {D : Addr} {o : HO} {H : Hp} (h : D ∈ as) : rmL as (upd H D o) = rmL as H := funext fun b => by
  by_cases e : b ∈ as
  · rw [rmL_in e, rmL_in e]
  · rw [rmL_at e, rmL_at e, upd_ne (fun z => e (by rw [z]; exact h))]
/-- all that was tracked stands, but for some -/
def ButL (as : List Addr) (H H' : Hp) : Prop := ∀ b o, b ∉ as → H b = some o → H' b = some o
theorem ButL.trans {as : List Addr} {H H1 H2 : Hp} (x : ButL as H H1) (y : ButL as H1 H2) : ButL as H H2 := fun b o n h => y b o n (x b o n h)
theorem ButL.of {a : Addr} {as : List Addr} {H H' : Hp} (s : But a H H') (h : a ∈ as) : ButL as H H' := fun b o n q => s b o (fun z => n (by rw [z]; exact h)) q
theorem ButL.same {as : List Addr} {H H' : Hp} (s : Same H H') : ButL as H H' := fun b o _ q => s b o q
theorem ButL.more {as bs : List Addr} {H H' : Hp} (s : ButL as H H') (h : ∀ b ∈ as, b ∈ bs) : ButL bs H H' := fun b o n q => s b o (fun z => n (h b z)) q
theorem ButL.one {a : Addr} {H H' : Hp} (s : ButL [a] H H') : But a H H' := fun b o n q => s b o (fun z => n (List.mem_singleton.mp z)) q
theorem rmL_but {as : List Addr} {H H' : Hp} (s : ButL as H H') : Same (rmL as H) (rmL as H') := fun b o q => by
  by_cases e : b ∈ as
  · rw [rmL_in e] at q; cases q
  · rw [rmL_at e] at q ⊢
    exact s b o e q

/-! ### the drawer: its cells and its turn, drawn from at most n times -/
def Dr (H : Hp) (a c : Addr) (n : Nat) : Prop := ∃ (t : Int) (ns : List Int), H a = some (.dK [(Sum.inr "cells", .ref c), (Sum.inr "turn", .int t)]) ∧ H c = some (.lst (ns.map V.int)) ∧ ns ≠ [] ∧ ns.length ≤ 63 ∧ 0 ≤ t ∧ t ≤ n
theorem Dr.same {H H' : Hp} {a c : Addr} {n : Nat} (b : Dr H a c n) (s : Same H H') : Dr H' a c n := by
  obtain ⟨t, ns, h1, h2, r⟩ := b
  exact ⟨t, ns, s _ _ h1, s _ _ h2, r⟩
theorem Dr.le {H : Hp} {a c : Addr} {n m : Nat} (b : Dr H a c n) (h : n ≤ m) : Dr H a c m := by
  obtain ⟨t, ns, h1, h2, h3, h4, h5, h6⟩ := b
  exact ⟨t, ns, h1, h2, h3, h4, h5, by omega⟩
theorem Dr.in_ {H : Hp} {a c : Addr} {n : Nat} (b : Dr H a c n) : ∀ d ∈ [a, c], ∃ u, H d = some u := fun d hd => by
  obtain ⟨t, ns, h1, h2, _⟩ := b
  rcases List.mem_cons.mp hd with z | z
  · rw [z]; exact ⟨_, h1⟩
  · rw [List.mem_singleton.mp z]; exact ⟨_, h2⟩
theorem Dr.ne {H : Hp} {a c d : Addr} {n : Nat} (b : Dr H a c n) (h : H d = none) : d ∉ [a, c] := fun z => by
  obtain ⟨u, hu⟩ := b.in_ d z
  rw [h] at hu
  cases hu
section
variable {P : Program} {w : World} {K : PySem.W.Frag} {mg : Str → Option Value} {base : Heap} {f : Addr} {fd : FuncData}
/-! ### _law_begin -/
abbrev sBegin : Stmt := top 47
theorem scBegin : FnScope ["_law_script", "_law_cells"] ["_law_script"] (defScope sBegin) := ⟨rfl, rfl, rfl, by decide +kernel, rfl, by decide +kernel, by decide +kernel⟩
def spBegin (K : PySem.W.Frag) : Sp := fun vs H Q _ => ∃ (a : Addr) (ns : List Int), vs = [.ref a] ∧ SqL K H a (ns.map V.int) ∧ ns.length ≤ 63 ∧ ∀ p c H', Same H H' → H p = none → Dr H' p c 0 → Q (.ref p) H'
theorem ok_begin {k : Nat} (F : Fun K "_law_begin" "_law_begin" sBegin f fd) (m_list : mg "list" = none) : FnOk P w K mg base CX0 (k + 1) f fd ["_law_script"] (spBegin K) := by
  have sc := scBegin
  refine F.ok sc (fun vs H Q E h => ?_) (fun cdv A outer s H vs Q E hr h => ?_)
  · obtain ⟨a, ns, rfl, _⟩ := h
    rfl
  obtain ⟨a, ns, rfl, hS, hl, q⟩ := h
  refine ⟨_, (pss_cons (ps_set (i := 1) sc.nd rfl (.inl rfl) (pe_callTy call_list_of (by rfl) m_list (by decide +kernel) (pa_cons (pe_slice sl_list (pv 0) po_none (po_some pe_int)) pa_nil)))
      (pss_cons (ps_if (pt_cmpR (op_eqD hr.units) (pv 1) (pe_lst pa_nil) (nomark _)) (pss_one (ps_set (i := 1) sc.nd rfl (.inl rfl) (pe_lst (pa_cons pe_int pa_nil)))) pss_nil)
      (pss_one (ps_ret (pe_disp (pps_cons pe_str (pv 1) (pps_cons pe_str pe_int pps_nil)) rfl rfl (by decide) (by decide)))))), ?_⟩
  refine ⟨_, rfl, 63, rfl, a, _, rfl, hS, fun c nc => ?_⟩
  rw [show cutV (ns.map V.int) none (some 63) = ns.map V.int from (cut_to _ 63).trans (List.take_of_length_le (by rw [List.length_map]; exact hl))]
  refine ⟨c, _, rfl, .inl (SqL.of upd_same), fun p np => ?_⟩
  have s1 : Same H (upd H c (.lst (ns.map V.int))) := same_upd nc
  have s2 := s1.trans (same_upd (o := .lst (ns.map V.int)) np)
  refine ⟨_, rfl, by show 0 ≤ sizeLine; decide, fun t nt => ?_⟩
  have ht := same_upd (o := .lst []) nt
  have hp := ht _ _ (upd_same (a := p) (o := .lst (ns.map V.int)))
  have s3 := s2.trans ht
  refine ⟨.list (ns.map PyData.int), .list [], .lst (SqL.of hp) (dpAll_ints ns), .lst (SqL.of upd_same) .nil, shaped_ints ns, by decide, _, rfl, ?_⟩
  generalize upd (upd (upd H c (.lst (ns.map V.int))) p (.lst (ns.map V.int))) t (.lst []) = H3 at *
  have fin : ∀ (c' : Addr) (ms : List Int) (H4 : Hp), Same H3 H4 → H4 c' = some (.lst (ms.map V.int)) → ms ≠ [] → ms.length ≤ 63 → ∀ d, H4 d = none → upd H4 d (.dK []) d = some (.dK []) ∧ ∃ kvs : List (L2.Key × V), [(V.str "cells", V.ref c'), (V.str "turn", V.int 0)] = kvs.map (fun kv => (kV kv.1, kv.2)) ∧ kvs.length ≤ 15 ∧ Q (.ref d) (upd (upd H4 d (.dK [])) d (.dK (mergeK [] kvs))) := fun c' ms H4 s4 hc mn ml d nd => by
    refine ⟨upd_same, [(Sum.inr "cells", .ref c'), (Sum.inr "turn", .int 0)], rfl, (show 2 ≤ 15 by decide), ?_⟩
    have e : upd (upd H4 d (.dK [])) d (.dK (mergeK [] [(Sum.inr "cells", V.ref c'), (Sum.inr "turn", .int 0)])) = upd H4 d (.dK (mergeK [] [(Sum.inr "cells", V.ref c'), (Sum.inr "turn", .int 0)])) := funext fun x => by
      by_cases z : x = d
      · rw [z, upd_same, upd_same]
      · rw [upd_ne z, upd_ne z, upd_ne z]
    rw [e]
    refine q d c' _ ((s3.trans s4).trans (same_upd nd)) ((s3.trans s4).free nd) ⟨0, ms, ?_, same_upd nd _ _ hc, mn, ml, Int.le_refl _, Int.le_refl _⟩
    rw [upd_same]
    rfl
  cases ns with
  | nil =>
    refine iteT ⟨by show 1 ≤ sizeLine; decide, fun u nu => ?_⟩
    intro d nd
    exact ⟨_, rfl, fin u [7] _ (same_upd nu) upd_same (by simp) (by decide) d nd⟩
  | cons x r =>
    refine iteF ?_
    intro d nd
    exact ⟨_, rfl, fin p (x :: r) _ (Same.refl _) hp (by simp) hl d nd⟩
/-! ### _law_take -/
abbrev sTake : Stmt := top 48
theorem scTake : FnScope ["_law_state", "_law_many", "_law_turn", "_law_place", "_law_cell", "_law_digit", "_law_mixed"] ["_law_state", "_law_many"] (defScope sTake) := ⟨rfl, rfl, rfl, by decide +kernel, rfl, by decide +kernel, by decide +kernel⟩
def spTake : Sp := fun vs H Q _ => ∃ (a c : Addr) (n : Nat) (m : Int), vs = [.ref a, .int m] ∧ Dr H a c n ∧ n ≤ 1000000 ∧ 0 < m ∧ m ≤ 100000 ∧
  ∀ r H', 0 ≤ r → r < m → ButL [a, c] H H' → Dr H' a c (n + 1) → Q (.int r) H'
theorem ok_take {k : Nat} (F : Fun K "_law_take" "_law_take" sTake f fd) (m_divmod : mg "divmod" = none) (m_len : mg "len" = none) : FnOk P w K mg base CX0 (k + 1) f fd ["_law_state", "_law_many"] spTake := by
  have sc := scTake
  refine F.ok sc (fun vs H Q E h => ?_) (fun cdv A outer s H vs Q E hr h => ?_)
  · obtain ⟨a, c, n, m, rfl, _⟩ := h
    rfl
  obtain ⟨a, c, n, m, rfl, hD, hn, m0, m1, q⟩ := h
  refine ⟨_, (pss_cons (ps_set (i := 2) sc.nd rfl (.inl rfl) (pe_op op_add (pe_dget (hu_of hr) (pv 0) pe_str (fun _ _ => rfl)) pe_int))
      (pss_cons (ps_dput (hu_of hr) (pv 0) pe_str (pv 2) rfl)
      (pss_cons (ps_set (i := 3) sc.nd rfl (.inl rfl) (pe_op op_mod (pv 2) (pe_callB call_len_seq (by rfl) m_len (by decide +kernel) (pa_cons (pe_dget (hu_of hr) (pv 0) pe_str (fun _ _ => rfl)) pa_nil))))
      (pss_cons (ps_set (i := 4) sc.nd rfl (.inl rfl) (pe_ix ix_list (pe_dget (hu_of hr) (pv 0) pe_str (fun _ _ => rfl)) (pv 3) (fun _ _ => rfl)))
      (pss_cons (ps_if (pt_cmpR op_ge (pv 4) (pe_op op_pow pe_int pe_int) (nomark _)) (pss_cons (ps_asg (pe_callB call_divmod (by rfl) m_divmod (by decide +kernel) (pa_cons (pv 4) (pa_cons (pv 1) pa_nil))) (pg_tup (by rfl) (pgs_cons (pg_sub (pe_dget (hu_of hr) (pv 0) pe_str (fun _ _ => rfl)) (pv 3) set_list) (pgs_cons (pg_name (i := 5) sc.nd rfl (.inl rfl)) pgs_nil))))
      (pss_one (ps_ret (pv 5)))) pss_nil)
      (pss_cons (ps_set (i := 6) sc.nd rfl (.inl rfl) (pe_op op_add (pe_op op_mod (pv 4) pe_int) (pe_op op_mul (pe_op op_mod (pe_op op_fdivW (pv 4) pe_int) pe_int) pe_int)))
      (pss_cons (ps_set (i := 6) sc.nd rfl (.inl rfl) (pe_op op_mod (pe_op op_mul (pe_op op_add (pe_op op_add (pv 6) (pe_op op_mul (pe_op op_mul (pv 2) (pv 2)) pe_int)) pe_int) pe_int) pe_int))
      (pss_cons (ps_set (i := 6) sc.nd rfl (.inl rfl) (pe_op op_mod (pe_op op_mul (pv 6) (pv 6)) pe_int))
      (pss_one (ps_ret (pe_op op_mod (pe_op op_fdivW (pe_op op_mod (pe_op op_mul (pe_op op_add (pv 6) (pe_op op_mul (pv 2) pe_int)) pe_int) pe_int) pe_int) (pv 1)))))))))))), ?_⟩
  obtain ⟨t, ns, ha, hc, n0, n63, t0, tn⟩ := hD
  have ca : c ≠ a := fun z => by rw [z, ha] at hc; cases hc
  refine ⟨_, rfl, a, .int t, rfl, DGet.k (k := Sum.inr "turn") ha, t, 1, rfl, rfl, ?_⟩
  refine ⟨_, rfl, _, rfl, a, _, rfl, DPut.k (k := Sum.inr "turn") ha (by show 2 < sizeLine; decide), ?_⟩
  have ha1 : upd H a (.dK (putK [(Sum.inr "cells", .ref c), (Sum.inr "turn", .int t)] (Sum.inr "turn") (.int (t + 1)))) a = some (.dK [(Sum.inr "cells", .ref c), (Sum.inr "turn", .int (t + 1))]) := upd_same
  have hc1 : upd H a (.dK (putK [(Sum.inr "cells", .ref c), (Sum.inr "turn", .int t)] (Sum.inr "turn") (.int (t + 1)))) c = some (.lst (ns.map V.int)) := by rw [upd_ne ca]; exact hc
  have b1 : ButL [a, c] H (upd H a (.dK (putK [(Sum.inr "cells", .ref c), (Sum.inr "turn", .int t)] (Sum.inr "turn") (.int (t + 1))))) := fun b o nb h => by rw [upd_ne (fun z => nb (by rw [z]; exact List.mem_cons_self ..))]; exact h
  generalize upd H a (.dK (putK [(Sum.inr "cells", .ref c), (Sum.inr "turn", .int t)] (Sum.inr "turn") (.int (t + 1)))) = H1 at *
  have nl : 0 < ns.length := List.length_pos_iff.mpr n0
  have N0 : (0 : Int) < ((ns.map V.int).length : Nat) := by rw [List.length_map]; omega
  obtain ⟨j, hj, ej⟩ : ∃ j : Nat, j < ns.length ∧ (t + 1) % ((ns.map V.int).length : Nat) = (j : Int) := by
    have h1 := Int.emod_lt_of_pos (t + 1) N0
    have h2 := Int.emod_nonneg (t + 1) (show (((ns.map V.int).length : Nat) : Int) ≠ 0 by omega)
    refine ⟨((t + 1) % ((ns.map V.int).length : Nat)).toNat, ?_, by omega⟩
    rw [List.length_map] at h1 ⊢
    omega
  refine ⟨_, rfl, _, rfl, a, .ref c, rfl, DGet.k (k := Sum.inr "cells") ha1, c, _, rfl, .inl (SqL.of hc1), _, _, rfl, rfl, N0, ?_⟩
  dsimp only
  rw [ej]
  have at1 : atI (ns.map V.int) (j : Int) = some (.int ns[j]) := atI_nat (by rw [List.getElem?_map, List.getElem?_eq_getElem hj]; rfl)
  refine ⟨_, rfl, a, .ref c, rfl, DGet.k (k := Sum.inr "cells") ha1, _, rfl, c, _, _, _, rfl, rfl, SqL.of hc1, at1, ?_⟩
  generalize ns[j] = cell
  refine ⟨_, rfl, 10, 18, rfl, rfl, ⟨by decide, by decide, by decide⟩, _, _, rfl, rfl, _, rfl, ite2 (fun g => ?_) (fun g => ?_)⟩
  · refine ⟨_, rfl, _, rfl, cell, m, rfl, ⟨m0, by omega⟩, fun p np => ?_⟩
    have e1 := same_upd (o := .tup [.int (cell / m), .int (cell % m)]) np
    refine ⟨p, _, rfl, .inl (.inl upd_same), rfl, _, _, rfl, _, rfl, a, .ref c, rfl, DGet.k (k := Sum.inr "cells") (e1 _ _ ha1), _, rfl, c, _, _, j, rfl, rfl, e1 _ _ hc1, ixN_is (by rw [List.length_map]; exact hj), _, _, rfl, rfl, _, rfl, ?_⟩
    refine q _ _ (Int.emod_nonneg _ (by omega)) (Int.emod_lt_of_pos _ m0) (fun b o nb h => ?_) ⟨t + 1, ns.set j (cell / m), ?_, ?_, ?_, ?_, by omega, by omega⟩
    · rw [upd_ne (fun z => nb (by rw [z]; exact List.mem_cons_of_mem _ (List.mem_singleton.mpr rfl)))]
      exact e1 _ _ (b1 _ _ nb h)
    · rw [upd_ne ca.symm]
      exact e1 _ _ ha1
    · rw [upd_same, List.map_set]
    · intro z
      have := congrArg List.length z
      rw [List.length_set, List.length_nil] at this
      omega
    · rw [List.length_set]; exact n63
  · refine ⟨_, rfl, cell, 2147483629, rfl, rfl, (show (0 : Int) < 2147483629 by decide), _, rfl, cell, 2147483629, rfl, rfl, wide_div (b := 31) (by decide) (by decide) (by decide) (by decide), _, 40009, rfl, rfl, (show (0 : Int) < 40009 by decide), _, 30011, rfl, rfl, .inr ⟨by decide, by decide⟩, _, _, rfl, rfl, ?_⟩
    dsimp only
    generalize cell % 2147483629 + cell / 2147483629 % 40009 * 30011 = x1
    refine ⟨_, rfl, _, rfl, _, rfl, t + 1, t + 1, rfl, rfl, .inl ⟨by omega, by omega⟩, _, 7919, rfl, rfl, .inr ⟨by decide, by decide⟩, _, _, rfl, rfl, _, 11, rfl, rfl, _, 48271, rfl, rfl, .inr ⟨by decide, by decide⟩, _, 2147483647, rfl, rfl, (show (0 : Int) < 2147483647 by decide), ?_⟩
    dsimp only
    generalize h2 : (x1 + (t + 1) * (t + 1) * 7919 + 11) * 48271 % 2147483647 = x2
    have p0 : 0 ≤ x2 := by rw [← h2]; exact Int.emod_nonneg _ (by decide)
    have p1 : x2 < 2147483647 := by rw [← h2]; exact Int.emod_lt_of_pos _ (by decide)
    refine ⟨_, rfl, _, rfl, x2, x2, rfl, rfl, .inl ⟨by omega, by omega⟩, _, 2147483587, rfl, rfl, (show (0 : Int) < 2147483587 by decide), ?_⟩
    dsimp only
    generalize x2 * x2 % 2147483587 = x3
    refine ⟨_, rfl, _, rfl, t + 1, 104729, rfl, rfl, .inr ⟨by decide, by decide⟩, _, _, rfl, rfl, _, 39373, rfl, rfl, .inr ⟨by decide, by decide⟩, _, 2147483629, rfl, rfl, (show (0 : Int) < 2147483629 by decide), _, 64, rfl, rfl, wide_div (b := 7) (by decide) (by decide) (by decide) (by decide), _, rfl, _, m, rfl, rfl, m0, ?_⟩
    exact q _ _ (Int.emod_nonneg _ (by omega)) (Int.emod_lt_of_pos _ m0) b1 ⟨t + 1, ns, ha1, hc1, n0, n63, by omega, by omega⟩
end
end Fd

set_option Elab.async false
set_option linter.all false
set_option maxRecDepth 100000
set_option maxHeartbeats 2000000
namespace Fd
open PySem PySem.Spec PyProof.Rows L2 RZ
theorem seqT {K : PySem.W.Frag} {H H' : Hp} {a : Addr} {xs : List V} (e : Same H H') (h : SqT K H a xs) : SqT K H' a xs := by
  rcases h with (h | ⟨o, h⟩) | h
  · exact .inl (.inl (e _ _ h))
  · exact .inl (.inr ⟨o, e _ _ h⟩)
  · exact .inr h
mutual
theorem dp_same {K : PySem.W.Frag} {H H' : Hp} (s : Same H H') : ∀ (d : PyData) (v : V), Dp K H v d → Dp K H' v d
  | .none, _, h => by cases h; exact .non
  | .bool b, _, h => by cases h; exact .bl b
  | .int i, _, h => by cases h; exact .int i
  | .str x, _, h => by cases h; exact .str x
  | .list ds, _, h => by cases h with | lst q r => exact .lst (s.seq q) (dpAll_same s ds _ r)
  | .tuple ds, _, h => by cases h with | tup q r => exact .tup (seqT s q) (dpAll_same s ds _ r)
  | .dict _, _, h => by cases h
theorem dpAll_same {K : PySem.W.Frag} {H H' : Hp} (s : Same H H') : ∀ (ds : List PyData) (vs : List V), DpAll K H vs ds → DpAll K H' vs ds
  | [], _, h => by cases h; exact .nil
  | d :: ds, _, h => by cases h with | cons q r => exact .cons (dp_same s d _ q) (dpAll_same s ds _ r)
end
theorem dpAll_len {K : PySem.W.Frag} {H : Hp} : ∀ {ds : List PyData} {vs : List V}, DpAll K H vs ds → vs.length = ds.length
  | [], _, h => by cases h; rfl
  | d :: ds, _, h => by cases h with | cons q r => rw [List.length_cons, List.length_cons, dpAll_len r]
theorem dpAll_at {K : PySem.W.Frag} {H : Hp} : ∀ {ds : List PyData} {vs : List V} {i : Nat} {v : V}, DpAll K H vs ds → vs[i]? = some v → ∃ d, ds[i]? = some d ∧ Dp K H v d
  | [], _, i, v, h, e => by cases h; simp at e
  | d :: ds, _, 0, v, h, e => by cases h with | cons q r => cases (Option.some.inj e); exact ⟨d, rfl, q⟩
  | d :: ds, _, i + 1, v, h, e => by cases h with | cons q r => exact dpAll_at (i := i) r e
/-- data without dicts, less than n deep, lists of at most 1000 -/
def OkD : Nat → PyData → Prop
  | 0, _ => False
  | _ + 1, .none => True
  | _ + 1, .bool _ => True
  | _ + 1, .int _ => True
  | _ + 1, .str _ => True
  | n + 1, .list ds => ds.length ≤ 1000 ∧ ∀ d ∈ ds, OkD n d
  | n + 1, .tuple ds => ds.length ≤ 1000 ∧ ∀ d ∈ ds, OkD n d
  | _ + 1, .dict _ => False
theorem qd {Q : VK} {H : Hp} {x : V} (h : Q (.bl true) H) : Q (.bl (decide (x = x))) H := by
  rw [decide_eq_true rfl]
  exact h
theorem all_rep : ∀ n : Nat, (List.replicate n true).all id = true
  | 0 => rfl
  | n + 1 => by rw [List.replicate_succ, List.all_cons, all_rep n]; rfl
theorem ty_lst {K : PySem.W.Frag} {H : Hp} {a : Addr} {xs : List V} (h : SqL K H a xs) : TyX K H (.ref a) (.type "list") := by
  rcases h with (h | ⟨o, h⟩) | ⟨o, _, _, h, c, _⟩
  · exact .base (.lst h)
  · exact .base (.frz h)
  · exact .kList h c
theorem ty_tup {K : PySem.W.Frag} {H : Hp} {a : Addr} {xs : List V} (h : SqT K H a xs) : TyX K H (.ref a) (.type "tuple") := by
  rcases h with (h | ⟨o, h⟩) | ⟨o, _, _, h, c, _⟩
  · exact .base (.tup h)
  · exact .fTuple h
  · exact .kTuple h c
theorem kitLT {K : PySem.W.Frag} {t : String} {b1 b2 : Bool} (h1 : kitB t "list" = some b1) (h2 : kitB t "tuple" = some b2) : PySem.W.kitAny K (.type t) [.type "list", .type "tuple"] = some (b1 || b2) := by
  cases b1 with
  | true => exact kitAny_cons (kit_ty h1) (fun z => nomatch z) (fun _ => rfl)
  | false =>
    refine kitAny_cons (kit_ty h1) (fun _ => ?_) (fun z => nomatch z)
    cases b2 with
    | true => exact kitAny_cons (kit_ty h2) (fun z => nomatch z) (fun _ => rfl)
    | false => exact kitAny_cons (kit_ty h2) (fun _ => rfl) (fun z => nomatch z)
theorem walk_zipT {K : PySem.W.Frag} {a b : Addr} {xs ys : List V} {n : Nat} (hn : n = min xs.length ys.length) : Walk (ItzT K a b) n (fun H => SqT K H a xs ∧ SqT K H b ys) (YPair (fun i => xs[i]?) (fun i => ys[i]?)) := by
  subst hn
  refine ⟨fun i _ hi q => ⟨xs, ys, xs[i]'(by omega), ys[i]'(by omega), q.1, q.2, List.getElem?_eq_getElem _, List.getElem?_eq_getElem _⟩, fun _ q => ⟨xs, ys, q.1, q.2, by omega⟩, fun i H v H' _ q y => ?_⟩
  obtain ⟨T, x, z, g1, g2, g3, g4, g5⟩ := y
  exact ⟨T, x, z, g1, g2, g3, g4 xs q.1, g5 ys q.2⟩
section
variable {X : Cx}
/-- text * number -/
theorem op_mul_str : OpR X (binaryOp .Mult) (fun x y H Q => ∃ z n, x = .str z ∧ y = .int n ∧ MulOk z n ∧ Q (.str (Txt.mul z n)) H) := by
  intro pins s σ H x y v u Q I rx ry h
  obtain ⟨z, n, rfl, rfl, hz, q⟩ := h
  obtain ⟨t, rfl⟩ := rx
  obtain ⟨t', rfl⟩ := ry
  exact SB.mul hz fun t' tk => ⟨.str (Txt.mul z n), H, I.tok _, ⟨_, rfl⟩, q⟩
end
/-! ### words -/
/-- one to eight letters a to z -/
def IsNm (z : Str) : Prop := 1 ≤ z.cps.size ∧ z.cps.size ≤ 8 ∧ ∀ c ∈ z.cps.toList, 97 ≤ c ∧ c ≤ 122
abbrev ltrs : Str := Str.ofString "abcdefghijklmnopqrstuvwxyz"
theorem ltrs_len : ltrs.cps.toList.length = 26 := by decide +kernel
theorem ltrs_all : ∀ c ∈ ltrs.cps.toList, 97 ≤ c ∧ c ≤ 122 := by decide +kernel
theorem ltrs_nodup : ltrs.cps.toList.Nodup := by decide +kernel
def ltr (i : Nat) : Nat := ltrs.cps.toList.getD i 0
theorem ltr_at {i : Nat} (h : i < 26) : ltrs.cps.toList[i]? = some (ltr i) := by
  have h' : i < ltrs.cps.toList.length := by rw [ltrs_len]; exact h
  unfold ltr
  rw [List.getD_eq_getElem?_getD, List.getElem?_eq_getElem h']
  rfl
theorem ltr_ok {i : Nat} (h : i < 26) : 97 ≤ ltr i ∧ ltr i ≤ 122 := ltrs_all _ (List.mem_of_getElem? (ltr_at h))
theorem ltr_inj {i j : Nat} (hi : i < 26) (hj : j < 26) (e : ltr i = ltr j) : i = j := nd_ix ltrs_nodup (ltr_at hi) (by rw [e]; exact ltr_at hj)
theorem ltr_atI {i : Int} (h0 : 0 ≤ i) (h : i < 26) : atI ltrs.cps.toList i = some (ltr i.toNat) := by
  have e : i = ((i.toNat : Nat) : Int) := by omega
  rw [e]
  exact atI_nat (by rw [Int.toNat_natCast]; exact ltr_at (by omega))
theorem ltrs_fit : ltrs.length ≤ sizeLine := by decide +kernel
theorem nodup_of {α : Type} {f : Nat → α} {m : Nat} (h : ∀ i j, i < j → j < m → f i ≠ f j) : ((List.range m).map f).Nodup := by
  refine List.pairwise_iff_getElem.mpr fun i j hi hj hij => ?_
  rw [List.length_map, List.length_range] at hi hj
  rw [List.getElem_map, List.getElem_map, List.getElem_range, List.getElem_range]
  exact h i j hij hj
/-- the k-th word of one letter told k + 1 times -/
def rep (c : Nat) (k : Nat) : Str := Txt.mul ⟨#[c]⟩ ((k : Int) + 1)
theorem fold_app (c : Nat) : ∀ (n : Nat) (acc : Array Nat), ((List.replicate n (#[c] : Array Nat)).foldl (· ++ ·) acc).toList = acc.toList ++ List.replicate n c
  | 0, acc => by simp
  | n + 1, acc => by
    rw [List.replicate_succ, List.foldl_cons, fold_app c n, Array.toList_append, List.replicate_succ, List.append_assoc]
    rfl
theorem rep_codes (c k : Nat) : (rep c k).cps.toList = List.replicate (k + 1) c := by
  unfold rep Txt.mul
  rw [if_neg (by omega)]
  by_cases h : k = 0
  · subst h
    rfl
  · have e : (((k : Int) + 1 == 1) || ((⟨#[c]⟩ : Str).length == 0)) = false := by
      rw [show ((k : Int) + 1 == 1) = false from beq_eq_false_iff_ne.mpr (by omega)]
      rfl
    rw [e, if_neg Bool.false_ne_true, show ((k : Int) + 1).toNat = k + 1 by omega]
    exact (fold_app c (k + 1) #[]).trans (List.nil_append _)
theorem rep_ok {c k : Nat} (hk : k < 7) : MulOk ⟨#[c]⟩ ((k : Int) + 1) := by
  refine ⟨?_, fun _ _ => ?_, fun _ _ => ?_⟩
  · rw [decide_eq_false (by omega), decide_eq_false (by omega)]
    rfl
  · show ¬ ((1 : Int) > (2 ^ 63 - 1) / ((k : Int) + 1))
    have : k = 0 ∨ k = 1 ∨ k = 2 ∨ k = 3 ∨ k = 4 ∨ k = 5 ∨ k = 6 := by omega
    rcases this with rfl | rfl | rfl | rfl | rfl | rfl | rfl <;> decide
  · rw [show (⟨#[c]⟩ : Str).length * ((k : Int) + 1).toNat = k + 1 by show 1 * _ = _; omega]
    have : k = 0 ∨ k = 1 ∨ k = 2 ∨ k = 3 ∨ k = 4 ∨ k = 5 ∨ k = 6 := by omega
    rcases this with rfl | rfl | rfl | rfl | rfl | rfl | rfl <;> decide +kernel
theorem rep_nm {c k : Nat} (hc : 97 ≤ c ∧ c ≤ 122) (hk : k < 7) : IsNm (rep c k) := by
  have l : (rep c k).cps.size = k + 1 := by rw [← Array.length_toList, rep_codes, List.length_replicate]
  refine ⟨by omega, by omega, fun x hx => ?_⟩
  rw [rep_codes] at hx
  rw [List.eq_of_mem_replicate hx]
  exact hc
theorem rep_ne {c i j : Nat} (h : i < j) : rep c i ≠ rep c j := fun e => by
  have := congrArg (fun z : Str => z.cps.toList.length) e
  simp only [rep_codes, List.length_replicate] at this
  omega
/-- a stem with one letter put in -/
def put1 (z : Str) (at_ : Int) (c : Nat) : Str := cutS z none (some at_) ++ ⟨#[c]⟩ ++ cutS z (some at_) none
theorem put1_codes {z : Str} {n : Nat} (h : n ≤ z.length) (c : Nat) : (put1 z (n : Int) c).cps.toList = z.cps.toList.take n ++ c :: z.cps.toList.drop n := by
  have l : z.cps.toList.length = z.length := Array.length_toList
  have e1 : (cutS z none (some (n : Int))).cps.toList = z.cps.toList.take n := by
    show ((z.cps.toList.drop (HT.sIx z.length 0 none)).take (HT.sIx z.length z.length (some (n : Int)) - HT.sIx z.length 0 none)) = _
    rw [HT.sIx_none, HT.sIx_nat, Nat.min_eq_left h]
    rfl
  have e2 : (cutS z (some (n : Int)) none).cps.toList = z.cps.toList.drop n := by
    show ((z.cps.toList.drop (HT.sIx z.length 0 (some (n : Int)))).take (HT.sIx z.length z.length none - HT.sIx z.length 0 (some (n : Int)))) = _
    rw [HT.sIx_none, HT.sIx_nat, Nat.min_eq_left h]
    exact List.take_of_length_le (by rw [List.length_drop, l]; exact Nat.le_refl _)
  show ((cutS z none (some (n : Int))).cps ++ #[c] ++ (cutS z (some (n : Int)) none).cps).toList = _
  rw [Array.toList_append, Array.toList_append, e1, e2, List.append_assoc]
  rfl
theorem put1_nm {z : Str} {n c : Nat} (h : n ≤ z.length) (hz : z.length ≤ 7) (hs : ∀ x ∈ z.cps.toList, 97 ≤ x ∧ x ≤ 122) (hc : 97 ≤ c ∧ c ≤ 122) : IsNm (put1 z (n : Int) c) := by
  have l0 : z.cps.toList.length = z.length := Array.length_toList
  have l : (put1 z (n : Int) c).cps.size = z.length + 1 := by
    rw [← Array.length_toList, put1_codes h, List.length_append, List.length_cons, List.length_take, List.length_drop, l0]
    omega
  refine ⟨by omega, by omega, fun x hx => ?_⟩
  rw [put1_codes h] at hx
  rcases List.mem_append.mp hx with q | q
  · exact hs _ (List.mem_of_mem_take q)
  · rcases List.mem_cons.mp q with q | q
    · rw [q]; exact hc
    · exact hs _ (List.mem_of_mem_drop q)
theorem put1_ne {z : Str} {n c c' : Nat} (h : n ≤ z.length) (hc : c ≠ c') : put1 z (n : Int) c ≠ put1 z (n : Int) c' := fun e => by
  have q := congrArg (fun z : Str => z.cps.toList) e
  simp only [put1_codes h] at q
  exact hc (List.cons.inj (List.append_cancel_left q)).1
abbrev one (c : Nat) : Str := ⟨#[c]⟩
theorem glue1 : ∀ (cs : List Nat) (acc : Array Nat), ((cs.map one).foldl (fun acc p => acc ++ (Str.ofString "").cps ++ p.cps) acc).toList = acc.toList ++ cs
  | [], acc => by simp
  | c :: cs, acc => by
    rw [List.map_cons, List.foldl_cons, glue1 cs, Array.toList_append, Array.toList_append, show (Str.ofString "").cps.toList = [] by decide +kernel, List.append_nil, List.append_assoc]
    rfl
theorem join1 : ∀ cs : List Nat, (Txt.join (Str.ofString "") (cs.map one)).cps.toList = cs
  | [] => rfl
  | c :: cs => glue1 cs #[c]
theorem ifT {c : Prop} [Decidable c] {A B : Prop} (hc : c) (h : A) : if decide c = true then A else B := by
  rw [if_pos (decide_eq_true hc)]
  exact h
theorem ifF {c : Prop} [Decidable c] {A B : Prop} (hc : ¬ c) (h : B) : if decide c = true then A else B := by
  rw [decide_eq_false hc, if_neg Bool.false_ne_true]
  exact h
theorem iteB {b : Bool} {A B : Prop} (h : b = true) (a : A) : if b = true then A else B := by subst h; exact iteT a
theorem iteBF {b : Bool} {A B : Prop} (h : b = false) (a : B) : if b = true then A else B := by subst h; exact iteF a
theorem laid_at {H : Hp} {p : Addr} (o : HO) (_ : H p = none) : upd H p o p = some o := upd_same
theorem rmL_sub {as : List Addr} {H : Hp} : Same (rmL as H) H := fun b o h => by
  by_cases e : b ∈ as
  · rw [rmL_in e] at h; cases h
  · rw [rmL_at e] at h; exact h
theorem rmL_new {as : List Addr} {p : Addr} {o : HO} {H : Hp} (h : ∀ b ∈ as, ∃ u, H b = some u) (np : H p = none) : rmL as (upd H p o) p = some o := by
  rw [rmL_at (fun z => by obtain ⟨u, hu⟩ := h p z; rw [np] at hu; cases hu)]
  exact upd_same
theorem rmL_same {as : List Addr} {H H' : Hp} (s : Same H H') : Same (rmL as H) (rmL as H') := rmL_but (.same s)
theorem rmL_nil {H : Hp} : rmL [] H = H := funext fun b => if_neg (by simp)
theorem cutS_1 (z : Str) (h : 1 ≤ z.length) : ∃ c, z.cps.toList[0]? = some c ∧ (cutS z none (some 1)).cps.toList = [c] := by
  have l : z.cps.toList.length = z.length := Array.length_toList
  obtain ⟨x, r, e⟩ : ∃ x r, z.cps.toList = x :: r := List.exists_cons_of_length_pos (by omega)
  refine ⟨x, by rw [e]; rfl, ?_⟩
  show ((z.cps.toList.drop (HT.sIx z.length 0 none)).take (HT.sIx z.length z.length (some 1) - HT.sIx z.length 0 none)) = _
  rw [HT.sIx_none, show (1 : Int) = ((1 : Nat) : Int) from rfl, HT.sIx_nat, Nat.min_eq_left h, e]
  rfl
theorem cutS_1n (z : Str) (h : z.length = 0) : (cutS z none (some 1)).cps.toList = [] := by
  have l : z.cps.toList.length = z.length := Array.length_toList
  show ((z.cps.toList.drop (HT.sIx z.length 0 none)).take (HT.sIx z.length z.length (some 1) - HT.sIx z.length 0 none)) = _
  rw [List.eq_nil_of_length_eq_zero (l.trans h), List.drop_nil, List.take_nil]
/-- the first sign of a stem, then a word of one letter -/
theorem first_nm {z : Str} {c k : Nat} (hz : z.length ≤ 7) (hs : ∀ x ∈ z.cps.toList, 97 ≤ x ∧ x ≤ 122) (hc : 97 ≤ c ∧ c ≤ 122) (hk : k < 7) : IsNm (cutS z none (some 1) ++ rep c k) := by
  have e : (cutS z none (some 1) ++ rep c k).cps.toList = (cutS z none (some 1)).cps.toList ++ List.replicate (k + 1) c := by
    show ((cutS z none (some 1)).cps ++ (rep c k).cps).toList = _
    rw [Array.toList_append, rep_codes]
  have l : (cutS z none (some 1) ++ rep c k).cps.size = (cutS z none (some 1)).cps.toList.length + (k + 1) := by rw [← Array.length_toList, e, List.length_append, List.length_replicate]
  have ok : (cutS z none (some 1)).cps.toList.length ≤ 1 ∧ ∀ x ∈ (cutS z none (some 1)).cps.toList, 97 ≤ x ∧ x ≤ 122 := by
    by_cases h : 1 ≤ z.length
    · obtain ⟨d, h1, h2⟩ := cutS_1 z h
      rw [h2]
      exact ⟨Nat.le_refl _, fun x hx => by rw [List.mem_singleton.mp hx]; exact hs d (List.mem_of_getElem? h1)⟩
    · rw [cutS_1n z (by omega)]
      exact ⟨Nat.zero_le _, fun x hx => by cases hx⟩
  refine ⟨by omega, by have := ok.1; omega, fun x hx => ?_⟩
  rw [e] at hx
  rcases List.mem_append.mp hx with q | q
  · exact ok.2 x q
  · rw [List.eq_of_mem_replicate q]; exact hc
/-! ### a word and, where there is room, one sign more -/
def pTail (n : Nat) : Str := cutS "p" none (some (8 - (n : Int)))
def pn (z : Str) : Str := z ++ pTail z.length
theorem pTail_codes {n : Nat} (h : n ≤ 8) : (pTail n).cps.toList = ([112] : List Nat).take (8 - n) := by
  unfold pTail
  rw [show (8 - (n : Int)) = ((8 - n : Nat) : Int) by omega]
  show (((Str.ofString "p").cps.toList.drop (HT.sIx (Str.ofString "p").length 0 none)).take (HT.sIx (Str.ofString "p").length (Str.ofString "p").length (some ((8 - n : Nat) : Int)) - HT.sIx (Str.ofString "p").length 0 none)) = _
  rw [HT.sIx_none, HT.sIx_nat, List.drop_zero, Nat.sub_zero, show (Str.ofString "p").length = 1 by decide +kernel, show (Str.ofString "p").cps.toList = [112] by decide +kernel]
  cases 8 - n with
  | zero => rfl
  | succ m => rw [Nat.min_eq_right (by omega)]; cases m <;> rfl
theorem pn_codes {z : Str} (h : z.length ≤ 8) : (pn z).cps.toList = z.cps.toList ++ ([112] : List Nat).take (8 - z.length) := by
  show (z.cps ++ (pTail z.length).cps).toList = _
  rw [Array.toList_append, pTail_codes h]
theorem pn_nm {z : Str} (h : IsNm z) : IsNm (pn z) := by
  have hl : z.length ≤ 8 := h.2.1
  have l : (pn z).cps.size = z.cps.size + (([112] : List Nat).take (8 - z.length)).length := by rw [← Array.length_toList, pn_codes hl, List.length_append, Array.length_toList]
  have t : (([112] : List Nat).take (8 - z.length)).length = min (8 - z.length) 1 := List.length_take
  have e : z.cps.size = z.length := rfl
  refine ⟨by have := h.1; omega, by omega, fun c hc => ?_⟩
  rw [pn_codes hl] at hc
  rcases List.mem_append.mp hc with y | y
  · exact h.2.2 c y
  · rw [List.mem_singleton.mp (List.mem_of_mem_take y)]; decide
/-- the first three words, each with one sign more, are unlike -/
def Apart (ws : List Str) : Prop := ∀ (i j : Nat) (u v : Str), i < j → j < 3 → ws[i]? = some u → ws[j]? = some v → pn u ≠ pn v
theorem apart_len {u v : Str} (h : u.length < v.length) (hv : v.length ≤ 7) : pn u ≠ pn v := fun e => by
  have q := congrArg (fun z : Str => z.cps.toList.length) e
  have t : ∀ z : Str, z.length ≤ 7 → (([112] : List Nat).take (8 - z.length)).length = 1 := fun z hz => by rw [List.length_take]; show min (8 - z.length) 1 = 1; omega
  simp only [pn_codes (show u.length ≤ 8 by omega), pn_codes (show v.length ≤ 8 by omega), List.length_append, t u (by omega), t v hv, Array.length_toList] at q
  have e1 : u.cps.size = u.length := rfl
  have e2 : v.cps.size = v.length := rfl
  omega
theorem apart_put {z : Str} {n c c' : Nat} (h : n ≤ z.length) (hz : z.length ≤ 7) (hc : c ≠ c') : pn (put1 z (n : Int) c) ≠ pn (put1 z (n : Int) c') := fun e => by
  have l0 : z.cps.toList.length = z.length := Array.length_toList
  have len : ∀ d, (put1 z (n : Int) d).length = z.length + 1 := fun d => by
    show (put1 z (n : Int) d).cps.size = _
    rw [← Array.length_toList, put1_codes h, List.length_append, List.length_cons, List.length_take, List.length_drop, l0]
    omega
  have q := congrArg (fun z : Str => z.cps.toList) e
  simp only [pn_codes (show (put1 z (n : Int) c).length ≤ 8 by rw [len]; omega), pn_codes (show (put1 z (n : Int) c').length ≤ 8 by rw [len]; omega), len, put1_codes h] at q
  exact hc (List.cons.inj (List.append_cancel_left (List.append_cancel_right q))).1
section
variable {P : Program} {w : World} {K : PySem.W.Frag} {mg : Str → Option Value} {base : Heap} {f : Addr} {fd : FuncData}
/-! ### _law_names -/
abbrev sNames : Stmt := top 49
theorem scNames : FnScope ["_law_state", "_law_many", "_law_letters", "_law_stem", "_law_turn", "_law_at", "_law_start_at", "_law_k"] ["_law_state", "_law_many"] (defScope sNames) := ⟨rfl, rfl, rfl, by decide +kernel, rfl, by decide +kernel, by decide +kernel⟩
-- ["_law_state", "_law_many", "_law_letters", "_law_stem", "_law_turn", "_law_at", "_law_start_at", "_law_k"]
def spNames : Sp := fun vs H Q _ => ∃ (a c : Addr) (n : Nat), vs = [.ref a, .int 7] ∧ Dr H a c n ∧ n + 12 ≤ 1000000 ∧
  ∀ (p : Addr) (ws : List Str) (H' : Hp), ButL [a, c] H H' → Dr H' a c (n + 12) → rmL [a, c] H' p = some (.lst (ws.map V.str)) → ws.length = 7 → (∀ z ∈ ws, IsNm z) → Apart ws → Q (.ref p) H'
theorem ok_names {k : Nat} (F : Fun K "_law_names" "_law_names" sNames f fd) (G : FnG P w K mg base CX0 k "_law_take" ["_law_state", "_law_many"] spTake) (m_len : mg "len" = none) (m_range : mg "range" = none) :
    FnOk P w K mg base CX0 (k + 1) f fd ["_law_state", "_law_many"] spNames := by
  obtain ⟨_, _, G__law_take, m__law_take, k__law_take, b__law_take⟩ := G
  have sc := scNames
  refine F.ok sc (fun vs H Q E h => ?_) (fun cdv A outer s H vs Q E hr h => ?_)
  · obtain ⟨a, c, n, rfl, _⟩ := h
    rfl
  obtain ⟨a, c, n, rfl, hD, hn, q⟩ := h
  refine ⟨_, (pss_cons (ps_asg (pe_tup (pa_cons pe_str (pa_cons pe_str pa_nil))) (pg_tup (by rfl) (pgs_cons (pg_name (i := 2) sc.nd rfl (.inr rfl)) (pgs_cons (pg_name (i := 3) sc.nd rfl (.inr rfl)) pgs_nil))))
      (pss_cons (ps_for PassesOwn.never rfl (pi_range1 (by rfl) m_range (pa_cons (pe_call G__law_take (hr.mono (by omega)) (by rfl) m__law_take k__law_take b__law_take .nil pass0 (pa_cons (pv 0) (pa_cons pe_int pa_nil))) pa_nil)) (pg_name (i := 4) sc.nd rfl (.inl rfl)) (pss_one (ps_set (i := 3) sc.nd rfl (.inr rfl) (pe_op op_add_str (pv 3) (pe_ix ix_str (pv 2) (pe_call G__law_take (hr.mono (by omega)) (by rfl) m__law_take k__law_take b__law_take .nil pass0 (pa_cons (pv 0) (pa_cons pe_int pa_nil))) (fun _ _ => rfl))))))
      (pss_cons (ps_asg (pe_tup (pa_cons (pe_call G__law_take (hr.mono (by omega)) (by rfl) m__law_take k__law_take b__law_take .nil pass0 (pa_cons (pv 0) (pa_cons (pe_op op_add (pe_callB call_len_str (by rfl) m_len (by decide +kernel) (pa_cons (pv 3) pa_nil)) pe_int) pa_nil))) (pa_cons (pe_call G__law_take (hr.mono (by omega)) (by rfl) m__law_take k__law_take b__law_take .nil pass0 (pa_cons (pv 0) (pa_cons pe_int pa_nil))) pa_nil))) (pg_tup (by rfl) (pgs_cons (pg_name (i := 5) sc.nd rfl (.inr rfl)) (pgs_cons (pg_name (i := 6) sc.nd rfl (.inr rfl)) pgs_nil))))
      (pss_cons (ps_if (PW.pt (pw_and (pt_cmpR op_lt (pv 1) pe_int (nomark _)) (pw_and1 (pt_cmpR op_eq (pe_call G__law_take (hr.mono (by omega)) (by rfl) m__law_take k__law_take b__law_take .nil pass0 (pa_cons (pv 0) (pa_cons pe_int pa_nil))) pe_int (nomark _))))) (pss_one (ps_ret (pe_lc (own := [("_law_k", 7)]) (by rfl) sc.nd  (pi_range1 (by rfl) m_range (pa_cons (pv 1) pa_nil)) (blkOk_by (own := [("_law_k", 7)]) (N := ["_law_state", "_law_many", "_law_letters", "_law_stem", "_law_turn", "_law_at", "_law_start_at", "_law_k"]) (sc := defScope sNames) (by decide +kernel)) (fun _ _ _ _ _ => (pg_name (i := 7) sc.nd rfl (.inl rfl))) (fun _ _ _ _ _ => pts_nil) (fun _ _ _ _ _ => (pe_op op_add_str (pe_slice sl_str (pv 3) po_none (po_some pe_int)) (pe_op op_mul_str (pe_ix ix_str (pv 2) (pv 6) (fun _ _ => rfl)) (pe_op op_add (pv 7) pe_int))))))) pss_nil)
      (pss_one (ps_ret (pe_lc (own := [("_law_k", 7)]) (by rfl) sc.nd  (pi_range1 (by rfl) m_range (pa_cons (pv 1) pa_nil)) (blkOk_by (own := [("_law_k", 7)]) (N := ["_law_state", "_law_many", "_law_letters", "_law_stem", "_law_turn", "_law_at", "_law_start_at", "_law_k"]) (sc := defScope sNames) (by decide +kernel)) (fun _ _ _ _ _ => (pg_name (i := 7) sc.nd rfl (.inl rfl))) (fun _ _ _ _ _ => pts_nil) (fun _ _ _ _ _ => (pe_op op_add_str (pe_op op_add_str (pe_slice sl_str (pv 3) po_none (po_some (pv 5))) (pe_ix ix_str (pv 2) (pe_op op_mod (pe_op op_add (pv 6) (pe_op op_mul pe_int (pv 7))) pe_int) (fun _ _ => rfl))) (pe_slice sl_str (pv 3) (po_some (pv 5)) po_none)))))))))), ?_⟩
  refine ⟨by show 2 ≤ sizeLine; decide, fun t nt => ⟨t, _, rfl, .inl (.inl upd_same), rfl, _, _, rfl, _, _, rfl, rfl, ?_⟩⟩
  have s1 : Same H (upd H t (.tup [.str ltrs, .str ""])) := same_upd nt
  have D1 := hD.same s1
  refine ⟨_, rfl, a, c, n, 8, rfl, D1, by omega, by decide, by decide, fun r3 H2 r30 r31 s2 D2 => ⟨r3, rfl, by omega, by omega, for_it walk_range
    (fun i σ H' => ButL [a, c] H H' ∧ Dr H' a c (n + 1 + i) ∧ ∃ (stem : Str) (o4 : Option V), stem.cps.toList.length = i ∧ (∀ x ∈ stem.cps.toList, 97 ≤ x ∧ x ≤ 122) ∧ σ = [some (.ref a), some (.int 7), some (.str ltrs), some (.str stem), o4, none, none, none])
    ⟨(ButL.same s1).trans s2, D2, "", none, by decide +kernel, by decide +kernel, rfl⟩ (fun _ _ _ _ _ => trivial) ?_ ?_⟩⟩
  · rintro i x σ _ H3 hi ⟨b3, D3, stem, o4, sl, sa, rfl⟩ ⟨rfl, ex⟩
    have hi' : i < 7 := by omega
    refine ⟨_, rfl, _, rfl, _, rfl, a, c, n + 1 + i, 26, rfl, D3, by omega, by decide, by decide, fun r4 H4 r40 r41 s4 D4 => ?_⟩
    refine ⟨ltrs, r4, _, rfl, rfl, ltrs_fit, ltr_atI r40 r41, _, _, rfl, rfl, ?_, b3.trans s4, D4, stem ++ one (ltr r4.toNat), _, ?_, fun x hx => ?_, rfl⟩
    · have : stem.length = stem.cps.toList.length := Array.length_toList.symm
      exact Nat.le_of_lt (small1000 (by show stem.length + 1 ≤ 1000; omega))
    · show (stem.cps ++ #[ltr r4.toNat]).toList.length = i + 1
      rw [Array.toList_append, List.length_append, sl]
      rfl
    · have hx' : x ∈ (stem.cps ++ #[ltr r4.toNat]).toList := hx
      rw [Array.toList_append] at hx'
      rcases List.mem_append.mp hx' with z | z
      · exact sa x z
      · rw [List.mem_singleton.mp z]; exact ltr_ok (by omega)
  · rintro σ H3 ⟨b3, D3, stem, o4, sl, sa, rfl⟩
    have r3l : r3.toNat ≤ 7 := by omega
    have stl : stem.length = stem.cps.toList.length := Array.length_toList.symm
    have st7 : stem.length ≤ 7 := by omega
    have zf : stem.length ≤ sizeLine := Nat.le_of_lt (small1000 (by omega))
    refine ⟨_, rfl, _, rfl, stem, rfl, zf, _, 1, rfl, rfl, a, c, _, _, rfl, D3, by omega, by omega, by omega, fun r4 H4 r40 r41 s4 D4 => ?_⟩
    refine ⟨_, rfl, a, c, _, 26, rfl, D4, by omega, by decide, by decide, fun r5 H5 r50 r51 s5 D5 => ⟨by show 2 ≤ sizeLine; decide, fun T nT => ⟨T, _, rfl, .inl (.inl upd_same), rfl, _, _, rfl, _, _, rfl, rfl, ?_⟩⟩⟩
    have e5 : Same H5 (upd H5 T (.tup [.int r4, .int r5])) := same_upd nT
    have b6 := b3.trans (s4.trans (s5.trans (.same e5)))
    have D6 := D5.same e5
    generalize upd H5 T (.tup [.int r4, .int r5]) = H6 at *
    refine ⟨_, rfl, _, _, rfl, rfl, _, rfl, ifT (by decide) ⟨_, rfl, a, c, _, 3, rfl, D6, by omega, by decide, by decide, fun r6 H7 r60 r61 s7 D7 => ⟨rfl, _, rfl, ite2 (fun g => ?_) (fun g => ?_)⟩⟩⟩
    · refine ⟨_, rfl, 7, rfl, by omega, by omega, fun D2 nD2 => lc_it walk_range
        (fun i H' => Same H7 H' ∧ H' D2 = some (.lst (((List.range i).map fun k => cutS stem none (some 1) ++ rep (ltr r5.toNat) k).map V.str))) ⟨same_upd nD2, upd_same⟩ (fun _ _ _ _ => trivial) ?_ ?_⟩
      · rintro i x H8 _ hi ⟨s8, hD2⟩ ⟨rfl, ex⟩
        obtain rfl : x = V.int i := ex.trans (congrArg V.int (Int.zero_add _))
        have hi' : i < 7 := hi
        refine ⟨rfl, ?_⟩
        unfold tYes
        refine iteT ⟨_, rfl, 1, rfl, stem, rfl, zf, _, rfl, _, rfl, ltrs, r5, _, rfl, rfl, ltrs_fit, ltr_atI r50 r51, _, rfl, _, _, rfl, rfl, _, _, rfl, rfl, rep_ok (by omega), _, _, rfl, rfl, ?_, _, hD2, ?_, fun b o h => ?_, ?_⟩
        · have h1 := cutS_length stem none (some 1)
          have h2 : (rep (ltr r5.toNat) i).length = i + 1 := by
            show (rep (ltr r5.toNat) i).cps.size = i + 1
            rw [← Array.length_toList, rep_codes, List.length_replicate]
          exact Nat.le_of_lt (small1000 (by show (cutS stem none (some 1)).length + (rep (ltr r5.toNat) i).length ≤ 1000; omega))
        · rw [List.length_map, List.length_map, List.length_range]
          exact small1000 (by omega)
        · rw [upd_ne (fun z => by rw [z, nD2] at h; cases h)]
          exact s8 _ _ h
        · rw [upd_same, List.range_succ, List.map_append, List.map_append]
          rfl
      · rintro H8 ⟨s8, hD2⟩
        refine q D2 _ H8 (b6.trans (s7.trans (.same s8))) ((D7.same s8).le (by omega)) (by rw [rmL_at (D7.ne nD2)]; exact hD2) (by rw [List.length_map, List.length_range]; rfl) (fun z hz => ?_) fun i j u v hij hj hu hv => ?_
        · obtain ⟨i, hi, rfl⟩ := List.mem_map.mp hz
          have hi' : i < 7 := by simpa using hi
          exact first_nm st7 sa (ltr_ok (by omega)) hi'
        · have at_ : ∀ (i : Nat) (u : Str), i < 3 → ((List.range 7).map fun k => cutS stem none (some 1) ++ rep (ltr r5.toNat) k)[i]? = some u → u.length = (cutS stem none (some 1)).length + (i + 1) := fun i u hi hu => by
            rw [List.getElem?_map, List.getElem?_range (by omega : i < 7)] at hu
            cases hu
            show ((cutS stem none (some 1)).cps ++ (rep (ltr r5.toNat) i).cps).size = _
            rw [Array.size_append]
            have : (rep (ltr r5.toNat) i).cps.size = i + 1 := by rw [← Array.length_toList, rep_codes, List.length_replicate]
            rw [this]
            rfl
          have l1 : (cutS stem none (some 1)).length ≤ 1 := by
            by_cases h : 1 ≤ stem.length
            · obtain ⟨d, _, h2⟩ := cutS_1 stem h
              show (cutS stem none (some 1)).cps.size ≤ 1
              rw [← Array.length_toList, h2]
              exact Nat.le_refl _
            · show (cutS stem none (some 1)).cps.size ≤ 1
              rw [← Array.length_toList, cutS_1n stem (by omega)]
              exact Nat.zero_le _
          have e1 := at_ i u (by omega) hu
          have e2 := at_ j v hj hv
          exact apart_len (by omega) (by omega)
    · obtain ⟨na, rfl⟩ : ∃ na : Nat, r4 = (na : Int) := ⟨r4.toNat, by omega⟩
      have hna : na ≤ stem.length := by omega
      refine ⟨_, rfl, 7, rfl, by omega, by omega, fun D2 nD2 => lc_it walk_range
        (fun i H' => Same H7 H' ∧ H' D2 = some (.lst (((List.range i).map fun k => put1 stem (na : Int) (ltr ((r5.toNat + 7 * k) % 26))).map V.str))) ⟨same_upd nD2, upd_same⟩ (fun _ _ _ _ => trivial) ?_ ?_⟩
      · rintro i x H8 _ hi ⟨s8, hD2⟩ ⟨rfl, ex⟩
        obtain rfl : x = V.int i := ex.trans (congrArg V.int (Int.zero_add _))
        have hi' : i < 7 := hi
        have ei : (r5 + 7 * (i : Int)) % 26 = (((r5.toNat + 7 * i) % 26 : Nat) : Int) := by omega
        refine ⟨rfl, ?_⟩
        unfold tYes
        refine iteT ⟨_, rfl, _, rfl, na, rfl, stem, rfl, zf, _, rfl, _, rfl, _, rfl, 7, i, rfl, rfl, .inl ⟨by decide, by decide⟩, r5, _, rfl, rfl, _, 26, rfl, rfl, (show (0 : Int) < 26 by decide),
          ltrs, _, _, rfl, rfl, ltrs_fit, ltr_atI (by omega) (by omega), _, _, rfl, rfl, ?_, _, rfl, _, rfl, na, rfl, stem, rfl, zf, _, _, rfl, rfl, ?_, _, hD2, ?_, fun b o h => ?_, ?_⟩
        · have := cutS_length stem none (some (na : Int))
          exact Nat.le_of_lt (small1000 (by show (cutS stem none (some (na : Int))).length + 1 ≤ 1000; omega))
        · have h1 := cutS_length stem none (some (na : Int))
          have h2 := cutS_length stem (some (na : Int)) none
          have h3 : (cutS stem none (some (na : Int)) ++ one (ltr ((r5 + 7 * (i : Int)) % 26).toNat)).length = (cutS stem none (some (na : Int))).length + 1 := Array.size_append
          exact Nat.le_of_lt (small1000 (by show (cutS stem none (some (na : Int)) ++ one (ltr ((r5 + 7 * (i : Int)) % 26).toNat)).length + (cutS stem (some (na : Int)) none).length ≤ 1000; omega))
        · rw [List.length_map, List.length_map, List.length_range]
          exact small1000 (by omega)
        · rw [upd_ne (fun z => by rw [z, nD2] at h; cases h)]
          exact s8 _ _ h
        · rw [upd_same, List.range_succ, List.map_append, List.map_append]
          show some (HO.lst (_ ++ [V.str (put1 stem (na : Int) (ltr ((r5 + 7 * (i : Int)) % 26).toNat))])) = _
          rw [ei, Int.toNat_natCast]
          rfl
      · rintro H8 ⟨s8, hD2⟩
        refine q D2 _ H8 (b6.trans (s7.trans (.same s8))) ((D7.same s8).le (by omega)) (by rw [rmL_at (D7.ne nD2)]; exact hD2) (by rw [List.length_map, List.length_range]; rfl) (fun z hz => ?_) fun i j u v hij hj hu hv => ?_
        · obtain ⟨i, hi, rfl⟩ := List.mem_map.mp hz
          exact put1_nm hna st7 sa (ltr_ok (Nat.mod_lt _ (by decide)))
        · rw [List.getElem?_map, List.getElem?_range (show i < Int.toNat 7 by show i < 7; omega)] at hu
          rw [List.getElem?_map, List.getElem?_range (show j < Int.toNat 7 by show j < 7; omega)] at hv
          cases hu
          cases hv
          refine apart_put hna st7 fun e => ?_
          have := ltr_inj (Nat.mod_lt _ (by decide)) (Nat.mod_lt _ (by decide)) e
          omega
end
end Fd

set_option Elab.async false
set_option linter.all false
set_option maxRecDepth 100000
set_option maxHeartbeats 2000000
namespace Fd
open PySem PySem.Spec PyProof.Rows L2
/-! ### more rules -/
def gOr (g g' : TG) : TG := fun v σ H Q => g v σ H Q ∨ g' v σ H Q
section
variable {X : Cx}
/-- of several defs that may raise, the one that the i-th slot holds -/
def HeldX (P : Program) (w : World) (K : PySem.W.Frag) (mg : Str → Option Value) (base : Heap) (k : Nat) (f : Addr) (sp : Sp) : Prop :=
  ∃ (fd : FuncData) (ps : List Str), FnOk P w K mg base (L2.CX P w) k f fd ps sp ∧ PySem.W.keepIn K (.ref f) = true ∧ Binds K fd ps []
def tCallX (P : Program) (w : World) (K : PySem.W.Frag) (mg : Str → Option Value) (base : Heap) (k i : Nat) (E : L2.St → XK) (t : TA) : TE := fun σ H Q =>
  ∃ f sp, σ[i]? = some (some (.ref f)) ∧ HeldX P w K mg base k f sp ∧ t σ H fun vs H1 => sp vs H1 Q (E σ)
theorem pe_callX {k i : Nat} {E : L2.St → XK} {x : Str} {p pos : Pos} {e : Expr} {es : List Expr} {t : TA} (hr : Room k X.A) (hN : X.N[i]? = some x) (hv : Vis X.env.scope x)
    (hx : ∀ σ, PassesAt (L2.CX X.prog X.w) X σ (E σ)) (ha : PA X (e :: es) t) (hdb : (x == ("__debug__" : Str)) = false := by decide) (hcd : (x == ("__classdict__" : Str)) = false := by decide)
    (he : starEach (e :: es) X.env = (false, eval e X.env) :: starEach es X.env := by rfl) (hpl : (backTo pos (starEach es X.env)).any (·.1) = false := by rfl) :
    PE X (.Call (.Name x p) (e :: es) [] pos) (tCallX X.prog X.w X.K X.mg X.base k i E t) := by
  refine ⟨fun pins s σ H Q I h => ?_⟩
  obtain ⟨f, sp, hs, ⟨fd, ps, F, hk, hb⟩, ht⟩ := h
  have ld := (pe_var (pos := p) hN hv hdb hcd).run pins s σ H (fun v H1 => v = .ref f ∧ H1 = H) I ⟨.ref f, hs, rfl, rfl⟩
  refine wpAny_Call_Name_kw (thn ld fun u s1 hh => ?_)
  obtain ⟨v, H1, I1, r1, rfl, rfl⟩ := hh
  cases r1
  refine PySem.W.callWith_K (h₀ := X.base) I.ok.mod.kin hk (thn (ha.run pos pins s1 σ _ _ I1 ht) fun us s2 hh => ?_) he hpl
  obtain ⟨vs, H2, I2, r2, q2⟩ := hh
  exact ⟨I2.kIn, run_fnS F hr hb (hx σ) I2 r2 q2⟩
/-- a target by either of two readings -/
theorem pg_or {tg : Expr} {g g' : TG} (h : PG X tg g) (h' : PG X tg g') : PG X tg (gOr g g') :=
  ⟨fun pins s σ H v u Q I r q => q.elim (h.run pins s σ H v u Q I r) (h'.run pins s σ H v u Q I r)⟩
/-- what is walked, by either of two readings -/
theorem pi_or {tg it : Expr} {w w' : TI} (h : PI X tg it w) (h' : PI X tg it w') : PI X tg it (fun σ H R => w σ H R ∨ w' σ H R) :=
  ⟨fun pins s σ H R I q => q.elim (h.run pins s σ H R I) (h'.run pins s σ H R I)⟩
end
/-! ### a list or a tuple -/
def Sq (K : PySem.W.Frag) (H : Hp) (a : Addr) (xs : List V) : Prop := SqT K H a xs ∨ SqL K H a xs
theorem Sq.same {K : PySem.W.Frag} {H H' : Hp} {a : Addr} {xs : List V} (h : Sq K H a xs) (s : Same H H') : Sq K H' a xs := h.elim (fun z => .inl (seqT s z)) fun z => .inr (s.seq z)
theorem Sq.tup {K : PySem.W.Frag} {H : Hp} {a : Addr} {xs : List V} (h : H a = some (.tup xs)) : Sq K H a xs := .inl (SqT.of h)
theorem Sq.lst {K : PySem.W.Frag} {H : Hp} {a : Addr} {xs : List V} (h : H a = some (.lst xs)) : Sq K H a xs := .inr (SqL.of h)
theorem Sq.ty {K : PySem.W.Frag} {H : Hp} {a : Addr} {xs : List V} (h : Sq K H a xs) : TyX K H (.ref a) (.type "tuple") ∨ TyX K H (.ref a) (.type "list") := h.elim (fun z => .inl (ty_tup z)) fun z => .inr (ty_lst z)
theorem ixq {K : PySem.W.Frag} {H : Hp} {a : Addr} {xs : List V} {i : Int} {v : V} {Q : VK} (h : Sq K H a xs) (e : atI xs i = some v) (q : Q v H) : rIxT K (.ref a) (.int i) H Q ∨ rIxL K (.ref a) (.int i) H Q :=
  h.elim (fun z => .inl ⟨a, xs, i, v, rfl, rfl, z, e, q⟩) fun z => .inr ⟨a, xs, i, v, rfl, rfl, z, e, q⟩
/-- a fall by the word w from the heap H -/
def Falls (C : Addr) (E : XK) (H : Hp) (w : Str) : Prop := ∀ d, H d = none → E (.ref C) (some d) (upd H d (.xd [(("word" : Str), .str w)]))
section
variable {P : Program} {w : World} {K : PySem.W.Frag} {mg : Str → Option Value} {base : Heap} {f C fI : Addr} {fd : FuncData}
/-! ### is_number, is_value -/
abbrev sIsNum : Stmt := top 14
theorem scIsNum : FnScope ["thing"] ["thing"] (defScope sIsNum) := ⟨rfl, rfl, rfl, by decide +kernel, rfl, by decide +kernel, by decide +kernel⟩
def spIsNum (K : PySem.W.Frag) : Sp := fun vs H Q _ => ∃ x, vs = [x] ∧ ((∃ i, x = .int i ∧ Q (.bl true) H) ∨ ∃ a xs, x = .ref a ∧ Sq K H a xs ∧ Q (.bl false) H)
theorem ok_isNum {k : Nat} (F : Fun K "is_number" "is_number" sIsNum f fd) (m_isinstance : mg "isinstance" = none) (m_int : mg "int" = none) (m_bool : mg "bool" = none) :
    FnOk P w K mg base CX0 (k + 1) f fd ["thing"] (spIsNum K) := by
  have sc := scIsNum
  refine F.ok sc (fun vs H Q E h => ?_) (fun cdv A outer s H vs Q E hr h => ?_)
  · obtain ⟨x, rfl, _⟩ := h
    rfl
  obtain ⟨x, rfl, h⟩ := h
  refine ⟨_, (pss_one (ps_ret (pe_and (pe_callB call_isi (by rfl) m_isinstance (by decide +kernel) (pa_cons (pv 0) (pa_cons (pe_bltn (v := .ty "int") (by rfl) m_int (by decide +kernel) rfl) pa_nil))) (pe_one (pe_not (pe_callB call_isi (by rfl) m_isinstance (by decide +kernel) (pa_cons (pv 0) (pa_cons (pe_bltn (v := .ty "bool") (by rfl) m_bool (by decide +kernel) rfl) pa_nil)))))))), ?_⟩
  rcases h with ⟨i, rfl, q⟩ | ⟨a, xs, rfl, h, q⟩
  · exact ⟨_, rfl, _, _, .type "int", _, true, rfl, .ty _, .base (.int i), kit_ty (by decide +kernel), _, rfl, iteT ⟨_, rfl, _, _, .type "int", _, false, rfl, .ty _, .base (.int i), kit_ty (by decide +kernel), _, rfl, q⟩⟩
  · rcases h.ty with t | t
    · exact ⟨_, rfl, _, _, .type "tuple", _, false, rfl, .ty _, t, kit_ty (by decide +kernel), _, rfl, iteF q⟩
    · exact ⟨_, rfl, _, _, .type "list", _, false, rfl, .ty _, t, kit_ty (by decide +kernel), _, rfl, iteF q⟩
abbrev sIsVal : Stmt := top 15
theorem scIsVal : FnScope ["thing"] ["thing"] (defScope sIsVal) := ⟨rfl, rfl, rfl, by decide +kernel, rfl, by decide +kernel, by decide +kernel⟩
def inB (i : Int) : Bool := decide (-1000000 ≤ i) && decide (i ≤ 1000000)
def spIsVal : Sp := fun vs H Q _ => ∃ i : Int, vs = [.int i] ∧ Q (.bl (inB i)) H
theorem ok_isVal {k : Nat} {t t' : Tok} (F : Fun K "is_value" "is_value" sIsVal f fd) (G : FnG P w K mg base CX0 k "is_number" ["thing"] (spIsNum K)) (m_LEAST : mg "LEAST_VALUE" = some (.int (-1000000) t)) (m_MOST : mg "MOST_VALUE" = some (.int 1000000 t')) :
    FnOk P w K mg base CX0 (k + 1) f fd ["thing"] spIsVal := by
  obtain ⟨_, _, G_is_number, m_is_number, k_is_number, b_is_number⟩ := G
  have sc := scIsVal
  refine F.ok sc (fun vs H Q E h => ?_) (fun cdv A outer s H vs Q E hr h => ?_)
  · obtain ⟨x, rfl, _⟩ := h
    rfl
  obtain ⟨i, rfl, q⟩ := h
  refine ⟨_, (pss_one (ps_ret (pe_and (pe_call G_is_number (hr.mono (by omega)) (by rfl) m_is_number k_is_number b_is_number .nil pass0 (pa_cons (pv 0) pa_nil)) (pe_one (pe_chain op_le op_le (pe_glob (v := .int (-1000000)) (by rfl) m_LEAST ⟨_, rfl⟩) (pv 0) (pe_glob (v := .int 1000000) (by rfl) m_MOST ⟨_, rfl⟩)))))), ?_⟩
  refine ⟨_, rfl, _, rfl, .inl ⟨i, rfl, _, rfl, iteT ⟨_, rfl, _, _, rfl, rfl, _, rfl, ite2 (fun c => ?_) (fun c => ?_)⟩⟩⟩
  · refine ⟨_, _, rfl, rfl, ?_⟩
    unfold inB at q
    rw [c] at q
    exact q
  · unfold inB at q
    rw [Bool.eq_false_iff.mpr c] at q
    exact q
/-! ### the five sums -/
inductive BOp where
  | plus | minus | by_ | over | rest
def BOp.word : BOp → Str
  | .plus => "plus" | .minus => "minus" | .by_ => "by" | .over => "over" | .rest => "rest"
def BOp.run : BOp → Int → Int → Except Str Int
  | .plus, a, b => .ok (a + b)
  | .minus, a, b => .ok (a - b)
  | .by_, a, b => .ok (a * b)
  | .over, a, b => if b = 0 then .error "nought" else .ok (a.fdiv b)
  | .rest, a, b => if b = 0 then .error "nought" else .ok (a.fmod b)
/-- what comes of r: a value, or a fall -/
def Comes (C : Addr) (H : Hp) (r : Except Str Int) (Q : VK) (E : XK) : Prop := match r with
  | .ok i => Q (.int i) H
  | .error w => Falls C E H w
def spSum (C : Addr) (o : BOp) : Sp := fun vs H Q E => ∃ a b : Int, vs = [.int a, .int b] ∧ inB a = true ∧ inB b = true ∧ Comes C H (o.run a b) Q E
theorem inB_lo {i : Int} (h : inB i = true) : -1000000 ≤ i := of_decide_eq_true (Bool.and_eq_true_iff.mp h).1
theorem inB_hi {i : Int} (h : inB i = true) : i ≤ 1000000 := of_decide_eq_true (Bool.and_eq_true_iff.mp h).2
abbrev sPlus : Stmt := top 16
theorem ok_plus {k : Nat} (F : Fun K "plus" "plus" sPlus f fd) : FnOk P w K mg base (L2.CX P w) (k + 1) f fd ["first", "second"] (spSum C .plus) := by
  have sc : FnScope ["first", "second"] ["first", "second"] (defScope sPlus) := ⟨rfl, rfl, rfl, by decide +kernel, rfl, by decide +kernel, by decide +kernel⟩
  refine F.okX sc (fun vs H Q E h => ?_) (fun cdv A outer s H vs Q E hr h => ?_)
  · obtain ⟨a, b, rfl, _⟩ := h
    rfl
  obtain ⟨a, b, rfl, ha, hb, q⟩ := h
  exact ⟨_, (pss_one (ps_ret (pe_op op_add (pv 0) (pv 1)))), _, rfl, _, rfl, _, _, rfl, rfl, q⟩
abbrev sMinus : Stmt := top 17
theorem ok_minus {k : Nat} (F : Fun K "minus" "minus" sMinus f fd) : FnOk P w K mg base (L2.CX P w) (k + 1) f fd ["first", "second"] (spSum C .minus) := by
  have sc : FnScope ["first", "second"] ["first", "second"] (defScope sMinus) := ⟨rfl, rfl, rfl, by decide +kernel, rfl, by decide +kernel, by decide +kernel⟩
  refine F.okX sc (fun vs H Q E h => ?_) (fun cdv A outer s H vs Q E hr h => ?_)
  · obtain ⟨a, b, rfl, _⟩ := h
    rfl
  obtain ⟨a, b, rfl, ha, hb, q⟩ := h
  exact ⟨_, (pss_one (ps_ret (pe_op op_sub (pv 0) (pv 1)))), _, rfl, _, rfl, _, _, rfl, rfl, q⟩
abbrev sBy : Stmt := top 18
theorem ok_by {k : Nat} (F : Fun K "by" "by" sBy f fd) : FnOk P w K mg base (L2.CX P w) (k + 1) f fd ["first", "second"] (spSum C .by_) := by
  have sc : FnScope ["first", "second"] ["first", "second"] (defScope sBy) := ⟨rfl, rfl, rfl, by decide +kernel, rfl, by decide +kernel, by decide +kernel⟩
  refine F.okX sc (fun vs H Q E h => ?_) (fun cdv A outer s H vs Q E hr h => ?_)
  · obtain ⟨a, b, rfl, _⟩ := h
    rfl
  obtain ⟨a, b, rfl, ha, hb, q⟩ := h
  have := inB_lo ha
  have := inB_hi ha
  exact ⟨_, (pss_one (ps_ret (pe_op op_mul (pv 0) (pv 1)))), _, rfl, _, rfl, _, _, rfl, rfl, .inl ⟨by omega, by omega⟩, q⟩
abbrev sOver : Stmt := top 19
theorem ok_over {k : Nat} (T : PySem.FellX.FellTxt K mg C fI) (F : Fun K "over" "over" sOver f fd) : FnOk P w K mg base (L2.CX P w) (k + 2) f fd ["first", "second"] (spSum C .over) := by
  have sc : FnScope ["first", "second"] ["first", "second"] (defScope sOver) := ⟨rfl, rfl, rfl, by decide +kernel, rfl, by decide +kernel, by decide +kernel⟩
  refine F.okX sc (fun vs H Q E h => ?_) (fun cdv A outer s H vs Q E hr h => ?_)
  · obtain ⟨a, b, rfl, _⟩ := h
    rfl
  obtain ⟨a, b, rfl, ha, hb, q⟩ := h
  refine ⟨_, (pss_cons (ps_if (pt_cmpR op_eq (pv 1) pe_int (nomark _)) (pss_one (ps_raiseFell rfl T hr (takes_of rfl rfl rfl rfl) (by exact (pa_cons pe_str pa_nil)))) pss_nil)
      (pss_one (ps_ret (pe_op op_fdivN (pv 0) (pv 1))))), _, rfl, rfl, _, rfl, ite2 (fun c => ?_) (fun c => ?_)⟩
  · have e : b = 0 := V.int.inj (of_decide_eq_true c)
    subst e
    exact ⟨_, rfl, fun d nd => q d nd⟩
  · have e : b ≠ 0 := fun z => c (decide_eq_true (by rw [z]))
    have := inB_lo hb
    have := inB_hi hb
    rw [show BOp.run .over a b = .ok (a.fdiv b) from if_neg e] at q
    exact ⟨_, rfl, _, rfl, _, _, rfl, rfl, ⟨e, by omega⟩, q⟩
abbrev sRest : Stmt := top 20
theorem ok_rest {k : Nat} (T : PySem.FellX.FellTxt K mg C fI) (F : Fun K "rest" "rest" sRest f fd) : FnOk P w K mg base (L2.CX P w) (k + 2) f fd ["first", "second"] (spSum C .rest) := by
  have sc : FnScope ["first", "second"] ["first", "second"] (defScope sRest) := ⟨rfl, rfl, rfl, by decide +kernel, rfl, by decide +kernel, by decide +kernel⟩
  refine F.okX sc (fun vs H Q E h => ?_) (fun cdv A outer s H vs Q E hr h => ?_)
  · obtain ⟨a, b, rfl, _⟩ := h
    rfl
  obtain ⟨a, b, rfl, ha, hb, q⟩ := h
  refine ⟨_, (pss_cons (ps_if (pt_cmpR op_eq (pv 1) pe_int (nomark _)) (pss_one (ps_raiseFell rfl T hr (takes_of rfl rfl rfl rfl) (by exact (pa_cons pe_str pa_nil)))) pss_nil)
      (pss_one (ps_ret (pe_op op_modN (pv 0) (pv 1))))), _, rfl, rfl, _, rfl, ite2 (fun c => ?_) (fun c => ?_)⟩
  · have e : b = 0 := V.int.inj (of_decide_eq_true c)
    subst e
    exact ⟨_, rfl, fun d nd => q d nd⟩
  · have e : b ≠ 0 := fun z => c (decide_eq_true (by rw [z]))
    rw [show BOp.run .rest a b = .ok (a.fmod b) from if_neg e] at q
    exact ⟨_, rfl, _, rfl, _, _, rfl, rfl, e, q⟩
/-! ### place_in, first_of -/
abbrev sPlace : Stmt := top 25
def spPlace (K : PySem.W.Frag) (C : Addr) : Sp := fun vs H Q E => ∃ (a : Addr) (xs : List V) (i : Int), vs = [.ref a, .int i] ∧ Sq K H a xs ∧ (0 ≤ i ∧ i < xs.length → Q (.int i) H) ∧ (¬ (0 ≤ i ∧ i < xs.length) → Falls C E H "none")
theorem ok_place {k : Nat} (T : PySem.FellX.FellTxt K mg C fI) (F : Fun K "place_in" "place_in" sPlace f fd) (m_len : mg "len" = none) : FnOk P w K mg base (L2.CX P w) (k + 2) f fd ["row", "place"] (spPlace K C) := by
  have sc : FnScope ["row", "place"] ["row", "place"] (defScope sPlace) := ⟨rfl, rfl, rfl, by decide +kernel, rfl, by decide +kernel, by decide +kernel⟩
  refine F.okX sc (fun vs H Q E h => ?_) (fun cdv A outer s H vs Q E hr h => ?_)
  · obtain ⟨a, b, i, rfl, _⟩ := h
    rfl
  obtain ⟨a, xs, i, rfl, hs, q1, q2⟩ := h
  refine ⟨_, (pss_cons (ps_if (pt_not (pt_chain op_le op_lt pe_int (pv 1) (pe_callB call_len_seq (by rfl) m_len (by decide +kernel) (pa_cons (pv 0) pa_nil)))) (pss_one (ps_raiseFell rfl T hr (takes_of rfl rfl rfl rfl) (by exact (pa_cons pe_str pa_nil)))) pss_nil)
      (pss_one (ps_ret (pv 1)))), ?_⟩
  refine ⟨_, rfl, _, _, rfl, rfl, _, rfl, ite2 (fun c => ?_) (fun c => ?_)⟩
  · have c' : 0 ≤ i := of_decide_eq_true c
    refine ⟨_, rfl, a, xs, rfl, hs.symm, _, _, rfl, rfl, _, rfl, ?_⟩
    by_cases h : i < xs.length
    · rw [decide_eq_true h]
      exact iteF ⟨_, rfl, q1 ⟨c', h⟩⟩
    · rw [decide_eq_false h]
      exact iteT ⟨_, rfl, fun d nd => q2 (fun z => h z.2) d nd⟩
  · exact ⟨_, rfl, iteT ⟨_, rfl, fun d nd => q2 (fun z => c (decide_eq_true z.1)) d nd⟩⟩
/-- pairs of a text and something, each a tuple or a list -/
def Prs (K : PySem.W.Frag) (H : Hp) (ps : List V) (kvs : List (Str × V)) : Prop := Paired (fun v (kv : Str × V) => ∃ a, v = .ref a ∧ Sq K H a [.str kv.1, kv.2]) ps kvs
abbrev sFirst : Stmt := top 24
def spFirst (K : PySem.W.Frag) (C : Addr) : Sp := fun vs H Q E => ∃ (a : Addr) (ps : List V) (kvs : List (Str × V)) (x : Str), vs = [.ref a, .str x] ∧ Sq K H a ps ∧ Prs K H ps kvs ∧
  (∀ u, kvs.lookup x = some u → Q u H) ∧ (kvs.lookup x = none → Falls C E H "none")
theorem prs_at {K : PySem.W.Frag} {H : Hp} : ∀ {ps : List V} {kvs : List (Str × V)} {i : Nat} {v : V}, Prs K H ps kvs → ps[i]? = some v → ∃ kv, kvs[i]? = some kv ∧ ∃ a, v = .ref a ∧ Sq K H a [.str kv.1, kv.2]
  | _, _, i, v, .nil, e => by simp at e
  | _, _, 0, v, .cons r t, e => by cases (Option.some.inj e); exact ⟨_, rfl, r⟩
  | _, _, i + 1, v, .cons r t, e => prs_at (i := i) t e
theorem look_skip : ∀ {kvs : List (Str × V)} {i : Nat} {kv : Str × V} {x : Str}, (kvs.take i).lookup x = none → kvs[i]? = some kv → kv.1 ≠ x → (kvs.take (i + 1)).lookup x = none
  | [], i, kv, x, _, e, _ => by simp at e
  | p :: r, 0, kv, x, _, e, n => by
    obtain ⟨k, v⟩ := p
    cases (Option.some.inj e)
    show List.lookup x [(k, v)] = none
    rw [List.lookup_cons, show (x == k) = false from beq_eq_false_iff_ne.mpr (Ne.symm n)]
    rfl
  | p :: r, i + 1, kv, x, h, e, n => by
    obtain ⟨k, v⟩ := p
    rw [List.take_succ_cons, List.lookup_cons] at h ⊢
    by_cases q : (x == k) = true
    · rw [q] at h
      cases h
    · rw [Bool.eq_false_iff.mpr q] at h ⊢
      exact look_skip (i := i) h e n
theorem look_hit : ∀ {kvs : List (Str × V)} {i : Nat} {kv : Str × V} {x : Str}, (kvs.take i).lookup x = none → kvs[i]? = some kv → kv.1 = x → kvs.lookup x = some kv.2
  | [], i, kv, x, _, e, _ => by simp at e
  | p :: r, 0, kv, x, _, e, n => by
    obtain ⟨k, v⟩ := p
    cases (Option.some.inj e)
    rw [List.lookup_cons, show (x == k) = true from beq_iff_eq.mpr n.symm]
  | p :: r, i + 1, kv, x, h, e, n => by
    obtain ⟨k, v⟩ := p
    rw [List.take_succ_cons, List.lookup_cons] at h
    rw [List.lookup_cons]
    by_cases q : (x == k) = true
    · rw [q] at h
      cases h
    · rw [Bool.eq_false_iff.mpr q] at h ⊢
      exact look_hit (i := i) h e n
theorem prs_len {K : PySem.W.Frag} {H : Hp} : ∀ {ps : List V} {kvs : List (Str × V)}, Prs K H ps kvs → ps.length = kvs.length
  | _, _, .nil => rfl
  | _, _, .cons _ t => by rw [List.length_cons, List.length_cons, prs_len t]
theorem ok_first {k : Nat} (T : PySem.FellX.FellTxt K mg C fI) (F : Fun K "first_of" "first_of" sFirst f fd) : FnOk P w K mg base (L2.CX P w) (k + 2) f fd ["pairs", "name"] (spFirst K C) := by
  have sc : FnScope ["pairs", "name", "other", "held"] ["pairs", "name"] (defScope sFirst) := ⟨rfl, rfl, rfl, by decide +kernel, rfl, by decide +kernel, by decide +kernel⟩
  refine F.okX sc (fun vs H Q E h => ?_) (fun cdv A outer s H vs Q E hr h => ?_)
  · obtain ⟨a, b, c, i, rfl, _⟩ := h
    rfl
  obtain ⟨a, ps, kvs, x, rfl, hs, hp, q1, q2⟩ := h
  refine ⟨_, (pss_cons (ps_for (passes_of rfl) rfl (pi_or (pi_tup (pv 0)) (pi_list (pv 0))) (pg_or (pg_tup (by rfl) (pgs_cons (pg_name (i := 2) sc.nd rfl (.inl rfl)) (pgs_cons (pg_name (i := 3) sc.nd rfl (.inl rfl)) pgs_nil))) (pg_lst (by rfl) (pgs_cons (pg_name (i := 2) sc.nd rfl (.inl rfl)) (pgs_cons (pg_name (i := 3) sc.nd rfl (.inl rfl)) pgs_nil)))) (pss_one (ps_if (pt_cmpR op_eq (pv 2) (pv 1) (nomark _)) (pss_one (ps_ret (pv 3))) pss_nil)))
      (pss_one (ps_raiseFell rfl T hr (takes_of rfl rfl rfl rfl) (by exact (pa_cons pe_str pa_nil))))), ?_⟩
  have e0 : (kvs.take ps.length).lookup x = none → kvs.lookup x = none := fun h => by rw [prs_len hp, List.take_length] at h; exact h
  have key : ∀ (D : Ends) (v2 v3 : Option V) (b : Addr) (kv : Str × V), Sq K H b [.str kv.1, kv.2] → (kv.1 = x → D.rt kv.2 H) → (kv.1 ≠ x → D.nx [some (.ref a), some (.str x), some (.str kv.1), some kv.2] H) →
      gOr (gTup K 2 (gCons (gName 2) (gCons (gName 3) gNil))) (gLst K 2 (gCons (gName 2) (gCons (gName 3) gNil))) (.ref b) [some (.ref a), some (.str x), v2, v3] H
        fun σ2 H2 => tIfS (tTest (tOp rEq (tVar 2) (tVar 1))) (tRet (tVar 3)) tNext D σ2 H2 := fun D v2 v3 b kv hb h1 h2 => by
    have fin : tIfS (tTest (tOp rEq (tVar 2) (tVar 1))) (tRet (tVar 3)) tNext D [some (.ref a), some (.str x), some (.str kv.1), some kv.2] H := by
      refine ⟨_, rfl, _, rfl, rfl, _, rfl, ite2 (fun c => ?_) (fun c => ?_)⟩
      · exact ⟨_, rfl, h1 (V.str.inj (of_decide_eq_true c))⟩
      · exact h2 fun z => c (decide_eq_true (by rw [z]))
    rcases hb with hb | hb
    · exact .inl ⟨b, _, rfl, hb, rfl, _, _, rfl, _, _, rfl, rfl, fin⟩
    · exact .inr ⟨b, _, rfl, hb, rfl, _, _, rfl, _, _, rfl, rfl, fin⟩
  rcases hs with hs | hs
  · refine .inl ⟨_, rfl, a, rfl, ⟨_, hs⟩, for_it (walk_tup (K := K) (a := a) (xs := ps)) (fun i σ H' => H' = H ∧ (kvs.take i).lookup x = none ∧ ∃ v2 v3, σ = [some (.ref a), some (.str x), v2, v3]) ⟨rfl, rfl, none, none, rfl⟩
      (fun i σ H' _ h => by rw [h.1]; exact hs) ?_ ?_⟩
    · rintro i v σ H1 H2 hi ⟨e1, hn, v2, v3, rfl⟩ ⟨e2, ev⟩
      obtain ⟨kv, ek, b, rfl, hb⟩ := prs_at hp ev
      rw [e2, e1]
      exact key _ _ _ b kv hb (fun z => q1 _ (look_hit hn ek z)) (fun z => ⟨rfl, look_skip hn ek z, _, _, rfl⟩)
    · rintro σ H1 ⟨rfl, hn, v2, v3, rfl⟩
      exact ⟨_, rfl, fun d nd => q2 (e0 hn) d nd⟩
  · refine .inr ⟨_, rfl, a, rfl, ⟨_, hs⟩, for_it (walk_list (K := K) (a := a) (xs := ps)) (fun i σ H' => H' = H ∧ (kvs.take i).lookup x = none ∧ ∃ v2 v3, σ = [some (.ref a), some (.str x), v2, v3]) ⟨rfl, rfl, none, none, rfl⟩
      (fun i σ H' _ h => by rw [h.1]; exact hs) ?_ ?_⟩
    · rintro i v σ H1 H2 hi ⟨e1, hn, v2, v3, rfl⟩ ⟨e2, ev⟩
      obtain ⟨kv, ek, b, rfl, hb⟩ := prs_at hp ev
      rw [e2, e1]
      exact key _ _ _ b kv hb (fun z => q1 _ (look_hit hn ek z)) (fun z => ⟨rfl, look_skip hn ek z, _, _, rfl⟩)
    · rintro σ H1 ⟨rfl, hn, v2, v3, rfl⟩
      exact ⟨_, rfl, fun d nd => q2 (e0 hn) d nd⟩
end
end Fd

set_option Elab.async false
set_option linter.all false
set_option maxRecDepth 100000
set_option maxHeartbeats 2000000
namespace Fd
open PySem PySem.Spec PyProof.Rows L2
/-! ### looks and eyes, as data -/
inductive Lk where
  | num (i : Int) | name (x : Str) | many (x : Str) | item (x : Str) (a : Lk) | spot (k : Nat) | bin (o : BOp) (a b : Lk)
structure Ey where
  names : List (Str × Int)
  lists : List (Str × List Int)
  spot : List Int
  met : List Str
def far (r : Except Str Int) : Except Str Int := match r with
  | .ok i => if inB i = true then .ok i else .error "far"
  | .error w => .error w
def some_of {α : Type} (o : Option α) (f : α → Except Str Int) : Except Str Int := match o with
  | some x => f x
  | none => .error "none"
def then_ (r : Except Str Int) (f : Int → Except Str Int) : Except Str Int := match r with
  | .ok i => f i
  | .error w => .error w
def itemOf (l : List Int) (i : Int) : Except Str Int := if 0 ≤ i ∧ i < l.length then .ok (l.getD i.toNat 0) else .error "none"
def val (E : Ey) : Lk → Except Str Int
  | .num i => far (.ok i)
  | .name x => far (some_of (E.names.lookup x) .ok)
  | .many x => far (some_of (E.lists.lookup x) fun l => .ok l.length)
  | .item x a => far (some_of (E.lists.lookup x) fun l => then_ (val E a) (itemOf l))
  | .spot k => far (.ok (E.spot.getD k 0))
  | .bin o a b => far (then_ (val E a) fun i => then_ (val E b) fun j => o.run i j)
def raw (E : Ey) : Lk → Except Str Int
  | .num i => .ok i
  | .name x => some_of (E.names.lookup x) .ok
  | .many x => some_of (E.lists.lookup x) fun l => .ok l.length
  | .item x a => some_of (E.lists.lookup x) fun l => then_ (val E a) (itemOf l)
  | .spot k => .ok (E.spot.getD k 0)
  | .bin o a b => then_ (val E a) fun i => then_ (val E b) fun j => o.run i j
theorem val_raw (E : Ey) (L : Lk) : val E L = far (raw E L) := by cases L <;> rfl
theorem val_in {E : Ey} {L : Lk} {i : Int} (h : val E L = .ok i) : inB i = true := by
  rw [val_raw] at h
  unfold far at h
  split at h
  · split at h
    · rename_i q
      cases h
      exact q
    · cases h
  · cases h
def Lk.deep : Lk → Nat
  | .item _ a => a.deep + 1
  | .bin _ a b => max a.deep b.deep + 1
  | _ => 1
def spotWords : List Str := ["x", "y", "way", "number"]
inductive LkAt (K : PySem.W.Frag) (H : Hp) : V → Lk → Prop where
  | num (i : Int) : LkAt K H (.int i) (.num i)
  | name {a : Addr} {x : Str} (h : Sq K H a [.str "name", .str x]) : LkAt K H (.ref a) (.name x)
  | many {a : Addr} {x : Str} (h : Sq K H a [.str "many", .str x]) : LkAt K H (.ref a) (.many x)
  | item {a : Addr} {x : Str} {u : V} {L : Lk} (h : Sq K H a [.str "item", .str x, u]) (hu : LkAt K H u L) : LkAt K H (.ref a) (.item x L)
  | spot {a : Addr} {k : Nat} {z : Str} (hk : spotWords[k]? = some z) (h : Sq K H a [.str z]) : LkAt K H (.ref a) (.spot k)
  | bin {a : Addr} {o : BOp} {u v : V} {L M : Lk} (h : Sq K H a [.str o.word, u, v]) (hu : LkAt K H u L) (hv : LkAt K H v M) : LkAt K H (.ref a) (.bin o L M)
theorem LkAt.same {K : PySem.W.Frag} {H H' : Hp} (s : Same H H') {v : V} {L : Lk} (h : LkAt K H v L) : LkAt K H' v L := by
  induction h with
  | num i => exact .num i
  | name h => exact .name (h.same s)
  | many h => exact .many (h.same s)
  | item h _ ih => exact .item (h.same s) ih
  | spot hk h => exact .spot hk (h.same s)
  | bin h _ _ i1 i2 => exact .bin (h.same s) i1 i2
theorem LkAt.sq {K : PySem.W.Frag} {H : Hp} {v : V} {L : Lk} (h : LkAt K H v L) : (∃ i, v = .int i ∧ L = .num i) ∨ ∃ a xs, v = .ref a ∧ Sq K H a xs := by
  cases h with
  | num i => exact .inl ⟨i, rfl, rfl⟩
  | name h => exact .inr ⟨_, _, rfl, h⟩
  | many h => exact .inr ⟨_, _, rfl, h⟩
  | item h _ => exact .inr ⟨_, _, rfl, h⟩
  | spot _ h => exact .inr ⟨_, _, rfl, h⟩
  | bin h _ _ => exact .inr ⟨_, _, rfl, h⟩
def Rows (K : PySem.W.Frag) (H : Hp) (rs : List (Str × V)) (ls : List (Str × List Int)) : Prop := Paired (fun (kv : Str × V) (xl : Str × List Int) => kv.1 = xl.1 ∧ ∃ a, kv.2 = .ref a ∧ Sq K H a (xl.2.map V.int)) rs ls
structure EyAt (K : PySem.W.Frag) (H : Hp) (E : Ey) (n l s m : Addr) : Prop where
  nm : ∃ ps, Sq K H n ps ∧ Prs K H ps (E.names.map fun p => (p.1, V.int p.2))
  ls : ∃ ps rs, Sq K H l ps ∧ Prs K H ps rs ∧ Rows K H rs E.lists
  sp : Sq K H s (E.spot.map V.int)
  s4 : E.spot.length = 4
  mt : Sq K H m (E.met.map V.str)
def Eyes (K : PySem.W.Frag) (H : Hp) (e : Addr) (E : Ey) : Prop := ∃ n l s m, Sq K H e [.ref n, .ref l, .ref s, .ref m] ∧ EyAt K H E n l s m
theorem Prs.same {K : PySem.W.Frag} {H H' : Hp} (s : Same H H') {ps : List V} {kvs : List (Str × V)} (h : Prs K H ps kvs) : Prs K H' ps kvs := Paired.mapP h fun _ _ ⟨a, e, q⟩ => ⟨a, e, q.same s⟩
theorem Rows.same {K : PySem.W.Frag} {H H' : Hp} (s : Same H H') {rs : List (Str × V)} {ls : List (Str × List Int)} (h : Rows K H rs ls) : Rows K H' rs ls := Paired.mapP h fun _ _ ⟨e, a, q, z⟩ => ⟨e, a, q, z.same s⟩
theorem Eyes.same {K : PySem.W.Frag} {H H' : Hp} (s : Same H H') {e : Addr} {E : Ey} (h : Eyes K H e E) : Eyes K H' e E := by
  obtain ⟨n, l, s', m, h1, ⟨ps, h2, h3⟩, ⟨ps', rs, h4, h5, h6⟩, h7, h8, h9⟩ := h
  exact ⟨n, l, s', m, h1.same s, ⟨ps, h2.same s, h3.same s⟩, ⟨ps', rs, h4.same s, h5.same s, h6.same s⟩, h7.same s, h8, h9.same s⟩
theorem names_look (x : Str) : ∀ ns : List (Str × Int), (ns.map fun p => (p.1, V.int p.2)).lookup x = (ns.lookup x).map V.int
  | [] => rfl
  | (k, v) :: r => by
    rw [List.map_cons, List.lookup_cons, List.lookup_cons]
    by_cases h : (x == k) = true
    · rw [h]; rfl
    · rw [Bool.eq_false_iff.mpr h]
      exact names_look x r
theorem rows_look {K : PySem.W.Frag} {H : Hp} (x : Str) : ∀ {rs : List (Str × V)} {ls : List (Str × List Int)}, Rows K H rs ls → (rs.lookup x = none ∧ ls.lookup x = none) ∨ ∃ a l, rs.lookup x = some (.ref a) ∧ ls.lookup x = some l ∧ Sq K H a (l.map V.int)
  | _, _, .nil => .inl ⟨rfl, rfl⟩
  | (k, v) :: rs, (k', l) :: ls, .cons r t => by
    obtain ⟨e, a, ea, q⟩ := r
    dsimp only at e ea q
    subst e ea
    rw [List.lookup_cons, List.lookup_cons]
    by_cases h : (x == k) = true
    · rw [h]; exact .inr ⟨a, l, rfl, rfl, q⟩
    · rw [Bool.eq_false_iff.mpr h]
      exact rows_look x t
/-- what the top has written besides defs -/
structure Wr (K : PySem.W.Frag) (w : World) (mg : Str → Option Value) (sp sm : Addr) (fs : BOp → Addr) : Prop where
  mP : mg "SPOT_WORDS" = some (.ref sp)
  mS : mg "SUMS" = some (.ref sm)
  kP : ∃ its n sl, K.lookup sp = some ⟨.type "tuple", none, .seq its n, sl⟩ ∧ Vals (spotWords.map V.str) its.toList ∧ its.size ≤ sizeLine
  kS : ∀ o : BOp, KDct K w sm o.word (.ref (fs o))
theorem Wr.sqP {K : PySem.W.Frag} {w : World} {mg : Str → Option Value} {sp sm : Addr} {fs : BOp → Addr} (W : Wr K w mg sp sm fs) (H : Hp) : SqT K H sp (spotWords.map V.str) := by
  obtain ⟨its, n, sl, h1, h2, h3⟩ := W.kP
  exact .inr ⟨_, its, n, h1, rfl, rfl, h3, h2⟩
theorem gq {K : PySem.W.Frag} {H : Hp} {a : Addr} {xs : List V} {σ : L2.St} {n : Nat} {g : TGs} {Q : L2.St → Hp → Prop} (h : Sq K H a xs) (hl : xs.length = n) (q : g xs σ H Q) : gOr (gTup K n g) (gLst K n g) (.ref a) σ H Q :=
  h.elim (fun z => .inl ⟨a, xs, rfl, z, hl, q⟩) fun z => .inr ⟨a, xs, rfl, z, hl, q⟩
theorem comes_ok {C : Addr} {H : Hp} {r : Except Str Int} {Q : VK} {E : XK} {i : Int} (h : Comes C H r Q E) (e : r = .ok i) : Q (.int i) H := by subst e; exact h
theorem comes_err {C : Addr} {H : Hp} {r : Except Str Int} {Q : VK} {E : XK} {w : Str} (h : Comes C H r Q E) (e : r = .error w) : Falls C E H w := by subst e; exact h
theorem spot_in {k : Nat} {z : Str} (h : spotWords[k]? = some z) : inV (.str z) (spotWords.map V.str) = true ∧ (∀ m, m < k → spotWords[m]? ≠ some z) ∧ k < 4 ∧ z ≠ "name" ∧ z ≠ "many" ∧ z ≠ "item" := by
  have hk : k < 4 := by
    obtain ⟨h', _⟩ := List.getElem?_eq_some_iff.mp h
    exact h'
  have : k = 0 ∨ k = 1 ∨ k = 2 ∨ k = 3 := by omega
  rcases this with rfl | rfl | rfl | rfl
  · cases (Option.some.inj h); exact ⟨by decide +kernel, fun m hm => absurd hm (by omega), hk, by decide +kernel, by decide +kernel, by decide +kernel⟩
  · cases (Option.some.inj h)
    refine ⟨by decide +kernel, fun m hm => ?_, hk, by decide +kernel, by decide +kernel, by decide +kernel⟩
    have : m = 0 := by omega
    subst this; decide +kernel
  · cases (Option.some.inj h)
    refine ⟨by decide +kernel, fun m hm => ?_, hk, by decide +kernel, by decide +kernel, by decide +kernel⟩
    have : m = 0 ∨ m = 1 := by omega
    rcases this with rfl | rfl <;> decide +kernel
  · cases (Option.some.inj h)
    refine ⟨by decide +kernel, fun m hm => ?_, hk, by decide +kernel, by decide +kernel, by decide +kernel⟩
    have : m = 0 ∨ m = 1 ∨ m = 2 := by omega
    rcases this with rfl | rfl | rfl <;> decide +kernel
theorem bop_words (o : BOp) : inV (.str o.word) (spotWords.map V.str) = false ∧ o.word ≠ "name" ∧ o.word ≠ "many" ∧ o.word ≠ "item" := by
  cases o <;> exact ⟨by decide +kernel, by decide +kernel, by decide +kernel, by decide +kernel⟩
theorem neS {a b : Str} (h : a ≠ b) : ¬ (V.str a = V.str b) := fun z => h (V.str.inj z)
section
variable {P : Program} {w : World} {K : PySem.W.Frag} {mg : Str → Option Value} {base : Heap} {f C fI sp sm : Addr} {fs : BOp → Addr} {fd : FuncData}
abbrev sOut : Stmt := top 23
theorem scOut : FnScope ["look", "eyes", "names", "lists", "spot", "met", "word", "row", "first", "second", "action"] ["look", "eyes"] (defScope sOut) := ⟨rfl, rfl, rfl, by decide +kernel, rfl, by decide +kernel, by decide +kernel⟩
def spOut (K : PySem.W.Frag) (C : Addr) (n : Nat) : Sp := fun vs H Q E => ∃ (v : V) (e : Addr) (L : Lk) (Y : Ey), vs = [v, .ref e] ∧ LkAt K H v L ∧ L.deep ≤ n ∧ Eyes K H e Y ∧ Comes C H (raw Y L) Q E
def spVal (K : PySem.W.Frag) (C : Addr) (n : Nat) : Sp := fun vs H Q E => ∃ (v : V) (e : Addr) (L : Lk) (Y : Ey), vs = [v, .ref e] ∧ LkAt K H v L ∧ L.deep ≤ n ∧ Eyes K H e Y ∧ Comes C H (val Y L) Q E
theorem ok_out {k n : Nat} (W : Wr K w mg sp sm fs) (T : PySem.FellX.FellTxt K mg C fI) (F : Fun K "outcome" "outcome" sOut f fd) (GN : FnG P w K mg base CX0 k "is_number" ["thing"] (spIsNum K))
    (GF : FnG P w K mg base (L2.CX P w) k "first_of" ["pairs", "name"] (spFirst K C)) (GP : FnG P w K mg base (L2.CX P w) k "place_in" ["row", "place"] (spPlace K C)) (GV : FnG P w K mg base (L2.CX P w) k "value_of" ["look", "eyes"] (spVal K C n))
    (GS : ∀ o : BOp, HeldX P w K mg base k (fs o) (spSum C o)) (m_len : mg "len" = none) : FnOk P w K mg base (L2.CX P w) (k + 1) f fd ["look", "eyes"] (spOut K C (n + 1)) := by
  obtain ⟨_, _, G_is_number, m_is_number, k_is_number, b_is_number⟩ := GN
  obtain ⟨_, _, G_first_of, m_first_of, k_first_of, b_first_of⟩ := GF
  obtain ⟨_, _, G_place_in, m_place_in, k_place_in, b_place_in⟩ := GP
  obtain ⟨_, _, G_value_of, m_value_of, k_value_of, b_value_of⟩ := GV
  have sc := scOut
  refine F.okX sc (fun vs H Q E h => ?_) (fun cdv A outer s H vs Q E hr h => ?_)
  · obtain ⟨v, e, L, Y, rfl, _⟩ := h
    rfl
  obtain ⟨v, e, L, Y, rfl, hL, hd, hE, q⟩ := h
  refine ⟨_, (pss_cons (ps_if (pt_val (pe_call G_is_number (hr.mono (by omega)) (by rfl) m_is_number k_is_number b_is_number .nil pass0 (pa_cons (pv 0) pa_nil))) (pss_one (ps_ret (pv 0))) pss_nil)
      (pss_cons (ps_asg (pv 1) (pg_or (pg_tup (by rfl) (pgs_cons (pg_name (i := 2) sc.nd rfl (.inl rfl)) (pgs_cons (pg_name (i := 3) sc.nd rfl (.inl rfl)) (pgs_cons (pg_name (i := 4) sc.nd rfl (.inl rfl)) (pgs_cons (pg_name (i := 5) sc.nd rfl (.inl rfl)) pgs_nil))))) (pg_lst (by rfl) (pgs_cons (pg_name (i := 2) sc.nd rfl (.inl rfl)) (pgs_cons (pg_name (i := 3) sc.nd rfl (.inl rfl)) (pgs_cons (pg_name (i := 4) sc.nd rfl (.inl rfl)) (pgs_cons (pg_name (i := 5) sc.nd rfl (.inl rfl)) pgs_nil)))))))
      (pss_cons (ps_set (i := 6) sc.nd rfl (.inl rfl) (pe_ix (IxR.or ix_tup ix_list) (pv 0) pe_int (fun _ _ => rfl)))
      (pss_cons (ps_if (pt_cmpR op_eq (pv 6) pe_str (nomark _)) (pss_one (ps_ret (pe_callS G_first_of (hr.mono (by omega)) (by rfl) m_first_of k_first_of b_first_of (fun σ => passAt (takes_of rfl rfl rfl rfl) σ) (pa_cons (pv 2) (pa_cons (pe_ix (IxR.or ix_tup ix_list) (pv 0) pe_int (fun _ _ => rfl)) pa_nil))))) pss_nil)
      (pss_cons (ps_if (pt_cmpR op_eq (pv 6) pe_str (nomark _)) (pss_one (ps_ret (pe_callB call_len_seq (by rfl) m_len (by decide +kernel) (pa_cons (pe_callS G_first_of (hr.mono (by omega)) (by rfl) m_first_of k_first_of b_first_of (fun σ => passAt (takes_of rfl rfl rfl rfl) σ) (pa_cons (pv 3) (pa_cons (pe_ix (IxR.or ix_tup ix_list) (pv 0) pe_int (fun _ _ => rfl)) pa_nil))) pa_nil)))) pss_nil)
      (pss_cons (ps_if (pt_cmpR op_eq (pv 6) pe_str (nomark _)) (pss_cons (ps_set (i := 7) sc.nd rfl (.inl rfl) (pe_callS G_first_of (hr.mono (by omega)) (by rfl) m_first_of k_first_of b_first_of (fun σ => passAt (takes_of rfl rfl rfl rfl) σ) (pa_cons (pv 3) (pa_cons (pe_ix (IxR.or ix_tup ix_list) (pv 0) pe_int (fun _ _ => rfl)) pa_nil))))
      (pss_one (ps_ret (pe_ix (IxR.or ix_tup ix_list) (pv 7) (pe_callS G_place_in (hr.mono (by omega)) (by rfl) m_place_in k_place_in b_place_in (fun σ => passAt (takes_of rfl rfl rfl rfl) σ) (pa_cons (pv 7) (pa_cons (pe_callS G_value_of (hr.mono (by omega)) (by rfl) m_value_of k_value_of b_value_of (fun σ => passAt (takes_of rfl rfl rfl rfl) σ) (pa_cons (pe_ix (IxR.or ix_tup ix_list) (pv 0) pe_int (fun _ _ => rfl)) (pa_cons (pv 1) pa_nil))) pa_nil))) (fun _ _ => rfl))))) pss_nil)
      (pss_cons (ps_if (pt_cmpR op_in_seq (pv 6) (pe_glob (v := .ref sp) (by rfl) W.mP rfl) (by rfl)) (pss_one (ps_ret (pe_ix (IxR.or ix_tup ix_list) (pv 4) (pe_bm PySem.F.plainAttrs_tuple PySem.F.slot_tuple_index PySem.F.type_tuple_index mt_tup_index (pe_glob (v := .ref sp) (by rfl) W.mP rfl) (pa_cons (pv 6) pa_nil)) (fun _ _ => rfl)))) pss_nil)
      (pss_cons (ps_set (i := 8) sc.nd rfl (.inl rfl) (pe_callS G_value_of (hr.mono (by omega)) (by rfl) m_value_of k_value_of b_value_of (fun σ => passAt (takes_of rfl rfl rfl rfl) σ) (pa_cons (pe_ix (IxR.or ix_tup ix_list) (pv 0) pe_int (fun _ _ => rfl)) (pa_cons (pv 1) pa_nil))))
      (pss_cons (ps_set (i := 9) sc.nd rfl (.inl rfl) (pe_callS G_value_of (hr.mono (by omega)) (by rfl) m_value_of k_value_of b_value_of (fun σ => passAt (takes_of rfl rfl rfl rfl) σ) (pa_cons (pe_ix (IxR.or ix_tup ix_list) (pv 0) pe_int (fun _ _ => rfl)) (pa_cons (pv 1) pa_nil))))
      (pss_cons (ps_set (i := 10) sc.nd rfl (.inl rfl) (pe_ix ix_kdict (pe_glob (v := .ref sm) (by rfl) W.mS rfl) (pv 6) (fun _ _ => rfl)))
      (pss_one (ps_ret (pe_callX (k := k) (i := 10) (hr.mono (by omega)) rfl (.inl rfl) (fun σ => passAt (takes_of rfl rfl rfl rfl) σ) (by exact (pa_cons (pv 8) (pa_cons (pv 9) pa_nil)))))))))))))))), ?_⟩
  obtain ⟨en, el, es, em, he, hY⟩ := id hE
  cases hL with
  | num i => exact ⟨_, rfl, _, rfl, .inl ⟨i, rfl, _, rfl, iteT ⟨_, rfl, q⟩⟩⟩
  | @name a x hs =>
    refine ⟨_, rfl, _, rfl, .inr ⟨a, _, rfl, hs, _, rfl, iteF ⟨_, rfl, gq he rfl ⟨_, _, rfl, _, _, rfl, _, _, rfl, _, _, rfl, rfl, _, rfl, ixq hs rfl ?_⟩⟩⟩⟩
    obtain ⟨ps, h1, h2⟩ := hY.nm
    refine ⟨_, rfl, rfl, _, rfl, ifT rfl ⟨_, rfl, _, rfl, ixq hs rfl ⟨en, ps, _, x, rfl, h1, h2, fun u hu => ?_, fun hn => ?_⟩⟩⟩
    · rw [names_look] at hu
      cases e : Y.names.lookup x with
      | none => rw [e] at hu; cases hu
      | some i => rw [e] at hu; cases hu; exact comes_ok q (show some_of (Y.names.lookup x) .ok = .ok i by rw [e]; rfl)
    · rw [names_look] at hn
      cases e : Y.names.lookup x with
      | some i => rw [e] at hn; cases hn
      | none => exact comes_err q (show some_of (Y.names.lookup x) .ok = .error "none" by rw [e]; rfl)
  | @many a x hs =>
    refine ⟨_, rfl, _, rfl, .inr ⟨a, _, rfl, hs, _, rfl, iteF ⟨_, rfl, gq he rfl ⟨_, _, rfl, _, _, rfl, _, _, rfl, _, _, rfl, rfl, _, rfl, ixq hs rfl ?_⟩⟩⟩⟩
    obtain ⟨ps, rs, h1, h2, h3⟩ := hY.ls
    refine ⟨_, rfl, rfl, _, rfl, ifF (neS (by decide +kernel)) ⟨_, rfl, rfl, _, rfl, ifT rfl ⟨_, rfl, _, rfl, ixq hs rfl ⟨el, ps, rs, x, rfl, h1, h2, fun u hu => ?_, fun hn => ?_⟩⟩⟩⟩
    · rcases rows_look x h3 with ⟨z, _⟩ | ⟨b, l, z, zl, zs⟩
      · rw [z] at hu; cases hu
      · rw [z] at hu
        cases hu
        refine ⟨b, _, rfl, zs.symm, ?_⟩
        rw [List.length_map]
        exact comes_ok q (show some_of (Y.lists.lookup x) (fun l => .ok l.length) = _ by rw [zl]; rfl)
    · rcases rows_look x h3 with ⟨_, z⟩ | ⟨b, l, z, zl, zs⟩
      · exact comes_err q (show some_of (Y.lists.lookup x) (fun l => .ok l.length) = .error "none" by rw [z]; rfl)
      · rw [z] at hn; cases hn
  | @item a x u L hs hu =>
    refine ⟨_, rfl, _, rfl, .inr ⟨a, _, rfl, hs, _, rfl, iteF ⟨_, rfl, gq he rfl ⟨_, _, rfl, _, _, rfl, _, _, rfl, _, _, rfl, rfl, _, rfl, ixq hs rfl ?_⟩⟩⟩⟩
    obtain ⟨ps, rs, h1, h2, h3⟩ := hY.ls
    refine ⟨_, rfl, rfl, _, rfl, ifF (neS (by decide +kernel)) ⟨_, rfl, rfl, _, rfl, ifF (neS (by decide +kernel)) ⟨_, rfl, rfl, _, rfl, ifT rfl ⟨_, rfl, _, rfl, ixq hs rfl ⟨el, ps, rs, x, rfl, h1, h2, fun u' hu' => ?_, fun hn => ?_⟩⟩⟩⟩⟩
    · rcases rows_look x h3 with ⟨z, _⟩ | ⟨b, l, z, zl, zs⟩
      · rw [z] at hu'; cases hu'
      · rw [z] at hu'
        cases hu'
        have q1 : Comes C H (then_ (val Y L) (itemOf l)) Q E := by
          have q0 : Comes C H (some_of (Y.lists.lookup x) fun l => then_ (val Y L) (itemOf l)) Q E := q
          rw [zl] at q0
          exact q0
        refine ⟨_, rfl, _, rfl, _, rfl, ixq hs rfl ⟨_, rfl, u, e, L, Y, rfl, hu, Nat.le_of_succ_le_succ hd, hE, ?_⟩⟩
        cases ev : val Y L with
        | error z => exact comes_err q1 (by rw [ev]; rfl)
        | ok i =>
          rw [ev] at q1
          refine ⟨b, _, i, rfl, zs, fun hi => ?_, fun hi => ?_⟩
          · rw [List.length_map] at hi
            have hl : i.toNat < l.length := by omega
            refine ixq zs (v := .int (l.getD i.toNat 0)) ?_ (comes_ok q1 (if_pos hi))
            have ei : i = ((i.toNat : Nat) : Int) := by omega
            rw [ei]
            exact atI_nat (by rw [Int.toNat_natCast, List.getElem?_map, List.getD_eq_getElem?_getD, List.getElem?_eq_getElem hl]; rfl)
          · rw [List.length_map] at hi
            exact comes_err q1 (if_neg hi)
    · rcases rows_look x h3 with ⟨_, z⟩ | ⟨b, l, z, zl, zs⟩
      · exact comes_err q (show some_of (Y.lists.lookup x) (fun l => then_ (val Y L) (itemOf l)) = .error "none" by rw [z]; rfl)
      · rw [z] at hn; cases hn
  | @spot a j z hk hs =>
    obtain ⟨w1, w2, w3, w4, w5, w6⟩ := spot_in hk
    obtain ⟨its, nn, sl, p1, p2, p3⟩ := W.kP
    refine ⟨_, rfl, _, rfl, .inr ⟨a, _, rfl, hs, _, rfl, iteF ⟨_, rfl, gq he rfl ⟨_, _, rfl, _, _, rfl, _, _, rfl, _, _, rfl, rfl, _, rfl, ixq hs rfl ?_⟩⟩⟩⟩
    refine ⟨_, rfl, rfl, _, rfl, ifF (neS w4) ⟨_, rfl, rfl, _, rfl, ifF (neS w5) ⟨_, rfl, rfl, _, rfl, ifF (neS w6) ⟨_, rfl, sp, _, rfl, .inr (W.sqP H), rfl, by decide +kernel, _, rfl, iteB w1 ?_⟩⟩⟩⟩
    refine ⟨_, rfl, .inr (.inl ⟨rfl, _, p1, rfl, rfl⟩), _, rfl, sp, spotWords, z, j, rfl, rfl, W.sqP H, hk, w2, ixq hY.sp (v := .int (Y.spot.getD j 0)) (atI_nat ?_) q⟩
    have h4 : j < Y.spot.length := by rw [hY.s4]; exact w3
    rw [List.getElem?_map, List.getD_eq_getElem?_getD, List.getElem?_eq_getElem h4]
    rfl
  | @bin a o u v L M hs hu hv =>
    obtain ⟨w1, w2, w3, w4⟩ := bop_words o
    refine ⟨_, rfl, _, rfl, .inr ⟨a, _, rfl, hs, _, rfl, iteF ⟨_, rfl, gq he rfl ⟨_, _, rfl, _, _, rfl, _, _, rfl, _, _, rfl, rfl, _, rfl, ixq hs rfl ?_⟩⟩⟩⟩
    refine ⟨_, rfl, rfl, _, rfl, ifF (neS w2) ⟨_, rfl, rfl, _, rfl, ifF (neS w3) ⟨_, rfl, rfl, _, rfl, ifF (neS w4) ⟨_, rfl, sp, _, rfl, .inr (W.sqP H), rfl, by decide +kernel, _, rfl, iteBF w1 ?_⟩⟩⟩⟩
    have hd' : max L.deep M.deep ≤ n := Nat.le_of_succ_le_succ hd
    have q1 : Comes C H (then_ (val Y L) fun i => then_ (val Y M) fun j => o.run i j) Q E := q
    refine ⟨_, rfl, ixq hs rfl ⟨_, rfl, u, e, L, Y, rfl, hu, by omega, hE, ?_⟩⟩
    cases ev : val Y L with
    | error z => exact comes_err q1 (by rw [ev]; rfl)
    | ok i =>
      rw [ev] at q1
      refine ⟨_, rfl, ixq hs rfl ⟨_, rfl, v, e, M, Y, rfl, hv, by omega, hE, ?_⟩⟩
      cases ew : val Y M with
      | error z => exact comes_err q1 (by show then_ (val Y M) _ = _; rw [ew]; rfl)
      | ok j =>
        have q2 : Comes C H (o.run i j) Q E := by
          have q0 : Comes C H (then_ (val Y M) fun j => o.run i j) Q E := q1
          rw [ew] at q0
          exact q0
        exact ⟨_, rfl, sm, o.word, _, rfl, rfl, W.kS o, fs o, spSum C o, rfl, GS o, _, rfl, _, rfl, i, j, rfl, val_in ev, val_in ew, q2⟩
end
end Fd

set_option Elab.async false
set_option linter.all false
set_option maxRecDepth 100000
set_option maxHeartbeats 2000000
namespace Fd
open PySem PySem.Spec PyProof.Rows L2
section
variable {P : Program} {w : World} {K : PySem.W.Frag} {mg : Str → Option Value} {base : Heap} {f C fI sp sm : Addr} {fs : BOp → Addr} {fd : FuncData}
abbrev sVal : Stmt := top 22
theorem ok_val {k n : Nat} (T : PySem.FellX.FellTxt K mg C fI) (F : Fun K "value_of" "value_of" sVal f fd) (GI : FnG P w K mg base CX0 k "is_value" ["thing"] spIsVal)
    (GO : FnG P w K mg base (L2.CX P w) k "outcome" ["look", "eyes"] (spOut K C n)) : FnOk P w K mg base (L2.CX P w) (k + 1) f fd ["look", "eyes"] (spVal K C n) := by
  obtain ⟨_, _, G_is_value, m_is_value, k_is_value, b_is_value⟩ := GI
  obtain ⟨_, _, G_outcome, m_outcome, k_outcome, b_outcome⟩ := GO
  have sc : FnScope ["look", "eyes", "value"] ["look", "eyes"] (defScope sVal) := ⟨rfl, rfl, rfl, by decide +kernel, rfl, by decide +kernel, by decide +kernel⟩
  refine F.okX sc (fun vs H Q E h => ?_) (fun cdv A outer s H vs Q E hr h => ?_)
  · obtain ⟨v, e, L, Y, rfl, _⟩ := h
    rfl
  obtain ⟨v, e, L, Y, rfl, hL, hd, hE, q⟩ := h
  refine ⟨_, (pss_cons (ps_set (i := 2) sc.nd rfl (.inl rfl) (pe_callS G_outcome (hr.mono (by omega)) (by rfl) m_outcome k_outcome b_outcome (fun σ => passAt (takes_of rfl rfl rfl rfl) σ) (pa_cons (pv 0) (pa_cons (pv 1) pa_nil))))
      (pss_cons (ps_if (pt_not (pt_val (pe_call G_is_value (hr.mono (by omega)) (by rfl) m_is_value k_is_value b_is_value .nil pass0 (pa_cons (pv 2) pa_nil)))) (pss_one (ps_raiseFell rfl T hr (takes_of rfl rfl rfl rfl) (by exact (pa_cons pe_str pa_nil)))) pss_nil)
      (pss_one (ps_ret (pv 2))))), ?_⟩
  rw [val_raw] at q
  refine ⟨_, rfl, _, rfl, v, e, L, Y, rfl, hL, hd, hE, ?_⟩
  cases er : raw Y L with
  | error z => exact comes_err q (by rw [er]; rfl)
  | ok i =>
    rw [er] at q
    refine ⟨_, rfl, i, rfl, _, rfl, ?_⟩
    by_cases hi : inB i = true
    · rw [hi]
      exact iteF ⟨_, rfl, comes_ok q (if_pos hi)⟩
    · rw [Bool.eq_false_iff.mpr hi]
      exact iteT ⟨_, rfl, fun d nd => comes_err q (if_neg hi) d nd⟩
/-- the defs of looks.py that the two call -/
structure Looks5 (P : Program) (w : World) (K : PySem.W.Frag) (mg : Str → Option Value) (base : Heap) (C fI sp sm : Addr) (fs : BOp → Addr) : Prop where
  T : PySem.FellX.FellTxt K mg C fI
  W : Wr K w mg sp sm fs
  N : FnG P w K mg base CX0 3 "is_number" ["thing"] (spIsNum K)
  I : FnG P w K mg base CX0 3 "is_value" ["thing"] spIsVal
  F : FnG P w K mg base (L2.CX P w) 3 "first_of" ["pairs", "name"] (spFirst K C)
  L : FnG P w K mg base (L2.CX P w) 3 "place_in" ["row", "place"] (spPlace K C)
  S : ∀ o : BOp, HeldX P w K mg base 3 (fs o) (spSum C o)
theorem FnG.mono {P : Program} {w : World} {K : PySem.W.Frag} {mg : Str → Option Value} {base : Heap} {CX : CXT} {j k : Nat} {x : Str} {ps : List Str} {sp : Sp} (G : FnG P w K mg base CX j x ps sp) (h : j ≤ k) : FnG P w K mg base CX k x ps sp := by
  obtain ⟨f, fd, F, r⟩ := G
  exact ⟨f, fd, F.mono h, r⟩
theorem HeldX.mono {P : Program} {w : World} {K : PySem.W.Frag} {mg : Str → Option Value} {base : Heap} {j k : Nat} {f : Addr} {sp : Sp} (G : HeldX P w K mg base j f sp) (h : j ≤ k) : HeldX P w K mg base k f sp := by
  obtain ⟨fd, ps, F, r⟩ := G
  exact ⟨fd, ps, F.mono h, r⟩
theorem ok_values {fo : Addr} {fod : FuncData} (L : Looks5 P w K mg base C fI sp sm fs) (m_len : mg "len" = none) (DV : Df K mg "value_of" sVal ["look", "eyes"] f fd) (DO : Df K mg "outcome" sOut ["look", "eyes"] fo fod) :
    ∀ n, FnG P w K mg base (L2.CX P w) (2 * n + 4) "value_of" ["look", "eyes"] (spVal K C n)
  | 0 => ⟨f, fd, ⟨fun vs H Q E h => by
      obtain ⟨v, e, L, Y, rfl, _⟩ := h
      rfl, fun A outer s H args us vs Q E _ _ _ _ h => by
      obtain ⟨v, e, L, Y, _, _, hd, _⟩ := h
      exact absurd hd (by cases L <;> simp [Lk.deep])⟩, DV.m, DV.F.kp, DV.b⟩
  | n + 1 => by
    have G := ok_values L m_len DV DO n
    have O : FnG P w K mg base (L2.CX P w) (2 * n + 5) "outcome" ["look", "eyes"] (spOut K C (n + 1)) :=
      DO.g (ok_out (k := 2 * n + 4) L.W L.T DO.F (L.N.mono (by omega)) (L.F.mono (by omega)) (L.L.mono (by omega)) G (fun o => (L.S o).mono (by omega)) m_len)
    exact DV.g (ok_val (k := 2 * n + 5) L.T DV.F (L.I.mono (by omega)) O)
/-! ### tests -/
end
inductive Ts where
  | like (a b : Lk) | less (a b : Lk) | not_ (t : Ts) | both (t u : Ts) | any_ (t u : Ts) | meets (x : Str)
def thenB {α β : Type} (r : Except Str α) (f : α → Except Str β) : Except Str β := match r with
  | .ok i => f i
  | .error w => .error w
def hold (Y : Ey) : Ts → Except Str Bool
  | .like a b => thenB (val Y a) fun i => thenB (val Y b) fun j => .ok (decide (i = j))
  | .less a b => thenB (val Y a) fun i => thenB (val Y b) fun j => .ok (decide (i < j))
  | .not_ t => thenB (hold Y t) fun b => .ok (!b)
  | .both t u => thenB (hold Y t) fun b => if b = true then hold Y u else .ok false
  | .any_ t u => thenB (hold Y t) fun b => if b = true then .ok true else hold Y u
  | .meets x => .ok (decide (x ∈ Y.met))
def Ts.deep : Ts → Nat
  | .like a b => max a.deep b.deep + 1
  | .less a b => max a.deep b.deep + 1
  | .not_ t => t.deep + 1
  | .both t u => max t.deep u.deep + 1
  | .any_ t u => max t.deep u.deep + 1
  | .meets _ => 1
inductive TsAt (K : PySem.W.Frag) (H : Hp) : V → Ts → Prop where
  | like {a : Addr} {u v : V} {L M : Lk} (h : Sq K H a [.str "like", u, v]) (hu : LkAt K H u L) (hv : LkAt K H v M) : TsAt K H (.ref a) (.like L M)
  | less {a : Addr} {u v : V} {L M : Lk} (h : Sq K H a [.str "below", u, v]) (hu : LkAt K H u L) (hv : LkAt K H v M) : TsAt K H (.ref a) (.less L M)
  | not_ {a : Addr} {u : V} {t : Ts} (h : Sq K H a [.str "not", u]) (hu : TsAt K H u t) : TsAt K H (.ref a) (.not_ t)
  | both {a : Addr} {u v : V} {t t' : Ts} (h : Sq K H a [.str "both", u, v]) (hu : TsAt K H u t) (hv : TsAt K H v t') : TsAt K H (.ref a) (.both t t')
  | any_ {a : Addr} {u v : V} {t t' : Ts} (h : Sq K H a [.str "any", u, v]) (hu : TsAt K H u t) (hv : TsAt K H v t') : TsAt K H (.ref a) (.any_ t t')
  | meets {a : Addr} {x : Str} (h : Sq K H a [.str "meets", .str x]) : TsAt K H (.ref a) (.meets x)
theorem TsAt.same {K : PySem.W.Frag} {H H' : Hp} (s : Same H H') {v : V} {t : Ts} (h : TsAt K H v t) : TsAt K H' v t := by
  induction h with
  | like h hu hv => exact .like (h.same s) (hu.same s) (hv.same s)
  | less h hu hv => exact .less (h.same s) (hu.same s) (hv.same s)
  | not_ h _ ih => exact .not_ (h.same s) ih
  | both h _ _ i1 i2 => exact .both (h.same s) i1 i2
  | any_ h _ _ i1 i2 => exact .any_ (h.same s) i1 i2
  | meets h => exact .meets (h.same s)
def ComesB (C : Addr) (H : Hp) (r : Except Str Bool) (Q : VK) (E : XK) : Prop := match r with
  | .ok b => Q (.bl b) H
  | .error w => Falls C E H w
theorem comesB_ok {C : Addr} {H : Hp} {r : Except Str Bool} {Q : VK} {E : XK} {i : Bool} (h : ComesB C H r Q E) (e : r = .ok i) : Q (.bl i) H := by subst e; exact h
theorem comesB_err {C : Addr} {H : Hp} {r : Except Str Bool} {Q : VK} {E : XK} {w : Str} (h : ComesB C H r Q E) (e : r = .error w) : Falls C E H w := by subst e; exact h
theorem in_met (x : Str) : ∀ m : List Str, inV (.str x) (m.map V.str) = decide (x ∈ m)
  | [] => by rw [decide_eq_false (by simp)]; rfl
  | y :: r => by
    show (y == x || inV (.str x) (r.map V.str)) = _
    rw [in_met x r]
    by_cases h : y = x
    · subst h
      rw [decide_eq_true (List.mem_cons_self), beq_self_eq_true]
      rfl
    · rw [beq_eq_false_iff_ne.mpr h, Bool.false_or]
      by_cases g : x ∈ r
      · rw [decide_eq_true g, decide_eq_true (List.mem_cons_of_mem _ g)]
      · rw [decide_eq_false g, decide_eq_false (fun z => (List.mem_cons.mp z).elim (fun e => h e.symm) g)]
theorem flat_met : ∀ m : List Str, (m.map V.str).all flatV = true
  | [] => rfl
  | _ :: r => by rw [List.map_cons, List.all_cons, flat_met r]; rfl
section
variable {P : Program} {w : World} {K : PySem.W.Frag} {mg : Str → Option Value} {base : Heap} {f C fI sp sm : Addr} {fs : BOp → Addr} {fd : FuncData}
abbrev sHolds : Stmt := top 26
def spHold (K : PySem.W.Frag) (C : Addr) (n : Nat) : Sp := fun vs H Q E => ∃ (v : V) (e : Addr) (t : Ts) (Y : Ey), vs = [v, .ref e] ∧ TsAt K H v t ∧ t.deep ≤ n ∧ Eyes K H e Y ∧ ComesB C H (hold Y t) Q E
theorem ok_hold {k n : Nat} (T : PySem.FellX.FellTxt K mg C fI) (F : Fun K "holds" "holds" sHolds f fd) (GV : FnG P w K mg base (L2.CX P w) k "value_of" ["look", "eyes"] (spVal K C n))
    (GH : FnG P w K mg base (L2.CX P w) k "holds" ["test", "eyes"] (spHold K C n)) : FnOk P w K mg base (L2.CX P w) (k + 1) f fd ["test", "eyes"] (spHold K C (n + 1)) := by
  obtain ⟨_, _, G_value_of, m_value_of, k_value_of, b_value_of⟩ := GV
  obtain ⟨_, _, G_holds, m_holds, k_holds, b_holds⟩ := GH
  have sc : FnScope ["test", "eyes", "word", "first", "second"] ["test", "eyes"] (defScope sHolds) := ⟨rfl, rfl, rfl, by decide +kernel, rfl, by decide +kernel, by decide +kernel⟩
  refine F.okX sc (fun vs H Q E h => ?_) (fun cdv A outer s H vs Q E hr h => ?_)
  · obtain ⟨v, e, L, Y, rfl, _⟩ := h
    rfl
  obtain ⟨v, e, t, Y, rfl, hT, hd, hE, q⟩ := h
  refine ⟨_, (pss_cons (ps_set (i := 2) sc.nd rfl (.inl rfl) (pe_ix (IxR.or ix_tup ix_list) (pv 0) pe_int (fun _ _ => rfl)))
      (pss_cons (ps_if (pt_cmpR op_eq (pv 2) pe_str (nomark _)) (pss_one (ps_ret (pe_cmpR op_in_seq (pe_ix (IxR.or ix_tup ix_list) (pv 0) pe_int (fun _ _ => rfl)) (pe_ix (IxR.or ix_tup ix_list) (pv 1) pe_int (fun _ _ => rfl)) (by rfl)))) pss_nil)
      (pss_cons (ps_if (pt_cmpR op_eq (pv 2) pe_str (nomark _)) (pss_one (ps_ret (pe_not (pe_callS G_holds (hr.mono (by omega)) (by rfl) m_holds k_holds b_holds (fun σ => passAt (takes_of rfl rfl rfl rfl) σ) (pa_cons (pe_ix (IxR.or ix_tup ix_list) (pv 0) pe_int (fun _ _ => rfl)) (pa_cons (pv 1) pa_nil)))))) pss_nil)
      (pss_cons (ps_if (pt_cmpR op_eq (pv 2) pe_str (nomark _)) (pss_one (ps_ret (pe_and (pe_callS G_holds (hr.mono (by omega)) (by rfl) m_holds k_holds b_holds (fun σ => passAt (takes_of rfl rfl rfl rfl) σ) (pa_cons (pe_ix (IxR.or ix_tup ix_list) (pv 0) pe_int (fun _ _ => rfl)) (pa_cons (pv 1) pa_nil))) (pe_one (pe_callS G_holds (hr.mono (by omega)) (by rfl) m_holds k_holds b_holds (fun σ => passAt (takes_of rfl rfl rfl rfl) σ) (pa_cons (pe_ix (IxR.or ix_tup ix_list) (pv 0) pe_int (fun _ _ => rfl)) (pa_cons (pv 1) pa_nil))))))) pss_nil)
      (pss_cons (ps_if (pt_cmpR op_eq (pv 2) pe_str (nomark _)) (pss_one (ps_ret (pe_or (pe_callS G_holds (hr.mono (by omega)) (by rfl) m_holds k_holds b_holds (fun σ => passAt (takes_of rfl rfl rfl rfl) σ) (pa_cons (pe_ix (IxR.or ix_tup ix_list) (pv 0) pe_int (fun _ _ => rfl)) (pa_cons (pv 1) pa_nil))) (pe_one (pe_callS G_holds (hr.mono (by omega)) (by rfl) m_holds k_holds b_holds (fun σ => passAt (takes_of rfl rfl rfl rfl) σ) (pa_cons (pe_ix (IxR.or ix_tup ix_list) (pv 0) pe_int (fun _ _ => rfl)) (pa_cons (pv 1) pa_nil))))))) pss_nil)
      (pss_cons (ps_set (i := 3) sc.nd rfl (.inl rfl) (pe_callS G_value_of (hr.mono (by omega)) (by rfl) m_value_of k_value_of b_value_of (fun σ => passAt (takes_of rfl rfl rfl rfl) σ) (pa_cons (pe_ix (IxR.or ix_tup ix_list) (pv 0) pe_int (fun _ _ => rfl)) (pa_cons (pv 1) pa_nil))))
      (pss_cons (ps_set (i := 4) sc.nd rfl (.inl rfl) (pe_callS G_value_of (hr.mono (by omega)) (by rfl) m_value_of k_value_of b_value_of (fun σ => passAt (takes_of rfl rfl rfl rfl) σ) (pa_cons (pe_ix (IxR.or ix_tup ix_list) (pv 0) pe_int (fun _ _ => rfl)) (pa_cons (pv 1) pa_nil))))
      (pss_one (ps_ret (pe_ifExp (pt_cmpR op_eq (pv 2) pe_str (nomark _)) (pe_cmpR op_eq (pv 3) (pv 4) (nomark _)) (pe_cmpR op_lt (pv 3) (pv 4) (nomark _)))))))))))), ?_⟩
  obtain ⟨en, el, es, em, he, hY⟩ := id hE
  cases hT with
  | @meets a x hs =>
    refine ⟨_, rfl, ixq hs rfl ⟨_, rfl, rfl, _, rfl, ifT rfl ⟨_, rfl, ixq hs rfl ⟨_, rfl, ixq he rfl ⟨em, _, rfl, hY.mt.symm, rfl, flat_met _, ?_⟩⟩⟩⟩⟩
    show Q (.bl (inV (.str x) (Y.met.map V.str))) H
    rw [in_met]
    exact q
  | @not_ a u t hs hu =>
    refine ⟨_, rfl, ixq hs rfl ⟨_, rfl, rfl, _, rfl, ifF (neS (by decide +kernel)) ⟨_, rfl, rfl, _, rfl, ifT rfl ⟨_, rfl, ixq hs rfl ⟨_, rfl, u, e, t, Y, rfl, hu, Nat.le_of_succ_le_succ hd, hE, ?_⟩⟩⟩⟩⟩
    have q1 : ComesB C H (thenB (hold Y t) fun b => .ok (!b)) Q E := q
    cases ev : hold Y t with
    | error z => exact comesB_err q1 (by rw [ev]; rfl)
    | ok b => exact ⟨_, rfl, comesB_ok q1 (by rw [ev]; rfl)⟩
  | @both a u v t t' hs hu hv =>
    have hd' : max t.deep t'.deep ≤ n := Nat.le_of_succ_le_succ hd
    refine ⟨_, rfl, ixq hs rfl ⟨_, rfl, rfl, _, rfl, ifF (neS (by decide +kernel)) ⟨_, rfl, rfl, _, rfl, ifF (neS (by decide +kernel)) ⟨_, rfl, rfl, _, rfl, ifT rfl ⟨_, rfl, ixq hs rfl ⟨_, rfl, u, e, t, Y, rfl, hu, by omega, hE, ?_⟩⟩⟩⟩⟩⟩
    have q1 : ComesB C H (thenB (hold Y t) fun b => if b = true then hold Y t' else .ok false) Q E := q
    cases ev : hold Y t with
    | error z => exact comesB_err q1 (by rw [ev]; rfl)
    | ok b =>
      rw [ev] at q1
      cases b with
      | true => exact ⟨_, rfl, iteT ⟨_, rfl, ixq hs rfl ⟨_, rfl, v, e, t', Y, rfl, hv, by omega, hE, q1⟩⟩⟩
      | false => exact ⟨_, rfl, iteF q1⟩
  | @any_ a u v t t' hs hu hv =>
    have hd' : max t.deep t'.deep ≤ n := Nat.le_of_succ_le_succ hd
    refine ⟨_, rfl, ixq hs rfl ⟨_, rfl, rfl, _, rfl, ifF (neS (by decide +kernel)) ⟨_, rfl, rfl, _, rfl, ifF (neS (by decide +kernel)) ⟨_, rfl, rfl, _, rfl, ifF (neS (by decide +kernel)) ⟨_, rfl, rfl, _, rfl, ifT rfl
      ⟨_, rfl, ixq hs rfl ⟨_, rfl, u, e, t, Y, rfl, hu, by omega, hE, ?_⟩⟩⟩⟩⟩⟩⟩
    have q1 : ComesB C H (thenB (hold Y t) fun b => if b = true then .ok true else hold Y t') Q E := q
    cases ev : hold Y t with
    | error z => exact comesB_err q1 (by rw [ev]; rfl)
    | ok b =>
      rw [ev] at q1
      cases b with
      | true => exact ⟨_, rfl, iteT q1⟩
      | false => exact ⟨_, rfl, iteF ⟨_, rfl, ixq hs rfl ⟨_, rfl, v, e, t', Y, rfl, hv, by omega, hE, q1⟩⟩⟩
  | @like a u v L M hs hu hv =>
    have hd' : max L.deep M.deep ≤ n := Nat.le_of_succ_le_succ hd
    have q1 : ComesB C H (thenB (val Y L) fun i => thenB (val Y M) fun j => .ok (decide (i = j))) Q E := q
    refine ⟨_, rfl, ixq hs rfl ⟨_, rfl, rfl, _, rfl, ifF (neS (by decide +kernel)) ⟨_, rfl, rfl, _, rfl, ifF (neS (by decide +kernel)) ⟨_, rfl, rfl, _, rfl, ifF (neS (by decide +kernel)) ⟨_, rfl, rfl, _, rfl, ifF (neS (by decide +kernel))
      ⟨_, rfl, ixq hs rfl ⟨_, rfl, u, e, L, Y, rfl, hu, by omega, hE, ?_⟩⟩⟩⟩⟩⟩⟩
    cases ev : val Y L with
    | error z => exact comesB_err q1 (by rw [ev]; rfl)
    | ok i =>
      refine ⟨_, rfl, ixq hs rfl ⟨_, rfl, v, e, M, Y, rfl, hv, by omega, hE, ?_⟩⟩
      cases ew : val Y M with
      | error z => exact comesB_err q1 (by rw [ev]; show thenB (val Y M) _ = _; rw [ew]; rfl)
      | ok j =>
        refine ⟨_, rfl, rfl, _, rfl, ifT rfl ⟨_, rfl, _, rfl, rfl, ?_⟩⟩
        have q2 := comesB_ok q1 (i := decide (i = j)) (by rw [ev]; show thenB (val Y M) _ = _; rw [ew]; rfl)
        by_cases h : i = j
        · subst h
          exact qd (by rw [decide_eq_true rfl] at q2; exact q2)
        · rw [decide_eq_false h] at q2
          show Q (.bl (decide (V.int i = V.int j))) H
          rw [decide_eq_false (fun z => h (V.int.inj z))]
          exact q2
  | @less a u v L M hs hu hv =>
    have hd' : max L.deep M.deep ≤ n := Nat.le_of_succ_le_succ hd
    have q1 : ComesB C H (thenB (val Y L) fun i => thenB (val Y M) fun j => .ok (decide (i < j))) Q E := q
    refine ⟨_, rfl, ixq hs rfl ⟨_, rfl, rfl, _, rfl, ifF (neS (by decide +kernel)) ⟨_, rfl, rfl, _, rfl, ifF (neS (by decide +kernel)) ⟨_, rfl, rfl, _, rfl, ifF (neS (by decide +kernel)) ⟨_, rfl, rfl, _, rfl, ifF (neS (by decide +kernel))
      ⟨_, rfl, ixq hs rfl ⟨_, rfl, u, e, L, Y, rfl, hu, by omega, hE, ?_⟩⟩⟩⟩⟩⟩⟩
    cases ev : val Y L with
    | error z => exact comesB_err q1 (by rw [ev]; rfl)
    | ok i =>
      refine ⟨_, rfl, ixq hs rfl ⟨_, rfl, v, e, M, Y, rfl, hv, by omega, hE, ?_⟩⟩
      cases ew : val Y M with
      | error z => exact comesB_err q1 (by rw [ev]; show thenB (val Y M) _ = _; rw [ew]; rfl)
      | ok j =>
        exact ⟨_, rfl, rfl, _, rfl, ifF (neS (by decide +kernel)) ⟨_, rfl, _, rfl, _, _, rfl, rfl, comesB_ok q1 (i := decide (i < j)) (by rw [ev]; show thenB (val Y M) _ = _; rw [ew]; rfl)⟩⟩
theorem ok_holds (T : PySem.FellX.FellTxt K mg C fI) (D : Df K mg "holds" sHolds ["test", "eyes"] f fd) (G : ∀ n, FnG P w K mg base (L2.CX P w) (2 * n + 4) "value_of" ["look", "eyes"] (spVal K C n)) :
    ∀ n, FnG P w K mg base (L2.CX P w) (2 * n + 4) "holds" ["test", "eyes"] (spHold K C n)
  | 0 => ⟨f, fd, ⟨fun vs H Q E h => by
      obtain ⟨v, e, L, Y, rfl, _⟩ := h
      rfl, fun A outer s H args us vs Q E _ _ _ _ h => by
      obtain ⟨v, e, L, Y, _, _, hd, _⟩ := h
      exact absurd hd (by cases L <;> simp [Ts.deep])⟩, D.m, D.F.kp, D.b⟩
  | n + 1 => FnG.mono (D.g (ok_hold (k := 2 * n + 4) T D.F (G n) (ok_holds T D G n))) (by omega)
end
end Fd

set_option Elab.async false
set_option linter.all false
set_option maxRecDepth 100000
set_option maxHeartbeats 2000000
namespace Fd
open PySem PySem.Spec PyProof.Rows L2
theorem inB_of {i : Int} (h1 : -1000000 ≤ i) (h2 : i ≤ 1000000) : inB i = true := by
  unfold inB
  rw [decide_eq_true h1, decide_eq_true h2]
  rfl
/-! ### looks as plain data -/
def lkD : Lk → PyData
  | .num i => .int i
  | .name x => .tuple [.str "name", .str x]
  | .many x => .tuple [.str "many", .str x]
  | .item x a => .tuple [.str "item", .str x, lkD a]
  | .spot k => .tuple [.str (spotWords.getD k "")]
  | .bin o a b => .tuple [.str o.word, lkD a, lkD b]
/-- the words it may name, its values in their bounds -/
def LkOk (ws : List Str) : Lk → Prop
  | .num i => inB i = true
  | .name x => x ∈ ws
  | .many x => x ∈ ws
  | .item x a => x ∈ ws ∧ LkOk ws a
  | .spot k => k < 4
  | .bin _ a b => LkOk ws a ∧ LkOk ws b
theorem at_words {ws : List Str} {i : Int} (h0 : 0 ≤ i) (h : i.toNat < ws.length) : ∃ x, x ∈ ws ∧ atI (ws.map V.str) i = some (.str x) :=
  ⟨ws[i.toNat], List.getElem_mem _, at_of (j := i.toNat) (by omega) (by rw [List.getElem?_map, List.getElem?_eq_getElem h]; rfl)⟩
theorem bop_at : ∀ {j : Nat} {v : V}, [V.str "plus", .str "minus", .str "by", .str "over", .str "rest"][j]? = some v → ∃ o : BOp, v = .str o.word
  | 0, _, h => ⟨.plus, (Option.some.inj h).symm⟩
  | 1, _, h => ⟨.minus, (Option.some.inj h).symm⟩
  | 2, _, h => ⟨.by_, (Option.some.inj h).symm⟩
  | 3, _, h => ⟨.over, (Option.some.inj h).symm⟩
  | 4, _, h => ⟨.rest, (Option.some.inj h).symm⟩
  | j + 5, _, h => by simp at h
theorem spot_at : ∀ {j : Nat} {v : V}, [V.str "x", .str "y", .str "way", .str "number"][j]? = some v → j < 4 ∧ v = .str (spotWords.getD j "")
  | 0, _, h => ⟨by decide, (Option.some.inj h).symm⟩
  | 1, _, h => ⟨by decide, (Option.some.inj h).symm⟩
  | 2, _, h => ⟨by decide, (Option.some.inj h).symm⟩
  | 3, _, h => ⟨by decide, (Option.some.inj h).symm⟩
  | j + 4, _, h => by simp at h
/-! ### tests as plain data -/
def tsD : Ts → PyData
  | .like a b => .tuple [.str "like", lkD a, lkD b]
  | .less a b => .tuple [.str "below", lkD a, lkD b]
  | .not_ t => .tuple [.str "not", tsD t]
  | .both t u => .tuple [.str "both", tsD t, tsD u]
  | .any_ t u => .tuple [.str "any", tsD t, tsD u]
  | .meets x => .tuple [.str "meets", .str x]
def TsOk (ws : List Str) : Ts → Prop
  | .like a b => LkOk ws a ∧ LkOk ws b
  | .less a b => LkOk ws a ∧ LkOk ws b
  | .not_ t => TsOk ws t
  | .both t u => TsOk ws t ∧ TsOk ws u
  | .any_ t u => TsOk ws t ∧ TsOk ws u
  | .meets x => x ∈ ws
theorem dpAll_snoc {K : PySem.W.Frag} {H : Hp} {y : V} {d : PyData} (hy : Dp K H y d) : ∀ {vs : List V} {ds : List PyData}, DpAll K H vs ds → DpAll K H (vs ++ [y]) (ds ++ [d])
  | _, _, .nil => .cons hy .nil
  | _, _, .cons h t => .cons h (dpAll_snoc hy t)
theorem dpAll_app {K : PySem.W.Frag} {H : Hp} {ys : List V} {es : List PyData} (hy : DpAll K H ys es) : ∀ {vs : List V} {ds : List PyData}, DpAll K H vs ds → DpAll K H (vs ++ ys) (ds ++ es)
  | _, _, .nil => hy
  | _, _, .cons h t => .cons h (dpAll_app hy t)
theorem dpAll_drop {K : PySem.W.Frag} {H : Hp} : ∀ (n : Nat) {vs : List V} {ds : List PyData}, DpAll K H vs ds → DpAll K H (vs.drop n) (ds.drop n)
  | 0, _, _, h => h
  | _ + 1, _, _, .nil => .nil
  | n + 1, _, _, .cons _ t => dpAll_drop n t
/-- a list at D, built since H, of what is told -/
def Bld (K : PySem.W.Frag) (as : List Addr) (D : Addr) (H : Hp) (ds : List PyData) (H' : Hp) : Prop := ButL as H H' ∧ ∃ vs, H' D = some (.lst vs) ∧ DpAll K (rmL (D :: as) H') vs ds
theorem Bld.start {K : PySem.W.Frag} {as : List Addr} {D : Addr} {H : Hp} (nD : H D = none) : Bld K as D H [] (upd H D (.lst [])) := ⟨.same (same_upd nD), [], upd_same, .nil⟩
theorem Bld.move {K : PySem.W.Frag} {as : List Addr} {D : Addr} {H H1 H2 : Hp} {ds : List PyData} (B : Bld K as D H ds H1) (dD : D ∉ as) (s : ButL as H1 H2) : Bld K as D H ds H2 := by
  obtain ⟨s1, vs, hD, hv⟩ := B
  exact ⟨s1.trans s, vs, s _ _ dD hD, dpAll_same (rmL_but (s.more fun b => List.mem_cons_of_mem _)) _ _ hv⟩
theorem Bld.push {K : PySem.W.Frag} {as : List Addr} {D : Addr} {H H1 : Hp} {ds : List PyData} {y : V} {d : PyData} (B : Bld K as D H ds H1) (nD : H D = none) (hy : Dp K (rmL (D :: as) H1) y d) (hl : ds.length ≤ 999) :
    ∃ acc, H1 D = some (.lst acc) ∧ acc.length < sizeLine ∧ Bld K as D H (ds ++ [d]) (upd H1 D (.lst (acc ++ [y]))) := by
  obtain ⟨s1, vs, hD, hv⟩ := B
  refine ⟨vs, hD, small1000 (by rw [dpAll_len hv]; omega), fun b o n q => ?_, vs ++ [y], upd_same, ?_⟩
  · rw [upd_ne (fun z => by rw [z, nD] at q; cases q)]
    exact s1 b o n q
  · rw [rmL_upd (List.mem_cons_self ..)]
    exact dpAll_snoc hy hv
theorem Bld.done {K : PySem.W.Frag} {as : List Addr} {D : Addr} {H H1 : Hp} {ds : List PyData} (B : Bld K as D H ds H1) (dD : D ∉ as) : Dp K (rmL as H1) (.ref D) (.list ds) := by
  obtain ⟨s1, vs, hD, hv⟩ := B
  exact .lst (SqL.of (by rw [rmL_at dD]; exact hD)) (dpAll_same (rmL_less fun b => List.mem_cons_of_mem _) _ _ hv)
/-! ### eyes as plain data -/
def prD (p : Str × Int) : PyData := .tuple [.str p.1, .int p.2]
def rwD (p : Str × List Int) : PyData := .tuple [.str p.1, .list (p.2.map .int)]
def eyD (Y : Ey) : PyData := .tuple [.list (Y.names.map prD), .list (Y.lists.map rwD), .tuple (Y.spot.map .int), .list (Y.met.map .str)]
structure EyOk (ws : List Str) (Y : Ey) : Prop where
  n5 : Y.names.length ≤ 5
  nm : ∀ p ∈ Y.names, p.1 ∈ ws ∧ inB p.2 = true
  l3 : Y.lists.length ≤ 3
  ls : ∀ p ∈ Y.lists, p.1 ∈ ws ∧ p.2.length ≤ 8 ∧ ∀ i ∈ p.2, inB i = true
  s4 : Y.spot.length = 4
  sp : ∀ i ∈ Y.spot, inB i = true
  m7 : Y.met.length ≤ 7
  mt : ∀ z ∈ Y.met, z ∈ ws
/-- a list of things told, beside some -/
def LD (K : PySem.W.Frag) (as : List Addr) (H : Hp) (l : Addr) (ds : List PyData) : Prop := ∃ vs, rmL as H l = some (.lst vs) ∧ DpAll K (rmL as H) vs ds
theorem LD.same {K : PySem.W.Frag} {as bs : List Addr} {l : Addr} {H H' : Hp} {ds : List PyData} (h : LD K as H l ds) (s : Same (rmL as H) (rmL bs H')) : LD K bs H' l ds := by
  obtain ⟨vs, h1, h2⟩ := h
  exact ⟨vs, s _ _ h1, dpAll_same s _ _ h2⟩
theorem LD.but {K : PySem.W.Frag} {as : List Addr} {l : Addr} {H H' : Hp} {ds : List PyData} (h : LD K as H l ds) (s : ButL as H H') : LD K as H' l ds := h.same (rmL_but s)
theorem LD.dp {K : PySem.W.Frag} {as : List Addr} {l : Addr} {H : Hp} {ds : List PyData} (h : LD K as H l ds) : Dp K (rmL as H) (.ref l) (.list ds) := by
  obtain ⟨vs, h1, h2⟩ := h
  exact .lst (SqL.of h1) h2
theorem Bld.ld {K : PySem.W.Frag} {as : List Addr} {D : Addr} {H H1 : Hp} {ds : List PyData} (B : Bld K as D H ds H1) (dD : D ∉ as) : LD K as H1 D ds := by
  obtain ⟨s1, vs, hD, hv⟩ := B
  exact ⟨vs, by rw [rmL_at dD]; exact hD, dpAll_same (rmL_less fun b => List.mem_cons_of_mem _) _ _ hv⟩
theorem rmL_fresh {as : List Addr} {D : Addr} {o : HO} {H : Hp} (nD : H D = none) : Same (rmL as H) (rmL (D :: as) (upd H D o)) := fun b u h => by
  have h' := rmL_sub b u h
  have e : b ≠ D := ne_of_none h' nD
  have e2 : b ∉ as := fun z => by rw [rmL_in z] at h; cases h
  rw [rmL_at (fun z => (List.mem_cons.mp z).elim e e2), upd_ne e]
  exact h'
theorem Bld.on {K : PySem.W.Frag} {as : List Addr} {D : Addr} {H H1 : Hp} (s : ButL as H H1) (nD : H1 D = none) : Bld K as D H [] (upd H1 D (.lst [])) := ⟨s.trans (.same (same_upd nD)), [], upd_same, .nil⟩
theorem yesI {σ : L2.St} {H : Hp} {Q : Bool → Hp → Prop} (h : Q true H) : tYes σ H Q := h
theorem two_in {H : Hp} {D a : Addr} (h1 : ∃ u, H D = some u) (h2 : ∃ u, H a = some u) : ∀ b ∈ [D, a], ∃ u, H b = some u := fun b hb => by
  rcases List.mem_cons.mp hb with z | z
  · rw [z]; exact h1
  · rw [List.mem_singleton.mp z]; exact h2
theorem one_in {H : Hp} {a : Addr} (h2 : ∃ u, H a = some u) : ∀ b ∈ [a], ∃ u, H b = some u := fun b hb => by
  rw [List.mem_singleton.mp hb]; exact h2
theorem cut_drop (xs : List V) (n : Nat) : cutV xs (some (n : Int)) none = xs.drop n := by
  unfold cutV
  rw [HT.sIx_none, HT.sIx_nat]
  by_cases h : n ≤ xs.length
  · rw [Nat.min_eq_left h]
    exact List.take_of_length_le (by rw [List.length_drop]; exact Nat.le_refl _)
  · rw [Nat.min_eq_right (by omega), List.drop_length, List.drop_eq_nil_of_le (by omega), List.take_nil]
theorem LD.cut {K : PySem.W.Frag} {as : List Addr} {l p : Addr} {H : Hp} {ds : List PyData} (h : LD K as H l ds) (ha : ∀ b ∈ as, ∃ u, H b = some u) (np : H p = none) {i : Int} (n : Nat) (e : i = (n : Int)) {vs : List V} (hv : rmL as H l = some (.lst vs)) :
    LD K as (upd H p (.lst (cutV vs (some i) none))) p (ds.drop n) := by
  obtain ⟨vs', h1, h2⟩ := h
  rw [hv] at h1
  cases h1
  subst e
  exact ⟨_, rmL_new ha np, by rw [cut_drop]; exact dpAll_same (rmL_but (.same (same_upd np))) _ _ (dpAll_drop n h2)⟩
def outV : Except Str Int → List V
  | .ok i => [.int i, .non]
  | .error w => [.non, .str w]
theorem dp_list {K : PySem.W.Frag} {H : Hp} {v : V} {ds : List PyData} (h : Dp K H v (.list ds)) : ∃ a xs, v = .ref a ∧ SqL K H a xs ∧ DpAll K H xs ds := by
  cases h with | lst q r => exact ⟨_, _, rfl, q, r⟩
theorem dp_tup {K : PySem.W.Frag} {H : Hp} {v : V} {ds : List PyData} (h : Dp K H v (.tuple ds)) : ∃ a xs, v = .ref a ∧ SqT K H a xs ∧ DpAll K H xs ds := by
  cases h with | tup q r => exact ⟨_, _, rfl, q, r⟩
theorem dp_int {K : PySem.W.Frag} {H : Hp} {v : V} {i : Int} (h : Dp K H v (.int i)) : v = .int i := by cases h; rfl
theorem dp_str {K : PySem.W.Frag} {H : Hp} {v : V} {i : Str} (h : Dp K H v (.str i)) : v = .str i := by cases h; rfl
theorem dpA_cons {K : PySem.W.Frag} {H : Hp} {vs : List V} {d : PyData} {ds : List PyData} (h : DpAll K H vs (d :: ds)) : ∃ v r, vs = v :: r ∧ Dp K H v d ∧ DpAll K H r ds := by
  cases h with | cons q r => exact ⟨_, _, rfl, q, r⟩
theorem dpA_nil {K : PySem.W.Frag} {H : Hp} {vs : List V} (h : DpAll K H vs []) : vs = [] := by cases h; rfl
theorem dpA_ints {K : PySem.W.Frag} {H : Hp} : ∀ {is : List Int} {vs : List V}, DpAll K H vs (is.map .int) → vs = is.map V.int
  | [], _, h => dpA_nil h
  | i :: r, _, h => by
    obtain ⟨v, t, rfl, h1, h2⟩ := dpA_cons h
    rw [dp_int h1, dpA_ints h2]
    rfl
theorem dpA_strs {K : PySem.W.Frag} {H : Hp} : ∀ {is : List Str} {vs : List V}, DpAll K H vs (is.map .str) → vs = is.map V.str
  | [], _, h => dpA_nil h
  | i :: r, _, h => by
    obtain ⟨v, t, rfl, h1, h2⟩ := dpA_cons h
    rw [dp_str h1, dpA_strs h2]
    rfl
theorem dp_pair {K : PySem.W.Frag} {H : Hp} {v : V} {d e : PyData} (h : Dp K H v (.tuple [d, e])) : ∃ a x y, v = .ref a ∧ SqT K H a [x, y] ∧ Dp K H x d ∧ Dp K H y e := by
  obtain ⟨a, xs, rfl, h1, h2⟩ := dp_tup h
  obtain ⟨x, r, rfl, hx, h2⟩ := dpA_cons h2
  obtain ⟨y, r, rfl, hy, h2⟩ := dpA_cons h2
  rw [dpA_nil h2] at h1
  exact ⟨a, x, y, rfl, h1, hx, hy⟩
theorem dp_tri {K : PySem.W.Frag} {H : Hp} {v : V} {d e g : PyData} (h : Dp K H v (.tuple [d, e, g])) : ∃ a x y z, v = .ref a ∧ SqT K H a [x, y, z] ∧ Dp K H x d ∧ Dp K H y e ∧ Dp K H z g := by
  obtain ⟨a, xs, rfl, h1, h2⟩ := dp_tup h
  obtain ⟨x, r, rfl, hx, h2⟩ := dpA_cons h2
  obtain ⟨y, r, rfl, hy, h2⟩ := dpA_cons h2
  obtain ⟨z, r, rfl, hz, h2⟩ := dpA_cons h2
  rw [dpA_nil h2] at h1
  exact ⟨a, x, y, z, rfl, h1, hx, hy, hz⟩
/-- pairs of a name and a thing, as tuples -/
def KV (K : PySem.W.Frag) (H : Hp) (ps : List V) (kvs : List (Str × V)) : Prop := Paired (fun (p : V) (kv : Str × V) => ∃ t, p = .ref t ∧ SqT K H t [.str kv.1, kv.2]) ps kvs
def RowsD (K : PySem.W.Frag) (H : Hp) (kvs : List (Str × V)) (ls : List (Str × List Int)) : Prop := Paired (fun (kv : Str × V) (p : Str × List Int) => kv.1 = p.1 ∧ Dp K H kv.2 (.list (p.2.map .int))) kvs ls
theorem kv_names {K : PySem.W.Frag} {H : Hp} : ∀ {ns : List (Str × Int)} {ps : List V}, DpAll K H ps (ns.map prD) → KV K H ps (ns.map fun p => (p.1, V.int p.2))
  | [], _, h => by rw [dpA_nil h]; exact .nil
  | p :: ns, _, h => by
    obtain ⟨v, r, rfl, h1, h2⟩ := dpA_cons h
    obtain ⟨a, x, y, rfl, hs, hx, hy⟩ := dp_pair h1
    rw [dp_str hx, dp_int hy] at hs
    exact .cons ⟨a, rfl, hs⟩ (kv_names h2)
theorem kv_rows {K : PySem.W.Frag} {H : Hp} : ∀ {ls : List (Str × List Int)} {ps : List V}, DpAll K H ps (ls.map rwD) → ∃ kvs, KV K H ps kvs ∧ RowsD K H kvs ls
  | [], _, h => by rw [dpA_nil h]; exact ⟨[], .nil, .nil⟩
  | p :: ls, _, h => by
    obtain ⟨v, r, rfl, h1, h2⟩ := dpA_cons h
    obtain ⟨a, x, y, rfl, hs, hx, hy⟩ := dp_pair h1
    rw [dp_str hx] at hs
    obtain ⟨kvs, k1, k2⟩ := kv_rows h2
    exact ⟨(p.1, y) :: kvs, .cons ⟨a, rfl, hs⟩ k1, .cons ⟨rfl, hy⟩ k2⟩
theorem paired_at {α β : Type} {F : α → β → Prop} : ∀ {l : List α} {m : List β}, Paired F l m → ∀ {i : Nat} {x : α}, l[i]? = some x → ∃ y, m[i]? = some y ∧ F x y
  | _, _, .nil, i, x, h => by simp at h
  | _, _, .cons f r, 0, x, h => ⟨_, rfl, by cases (Option.some.inj h); exact f⟩
  | _, _, .cons f r, i + 1, x, h => paired_at r (i := i) h
theorem paired_len {α β : Type} {F : α → β → Prop} : ∀ {l : List α} {m : List β}, Paired F l m → l.length = m.length
  | _, _, .nil => rfl
  | _, _, .cons _ r => congrArg (· + 1) (paired_len r)
/-- what stands under a name, in order -/
def sel {α : Type} (x : Str) (kvs : List (Str × α)) : List α := (kvs.filter fun kv => x == kv.1).map (·.2)
theorem sel_look {α : Type} (x : Str) : ∀ l : List (Str × α), l.lookup x = (sel x l).head?
  | [] => rfl
  | (k, v) :: r => by
    unfold sel
    rw [List.lookup_cons, List.filter_cons]
    by_cases h : (x == k) = true
    · rw [h]; rfl
    · rw [Bool.eq_false_iff.mpr h]
      exact sel_look x r
theorem sel_snoc {α : Type} (x : Str) (l : List (Str × α)) (kv : Str × α) : sel x (l ++ [kv]) = sel x l ++ if (x == kv.1) = true then [kv.2] else [] := by
  unfold sel
  rw [List.filter_append, List.map_append, List.filter_cons]
  split <;> rfl
theorem sel_names (x : Str) : ∀ ns : List (Str × Int), sel x (ns.map fun p => (p.1, V.int p.2)) = (sel x ns).map V.int
  | [] => rfl
  | p :: r => by
    have ih := sel_names x r
    unfold sel at ih ⊢
    rw [List.map_cons, List.filter_cons, List.filter_cons]
    by_cases h : (x == p.1) = true
    · rw [if_pos h, if_pos h, List.map_cons, List.map_cons, List.map_cons, ih]
    · rw [if_neg h, if_neg h, ih]
theorem sel_rows {K : PySem.W.Frag} {H : Hp} (x : Str) : ∀ {kvs : List (Str × V)} {ls : List (Str × List Int)}, RowsD K H kvs ls → DpAll K H (sel x kvs) ((sel x ls).map fun l => .list (l.map .int))
  | _, _, .nil => .nil
  | (k, v) :: kvs, (k', l) :: ls, .cons f r => by
    obtain ⟨e, hv⟩ := f
    dsimp only at e hv
    subst e
    have ih := sel_rows x r
    unfold sel at ih ⊢
    rw [List.filter_cons, List.filter_cons]
    by_cases h : (x == k) = true
    · rw [if_pos h, if_pos h]
      exact .cons hv ih
    · rw [if_neg h, if_neg h]
      exact ih
theorem sel_len {α : Type} (x : Str) (l : List (Str × α)) : (sel x l).length ≤ l.length := by
  unfold sel
  rw [List.length_map]
  exact List.length_filter_le _ _
theorem sel_mem {α : Type} {x : Str} {l : List (Str × α)} {v : α} (h : v ∈ sel x l) : ∃ k, (k, v) ∈ l := by
  obtain ⟨p, hp, rfl⟩ := List.mem_map.mp h
  exact ⟨p.1, (List.mem_filter.mp hp).1⟩
theorem eyD_at {K : PySem.W.Frag} {H : Hp} {e : Addr} {Y : Ey} (h : Dp K H (.ref e) (eyD Y)) : ∃ n l s m ps rs, SqT K H e [.ref n, .ref l, .ref s, .ref m] ∧ SqL K H n ps ∧ DpAll K H ps (Y.names.map prD) ∧ SqL K H l rs ∧ DpAll K H rs (Y.lists.map rwD) ∧ SqT K H s (Y.spot.map V.int) ∧ SqL K H m (Y.met.map V.str) := by
  obtain ⟨a, xs, ea, h1, h2⟩ := dp_tup h
  cases ea
  obtain ⟨v1, r, rfl, d1, h2⟩ := dpA_cons h2
  obtain ⟨v2, r, rfl, d2, h2⟩ := dpA_cons h2
  obtain ⟨v3, r, rfl, d3, h2⟩ := dpA_cons h2
  obtain ⟨v4, r, rfl, d4, h2⟩ := dpA_cons h2
  rw [dpA_nil h2] at h1
  obtain ⟨n, ps, rfl, n1, n2⟩ := dp_list d1
  obtain ⟨l, rs, rfl, l1, l2⟩ := dp_list d2
  obtain ⟨s, ss, rfl, s1, s2⟩ := dp_tup d3
  obtain ⟨m, ms, rfl, m1, m2⟩ := dp_list d4
  rw [dpA_ints s2] at s1
  rw [dpA_strs m2] at m1
  exact ⟨n, l, s, m, ps, rs, h1, n1, n2, l1, l2, s1, m1⟩
theorem shaped_list {ds : List PyData} (h1 : PyData.canLayAll0 ds = true) (h2 : PyData.depthAll ds ≤ 60) : SeqAt.shaped (.list ds) = true := by
  unfold SeqAt.shaped
  rw [show (PyData.list ds).canLay0 = PyData.canLayAll0 ds from rfl, h1]
  show (true && decide (PyData.depthAll ds + 1 ≤ 64)) = true
  rw [decide_eq_true (by omega)]
  rfl
theorem lay_rows : ∀ ls : List (List Int), PyData.canLayAll0 (ls.map fun l => .list (l.map PyData.int)) = true
  | [] => rfl
  | l :: r => by
    show (PyData.canLayAll0 (l.map PyData.int) && PyData.canLayAll0 (r.map fun l => .list (l.map PyData.int))) = true
    rw [lay_ints l, lay_rows r]
    rfl
theorem deep_rows : ∀ ls : List (List Int), PyData.depthAll (ls.map fun l => .list (l.map PyData.int)) ≤ 1
  | [] => by decide
  | l :: r => by
    show max (PyData.depthAll (l.map PyData.int) + 1) (PyData.depthAll (r.map fun l => .list (l.map PyData.int))) ≤ 1
    rw [deep_ints l]
    exact Nat.max_le.mpr ⟨Nat.le_refl _, deep_rows r⟩
theorem eqv_nil : ∀ ds : List PyData, PyData.eqv (.list ds) (.list []) = ds.isEmpty
  | [] => by decide +kernel
  | d :: r => by simp [PyData.eqv, PyData.eqvAll]
theorem spot_facts {j : Nat} (hj : j < 4) : [V.str "x", .str "y", .str "way", .str "number"][j]? = some (.str (spotWords.getD j "")) ∧ eqV (.str (spotWords.getD j "")) (.str (spotWords.getD j "")) = true ∧
    ∀ (m : Nat) (z' : V), m < j → [V.str "x", .str "y", .str "way", .str "number"][m]? = some z' → eqV z' (.str (spotWords.getD j "")) = false := by
  have : j = 0 ∨ j = 1 ∨ j = 2 ∨ j = 3 := by omega
  rcases this with rfl | rfl | rfl | rfl
  · exact ⟨rfl, by decide +kernel, fun m z' hm => absurd hm (by omega)⟩
  · refine ⟨rfl, by decide +kernel, fun m z' hm h => ?_⟩
    obtain rfl : m = 0 := by omega
    cases (Option.some.inj h); decide +kernel
  · refine ⟨rfl, by decide +kernel, fun m z' hm h => ?_⟩
    have : m = 0 ∨ m = 1 := by omega
    rcases this with rfl | rfl <;> (cases (Option.some.inj h); decide +kernel)
  · refine ⟨rfl, by decide +kernel, fun m z' hm h => ?_⟩
    have : m = 0 ∨ m = 1 ∨ m = 2 := by omega
    rcases this with rfl | rfl | rfl <;> (cases (Option.some.inj h); decide +kernel)
theorem bop_named (o : BOp) : inV (.str o.word) [.str "name", .str "many", .str "item"] = false := by cases o <;> decide +kernel
/-- looks that name something -/
def Named (K : PySem.W.Frag) (H : Hp) (Y : Ey) (ws : List Str) (n : Nat) (L : Lk) (wd x : Str) (xs : List V) (kvs : List (Str × V)) : Prop :=
  (wd = "name" ∧ L = .name x ∧ kvs = Y.names.map fun p => (p.1, V.int p.2)) ∨ (wd = "many" ∧ L = .many x ∧ RowsD K H kvs Y.lists) ∨
    ∃ M u, wd = "item" ∧ L = .item x M ∧ xs = [u] ∧ Dp K H u (lkD M) ∧ LkOk ws M ∧ M.deep ≤ n ∧ RowsD K H kvs Y.lists
theorem lk_split {K : PySem.W.Frag} {H : Hp} {v : V} {L : Lk} {Y : Ey} {ws : List Str} {n : Nat} {en el es em : Addr} {ps rs : List V} (hL : Dp K H v (lkD L)) (oL : LkOk ws L) (hd : L.deep ≤ n + 1)
    (n1 : SqL K H en ps) (n2 : DpAll K H ps (Y.names.map prD)) (l1 : SqL K H el rs) (l2 : DpAll K H rs (Y.lists.map rwD)) :
    (∃ i, L = .num i ∧ v = .int i) ∨ (∃ k a, L = .spot k ∧ v = .ref a ∧ k < 4 ∧ SqT K H a [.str (spotWords.getD k "")]) ∨ (∃ o M N a x y, L = .bin o M N ∧ v = .ref a ∧ SqT K H a [.str o.word, x, y] ∧ Dp K H x (lkD M) ∧ Dp K H y (lkD N) ∧ LkOk ws M ∧ LkOk ws N ∧ M.deep ≤ n ∧ N.deep ≤ n) ∨
      ∃ a wd x xs l qs kvs, v = .ref a ∧ SqT K H a (.str wd :: .str x :: xs) ∧ inV (.str wd) [.str "name", .str "many", .str "item"] = true ∧
        atI [V.ref en, .ref el, .ref es, .ref em] (if (!decide (V.str wd = V.str "name")) = true then 1 else 0) = some (.ref l) ∧ SqL K H l qs ∧ KV K H qs kvs ∧ Named K H Y ws n L wd x xs kvs := by
  cases L with
  | num i => exact .inl ⟨i, rfl, dp_int hL⟩
  | spot k =>
    obtain ⟨a, xs, rfl, h1, h2⟩ := dp_tup hL
    obtain ⟨x, r, rfl, hx, h2⟩ := dpA_cons h2
    rw [dpA_nil h2, dp_str hx] at h1
    exact .inr (.inl ⟨k, a, rfl, rfl, oL, h1⟩)
  | bin o M N =>
    obtain ⟨a, x, y, z, rfl, h1, hx, hy, hz⟩ := dp_tri hL
    rw [dp_str hx] at h1
    have hd' : max M.deep N.deep ≤ n := Nat.le_of_succ_le_succ hd
    exact .inr (.inr (.inl ⟨o, M, N, a, y, z, rfl, rfl, h1, hy, hz, oL.1, oL.2, by omega, by omega⟩))
  | name x =>
    obtain ⟨a, u, y, rfl, h1, hx, hy⟩ := dp_pair hL
    rw [dp_str hx, dp_str hy] at h1
    exact .inr (.inr (.inr ⟨a, "name", x, [], en, ps, _, rfl, h1, by decide +kernel, rfl, n1, kv_names n2, .inl ⟨rfl, rfl, rfl⟩⟩))
  | many x =>
    obtain ⟨a, u, y, rfl, h1, hx, hy⟩ := dp_pair hL
    rw [dp_str hx, dp_str hy] at h1
    obtain ⟨kvs, k1, k2⟩ := kv_rows l2
    exact .inr (.inr (.inr ⟨a, "many", x, [], el, rs, kvs, rfl, h1, by decide +kernel, rfl, l1, k1, .inr (.inl ⟨rfl, rfl, k2⟩)⟩))
  | item x M =>
    obtain ⟨a, u, y, z, rfl, h1, hx, hy, hz⟩ := dp_tri hL
    rw [dp_str hx, dp_str hy] at h1
    obtain ⟨kvs, k1, k2⟩ := kv_rows l2
    exact .inr (.inr (.inr ⟨a, "item", x, [z], el, rs, kvs, rfl, h1, by decide +kernel, rfl, l1, k1, .inr (.inr ⟨M, z, rfl, rfl, rfl, hz, oL.2, Nat.le_of_succ_le_succ hd, k2⟩)⟩))
/-! ### things, lists and tuples alike -/
mutual
inductive Sd (K : PySem.W.Frag) (H : Hp) : V → PyData → Prop
  | non : Sd K H .non .none
  | bl (b : Bool) : Sd K H (.bl b) (.bool b)
  | int (i : Int) : Sd K H (.int i) (.int i)
  | str (x : Str) : Sd K H (.str x) (.str x)
  | lst {a : Addr} {xs : List V} {ds : List PyData} : Sq K H a xs → SdAll K H xs ds → Sd K H (.ref a) (.list ds)
  | tup {a : Addr} {xs : List V} {ds : List PyData} : Sq K H a xs → SdAll K H xs ds → Sd K H (.ref a) (.tuple ds)
inductive SdAll (K : PySem.W.Frag) (H : Hp) : List V → List PyData → Prop
  | nil : SdAll K H [] []
  | cons {v : V} {vs : List V} {d : PyData} {ds : List PyData} : Sd K H v d → SdAll K H vs ds → SdAll K H (v :: vs) (d :: ds)
end
mutual
theorem sd_same {K : PySem.W.Frag} {H H' : Hp} (s : Same H H') : ∀ (d : PyData) (v : V), Sd K H v d → Sd K H' v d
  | .none, _, h => by cases h; exact .non
  | .bool b, _, h => by cases h; exact .bl b
  | .int i, _, h => by cases h; exact .int i
  | .str x, _, h => by cases h; exact .str x
  | .list ds, _, h => by cases h with | lst q r => exact .lst (q.same s) (sdAll_same s ds _ r)
  | .tuple ds, _, h => by cases h with | tup q r => exact .tup (q.same s) (sdAll_same s ds _ r)
  | .dict _, _, h => by cases h
theorem sdAll_same {K : PySem.W.Frag} {H H' : Hp} (s : Same H H') : ∀ (ds : List PyData) (vs : List V), SdAll K H vs ds → SdAll K H' vs ds
  | [], _, h => by cases h; exact .nil
  | d :: ds, _, h => by cases h with | cons q r => exact .cons (sd_same s d _ q) (sdAll_same s ds _ r)
end
mutual
theorem sd_dp {K : PySem.W.Frag} {H : Hp} : ∀ (d : PyData) (v : V), Dp K H v d → Sd K H v d
  | .none, _, h => by cases h; exact .non
  | .bool b, _, h => by cases h; exact .bl b
  | .int i, _, h => by cases h; exact .int i
  | .str x, _, h => by cases h; exact .str x
  | .list ds, _, h => by cases h with | lst q r => exact .lst (.inr q) (sdAll_dp ds _ r)
  | .tuple ds, _, h => by cases h with | tup q r => exact .tup (.inl q) (sdAll_dp ds _ r)
  | .dict _, _, h => by cases h
theorem sdAll_dp {K : PySem.W.Frag} {H : Hp} : ∀ (ds : List PyData) (vs : List V), DpAll K H vs ds → SdAll K H vs ds
  | [], _, h => by cases h; exact .nil
  | d :: ds, _, h => by cases h with | cons q r => exact .cons (sd_dp d _ q) (sdAll_dp ds _ r)
end
theorem sdAll_at {K : PySem.W.Frag} {H : Hp} : ∀ {ds : List PyData} {vs : List V} {i : Nat} {v : V}, SdAll K H vs ds → vs[i]? = some v → ∃ d, ds[i]? = some d ∧ Sd K H v d
  | [], _, i, v, h, e => by cases h; simp at e
  | d :: ds, _, 0, v, h, e => by cases h with | cons q r => cases (Option.some.inj e); exact ⟨d, rfl, q⟩
  | d :: ds, _, i + 1, v, h, e => by cases h with | cons q r => exact sdAll_at (i := i) r e
theorem sdAll_len {K : PySem.W.Frag} {H : Hp} : ∀ {ds : List PyData} {vs : List V}, SdAll K H vs ds → vs.length = ds.length
  | [], _, h => by cases h; rfl
  | d :: ds, _, h => by cases h with | cons q r => exact congrArg (· + 1) (sdAll_len r)
theorem sdAll_snoc {K : PySem.W.Frag} {H : Hp} {y : V} {d : PyData} (hy : Sd K H y d) : ∀ {ds : List PyData} {vs : List V}, SdAll K H vs ds → SdAll K H (vs ++ [y]) (ds ++ [d])
  | [], _, h => by cases h; exact .cons hy .nil
  | e :: ds, _, h => by cases h with | cons q r => exact .cons q (sdAll_snoc hy r)
/-- a list at D, built since H, of things told -/
def BldS (K : PySem.W.Frag) (as : List Addr) (D : Addr) (H : Hp) (ds : List PyData) (H' : Hp) : Prop := Same H H' ∧ ∃ vs, H' D = some (.lst vs) ∧ SdAll K (rmL (D :: as) H') vs ds
theorem BldS.push {K : PySem.W.Frag} {as : List Addr} {D : Addr} {H H1 H2 : Hp} {ds : List PyData} {y : V} {d : PyData} (B : BldS K as D H ds H1) (nD : H D = none) (s : Same H1 H2) (hy : Sd K (rmL (D :: as) H2) y d) (hl : ds.length ≤ 999) :
    ∃ acc, H2 D = some (.lst acc) ∧ acc.length < sizeLine ∧ BldS K as D H (ds ++ [d]) (upd H2 D (.lst (acc ++ [y]))) := by
  obtain ⟨s1, vs, hD, hv⟩ := B
  refine ⟨vs, s _ _ hD, small1000 (by rw [sdAll_len hv]; omega), fun b o q => ?_, vs ++ [y], upd_same, ?_⟩
  · rw [upd_ne (fun z => by rw [z, nD] at q; cases q)]
    exact s b o (s1 b o q)
  · rw [rmL_upd (List.mem_cons_self ..)]
    exact sdAll_snoc hy (sdAll_same (rmL_but (.same s)) _ _ hv)
theorem rmL_later {as : List Addr} {D : Addr} {H H' : Hp} (nD : H D = none) (s : Same H H') : Same (rmL as H) (rmL (D :: as) H') := fun b u h => by
  have h' := rmL_sub b u h
  have e : b ≠ D := ne_of_none h' nD
  have e2 : b ∉ as := fun z => by rw [rmL_in z] at h; cases h
  rw [rmL_at (fun z => (List.mem_cons.mp z).elim e e2)]
  exact s _ _ h'
theorem sd_split {K : PySem.W.Frag} {H : Hp} {v : V} {d : PyData} {n : Nat} (hv : Sd K H v d) (ok : OkD (n + 1) d) : (v = .non ∨ (∃ b, v = .bl b) ∨ (∃ i, v = .int i) ∨ ∃ x, v = .str x) ∨
    ∃ a xs ds, v = .ref a ∧ Sq K H a xs ∧ SdAll K H xs ds ∧ ds.length ≤ 1000 ∧ (∀ d ∈ ds, OkD n d) ∧ (d = .list ds ∨ d = .tuple ds) := by
  cases hv with
  | non => exact .inl (.inl rfl)
  | bl b => exact .inl (.inr (.inl ⟨b, rfl⟩))
  | int i => exact .inl (.inr (.inr (.inl ⟨i, rfl⟩)))
  | str x => exact .inl (.inr (.inr (.inr ⟨x, rfl⟩)))
  | lst q r => exact .inr ⟨_, _, _, rfl, q, r, ok.1, ok.2, .inl rfl⟩
  | tup q r => exact .inr ⟨_, _, _, rfl, q, r, ok.1, ok.2, .inr rfl⟩
theorem sd_mk {K : PySem.W.Frag} {H : Hp} {a : Addr} {xs : List V} {d : PyData} {ds : List PyData} (h : d = .list ds ∨ d = .tuple ds) (q : Sq K H a xs) (r : SdAll K H xs ds) : Sd K H (.ref a) d := by
  rcases h with rfl | rfl
  · exact .lst q r
  · exact .tup q r
/-! ### repr of plain things -/
section
variable {X : Cx}
def rRepr (K : PySem.W.Frag) : List V → Hp → VK → Prop := fun xs H Q => ∃ (v : V) (d : PyData), xs = [v] ∧ Dp K H v d ∧ PyProof.Rows.isDisplay d = true ∧ d.showable = true ∧ d.hasDict = false ∧ d.depth ≤ 60 ∧ d.shown.length ≤ sizeLine ∧ ∃ z, d.shown = z ∧ Q (.str z) H
theorem call_reprD (hg : X.A.guards = some []) (hu : X.A.units + 64 < cLine) : CallR X (.builtin "repr") (rRepr X.K) := by
  intro pins s σ H xs us Q I r h
  obtain ⟨v, d, rfl, hd, h1, h2, h3, h4, h5, _, rfl, q⟩ := h
  obtain ⟨u, rfl, rx⟩ := vals1 r
  obtain ⟨as, rd⟩ := Dp.reads I d v u hd rx
  obtain ⟨a, rfl⟩ := PyProof.Rows.isRef_of_reads rd h1
  exact repr_of_reads' rd h2 (PyData.noDict_hsm h3) hg (by omega) (fun _ _ e => e) (fun h' u tk hk => ⟨.str d.shown, H, I.kept hk, ⟨_, rfl⟩, q⟩) h5
end
/-- shown, short, so deep, so heavy -/
structure Shw (x : PyData) (dep wt : Nat) : Prop where
  s : x.showable = true
  n : x.hasDict = false
  l : x.leavesShort 13 = true
  d : x.depth ≤ dep
  w : x.weight ≤ wt
structure ShwA (ds : List PyData) (dep wt : Nat) : Prop where
  s : PyData.showableAll ds = true
  n : PyData.hasDictAll ds = false
  l : PyData.leavesShortAll 13 ds = true
  d : PyData.depthAll ds ≤ dep
  w : PyData.weightAll ds ≤ wt
theorem Shw.le {d : PyData} {a b a' b' : Nat} (h : Shw d a b) (h1 : a ≤ a') (h2 : b ≤ b') : Shw d a' b' := ⟨h.s, h.n, h.l, Nat.le_trans h.d h1, Nat.le_trans h.w h2⟩
theorem ShwA.nil {a b : Nat} : ShwA [] a b := ⟨rfl, rfl, rfl, Nat.zero_le _, Nat.zero_le _⟩
theorem ShwA.cons {d : PyData} {ds : List PyData} {a b c : Nat} (h : Shw d a b) (t : ShwA ds a c) : ShwA (d :: ds) a (b + 1 + c) := by
  refine ⟨?_, ?_, ?_, Nat.max_le.mpr ⟨h.d, t.d⟩, ?_⟩
  · show (d.showable && PyData.showableAll ds) = true
    rw [h.s, t.s]; rfl
  · show (d.hasDict || PyData.hasDictAll ds) = false
    rw [h.n, t.n]; rfl
  · show (d.leavesShort 13 && PyData.leavesShortAll 13 ds) = true
    rw [h.l, t.l]; rfl
  · show d.weight + 1 + PyData.weightAll ds ≤ _
    have := h.w
    have := t.w
    omega
theorem ShwA.tup {ds : List PyData} {a b : Nat} (h : ShwA ds a b) : Shw (.tuple ds) (a + 1) b := ⟨h.s, h.n, h.l, Nat.succ_le_succ h.d, h.w⟩
theorem ShwA.lst {ds : List PyData} {a b : Nat} (h : ShwA ds a b) : Shw (.list ds) (a + 1) b := ⟨h.s, h.n, h.l, Nat.succ_le_succ h.d, h.w⟩
theorem ShwA.map {α : Type} {f : α → PyData} {a b : Nat} : ∀ {l : List α}, (∀ x ∈ l, Shw (f x) a b) → ShwA (l.map f) a (l.length * (b + 1))
  | [], _ => .nil
  | x :: l, h => by
    have e := ShwA.cons (h x (List.mem_cons_self ..)) (ShwA.map fun y hy => h y (List.mem_cons_of_mem _ hy))
    exact ⟨e.s, e.n, e.l, e.d, Nat.le_trans e.w (by rw [List.length_cons, Nat.add_mul]; omega)⟩
theorem shw_int {i : Int} (h : inB i = true) : Shw (.int i) 0 20 := by
  unfold inB at h
  have h1 := of_decide_eq_true (Bool.and_eq_true_iff.mp h).1
  have h2 := of_decide_eq_true (Bool.and_eq_true_iff.mp h).2
  have hl : i ≠ 0 → i.natAbs.log2 < 20 := fun z => (Nat.log2_lt (by omega)).mpr (by omega)
  have hl' : i.natAbs.log2 < 20 := by
    by_cases z : i = 0
    · subst z; decide
    · exact hl z
  refine ⟨decide_eq_true (by omega), rfl, decide_eq_true (PyData.shown_int_le2 (by omega) (by omega)), Nat.le_refl _, ?_⟩
  show (if i == 0 then 0 else i.natAbs.log2 + 1) ≤ 20
  split <;> omega
theorem shw_str {x : Str} (h : x.cps.size ≤ 8) (hc : ∀ c ∈ x.cps.toList, 97 ≤ c ∧ c ≤ 122) : Shw (.str x) 0 8 :=
  ⟨rfl, rfl, List.all_eq_true.mpr fun c h => decide_eq_true (by have := (hc c h).2; exact Nat.lt_of_le_of_lt this (by decide)), Nat.le_refl _, h⟩
theorem shw_nm {x : Str} (h : IsNm x) : Shw (.str x) 0 8 := shw_str h.2.1 h.2.2
theorem shw_word (o : BOp) : Shw (.str o.word) 0 8 := by cases o <;> exact ⟨rfl, rfl, by decide +kernel, Nat.le_refl _, by decide +kernel⟩
theorem shw_c {x : Str} (h1 : PyData.leavesShort 13 (.str x) = true) (h2 : x.cps.size ≤ 8) : Shw (.str x) 0 8 := ⟨rfl, rfl, h1, Nat.le_refl _, h2⟩
theorem shw_spot {k : Nat} (h : k < 4) : Shw (.str (spotWords.getD k "")) 0 8 := by
  have : k = 0 ∨ k = 1 ∨ k = 2 ∨ k = 3 := by omega
  rcases this with rfl | rfl | rfl | rfl <;> exact ⟨rfl, rfl, by decide +kernel, Nat.le_refl _, by decide +kernel⟩
theorem shw_lk {ws : List Str} (hw : ∀ z ∈ ws, IsNm z) : ∀ {L : Lk}, LkOk ws L → Shw (lkD L) L.deep (40 * 2 ^ L.deep - 20)
  | .num i, h => (shw_int h).le (Nat.zero_le _) (by show 20 ≤ 40 * 2 ^ 1 - 20; decide)
  | .name x, h => (ShwA.cons (shw_c (x := "name") (by decide +kernel) (by decide +kernel)) (.cons (shw_nm (hw x h)) (.nil (b := 0)))).tup.le (by show 0 + 1 ≤ 1; decide) (by show _ ≤ 40 * 2 ^ 1 - 20; decide)
  | .many x, h => (ShwA.cons (shw_c (x := "many") (by decide +kernel) (by decide +kernel)) (.cons (shw_nm (hw x h)) (.nil (b := 0)))).tup.le (by show 0 + 1 ≤ 1; decide) (by show _ ≤ 40 * 2 ^ 1 - 20; decide)
  | .spot k, h => (ShwA.cons (shw_spot h) (.nil (b := 0))).tup.le (by show 0 + 1 ≤ 1; decide) (by show _ ≤ 40 * 2 ^ 1 - 20; decide)
  | .item x a, h => by
    have ih := shw_lk hw h.2
    have := (ShwA.cons ((shw_c (x := "item") (by decide +kernel) (by decide +kernel)).le (Nat.zero_le _) (Nat.le_refl _)) (.cons ((shw_nm (hw x h.1)).le (Nat.zero_le _) (Nat.le_refl _)) (.cons ih (.nil (b := 0))))).tup
    refine this.le (Nat.le_refl _) ?_
    have p := Nat.one_le_two_pow (n := a.deep)
    show _ ≤ 40 * 2 ^ (a.deep + 1) - 20
    rw [Nat.pow_succ]
    omega
  | .bin o a b, h => by
    have i1 := (shw_lk hw h.1).le (Nat.le_max_left a.deep b.deep) (Nat.le_refl _)
    have i2 := (shw_lk hw h.2).le (Nat.le_max_right a.deep b.deep) (Nat.le_refl _)
    have := (ShwA.cons ((shw_word o).le (Nat.zero_le _) (Nat.le_refl _)) (.cons i1 (.cons i2 (.nil (b := 0))))).tup
    refine this.le (Nat.le_refl _) ?_
    have p1 : 2 ^ a.deep ≤ 2 ^ (max a.deep b.deep) := Nat.pow_le_pow_right (by decide) (Nat.le_max_left _ _)
    have p2 : 2 ^ b.deep ≤ 2 ^ (max a.deep b.deep) := Nat.pow_le_pow_right (by decide) (Nat.le_max_right _ _)
    have q1 := Nat.one_le_two_pow (n := a.deep)
    have q2 := Nat.one_le_two_pow (n := b.deep)
    show _ ≤ 40 * 2 ^ (max a.deep b.deep + 1) - 20
    rw [Nat.pow_succ]
    omega
theorem shw_ey {ws : List Str} (hw : ∀ z ∈ ws, IsNm z) {Y : Ey} (h : EyOk ws Y) : Shw (eyD Y) 4 2000 := by
  have a1 : Shw (.list (Y.names.map prD)) 3 200 := ((ShwA.map (a := 1) (b := 30) fun p hp => (ShwA.cons (shw_nm (hw _ (h.nm p hp).1)) (.cons (shw_int (h.nm p hp).2) (.nil (b := 0)))).tup.le (Nat.le_refl _) (by decide)).lst).le (by decide) (by have := h.n5; omega)
  have a2 : Shw (.list (Y.lists.map rwD)) 3 800 := ((ShwA.map (a := 2) (b := 190) fun p hp => by
    have l8 := (h.ls p hp).2.1
    have r : Shw (.list (p.2.map .int)) 1 176 := ((ShwA.map (a := 0) (b := 20) fun i hi => shw_int ((h.ls p hp).2.2 i hi)).lst).le (Nat.le_refl _) (by omega)
    exact (ShwA.cons ((shw_nm (hw _ (h.ls p hp).1)).le (Nat.zero_le _) (Nat.le_refl _)) (.cons r (.nil (b := 0)))).tup.le (Nat.le_refl _) (by decide)).lst).le (by decide) (by have := h.l3; omega)
  have a3 : Shw (.tuple (Y.spot.map .int)) 3 100 := ((ShwA.map (a := 0) (b := 20) fun i hi => shw_int (h.sp i hi)).tup).le (by decide) (by have := h.s4; omega)
  have a4 : Shw (.list (Y.met.map .str)) 3 100 := ((ShwA.map (a := 0) (b := 8) fun z hz => shw_nm (hw z (h.mt z hz))).lst).le (by decide) (by have := h.m7; omega)
  exact (ShwA.cons a1 (.cons a2 (.cons a3 (.cons a4 (.nil (b := 0)))))).tup.le (Nat.le_refl _) (by decide)
/-- a look and eyes, shown -/
theorem shw_all {ws : List Str} (hw : ∀ z ∈ ws, IsNm z) {L : Lk} {Y : Ey} (hL : LkOk ws L) (h6 : L.deep ≤ 6) (hY : EyOk ws Y) : Shw (.list [lkD L, eyD Y]) 7 5000 := by
  have p : 2 ^ L.deep ≤ 2 ^ 6 := Nat.pow_le_pow_right (by decide) h6
  have p2 : (2 : Nat) ^ 6 = 64 := by decide
  exact (ShwA.cons ((shw_lk hw hL).le h6 (b' := 2560) (by omega)) (.cons ((shw_ey hw hY).le (by decide) (Nat.le_refl _)) (.nil (b := 0)))).lst.le (Nat.le_refl _) (by decide)
theorem Shw.fits {d : PyData} {a : Nat} (h : Shw d a 5000) : d.shown.length ≤ sizeLine := by
  have := PyData.shown_le 13 (by decide) d h.l
  have := h.w
  have e : sizeLine = 16777216 := by decide
  omega
/-! ### as deep as may be -/
theorem okd_lk : ∀ {L : Lk} {n : Nat}, L.deep ≤ n → OkD (n + 1) (lkD L)
  | .num _, _, _ => trivial
  | .name _, n + 1, _ => ⟨(by decide : 2 ≤ 1000), fun d hd => by rcases List.mem_cons.mp hd with z | z; rw [z]; trivial; rw [List.mem_singleton.mp z]; trivial⟩
  | .many _, n + 1, _ => ⟨(by decide : 2 ≤ 1000), fun d hd => by rcases List.mem_cons.mp hd with z | z; rw [z]; trivial; rw [List.mem_singleton.mp z]; trivial⟩
  | .spot _, n + 1, _ => ⟨(by decide : 1 ≤ 1000), fun d hd => by rw [List.mem_singleton.mp hd]; trivial⟩
  | .item x a, n + 1, h => ⟨(by decide : 3 ≤ 1000), fun d hd => by
      rcases List.mem_cons.mp hd with z | z
      · rw [z]; trivial
      rcases List.mem_cons.mp z with z | z
      · rw [z]; trivial
      · rw [List.mem_singleton.mp z]; exact okd_lk (Nat.le_of_succ_le_succ h)⟩
  | .bin o a b, n + 1, h => ⟨(by decide : 3 ≤ 1000), fun d hd => by
      have h' : max a.deep b.deep ≤ n := Nat.le_of_succ_le_succ h
      rcases List.mem_cons.mp hd with z | z
      · rw [z]; trivial
      rcases List.mem_cons.mp z with z | z
      · rw [z]; exact okd_lk (by omega)
      · rw [List.mem_singleton.mp z]; exact okd_lk (by omega)⟩
  | .name _, 0, h => absurd h (by simp [Lk.deep])
  | .many _, 0, h => absurd h (by simp [Lk.deep])
  | .spot _, 0, h => absurd h (by simp [Lk.deep])
  | .item .., 0, h => absurd h (by simp [Lk.deep])
  | .bin .., 0, h => absurd h (by simp [Lk.deep])
theorem okd_map {α : Type} {f : α → PyData} {n : Nat} {l : List α} (hl : l.length ≤ 1000) (h : ∀ x ∈ l, OkD n (f x)) : (l.map f).length ≤ 1000 ∧ ∀ d ∈ l.map f, OkD n d :=
  ⟨by rw [List.length_map]; exact hl, fun d hd => by obtain ⟨x, hx, rfl⟩ := List.mem_map.mp hd; exact h x hx⟩
theorem okd_ey {ws : List Str} {Y : Ey} (h : EyOk ws Y) : OkD 7 (eyD Y) := ⟨(by decide : 4 ≤ 1000), fun d hd => by
  rcases List.mem_cons.mp hd with z | z
  · rw [z]
    exact okd_map (Nat.le_trans h.n5 (by decide)) fun p hp => ⟨(by decide : 2 ≤ 1000), fun d hd => by
      rcases List.mem_cons.mp hd with z | z
      · rw [z]; trivial
      · rw [List.mem_singleton.mp z]; trivial⟩
  rcases List.mem_cons.mp z with z | z
  · rw [z]
    exact okd_map (Nat.le_trans h.l3 (by decide)) fun p hp => ⟨(by decide : 2 ≤ 1000), fun d hd => by
      rcases List.mem_cons.mp hd with z | z
      · rw [z]; trivial
      · rw [List.mem_singleton.mp z]
        exact okd_map (Nat.le_trans (h.ls p hp).2.1 (by decide)) fun _ _ => trivial⟩
  rcases List.mem_cons.mp z with z | z
  · rw [z]
    exact okd_map (by rw [h.s4]; decide) fun _ _ => trivial
  · rw [List.mem_singleton.mp z]
    exact okd_map (Nat.le_trans h.m7 (by decide)) fun _ _ => trivial⟩
theorem sd_tup {K : PySem.W.Frag} {H : Hp} {v : V} {ds : List PyData} (h : Sd K H v (.tuple ds)) : ∃ a xs, v = .ref a ∧ Sq K H a xs ∧ SdAll K H xs ds := by
  cases h with | tup q r => exact ⟨_, _, rfl, q, r⟩
theorem sd_lst {K : PySem.W.Frag} {H : Hp} {v : V} {ds : List PyData} (h : Sd K H v (.list ds)) : ∃ a xs, v = .ref a ∧ Sq K H a xs ∧ SdAll K H xs ds := by
  cases h with | lst q r => exact ⟨_, _, rfl, q, r⟩
theorem sd_int {K : PySem.W.Frag} {H : Hp} {v : V} {i : Int} (h : Sd K H v (.int i)) : v = .int i := by cases h; rfl
theorem sd_str {K : PySem.W.Frag} {H : Hp} {v : V} {i : Str} (h : Sd K H v (.str i)) : v = .str i := by cases h; rfl
theorem sdA_cons {K : PySem.W.Frag} {H : Hp} {vs : List V} {d : PyData} {ds : List PyData} (h : SdAll K H vs (d :: ds)) : ∃ v r, vs = v :: r ∧ Sd K H v d ∧ SdAll K H r ds := by
  cases h with | cons q r => exact ⟨_, _, rfl, q, r⟩
theorem sdA_nil {K : PySem.W.Frag} {H : Hp} {vs : List V} (h : SdAll K H vs []) : vs = [] := by cases h; rfl
theorem sdA_ints {K : PySem.W.Frag} {H : Hp} : ∀ {is : List Int} {vs : List V}, SdAll K H vs (is.map .int) → vs = is.map V.int
  | [], _, h => sdA_nil h
  | i :: r, _, h => by
    obtain ⟨v, t, rfl, h1, h2⟩ := sdA_cons h
    rw [sd_int h1, sdA_ints h2]
    rfl
theorem sdA_strs {K : PySem.W.Frag} {H : Hp} : ∀ {is : List Str} {vs : List V}, SdAll K H vs (is.map .str) → vs = is.map V.str
  | [], _, h => sdA_nil h
  | i :: r, _, h => by
    obtain ⟨v, t, rfl, h1, h2⟩ := sdA_cons h
    rw [sd_str h1, sdA_strs h2]
    rfl
theorem sd_pair {K : PySem.W.Frag} {H : Hp} {v : V} {d e : PyData} (h : Sd K H v (.tuple [d, e])) : ∃ a x y, v = .ref a ∧ Sq K H a [x, y] ∧ Sd K H x d ∧ Sd K H y e := by
  obtain ⟨a, xs, rfl, h1, h2⟩ := sd_tup h
  obtain ⟨x, r, rfl, hx, h2⟩ := sdA_cons h2
  obtain ⟨y, r, rfl, hy, h2⟩ := sdA_cons h2
  rw [sdA_nil h2] at h1
  exact ⟨a, x, y, rfl, h1, hx, hy⟩
theorem sd_tri {K : PySem.W.Frag} {H : Hp} {v : V} {d e g : PyData} (h : Sd K H v (.tuple [d, e, g])) : ∃ a x y z, v = .ref a ∧ Sq K H a [x, y, z] ∧ Sd K H x d ∧ Sd K H y e ∧ Sd K H z g := by
  obtain ⟨a, xs, rfl, h1, h2⟩ := sd_tup h
  obtain ⟨x, r, rfl, hx, h2⟩ := sdA_cons h2
  obtain ⟨y, r, rfl, hy, h2⟩ := sdA_cons h2
  obtain ⟨z, r, rfl, hz, h2⟩ := sdA_cons h2
  rw [sdA_nil h2] at h1
  exact ⟨a, x, y, z, rfl, h1, hx, hy, hz⟩
theorem lk_sd {K : PySem.W.Frag} {H : Hp} {ws : List Str} : ∀ {L : Lk} {v : V}, LkOk ws L → Sd K H v (lkD L) → LkAt K H v L
  | .num i, v, _, h => by rw [sd_int h]; exact .num i
  | .name x, v, _, h => by
    obtain ⟨a, u, y, rfl, h1, hx, hy⟩ := sd_pair h
    rw [sd_str hx, sd_str hy] at h1
    exact .name h1
  | .many x, v, _, h => by
    obtain ⟨a, u, y, rfl, h1, hx, hy⟩ := sd_pair h
    rw [sd_str hx, sd_str hy] at h1
    exact .many h1
  | .item x M, v, o, h => by
    obtain ⟨a, u, y, z, rfl, h1, hx, hy, hz⟩ := sd_tri h
    rw [sd_str hx, sd_str hy] at h1
    exact .item h1 (lk_sd o.2 hz)
  | .spot k, v, o, h => by
    obtain ⟨a, xs, rfl, h1, h2⟩ := sd_tup h
    obtain ⟨x, r, rfl, hx, h2⟩ := sdA_cons h2
    rw [sdA_nil h2, sd_str hx] at h1
    refine .spot (z := spotWords.getD k "") ?_ h1
    have o' : k < 4 := o
    rw [List.getD_eq_getElem?_getD, List.getElem?_eq_getElem (show k < spotWords.length from o')]
    rfl
  | .bin o M N, v, ok, h => by
    obtain ⟨a, u, y, z, rfl, h1, hx, hy, hz⟩ := sd_tri h
    rw [sd_str hx] at h1
    exact .bin h1 (lk_sd ok.1 hy) (lk_sd ok.2 hz)
theorem prs_names {K : PySem.W.Frag} {H : Hp} : ∀ {ns : List (Str × Int)} {ps : List V}, SdAll K H ps (ns.map prD) → Prs K H ps (ns.map fun p => (p.1, V.int p.2))
  | [], _, h => by rw [sdA_nil h]; exact .nil
  | p :: ns, _, h => by
    obtain ⟨v, r, rfl, h1, h2⟩ := sdA_cons h
    obtain ⟨a, x, y, rfl, hs, hx, hy⟩ := sd_pair h1
    rw [sd_str hx, sd_int hy] at hs
    exact .cons ⟨a, rfl, hs⟩ (prs_names h2)
theorem prs_rows {K : PySem.W.Frag} {H : Hp} : ∀ {ls : List (Str × List Int)} {ps : List V}, SdAll K H ps (ls.map rwD) → ∃ rs, Prs K H ps rs ∧ Rows K H rs ls
  | [], _, h => by rw [sdA_nil h]; exact ⟨[], .nil, .nil⟩
  | p :: ls, _, h => by
    obtain ⟨v, r, rfl, h1, h2⟩ := sdA_cons h
    obtain ⟨a, x, y, rfl, hs, hx, hy⟩ := sd_pair h1
    rw [sd_str hx] at hs
    obtain ⟨b, ys, rfl, hb, hy⟩ := sd_lst hy
    rw [sdA_ints hy] at hb
    obtain ⟨rs, k1, k2⟩ := prs_rows h2
    exact ⟨(p.1, .ref b) :: rs, .cons ⟨a, rfl, hs⟩ k1, .cons ⟨rfl, b, rfl, hb⟩ k2⟩
theorem ey_sd {K : PySem.W.Frag} {H : Hp} {v : V} {Y : Ey} (h4 : Y.spot.length = 4) (h : Sd K H v (eyD Y)) : ∃ e, v = .ref e ∧ Eyes K H e Y := by
  obtain ⟨a, xs, rfl, h1, h2⟩ := sd_tup h
  obtain ⟨v1, r, rfl, d1, h2⟩ := sdA_cons h2
  obtain ⟨v2, r, rfl, d2, h2⟩ := sdA_cons h2
  obtain ⟨v3, r, rfl, d3, h2⟩ := sdA_cons h2
  obtain ⟨v4, r, rfl, d4, h2⟩ := sdA_cons h2
  rw [sdA_nil h2] at h1
  obtain ⟨n, ps, rfl, n1, n2⟩ := sd_lst d1
  obtain ⟨l, rs, rfl, l1, l2⟩ := sd_lst d2
  obtain ⟨s, ss, rfl, s1, s2⟩ := sd_tup d3
  obtain ⟨m, ms, rfl, m1, m2⟩ := sd_lst d4
  rw [sdA_ints s2] at s1
  rw [sdA_strs m2] at m1
  obtain ⟨rs', k1, k2⟩ := prs_rows l2
  exact ⟨a, rfl, n, l, s, m, h1, ⟨ps, n1, prs_names n2⟩, ⟨rs, rs', l1, k1, k2⟩, s1, h4, m1⟩
theorem ts_sd {K : PySem.W.Frag} {H : Hp} {ws : List Str} : ∀ {t : Ts} {v : V}, TsOk ws t → Sd K H v (tsD t) → TsAt K H v t
  | .meets x, v, _, h => by
    obtain ⟨a, u, y, rfl, h1, hx, hy⟩ := sd_pair h
    rw [sd_str hx, sd_str hy] at h1
    exact .meets h1
  | .not_ t, v, o, h => by
    obtain ⟨a, u, y, rfl, h1, hx, hy⟩ := sd_pair h
    rw [sd_str hx] at h1
    exact .not_ h1 (ts_sd o hy)
  | .both t u, v, o, h => by
    obtain ⟨a, x, y, z, rfl, h1, hx, hy, hz⟩ := sd_tri h
    rw [sd_str hx] at h1
    exact .both h1 (ts_sd o.1 hy) (ts_sd o.2 hz)
  | .any_ t u, v, o, h => by
    obtain ⟨a, x, y, z, rfl, h1, hx, hy, hz⟩ := sd_tri h
    rw [sd_str hx] at h1
    exact .any_ h1 (ts_sd o.1 hy) (ts_sd o.2 hz)
  | .like L M, v, o, h => by
    obtain ⟨a, x, y, z, rfl, h1, hx, hy, hz⟩ := sd_tri h
    rw [sd_str hx] at h1
    exact .like h1 (lk_sd o.1 hy) (lk_sd o.2 hz)
  | .less L M, v, o, h => by
    obtain ⟨a, x, y, z, rfl, h1, hx, hy, hz⟩ := sd_tri h
    rw [sd_str hx] at h1
    exact .less h1 (lk_sd o.1 hy) (lk_sd o.2 hz)
theorem shw_two {x : Str} {d e : PyData} {a b : Nat} (hx : Shw (.str x) 0 8) (h1 : Shw d a (40 * 2 ^ a - 20)) (h2 : Shw e b (40 * 2 ^ b - 20)) : Shw (.tuple [.str x, d, e]) (max a b + 1) (40 * 2 ^ (max a b + 1) - 20) := by
  have i1 := h1.le (Nat.le_max_left a b) (Nat.le_refl _)
  have i2 := h2.le (Nat.le_max_right a b) (Nat.le_refl _)
  have := (ShwA.cons (hx.le (Nat.zero_le _) (Nat.le_refl _)) (.cons i1 (.cons i2 (.nil (b := 0))))).tup
  refine this.le (Nat.le_refl _) ?_
  have p1 : 2 ^ a ≤ 2 ^ (max a b) := Nat.pow_le_pow_right (by decide) (Nat.le_max_left _ _)
  have p2 : 2 ^ b ≤ 2 ^ (max a b) := Nat.pow_le_pow_right (by decide) (Nat.le_max_right _ _)
  have q1 := Nat.one_le_two_pow (n := a)
  have q2 := Nat.one_le_two_pow (n := b)
  rw [Nat.pow_succ]
  omega
theorem shw_ts {ws : List Str} (hw : ∀ z ∈ ws, IsNm z) : ∀ {t : Ts}, TsOk ws t → Shw (tsD t) t.deep (40 * 2 ^ t.deep - 20)
  | .meets x, h => (ShwA.cons (shw_c (x := "meets") (by decide +kernel) (by decide +kernel)) (.cons (shw_nm (hw x h)) (.nil (b := 0)))).tup.le (by show 0 + 1 ≤ 1; decide) (by show _ ≤ 40 * 2 ^ 1 - 20; decide)
  | .not_ t, h => by
    have ih := shw_ts hw (t := t) h
    have := (ShwA.cons ((shw_c (x := "not") (by decide +kernel) (by decide +kernel)).le (Nat.zero_le _) (Nat.le_refl _)) (.cons ih (.nil (b := 0)))).tup
    refine this.le (Nat.le_refl _) ?_
    have p := Nat.one_le_two_pow (n := t.deep)
    show _ ≤ 40 * 2 ^ (t.deep + 1) - 20
    rw [Nat.pow_succ]
    omega
  | .both t u, h => shw_two (shw_c (x := "both") (by decide +kernel) (by decide +kernel)) (shw_ts hw h.1) (shw_ts hw h.2)
  | .any_ t u, h => shw_two (shw_c (x := "any") (by decide +kernel) (by decide +kernel)) (shw_ts hw h.1) (shw_ts hw h.2)
  | .like L M, h => shw_two (shw_c (x := "like") (by decide +kernel) (by decide +kernel)) (shw_lk hw h.1) (shw_lk hw h.2)
  | .less L M, h => shw_two (shw_c (x := "below") (by decide +kernel) (by decide +kernel)) (shw_lk hw h.1) (shw_lk hw h.2)
theorem shw_allT {ws : List Str} (hw : ∀ z ∈ ws, IsNm z) {t : Ts} {Y : Ey} (hL : TsOk ws t) (h6 : t.deep ≤ 6) (hY : EyOk ws Y) : Shw (.list [tsD t, eyD Y]) 7 5000 := by
  have p : 2 ^ t.deep ≤ 2 ^ 6 := Nat.pow_le_pow_right (by decide) h6
  have p2 : (2 : Nat) ^ 6 = 64 := by decide
  exact (ShwA.cons ((shw_ts hw hL).le h6 (b' := 2560) (by omega)) (.cons ((shw_ey hw hY).le (by decide) (Nat.le_refl _)) (.nil (b := 0)))).lst.le (Nat.le_refl _) (by decide)
theorem okd_three {n : Nat} {x : Str} {d e : PyData} (h1 : OkD (n + 1) d) (h2 : OkD (n + 1) e) : OkD (n + 2) (.tuple [.str x, d, e]) := ⟨(by decide : 3 ≤ 1000), fun c hc => by
  rcases List.mem_cons.mp hc with z | z
  · rw [z]; trivial
  rcases List.mem_cons.mp z with z | z
  · rw [z]; exact h1
  · rw [List.mem_singleton.mp z]; exact h2⟩
theorem okd_ts : ∀ {t : Ts} {n : Nat}, t.deep ≤ n → OkD (n + 1) (tsD t)
  | .meets _, n + 1, _ => ⟨(by decide : 2 ≤ 1000), fun d hd => by rcases List.mem_cons.mp hd with z | z; rw [z]; trivial; rw [List.mem_singleton.mp z]; trivial⟩
  | .not_ t, n + 1, h => ⟨(by decide : 2 ≤ 1000), fun d hd => by
      rcases List.mem_cons.mp hd with z | z
      · rw [z]; trivial
      · rw [List.mem_singleton.mp z]; exact okd_ts (Nat.le_of_succ_le_succ h)⟩
  | .both a b, n + 1, h => have h' : max a.deep b.deep ≤ n := Nat.le_of_succ_le_succ h; okd_three (okd_ts (by omega)) (okd_ts (by omega))
  | .any_ a b, n + 1, h => have h' : max a.deep b.deep ≤ n := Nat.le_of_succ_le_succ h; okd_three (okd_ts (by omega)) (okd_ts (by omega))
  | .like a b, n + 1, h => have h' : max a.deep b.deep ≤ n := Nat.le_of_succ_le_succ h; okd_three (okd_lk (by omega)) (okd_lk (by omega))
  | .less a b, n + 1, h => have h' : max a.deep b.deep ≤ n := Nat.le_of_succ_le_succ h; okd_three (okd_lk (by omega)) (okd_lk (by omega))
  | .meets _, 0, h => absurd h (by simp [Ts.deep])
  | .not_ .., 0, h => absurd h (by simp [Ts.deep])
  | .both .., 0, h => absurd h (by simp [Ts.deep])
  | .any_ .., 0, h => absurd h (by simp [Ts.deep])
  | .like .., 0, h => absurd h (by simp [Ts.deep])
  | .less .., 0, h => absurd h (by simp [Ts.deep])
theorem dp_split {K : PySem.W.Frag} {H : Hp} {v : V} {d : PyData} {n : Nat} (hv : Dp K H v d) (ok : OkD (n + 1) d) : (v = .non ∧ d = .none) ∨ (∃ b, v = .bl b ∧ d = .bool b) ∨ (∃ i, v = .int i ∧ d = .int i) ∨ (∃ x, v = .str x ∧ d = .str x) ∨
    (∃ a xs ds, v = .ref a ∧ SqL K H a xs ∧ DpAll K H xs ds ∧ ds.length ≤ 1000 ∧ (∀ d ∈ ds, OkD n d) ∧ d = .list ds) ∨ ∃ a xs ds, v = .ref a ∧ SqT K H a xs ∧ DpAll K H xs ds ∧ ds.length ≤ 1000 ∧ (∀ d ∈ ds, OkD n d) ∧ d = .tuple ds := by
  cases hv with
  | non => exact .inl ⟨rfl, rfl⟩
  | bl b => exact .inr (.inl ⟨b, rfl, rfl⟩)
  | int i => exact .inr (.inr (.inl ⟨i, rfl, rfl⟩))
  | str x => exact .inr (.inr (.inr (.inl ⟨x, rfl, rfl⟩)))
  | lst q r => exact .inr (.inr (.inr (.inr (.inl ⟨_, _, _, rfl, q, r, ok.1, ok.2, rfl⟩))))
  | tup q r => exact .inr (.inr (.inr (.inr (.inr ⟨_, _, _, rfl, q, r, ok.1, ok.2, rfl⟩))))
/-- a list at D, built since H, of data -/
def BldD (K : PySem.W.Frag) (as : List Addr) (D : Addr) (H : Hp) (ds : List PyData) (H' : Hp) : Prop := Same H H' ∧ ∃ vs, H' D = some (.lst vs) ∧ DpAll K (rmL (D :: as) H') vs ds
theorem BldD.push {K : PySem.W.Frag} {as : List Addr} {D : Addr} {H H1 H2 : Hp} {ds : List PyData} {y : V} {d : PyData} (B : BldD K as D H ds H1) (nD : H D = none) (s : Same H1 H2) (hy : Dp K (rmL (D :: as) H2) y d) (hl : ds.length ≤ 999) :
    ∃ acc, H2 D = some (.lst acc) ∧ acc.length < sizeLine ∧ BldD K as D H (ds ++ [d]) (upd H2 D (.lst (acc ++ [y]))) := by
  obtain ⟨s1, vs, hD, hv⟩ := B
  refine ⟨vs, s _ _ hD, small1000 (by rw [dpAll_len hv]; omega), fun b o q => ?_, vs ++ [y], upd_same, ?_⟩
  · rw [upd_ne (fun z => by rw [z, nD] at q; cases q)]
    exact s b o (s1 b o q)
  · rw [rmL_upd (List.mem_cons_self ..)]
    exact dpAll_snoc hy (dpAll_same (rmL_but (.same s)) _ _ hv)
theorem BldD.in_ {K : PySem.W.Frag} {as : List Addr} {D : Addr} {H H0 H1 : Hp} {ds : List PyData} (B : BldD K as D H ds H1) (s : Same H0 H) (ha : ∀ b ∈ as, ∃ u, H0 b = some u) : ∀ b ∈ D :: as, ∃ u, H1 b = some u := fun b hb => by
  rcases List.mem_cons.mp hb with z | z
  · obtain ⟨_, vs, h, _⟩ := B
    rw [z]; exact ⟨_, h⟩
  · obtain ⟨u, hu⟩ := ha b z
    exact ⟨u, B.1 _ _ (s _ _ hu)⟩
theorem BldD.end_ {K : PySem.W.Frag} {as : List Addr} {D : Addr} {H H0 H1 : Hp} {ds : List PyData} (B : BldD K as D H ds H1) (nD : H D = none) (s : Same H0 H) (ha : ∀ b ∈ as, ∃ u, H0 b = some u) : ∃ vs, H1 D = some (.lst vs) ∧ rmL as H1 D = some (.lst vs) ∧ DpAll K (rmL as H1) vs ds := by
  obtain ⟨sB, vs, hD, hv'⟩ := B
  have nDa : D ∉ as := fun z => by
    obtain ⟨u, hu⟩ := ha D z
    rw [s _ _ hu] at nD
    cases nD
  exact ⟨vs, hD, by rw [rmL_at nDa]; exact hD, dpAll_same (rmL_less fun b => List.mem_cons_of_mem _) _ _ hv'⟩
theorem dpA_of_ints {K : PySem.W.Frag} {H : Hp} : ∀ is : List Int, DpAll K H (is.map V.int) (is.map .int)
  | [] => .nil
  | i :: r => .cons (.int i) (dpA_of_ints r)
end Fd

set_option Elab.async false
set_option linter.all false
set_option maxRecDepth 100000
set_option maxHeartbeats 2000000
namespace Fd
open PySem PySem.Spec PyProof.Rows L2
/-- its lists are the one of that name -/
def LkL (x3 : Str) : Lk → Prop
  | .many x => x = x3
  | .item x a => x = x3 ∧ LkL x3 a
  | .bin _ a b => LkL x3 a ∧ LkL x3 b
  | _ => True
def TsL (x3 : Str) : Ts → Prop
  | .like a b => LkL x3 a ∧ LkL x3 b
  | .less a b => LkL x3 a ∧ LkL x3 b
  | .not_ t => TsL x3 t
  | .both t u => TsL x3 t ∧ TsL x3 u
  | .any_ t u => TsL x3 t ∧ TsL x3 u
  | .meets _ => True
/-- at most so many draws for a look so deep -/
def cost (d : Nat) : Nat := 10 * 2 ^ d - 2
theorem cost_succ (d : Nat) : cost (d + 1) = 2 * cost d + 2 := by unfold cost; rw [Nat.pow_succ]; have := Nat.one_le_two_pow (n := d); omega
theorem cost_ge (d : Nat) : 8 ≤ cost d := by unfold cost; have := Nat.one_le_two_pow (n := d); omega
theorem word3 {ws : List Str} (h : ws.length = 7) : ∃ x, x ∈ ws ∧ ws[3]? = some x ∧ atI (ws.map V.str) 3 = some (.str x) := by
  have h3 : 3 < ws.length := by omega
  exact ⟨ws[3], List.getElem_mem _, List.getElem?_eq_getElem h3, atI_nat (j := 3) (by rw [List.getElem?_map, List.getElem?_eq_getElem h3]; rfl)⟩
theorem in_as {as : List Addr} {a c : Addr} {H : Hp} (ha : ∀ b ∈ as, ∃ u, H b = some u) {H' : Hp} {m : Nat} (s : ButL [a, c] H H') (D : Dr H' a c m) : ∀ b ∈ as, ∃ u, H' b = some u := fun b hb => by
  by_cases e : b ∈ [a, c]
  · exact D.in_ b e
  · obtain ⟨u, hu⟩ := ha b hb
    exact ⟨u, s b u e hu⟩
section
variable {P : Program} {w : World} {K : PySem.W.Frag} {mg : Str → Option Value} {base : Heap} {f : Addr} {fd : FuncData}
/-! ### _law_value_by -/
abbrev sValue : Stmt := top 51
theorem scValue : FnScope ["_law_state", "_law_some"] ["_law_state"] (defScope sValue) := ⟨rfl, rfl, rfl, by decide +kernel, rfl, by decide +kernel, by decide +kernel⟩
def spValue : Sp := fun vs H Q _ => ∃ (a c : Addr) (n : Nat), vs = [.ref a] ∧ Dr H a c n ∧ n + 4 ≤ 1000000 ∧ ∀ r H', inB r = true → ButL [a, c] H H' → Dr H' a c (n + 4) → Q (.int r) H'
theorem ok_value {k : Nat} (F : Fun K "_law_value_by" "_law_value_by" sValue f fd) (G : FnG P w K mg base CX0 k "_law_take" ["_law_state", "_law_many"] spTake) : FnOk P w K mg base CX0 (k + 1) f fd ["_law_state"] spValue := by
  obtain ⟨_, _, G__law_take, m__law_take, k__law_take, b__law_take⟩ := G
  have sc := scValue
  refine F.ok sc (fun vs H Q E h => ?_) (fun cdv A outer s H vs Q E hr h => ?_)
  · obtain ⟨a, c, n, rfl, _⟩ := h
    rfl
  obtain ⟨a, c, n, rfl, hD, hn, q⟩ := h
  refine ⟨_, (pss_cons (ps_set (i := 1) sc.nd rfl (.inl rfl) (pe_lst (pa_cons (pe_op op_sub (pe_call G__law_take (hr.mono (by omega)) (by rfl) m__law_take k__law_take b__law_take .nil pass0 (pa_cons (pv 0) (pa_cons pe_int pa_nil))) pe_int) (pa_cons (pe_call G__law_take (hr.mono (by omega)) (by rfl) m__law_take k__law_take b__law_take .nil pass0 (pa_cons (pv 0) (pa_cons pe_int pa_nil))) (pa_cons (pe_op op_pow pe_int pe_int) (pa_cons (pe_un un_neg (pe_op op_pow pe_int pe_int)) pa_nil))))))
      (pss_one (ps_ret (pe_ix ix_list (pv 1) (pe_op op_add (pe_op op_fdiv (pe_call G__law_take (hr.mono (by omega)) (by rfl) m__law_take k__law_take b__law_take .nil pass0 (pa_cons (pv 0) (pa_cons pe_int pa_nil))) pe_int) (pe_op op_fdiv (pe_call G__law_take (hr.mono (by omega)) (by rfl) m__law_take k__law_take b__law_take .nil pass0 (pa_cons (pv 0) (pa_cons pe_int pa_nil))) pe_int)) (fun _ _ => rfl))))), ?_⟩
  refine ⟨_, rfl, a, c, n, 9, rfl, hD, by omega, by decide, by decide, fun r1 H1 r10 r11 s1 D1 => ⟨_, 3, rfl, rfl, _, rfl, a, c, n + 1, 4, rfl, D1, by omega, by decide, by decide, fun r2 H2 r20 r21 s2 D2 => ?_⟩⟩
  refine ⟨10, 6, rfl, rfl, ⟨by decide, by decide, by decide⟩, 10, 6, rfl, rfl, ⟨by decide, by decide, by decide⟩, _, rfl, by show 4 ≤ sizeLine; decide, fun l nl => ?_⟩
  have e2 : Same H2 _ := same_upd (o := .lst [.int (r1 - 3), .int r2, .int (10 ^ (6 : Int).toNat), .int (-(10 ^ (6 : Int).toNat))]) nl
  have hl := laid_at (.lst [.int (r1 - 3), .int r2, .int (10 ^ (6 : Int).toNat), .int (-(10 ^ (6 : Int).toNat))]) nl
  have D3 := D2.same e2
  have la := D2.ne nl
  generalize upd H2 l _ = H3 at *
  refine ⟨_, rfl, _, rfl, a, c, n + 2, 11, rfl, D3, by omega, by decide, by decide, fun r3 H4 r30 r31 s4 D4 => ⟨_, 5, rfl, rfl, ⟨by decide, by decide⟩, ?_⟩⟩
  refine ⟨_, rfl, a, c, n + 3, 7, rfl, D4, by omega, by decide, by decide, fun r4 H5 r40 r41 s5 D5 => ⟨_, 6, rfl, rfl, ⟨by decide, by decide⟩, _, _, rfl, rfl, ?_⟩⟩
  have hl5 := s5 _ _ la (s4 _ _ la hl)
  have b5 : ButL [a, c] H H5 := (s1.trans s2).trans ((ButL.same e2).trans (s4.trans s5))
  have pw : (10 : Int) ^ (6 : Int).toNat = 1000000 := by decide
  have : r3 / 5 + r4 / 6 = 0 ∨ r3 / 5 + r4 / 6 = 1 ∨ r3 / 5 + r4 / 6 = 2 ∨ r3 / 5 + r4 / 6 = 3 := by omega
  dsimp only
  rcases this with e | e | e | e <;> rw [e]
  · exact ⟨l, _, 0, _, rfl, rfl, SqL.of hl5, rfl, q _ _ (inB_of (by omega) (by omega)) b5 D5⟩
  · exact ⟨l, _, 1, _, rfl, rfl, SqL.of hl5, rfl, q _ _ (inB_of (by omega) (by omega)) b5 D5⟩
  · exact ⟨l, _, 2, _, rfl, rfl, SqL.of hl5, rfl, q _ _ (inB_of (by omega) (by omega)) b5 D5⟩
  · exact ⟨l, _, 3, _, rfl, rfl, SqL.of hl5, rfl, q _ _ (inB_of (by omega) (by omega)) b5 D5⟩
/-! ### _law_look_by -/
abbrev sLook : Stmt := top 52
theorem scLook : FnScope ["_law_state", "_law_words", "_law_deep", "_law_way", "_law_word"] ["_law_state", "_law_words", "_law_deep"] (defScope sLook) := ⟨rfl, rfl, rfl, by decide +kernel, rfl, by decide +kernel, by decide +kernel⟩
def spLook (K : PySem.W.Frag) (d : Nat) : Sp := fun vs H Q _ => ∃ (a c p : Addr) (n : Nat) (deep : Int) (ws : List Str) (x3 : Str) (as : List Addr), vs = [.ref a, .ref p, .int deep] ∧ Dr H a c n ∧ n + cost d ≤ 1000000 ∧ 1 ≤ deep ∧ deep ≤ d ∧ rmL [a, c] H p = some (.lst (ws.map V.str)) ∧ ws.length = 7 ∧ ws[3]? = some x3 ∧ (∀ b ∈ [a, c], b ∈ as) ∧ (∀ b ∈ as, ∃ u, H b = some u) ∧
  ∀ (v : V) (L : Lk) (H' : Hp), ButL [a, c] H H' → Dr H' a c (n + cost d) → Dp K (rmL as H') v (lkD L) → LkOk ws L → LkL x3 L → L.deep ≤ d → Q v H'
theorem ok_look {k d : Nat} (F : Fun K "_law_look_by" "_law_look_by" sLook f fd) (GT : FnG P w K mg base CX0 k "_law_take" ["_law_state", "_law_many"] spTake) (GA : FnG P w K mg base CX0 k "_law_value_by" ["_law_state"] spValue)
    (GL : FnG P w K mg base CX0 k "_law_look_by" ["_law_state", "_law_words", "_law_deep"] (spLook K d)) : FnOk P w K mg base CX0 (k + 1) f fd ["_law_state", "_law_words", "_law_deep"] (spLook K (d + 1)) := by
  obtain ⟨_, _, G__law_take, m__law_take, k__law_take, b__law_take⟩ := GT
  obtain ⟨_, _, G__law_value_by, m__law_value_by, k__law_value_by, b__law_value_by⟩ := GA
  obtain ⟨_, _, G__law_look_by, m__law_look_by, k__law_look_by, b__law_look_by⟩ := GL
  have sc := scLook
  refine F.ok sc (fun vs H Q E h => ?_) (fun cdv A outer s H vs Q E hr h => ?_)
  · obtain ⟨a, c, p, n, deep, ws, x3, as, rfl, _⟩ := h
    rfl
  obtain ⟨a, c, p, n, deep, ws, x3, as, rfl, hD, hn, d0, d1, hp, hw, h3, sub, ha, q⟩ := h
  refine ⟨_, (pss_cons (ps_set (i := 3) sc.nd rfl (.inl rfl) (pe_call G__law_take (hr.mono (by omega)) (by rfl) m__law_take k__law_take b__law_take .nil pass0 (pa_cons (pv 0) (pa_cons pe_int pa_nil))))
      (pss_cons (ps_if (PW.pt (pw_or (pt_cmpR op_lt (pv 2) pe_int (nomark _)) (pw_or1 (pt_cmpR op_lt (pv 3) pe_int (nomark _))))) (pss_one (ps_ret (pe_call G__law_value_by (hr.mono (by omega)) (by rfl) m__law_value_by k__law_value_by b__law_value_by .nil pass0 (pa_cons (pv 0) pa_nil)))) pss_nil)
      (pss_cons (ps_if (pt_cmpR op_lt (pv 3) pe_int (nomark _)) (pss_one (ps_ret (pe_tup (pa_cons pe_str (pa_cons (pe_ix ix_list (pv 1) (pe_call G__law_take (hr.mono (by omega)) (by rfl) m__law_take k__law_take b__law_take .nil pass0 (pa_cons (pv 0) (pa_cons pe_int pa_nil))) (fun _ _ => rfl)) pa_nil))))) pss_nil)
      (pss_cons (ps_if (pt_cmpR op_lt (pv 3) pe_int (nomark _)) (pss_cons (ps_set (i := 4) sc.nd rfl (.inl rfl) (pe_ix ix_list (pe_lst (pa_cons pe_str (pa_cons pe_str (pa_cons pe_str (pa_cons pe_str (pa_cons pe_str pa_nil)))))) (pe_call G__law_take (hr.mono (by omega)) (by rfl) m__law_take k__law_take b__law_take .nil pass0 (pa_cons (pv 0) (pa_cons pe_int pa_nil))) (fun _ _ => rfl)))
      (pss_one (ps_ret (pe_tup (pa_cons (pv 4) (pa_cons (pe_call G__law_look_by (hr.mono (by omega)) (by rfl) m__law_look_by k__law_look_by b__law_look_by .nil pass0 (pa_cons (pv 0) (pa_cons (pv 1) (pa_cons (pe_op op_sub (pv 2) pe_int) pa_nil)))) (pa_cons (pe_call G__law_look_by (hr.mono (by omega)) (by rfl) m__law_look_by k__law_look_by b__law_look_by .nil pass0 (pa_cons (pv 0) (pa_cons (pv 1) (pa_cons (pe_op op_sub (pv 2) pe_int) pa_nil)))) pa_nil))))))) pss_nil)
      (pss_cons (ps_if (pt_cmpR op_eq (pv 3) pe_int (nomark _)) (pss_one (ps_ret (pe_tup (pa_cons pe_str (pa_cons (pe_ix ix_list (pv 1) pe_int (fun _ _ => rfl)) (pa_cons (pe_call G__law_look_by (hr.mono (by omega)) (by rfl) m__law_look_by k__law_look_by b__law_look_by .nil pass0 (pa_cons (pv 0) (pa_cons (pv 1) (pa_cons (pe_op op_sub (pv 2) pe_int) pa_nil)))) pa_nil)))))) pss_nil)
      (pss_one (ps_ret (pe_ifExp (pt_cmpR op_eq (pv 3) pe_int (nomark _)) (pe_tup (pa_cons pe_str (pa_cons (pe_ix ix_list (pv 1) pe_int (fun _ _ => rfl)) pa_nil))) (pe_tup (pa_cons (pe_ix ix_list (pe_lst (pa_cons pe_str (pa_cons pe_str (pa_cons pe_str (pa_cons pe_str pa_nil))))) (pe_call G__law_take (hr.mono (by omega)) (by rfl) m__law_take k__law_take b__law_take .nil pass0 (pa_cons (pv 0) (pa_cons pe_int pa_nil))) (fun _ _ => rfl)) pa_nil)))))))))), ?_⟩
  have c8 := cost_ge d
  have c2 := cost_succ d
  have z1 : 1 ≤ sizeLine := by decide
  have z2 : 2 ≤ sizeLine := by decide
  have z3 : 3 ≤ sizeLine := by decide
  have z4 : 4 ≤ sizeLine := by decide
  have z5 : 5 ≤ sizeLine := by decide
  have at3 : atI (ws.map V.str) 3 = some (.str x3) := atI_nat (j := 3) (by rw [List.getElem?_map, h3]; rfl)
  have m3 : x3 ∈ ws := List.mem_of_getElem? h3
  refine ⟨_, rfl, a, c, n, 12, rfl, hD, by omega, by decide, by decide, fun way H1 w0 w1 s1 D1 => ?_⟩
  have hp1 := rmL_but s1 _ _ hp
  refine ⟨_, rfl, _, _, rfl, rfl, _, rfl, ite2 (fun c1 => ?_) (fun c1 => ⟨_, rfl, _, _, rfl, rfl, _, rfl, ite2 (fun c2 => ?_) (fun c2 => ?_)⟩)⟩
  · refine iteT ?_
    exact ⟨_, rfl, a, c, n + 1, rfl, D1, by omega, fun r H2 ri s2 D2 => q _ (.num r) H2 (s1.trans s2) (D2.le (by omega)) (.int r) ri trivial (Nat.succ_le_succ (Nat.zero_le _))⟩
  · exact ⟨_, rfl, a, c, n + 1, rfl, D1, by omega, fun r H2 ri s2 D2 => q _ (.num r) H2 (s1.trans s2) (D2.le (by omega)) (.int r) ri trivial (Nat.succ_le_succ (Nat.zero_le _))⟩
  have dp2 : 2 ≤ deep := by
    have : ¬ deep < 2 := fun z => c1 (decide_eq_true z)
    omega
  refine ⟨_, rfl, _, _, rfl, rfl, _, rfl, ite2 (fun c3 => ?_) (fun c3 => ?_)⟩
  · refine ⟨_, rfl, _, rfl, a, c, n + 1, 3, rfl, D1, by omega, by decide, by decide, fun r H2 r0 r1 s2 D2 => ?_⟩
    obtain ⟨x, hx, ex⟩ := at_words (ws := ws) r0 (by omega)
    refine ⟨p, _, r, _, rfl, rfl, SqL.of (rmL_sub _ _ (rmL_but s2 _ _ hp1)), ex, z2, fun t nt => ?_⟩
    exact q _ (.name x) _ ((s1.trans s2).trans (.same (same_upd nt))) ((D2.same (same_upd nt)).le (by omega)) (.tup (SqT.of (rmL_new (in_as ha (s1.trans s2) D2) nt)) (.cons (.str _) (.cons (.str _) .nil))) hx trivial (Nat.succ_le_succ (Nat.zero_le _))
  refine ⟨_, rfl, _, _, rfl, rfl, _, rfl, ite2 (fun c4 => ?_) (fun c4 => ?_)⟩
  · refine ⟨z5, fun l nl => ⟨_, rfl, a, c, n + 1, 5, rfl, D1.same (same_upd nl), by omega, by decide, by decide, fun r H2 r0 r1 s2 D2 => ?_⟩⟩
    obtain ⟨j, rfl⟩ : ∃ j : Nat, r = (j : Int) := ⟨r.toNat, by omega⟩
    have hj : j < 5 := by omega
    have hl := s2 _ _ (D1.ne nl) (laid_at (.lst [.str "plus", .str "minus", .str "by", .str "over", .str "rest"]) nl)
    obtain ⟨v, hv⟩ : ∃ v, [V.str "plus", .str "minus", .str "by", .str "over", .str "rest"][j]? = some v := ⟨_, List.getElem?_eq_getElem (show j < 5 from hj)⟩
    obtain ⟨o, rfl⟩ := bop_at hv
    have hp2 := rmL_but ((ButL.same (same_upd nl)).trans s2) _ _ hp1
    refine ⟨l, _, _, _, rfl, rfl, SqL.of hl, atI_nat hv, _, rfl, _, rfl, _, rfl, _, rfl, _, _, rfl, rfl, a, c, p, n + 2, deep - 1, ws, x3, as, rfl, D2, by omega, by omega, by omega, hp2, hw, h3, sub, in_as ha ((s1.trans (.same (same_upd nl))).trans s2) D2, fun v1 L1 H3 s3 D3 k1 o1 g1 e1 => ?_⟩
    refine ⟨_, rfl, _, rfl, _, rfl, _, _, rfl, rfl, a, c, p, n + 2 + cost d, deep - 1, ws, x3, as, rfl, D3, by omega, by omega, by omega, rmL_but s3 _ _ hp2, hw, h3, sub, in_as ha (((s1.trans (.same (same_upd nl))).trans s2).trans s3) D3, fun v2 L2 H4 s4 D4 k2 o2 g2 e2 => ⟨z3, fun t nt => ?_⟩⟩
    have sn := rmL_same (as := as) (same_upd (o := .tup [.str o.word, v1, v2]) nt)
    exact q _ (.bin o L1 L2) _ (((s1.trans (.same (same_upd nl))).trans s2).trans ((s3.trans s4).trans (.same (same_upd nt)))) ((D4.same (same_upd nt)).le (by omega))
      (.tup (SqT.of (rmL_new (in_as ha (((s1.trans (.same (same_upd nl))).trans s2).trans (s3.trans s4)) D4) nt)) (.cons (.str _) (.cons (dp_same ((rmL_but (s4.more sub)).trans sn) _ _ k1) (.cons (dp_same sn _ _ k2) .nil)))) ⟨o1, o2⟩ ⟨g1, g2⟩ (Nat.succ_le_succ (Nat.max_le.mpr ⟨e1, e2⟩))
  refine ⟨_, rfl, rfl, _, rfl, ite2 (fun c5 => ?_) (fun c5 => ?_)⟩
  · refine ⟨_, rfl, p, _, 3, _, rfl, rfl, SqL.of (rmL_sub _ _ hp1), at3, _, rfl, _, rfl, _, rfl, _, _, rfl, rfl, a, c, p, n + 1, deep - 1, ws, x3, as, rfl, D1, by omega, by omega, by omega, hp1, hw, h3, sub, in_as ha s1 D1, fun v1 L1 H3 s3 D3 k1 o1 g1 e1 => ⟨z3, fun t nt => ?_⟩⟩
    have sn := rmL_same (as := as) (same_upd (o := .tup [.str "item", .str x3, v1]) nt)
    exact q _ (.item x3 L1) _ (s1.trans (s3.trans (.same (same_upd nt)))) ((D3.same (same_upd nt)).le (by omega)) (.tup (SqT.of (rmL_new (in_as ha (s1.trans s3) D3) nt)) (.cons (.str _) (.cons (.str _) (.cons (dp_same sn _ _ k1) .nil)))) ⟨m3, o1⟩ ⟨rfl, g1⟩ (Nat.succ_le_succ e1)
  refine ⟨_, rfl, rfl, _, rfl, ite2 (fun c6 => ?_) (fun c6 => ?_)⟩
  · refine ⟨_, rfl, p, _, 3, _, rfl, rfl, SqL.of (rmL_sub _ _ hp1), at3, z2, fun t nt => ?_⟩
    exact q _ (.many x3) _ (s1.trans (.same (same_upd nt))) ((D1.same (same_upd nt)).le (by omega)) (.tup (SqT.of (rmL_new (in_as ha s1 D1) nt)) (.cons (.str _) (.cons (.str _) .nil))) m3 rfl (Nat.succ_le_succ (Nat.zero_le _))
  · refine ⟨z4, fun l nl => ⟨_, rfl, a, c, n + 1, 4, rfl, D1.same (same_upd nl), by omega, by decide, by decide, fun r H2 r0 r1 s2 D2 => ?_⟩⟩
    obtain ⟨j, rfl⟩ : ∃ j : Nat, r = (j : Int) := ⟨r.toNat, by omega⟩
    have hj : j < 4 := by omega
    have hl := s2 _ _ (D1.ne nl) (laid_at (.lst [.str "x", .str "y", .str "way", .str "number"]) nl)
    obtain ⟨v, hv⟩ : ∃ v, [V.str "x", .str "y", .str "way", .str "number"][j]? = some v := ⟨_, List.getElem?_eq_getElem (show j < 4 from hj)⟩
    obtain ⟨j4, rfl⟩ := spot_at hv
    refine ⟨l, _, _, _, rfl, rfl, SqL.of hl, atI_nat hv, z1, fun t nt => ?_⟩
    exact q _ (.spot j) _ ((s1.trans (.same (same_upd nl))).trans (s2.trans (.same (same_upd nt)))) ((D2.same (same_upd nt)).le (by omega)) (.tup (SqT.of (rmL_new (in_as ha ((s1.trans (.same (same_upd nl))).trans s2) D2) nt)) (.cons (.str _) .nil)) j4 trivial (Nat.succ_le_succ (Nat.zero_le _))
theorem ok_looks (D : Df K mg "_law_look_by" sLook ["_law_state", "_law_words", "_law_deep"] f fd) (GT : FnG P w K mg base CX0 3 "_law_take" ["_law_state", "_law_many"] spTake) (GA : FnG P w K mg base CX0 3 "_law_value_by" ["_law_state"] spValue) :
    ∀ d, FnG P w K mg base CX0 (d + 3) "_law_look_by" ["_law_state", "_law_words", "_law_deep"] (spLook K d)
  | 0 => ⟨f, fd, ⟨fun vs H Q E h => by
      obtain ⟨a, c, p, n, deep, ws, x3, as, rfl, _⟩ := h
      rfl, fun A outer s H args us vs Q E _ _ _ _ h => by
      obtain ⟨a, c, p, n, deep, ws, x3, as, _, _, _, h1, h2, _⟩ := h
      omega⟩, D.m, D.F.kp, D.b⟩
  | d + 1 => D.g (ok_look (k := d + 3) D.F (GT.mono (by omega)) (GA.mono (by omega)) (ok_looks D GT GA d))
/-! ### _law_test_by -/
abbrev sTest : Stmt := top 53
theorem scTest : FnScope ["_law_state", "_law_words", "_law_deep", "_law_way", "_law_word"] ["_law_state", "_law_words", "_law_deep"] (defScope sTest) := ⟨rfl, rfl, rfl, by decide +kernel, rfl, by decide +kernel, by decide +kernel⟩
def spTest (K : PySem.W.Frag) (d : Nat) : Sp := fun vs H Q _ => ∃ (a c p : Addr) (n : Nat) (deep : Int) (ws : List Str) (x3 : Str) (as : List Addr), vs = [.ref a, .ref p, .int deep] ∧ Dr H a c n ∧ n + cost d ≤ 1000000 ∧ 1 ≤ deep ∧ deep ≤ d ∧ rmL [a, c] H p = some (.lst (ws.map V.str)) ∧ ws.length = 7 ∧ ws[3]? = some x3 ∧ (∀ b ∈ [a, c], b ∈ as) ∧ (∀ b ∈ as, ∃ u, H b = some u) ∧
  ∀ (v : V) (t : Ts) (H' : Hp), ButL [a, c] H H' → Dr H' a c (n + cost d) → Dp K (rmL as H') v (tsD t) → TsOk ws t → TsL x3 t → t.deep ≤ d → Q v H'
theorem ok_test {k d : Nat} (F : Fun K "_law_test_by" "_law_test_by" sTest f fd) (GT : FnG P w K mg base CX0 k "_law_take" ["_law_state", "_law_many"] spTake) (GL : FnG P w K mg base CX0 k "_law_look_by" ["_law_state", "_law_words", "_law_deep"] (spLook K d))
    (GA : FnG P w K mg base CX0 k "_law_test_by" ["_law_state", "_law_words", "_law_deep"] (spTest K d)) : FnOk P w K mg base CX0 (k + 1) f fd ["_law_state", "_law_words", "_law_deep"] (spTest K (d + 1)) := by
  obtain ⟨_, _, G__law_take, m__law_take, k__law_take, b__law_take⟩ := GT
  obtain ⟨_, _, G__law_look_by, m__law_look_by, k__law_look_by, b__law_look_by⟩ := GL
  obtain ⟨_, _, G__law_test_by, m__law_test_by, k__law_test_by, b__law_test_by⟩ := GA
  have sc := scTest
  refine F.ok sc (fun vs H Q E h => ?_) (fun cdv A outer s H vs Q E hr h => ?_)
  · obtain ⟨a, c, p, n, deep, ws, x3, as, rfl, _⟩ := h
    rfl
  obtain ⟨a, c, p, n, deep, ws, x3, as, rfl, hD, hn, d0, d1, hp, hw, h3, sub, ha, q⟩ := h
  refine ⟨_, (pss_cons (ps_set (i := 3) sc.nd rfl (.inl rfl) (pe_call G__law_take (hr.mono (by omega)) (by rfl) m__law_take k__law_take b__law_take .nil pass0 (pa_cons (pv 0) (pa_cons pe_int pa_nil))))
      (pss_cons (ps_if (PW.pt (pw_or (pt_cmpR op_lt (pv 2) pe_int (nomark _)) (pw_or1 (pt_cmpR op_lt (pv 3) pe_int (nomark _))))) (pss_cons (ps_if (PW.pt (pw_or (pt_cmpR op_eq (pv 3) pe_int (nomark _)) (pw_or1 (pt_cmpR op_lt (pv 2) pe_int (nomark _))))) (pss_one (ps_ret (pe_tup (pa_cons pe_str (pa_cons (pe_ix ix_list (pv 1) (pe_op op_add pe_int (pe_call G__law_take (hr.mono (by omega)) (by rfl) m__law_take k__law_take b__law_take .nil pass0 (pa_cons (pv 0) (pa_cons pe_int pa_nil)))) (fun _ _ => rfl)) pa_nil))))) pss_nil)
      (pss_one (ps_ret (pe_tup (pa_cons (pe_ix ix_list (pe_lst (pa_cons pe_str (pa_cons pe_str pa_nil))) (pe_op op_mod (pv 3) pe_int) (fun _ _ => rfl)) (pa_cons (pe_call G__law_look_by (hr.mono (by omega)) (by rfl) m__law_look_by k__law_look_by b__law_look_by .nil pass0 (pa_cons (pv 0) (pa_cons (pv 1) (pa_cons (pe_op op_sub (pv 2) pe_int) pa_nil)))) (pa_cons (pe_call G__law_look_by (hr.mono (by omega)) (by rfl) m__law_look_by k__law_look_by b__law_look_by .nil pass0 (pa_cons (pv 0) (pa_cons (pv 1) (pa_cons (pe_op op_sub (pv 2) pe_int) pa_nil)))) pa_nil))))))) pss_nil)
      (pss_cons (ps_if (pt_cmpR op_eq (pv 3) pe_int (nomark _)) (pss_one (ps_ret (pe_tup (pa_cons pe_str (pa_cons (pe_call G__law_test_by (hr.mono (by omega)) (by rfl) m__law_test_by k__law_test_by b__law_test_by .nil pass0 (pa_cons (pv 0) (pa_cons (pv 1) (pa_cons (pe_op op_sub (pv 2) pe_int) pa_nil)))) pa_nil))))) pss_nil)
      (pss_cons (ps_set (i := 4) sc.nd rfl (.inl rfl) (pe_ix ix_list (pe_lst (pa_cons pe_str (pa_cons pe_str pa_nil))) (pe_op op_mod (pv 3) pe_int) (fun _ _ => rfl)))
      (pss_one (ps_ret (pe_tup (pa_cons (pv 4) (pa_cons (pe_call G__law_test_by (hr.mono (by omega)) (by rfl) m__law_test_by k__law_test_by b__law_test_by .nil pass0 (pa_cons (pv 0) (pa_cons (pv 1) (pa_cons (pe_op op_sub (pv 2) pe_int) pa_nil)))) (pa_cons (pe_call G__law_test_by (hr.mono (by omega)) (by rfl) m__law_test_by k__law_test_by b__law_test_by .nil pass0 (pa_cons (pv 0) (pa_cons (pv 1) (pa_cons (pe_op op_sub (pv 2) pe_int) pa_nil)))) pa_nil)))))))))), ?_⟩
  have c8 := cost_ge d
  have c2 := cost_succ d
  have z2 : 2 ≤ sizeLine := by decide
  have z3 : 3 ≤ sizeLine := by decide
  refine ⟨_, rfl, a, c, n, 8, rfl, hD, by omega, by decide, by decide, fun way H1 w0 w1 s1 D1 => ?_⟩
  have hp1 := rmL_but s1 _ _ hp
  have meets : ∀ (r : Int) (H2 : Hp), 0 ≤ r → r < 2 → ButL [a, c] H1 H2 → Dr H2 a c (n + 2) → ∃ x, atI (ws.map V.str) (4 + r) = some (.str x) ∧ ∀ t, H2 t = none → Q (.ref t) (upd H2 t (.tup [.str "meets", .str x])) := fun r H2 r0 r1 s2 D2 => by
    obtain ⟨x, hx, ex⟩ := at_words (ws := ws) (i := 4 + r) (by omega) (by omega)
    refine ⟨x, ex, fun t nt => ?_⟩
    exact q _ (.meets x) _ ((s1.trans s2).trans (.same (same_upd nt))) ((D2.same (same_upd nt)).le (by omega)) (.tup (SqT.of (rmL_new (in_as ha (s1.trans s2) D2) nt)) (.cons (.str _) (.cons (.str _) .nil))) hx trivial (Nat.succ_le_succ (Nat.zero_le _))
  refine ⟨_, rfl, _, _, rfl, rfl, _, rfl, ite2 (fun c1 => ?b1) (fun c1 => ⟨_, rfl, _, _, rfl, rfl, _, rfl, ite2 (fun c2 => ?b2) (fun c2 => ?rest)⟩)⟩
  case rest =>
    have dp3 : 3 ≤ deep := by
      have : ¬ deep < 3 := fun z => c1 (decide_eq_true z)
      omega
    refine ⟨_, rfl, rfl, _, rfl, ite2 (fun c5 => ?_) (fun c5 => ?_)⟩
    · refine ⟨_, rfl, _, rfl, _, rfl, _, _, rfl, rfl, a, c, p, n + 1, deep - 1, ws, x3, as, rfl, D1, by omega, by omega, by omega, hp1, hw, h3, sub, in_as ha s1 D1, fun v1 t1 H3 s3 D3 k1 o1 g1 e1 => ⟨z2, fun t nt => ?_⟩⟩
      have sn := rmL_same (as := as) (same_upd (o := .tup [.str "not", v1]) nt)
      exact q _ (.not_ t1) _ ((s1.trans s3).trans (.same (same_upd nt))) ((D3.same (same_upd nt)).le (by omega)) (.tup (SqT.of (rmL_new (in_as ha (s1.trans s3) D3) nt)) (.cons (.str _) (.cons (dp_same sn _ _ k1) .nil))) o1 g1 (Nat.succ_le_succ e1)
    · refine ⟨z2, fun l nl => ⟨_, rfl, way, 2, rfl, rfl, (show (0 : Int) < 2 by decide), ?_⟩⟩
      have sl : Same H1 (upd H1 l (.lst [.str "both", .str "any"])) := same_upd nl
      obtain ⟨b, hb⟩ : ∃ b : Bool, atI [V.str "both", V.str "any"] (way % 2) = some (.str (if b = true then "any" else "both")) := by
        have : way % 2 = 0 ∨ way % 2 = 1 := by omega
        rcases this with z | z
        · rw [z]; exact ⟨false, rfl⟩
        · rw [z]; exact ⟨true, rfl⟩
      have D2 := D1.same sl
      have hp2 := rmL_same sl _ _ hp1
      refine ⟨l, _, _, _, rfl, rfl, SqL.of upd_same, hb, _, rfl, _, rfl, _, rfl, _, rfl, _, _, rfl, rfl, a, c, p, n + 1, deep - 1, ws, x3, as, rfl, D2, by omega, by omega, by omega, hp2, hw, h3, sub, in_as ha (s1.trans (.same sl)) D2, fun v1 t1 H3 s3 D3 k1 o1 g1 e1 => ?_⟩
      refine ⟨_, rfl, _, rfl, _, rfl, _, _, rfl, rfl, a, c, p, n + 1 + cost d, deep - 1, ws, x3, as, rfl, D3, by omega, by omega, by omega, rmL_but s3 _ _ hp2, hw, h3, sub, in_as ha ((s1.trans (.same sl)).trans s3) D3, fun v2 t2 H4 s4 D4 k2 o2 g2 e2 => ⟨z3, fun t nt => ?_⟩⟩
      have sA := ((s1.trans (.same sl)).trans (s3.trans s4)).trans (.same (same_upd (o := .tup [.str (if b = true then "any" else "both"), v1, v2]) nt))
      have sn := rmL_same (as := as) (same_upd (o := .tup [.str (if b = true then "any" else "both"), v1, v2]) nt)
      have dD := DpAll.cons (K := K) (dp_same ((rmL_but (s4.more sub)).trans sn) _ _ k1) (.cons (dp_same sn _ _ k2) .nil)
      cases b with
      | true => exact q _ (.any_ t1 t2) _ sA ((D4.same (same_upd nt)).le (by omega)) (.tup (SqT.of (rmL_new (in_as ha ((s1.trans (.same sl)).trans (s3.trans s4)) D4) nt)) (.cons (.str _) dD)) ⟨o1, o2⟩ ⟨g1, g2⟩ (Nat.succ_le_succ (Nat.max_le.mpr ⟨e1, e2⟩))
      | false => exact q _ (.both t1 t2) _ sA ((D4.same (same_upd nt)).le (by omega)) (.tup (SqT.of (rmL_new (in_as ha ((s1.trans (.same sl)).trans (s3.trans s4)) D4) nt)) (.cons (.str _) dD)) ⟨o1, o2⟩ ⟨g1, g2⟩ (Nat.succ_le_succ (Nat.max_le.mpr ⟨e1, e2⟩))
  case' b1 => refine iteT ?_
  all_goals
    refine ⟨_, rfl, rfl, _, rfl, ite2 (fun c3 => ?_) (fun c3 => ⟨_, rfl, _, _, rfl, rfl, _, rfl, ite2 (fun c4 => ?_) (fun c4 => ?_)⟩)⟩
    · refine iteT ⟨_, rfl, _, rfl, a, c, n + 1, 2, rfl, D1, by omega, by decide, by decide, fun r H2 r0 r1 s2 D2 => ?_⟩
      obtain ⟨x, ex, hq⟩ := meets r H2 r0 r1 s2 D2
      exact ⟨4, r, rfl, rfl, p, _, _, _, rfl, rfl, SqL.of (rmL_sub _ _ (rmL_but s2 _ _ hp1)), ex, z2, hq⟩
    · refine ⟨_, rfl, _, rfl, a, c, n + 1, 2, rfl, D1, by omega, by decide, by decide, fun r H2 r0 r1 s2 D2 => ?_⟩
      obtain ⟨x, ex, hq⟩ := meets r H2 r0 r1 s2 D2
      exact ⟨4, r, rfl, rfl, p, _, _, _, rfl, rfl, SqL.of (rmL_sub _ _ (rmL_but s2 _ _ hp1)), ex, z2, hq⟩
    · have dp2 : 2 ≤ deep := by
        have : ¬ deep < 2 := fun z => c4 (decide_eq_true z)
        omega
      refine ⟨z2, fun l nl => ⟨_, rfl, way, 2, rfl, rfl, (show (0 : Int) < 2 by decide), ?_⟩⟩
      have sl : Same H1 (upd H1 l (.lst [.str "like", .str "below"])) := same_upd nl
      obtain ⟨b, hb⟩ : ∃ b : Bool, atI [V.str "like", V.str "below"] (way % 2) = some (.str (if b = true then "below" else "like")) := by
        have : way % 2 = 0 ∨ way % 2 = 1 := by omega
        rcases this with z | z
        · rw [z]; exact ⟨false, rfl⟩
        · rw [z]; exact ⟨true, rfl⟩
      have D2 := D1.same sl
      have hp2 := rmL_same sl _ _ hp1
      refine ⟨l, _, _, _, rfl, rfl, SqL.of upd_same, hb, _, rfl, _, rfl, _, rfl, _, _, rfl, rfl, a, c, p, n + 1, deep - 1, ws, x3, as, rfl, D2, by omega, by omega, by omega, hp2, hw, h3, sub, in_as ha (s1.trans (.same sl)) D2, fun v1 L1 H3 s3 D3 k1 o1 g1 e1 => ?_⟩
      refine ⟨_, rfl, _, rfl, _, rfl, _, _, rfl, rfl, a, c, p, n + 1 + cost d, deep - 1, ws, x3, as, rfl, D3, by omega, by omega, by omega, rmL_but s3 _ _ hp2, hw, h3, sub, in_as ha ((s1.trans (.same sl)).trans s3) D3, fun v2 L2 H4 s4 D4 k2 o2 g2 e2 => ⟨z3, fun t nt => ?_⟩⟩
      have sA := ((s1.trans (.same sl)).trans (s3.trans s4)).trans (.same (same_upd (o := .tup [.str (if b = true then "below" else "like"), v1, v2]) nt))
      have sn := rmL_same (as := as) (same_upd (o := .tup [.str (if b = true then "below" else "like"), v1, v2]) nt)
      have dD := DpAll.cons (K := K) (dp_same ((rmL_but (s4.more sub)).trans sn) _ _ k1) (.cons (dp_same sn _ _ k2) .nil)
      cases b with
      | true => exact q _ (.less L1 L2) _ sA ((D4.same (same_upd nt)).le (by omega)) (.tup (SqT.of (rmL_new (in_as ha ((s1.trans (.same sl)).trans (s3.trans s4)) D4) nt)) (.cons (.str _) dD)) ⟨o1, o2⟩ ⟨g1, g2⟩ (Nat.succ_le_succ (Nat.max_le.mpr ⟨e1, e2⟩))
      | false => exact q _ (.like L1 L2) _ sA ((D4.same (same_upd nt)).le (by omega)) (.tup (SqT.of (rmL_new (in_as ha ((s1.trans (.same sl)).trans (s3.trans s4)) D4) nt)) (.cons (.str _) dD)) ⟨o1, o2⟩ ⟨g1, g2⟩ (Nat.succ_le_succ (Nat.max_le.mpr ⟨e1, e2⟩))
theorem ok_tests (D : Df K mg "_law_test_by" sTest ["_law_state", "_law_words", "_law_deep"] f fd) (GT : FnG P w K mg base CX0 3 "_law_take" ["_law_state", "_law_many"] spTake)
    (GL : ∀ d, FnG P w K mg base CX0 (d + 3) "_law_look_by" ["_law_state", "_law_words", "_law_deep"] (spLook K d)) : ∀ d, FnG P w K mg base CX0 (d + 3) "_law_test_by" ["_law_state", "_law_words", "_law_deep"] (spTest K d)
  | 0 => ⟨f, fd, ⟨fun vs H Q E h => by
      obtain ⟨a, c, p, n, deep, ws, x3, as, rfl, _⟩ := h
      rfl, fun A outer s H args us vs Q E _ _ _ _ h => by
      obtain ⟨a, c, p, n, deep, ws, x3, as, _, _, _, h1, h2, _⟩ := h
      omega⟩, D.m, D.F.kp, D.b⟩
  | d + 1 => D.g (ok_test (k := d + 3) D.F (GT.mono (by omega)) (GL d) (ok_tests D GT GL d))
end
end Fd

set_option Elab.async false
set_option linter.all false
set_option maxRecDepth 100000
set_option maxHeartbeats 2000000
namespace Fd
open PySem PySem.Spec PyProof.Rows L2
theorem Dr.upd {H : Hp} {a c d : Addr} {n : Nat} {o : HO} (b : Dr H a c n) (h : d ∉ [a, c]) : Dr (upd H d o) a c n := by
  obtain ⟨t, ns, h1, h2, r⟩ := b
  refine ⟨t, ns, ?_, ?_, r⟩
  · rw [upd_ne (fun z => h (by rw [z]; exact List.mem_cons_self ..))]; exact h1
  · rw [upd_ne (fun z => h (by rw [z]; exact List.mem_cons_of_mem _ (List.mem_singleton.mpr rfl)))]; exact h2
theorem ButL.free {as : List Addr} {H H' : Hp} {d : Addr} (s : ButL as H H') (nd : d ∉ as) (h : H' d = none) : H d = none := by
  cases e : H d with
  | none => rfl
  | some u => rw [s d u nd e] at h; cases h
theorem Bld.in_ {K : PySem.W.Frag} {as : List Addr} {D : Addr} {H H1 : Hp} {ds : List PyData} (B : Bld K as D H ds H1) (ha : ∀ b ∈ as, ∃ u, H1 b = some u) : ∀ b ∈ D :: as, ∃ u, H1 b = some u := fun b hb => by
  rcases List.mem_cons.mp hb with z | z
  · obtain ⟨_, vs, h, _⟩ := B
    rw [z]; exact ⟨_, h⟩
  · exact ha b z
theorem dpA_of_strs {K : PySem.W.Frag} {H : Hp} : ∀ is : List Str, DpAll K H (is.map V.str) (is.map .str)
  | [] => .nil
  | i :: r => .cons (.str i) (dpA_of_strs r)
/-- ints drawn into a list -/
theorem ints_bld {is : List Int} {i : Int} : (is ++ [i]).map PyData.int = is.map .int ++ [.int i] := List.map_append
section
variable {P : Program} {w : World} {K : PySem.W.Frag} {mg : Str → Option Value} {base : Heap} {f : Addr} {fd : FuncData}
abbrev sEyes : Stmt := top 54
theorem scEyes : FnScope ["_law_state", "_law_words", "_law_few", "_law_row", "_law_spot", "_law_k", "_law_turn"] ["_law_state", "_law_words"] (defScope sEyes) := ⟨rfl, rfl, rfl, by decide +kernel, rfl, by decide +kernel, by decide +kernel⟩
-- ["_law_state", "_law_words", "_law_few", "_law_row", "_law_spot", "_law_k", "_law_turn"]
def spEyes (K : PySem.W.Frag) : Sp := fun vs H Q _ => ∃ (a c p : Addr) (n : Nat) (ws : List Str) (x3 : Str), vs = [.ref a, .ref p] ∧ Dr H a c n ∧ n + 40 ≤ 1000000 ∧ rmL [a, c] H p = some (.lst (ws.map V.str)) ∧ ws.length = 7 ∧ ws[3]? = some x3 ∧
  ∀ (v : V) (Y : Ey) (H' : Hp), ButL [a, c] H H' → Dr H' a c (n + 40) → Dp K (rmL [a, c] H') v (eyD Y) → EyOk ws Y → (∃ row, Y.lists = [(x3, row)]) → Q v H'
theorem ok_eyes {k : Nat} (F : Fun K "_law_eyes_by" "_law_eyes_by" sEyes f fd) (GT : FnG P w K mg base CX0 k "_law_take" ["_law_state", "_law_many"] spTake)
    (GA : FnG P w K mg base CX0 k "_law_value_by" ["_law_state"] spValue) (m_range : mg "range" = none) (m_tuple : mg "tuple" = none) : FnOk P w K mg base CX0 (k + 1) f fd ["_law_state", "_law_words"] (spEyes K) := by
  obtain ⟨_, _, G__law_take, m__law_take, k__law_take, b__law_take⟩ := GT
  obtain ⟨_, _, G__law_value_by, m__law_value_by, k__law_value_by, b__law_value_by⟩ := GA
  have sc := scEyes
  refine F.ok sc (fun vs H Q E h => ?_) (fun cdv A outer s H vs Q E hr h => ?_)
  · obtain ⟨a, c, p, n, ws, x3, rfl, _⟩ := h
    rfl
  obtain ⟨a, c, p, n, ws, x3, rfl, hB, hn, hp, hw, h3, q⟩ := h
  refine ⟨_, (pss_cons (ps_set (i := 2) sc.nd rfl (.inl rfl) (pe_slice sl_list (pe_lc (own := [("_law_k", 5)]) (by rfl) sc.nd  (pi_range1 (by rfl) m_range (pa_cons pe_int pa_nil)) (blkOk_by (own := [("_law_k", 5)]) (N := ["_law_state", "_law_words", "_law_few", "_law_row", "_law_spot", "_law_k", "_law_turn"]) (sc := defScope sEyes) (by decide +kernel)) (fun _ _ _ _ _ => (pg_name (i := 5) sc.nd rfl (.inl rfl))) (fun _ _ _ _ _ => pts_nil) (fun _ _ _ _ _ => (pe_tup (pa_cons (pe_ix (show IxR _ (rIxL K) from ix_list) (pv 1) (pv 5) (fun _ _ => rfl)) (pa_cons (pe_call G__law_value_by (hr.mono (by omega)) (by rfl) m__law_value_by k__law_value_by b__law_value_by .nil pass0 (pa_cons (pv 0) pa_nil)) pa_nil))))) (po_some (pe_op op_fdiv (pe_call G__law_take (hr.mono (by omega)) (by rfl) m__law_take k__law_take b__law_take .nil pass0 (pa_cons (pv 0) (pa_cons pe_int pa_nil))) pe_int)) po_none))
      (pss_cons (ps_if (pt_cmpR op_eq (pe_call G__law_take (hr.mono (by omega)) (by rfl) m__law_take k__law_take b__law_take .nil pass0 (pa_cons (pv 0) (pa_cons pe_int pa_nil))) pe_int (nomark _)) (pss_one (ps_set (i := 2) sc.nd rfl (.inl rfl) (pe_op op_cat (pv 2) (pe_lst (pa_cons (pe_tup (pa_cons (pe_ix (show IxR _ (rIxL K) from ix_list) (pv 1) pe_int (fun _ _ => rfl)) (pa_cons pe_int pa_nil))) pa_nil))))) pss_nil)
      (pss_cons (ps_setLc (i := 3) (own := [("_law_turn", 6)]) (by rfl) sc.nd rfl rfl (sw_true rfl rfl rfl (by decide +kernel)) (pi_range1 (by rfl) m_range (pa_cons (pe_call G__law_take (hr.mono (by omega)) (by rfl) m__law_take k__law_take b__law_take .nil pass0 (pa_cons (pv 0) (pa_cons pe_int pa_nil))) pa_nil)) (blkOk_by (own := [("_law_turn", 6)]) (N := ["_law_state", "_law_words", "_law_few", "_law_row", "_law_spot", "_law_k", "_law_turn"]) (sc := defScope sEyes) (by decide +kernel)) (fun _ _ _ _ _ => (pg_name (i := 6) sc.nd rfl (.inl rfl))) (fun _ _ _ _ _ => pts_nil) (fun _ _ _ _ _ => (pe_call G__law_value_by (hr.mono (by omega)) (by rfl) m__law_value_by k__law_value_by b__law_value_by .nil pass0 (pa_cons (pv 0) pa_nil))))
      (pss_cons (ps_set (i := 4) sc.nd rfl (.inl rfl) (pe_callTy call_tuple_of (by rfl) m_tuple (by decide +kernel) (pa_cons (pe_lc (own := [("_law_turn", 6)]) (by rfl) sc.nd  (pi_range1 (by rfl) m_range (pa_cons pe_int pa_nil)) (blkOk_by (own := [("_law_turn", 6)]) (N := ["_law_state", "_law_words", "_law_few", "_law_row", "_law_spot", "_law_k", "_law_turn"]) (sc := defScope sEyes) (by decide +kernel)) (fun _ _ _ _ _ => (pg_name (i := 6) sc.nd rfl (.inl rfl))) (fun _ _ _ _ _ => pts_nil) (fun _ _ _ _ _ => (pe_call G__law_take (hr.mono (by omega)) (by rfl) m__law_take k__law_take b__law_take .nil pass0 (pa_cons (pv 0) (pa_cons pe_int pa_nil))))) pa_nil)))
      (pss_one (ps_ret (pe_tup (pa_cons (pv 2) (pa_cons (pe_lst (pa_cons (pe_tup (pa_cons (pe_ix (show IxR _ (rIxL K) from ix_list) (pv 1) pe_int (fun _ _ => rfl)) (pa_cons (pv 3) pa_nil))) pa_nil)) (pa_cons (pv 4) (pa_cons (pe_slice sl_list (pv 1) (po_some pe_int) (po_some (pe_op op_add pe_int (pe_call G__law_take (hr.mono (by omega)) (by rfl) m__law_take k__law_take b__law_take .nil pass0 (pa_cons (pv 0) (pa_cons pe_int pa_nil)))))) pa_nil))))))))))), ?_⟩
  have z1 : 1 ≤ sizeLine := by decide
  have z2 : 2 ≤ sizeLine := by decide
  have z4 : 4 ≤ sizeLine := by decide
  refine ⟨3, rfl, by decide, by decide, fun D nD => lc_it walk_range
    (fun i H' => Dr H' a c (n + 4 * i) ∧ ∃ ns : List (Str × Int), Bld K [a, c] D H (ns.map prD) H' ∧ ns.length = i ∧ ∀ p ∈ ns, p.1 ∈ ws ∧ inB p.2 = true) ⟨hB.same (same_upd nD), [], .start nD, rfl, (by intro c hc; cases hc)⟩ (fun _ _ _ _ => trivial) ?_ ?_⟩
  · rintro i x _ H1 hi ⟨B1, ns, L1, hl, hk⟩ ⟨rfl, ex⟩
    obtain rfl : x = V.int i := ex.trans (congrArg V.int (Int.zero_add _))
    have hi' : i < 3 := hi
    refine ⟨rfl, yesI ?_⟩
    refine iteT ?_
    have dD := hB.ne nD
    obtain ⟨x, hx, ex⟩ := at_words (ws := ws) (i := (i : Int)) (by omega) (by omega)
    refine ⟨_, rfl, _, rfl, p, _, i, _, rfl, rfl, SqL.of (rmL_sub _ _ (rmL_but L1.1 _ _ hp)), ex, _, rfl, a, c, n + 4 * i, rfl, B1, by omega, fun r H2 ri s2 B2 => ⟨z2, fun t nt => ?_⟩⟩
    have L2 := L1.move dD s2
    have L3 := L2.move dD (.same (same_upd (o := .tup [.str x, .int r]) nt))
    obtain ⟨acc, h1, h2, h3⟩ := L3.push nD (d := prD (x, r)) (y := .ref t) (.tup (SqT.of (rmL_new (L2.in_ B2.in_) nt)) (.cons (.str _) (.cons (.int _) .nil))) (by rw [List.length_map]; omega)
    refine ⟨acc, h1, h2, ((B2.same (same_upd nt)).upd dD).le (by omega), ns ++ [(x, r)], by rw [List.map_append]; exact h3, by rw [List.length_append, hl]; rfl, fun p hp => ?_⟩
    rcases List.mem_append.mp hp with z | z
    · exact hk p z
    · rw [List.mem_singleton.mp z]
      exact ⟨hx, ri⟩
  rintro H1 ⟨B1, ns, L1, hl, hk⟩
  have aD := hB.ne nD
  refine ⟨_, rfl, a, c, n + 12, 5, rfl, B1, by omega, by decide, by decide, fun r H2 r0 r1 s2 B2 => ?_⟩
  have L2 := (L1.move aD s2).ld aD
  obtain ⟨vs, v1, v2⟩ := id L2
  refine ⟨r, 4, rfl, rfl, ⟨by decide, by decide⟩, _, rfl, D, vs, rfl, SqL.of (rmL_sub _ _ v1), fun l nl => ?_⟩
  have L3 := L2.cut B2.in_ nl (i := r / 4) (r.toNat / 4) (by omega) v1
  have s3 := (L1.1.trans s2).trans (.same (same_upd (o := .lst (cutV vs (some (r / 4)) none)) nl))
  have B3 := B2.same (same_upd (o := .lst (cutV vs (some (r / 4)) none)) nl)
  refine ⟨_, rfl, a, c, n + 13, 4, rfl, B3, by omega, by decide, by decide, fun r4 H4 r40 r41 s4 B4 => ?_⟩
  have L4 := L3.but s4
  have s5 := s3.trans s4
  clear s3 L3
  rw [← List.map_drop] at L4
  have k4 : ∀ p ∈ ns.drop (r.toNat / 4), p.1 ∈ ws ∧ inB p.2 = true := fun p hp => hk p (List.mem_of_mem_drop hp)
  have n4 : (ns.drop (r.toNat / 4)).length ≤ 3 := by rw [List.length_drop, hl]; exact Nat.sub_le _ _
  generalize ns.drop (r.toNat / 4) = ms at L4 k4 n4
  refine ⟨rfl, _, rfl, ite2 (fun g => ?yes) (fun g => ?no)⟩
  case' yes =>
    obtain ⟨x1, hx1, ex1⟩ := at_words (ws := ws) (i := 1) (by decide) (by rw [hw]; decide)
    have hp4 := rmL_but s5 _ _ hp
    refine ⟨_, rfl, _, rfl, p, _, 1, _, rfl, rfl, SqL.of (rmL_sub _ _ hp4), ex1, z2, fun t1 nt1 => ⟨z1, fun l2 nl2 => ?_⟩⟩
    have e1 : ButL [a, c] _ _ := .same (same_upd (o := .tup [.str x1, .int 77]) nt1)
    have B5 := B4.same (same_upd (o := .tup [.str x1, .int 77]) nt1)
    have e3 : ButL [a, c] _ _ := .same (same_upd (o := .lst [.ref t1]) nl2)
    have B7 := B5.same (same_upd (o := .lst [.ref t1]) nl2)
    have L7 := L4.but (e1.trans e3)
    have D7 : LD K [a, c] _ l2 [prD (x1, 77)] := ⟨_, rmL_new B5.in_ nl2, .cons (.tup (SqT.of (rmL_but e3 _ _ (rmL_new B4.in_ nt1))) (.cons (.str _) (.cons (.int _) .nil))) .nil⟩
    obtain ⟨vs7, v7, w7⟩ := L7
    obtain ⟨us7, u7, y7⟩ := D7
    refine ⟨l, l2, vs7, us7, rfl, rfl, rmL_sub _ _ v7, rmL_sub _ _ u7, Nat.le_of_lt (small1000 ?_), fun l nl => ?_⟩
    · rw [dpAll_len w7, dpAll_len y7, List.length_map]
      exact Nat.le_trans (Nat.add_le_add_right n4 1) (by decide)
    have e4 : ButL [a, c] _ _ := .same (same_upd (o := .lst (vs7 ++ us7)) nl)
    have BB := B7.same (same_upd (o := .lst (vs7 ++ us7)) nl)
    have LL : LD K [a, c] _ l ((ms ++ [(x1, 77)]).map prD) := ⟨_, rmL_new B7.in_ nl, by rw [List.map_append]; exact dpAll_same (rmL_but e4) _ _ (dpAll_app y7 w7)⟩
    have SS := (s5.trans (e1.trans e3)).trans e4
    have kk : ∀ p ∈ ms ++ [(x1, (77 : Int))], p.1 ∈ ws ∧ inB p.2 = true := fun p hp => by
      rcases List.mem_append.mp hp with z | z
      · exact k4 p z
      · rw [List.mem_singleton.mp z]; exact ⟨hx1, (rfl : inB 77 = true)⟩
    have nn : (ms ++ [(x1, (77 : Int))]).length ≤ 5 := by rw [List.length_append]; exact Nat.le_trans (Nat.add_le_add_right n4 1) (by decide)
    generalize ms ++ [(x1, (77 : Int))] = ns at LL kk nn
    clear hp4 e1 B5 e3 B7 v7 w7 u7 y7 e4
  case' no =>
    have BB := B4
    have LL := L4
    have SS := s5
    have kk := k4
    have nn : ms.length ≤ 5 := Nat.le_trans n4 (by decide)
    generalize ms = ns at LL kk nn
  all_goals
    refine ⟨_, rfl, a, c, n + 14, 5, rfl, BB, by omega, by decide, by decide, fun r6 H6 r60 r61 s6 B6 => ⟨r6, rfl, by omega, by omega, fun D3 nD3 => ?_⟩⟩
    have aD3 := B6.ne nD3
    have hD3 := (SS.trans s6).free aD3 nD3
    have P6 := LL.but s6
    refine lc_it walk_range (fun j H' => Dr H' a c (n + 15 + 4 * j) ∧ LD K [D3, a, c] H' l (ns.map prD) ∧ ∃ is : List Int, Bld K [a, c] D3 H (is.map .int) H' ∧ is.length = j ∧ ∀ i ∈ is, inB i = true)
      ⟨B6.same (same_upd nD3), P6.same (rmL_fresh nD3), [], .on (SS.trans s6) nD3, rfl, (by intro c hc; cases hc)⟩ (fun _ _ _ _ => trivial) ?_ ?_
    · rintro j x _ H7 hj ⟨B7, P7, is, L7, hl7, hk7⟩ ⟨rfl, ex⟩
      have hj' : j < 4 := by omega
      refine ⟨rfl, yesI ?_⟩
      refine iteT ⟨_, rfl, a, c, _, rfl, B7, by omega, fun r8 H8 ri s8 B8 => ?_⟩
      have e8 : ButL [D3, a, c] H7 H8 := s8.more fun b hb => List.mem_cons_of_mem _ hb
      obtain ⟨acc, h1, h2, h3⟩ := (L7.move aD3 s8).push hD3 (y := .int r8) (d := .int r8) (.int _) (by rw [List.length_map]; omega)
      have u5 : rmL [D3, a, c] (upd H8 D3 (.lst (acc ++ [.int r8]))) = rmL [D3, a, c] H8 := rmL_upd (List.mem_cons_self ..)
      refine ⟨acc, h1, h2, (B8.upd aD3).le (by omega), (P7.but e8).same (by rw [u5]; exact fun _ _ h => h), is ++ [r8], by rw [ints_bld]; exact h3, by rw [List.length_append, hl7]; rfl, fun i hi => ?_⟩
      rcases List.mem_append.mp hi with z | z
      · exact hk7 i z
      · rw [List.mem_singleton.mp z]; exact ri
    rintro H7 ⟨B7, P7, is, L7, hl7, hk7⟩
    have lz : Same (rmL [D3, a, c] H7) (rmL [a, c] H7) := rmL_less fun b => List.mem_cons_of_mem _
    have Pl := P7.same lz
    have Rl := L7.ld aD3
    have S7 := L7.1
    have B7' : Dr H7 a c (n + 31) := B7.le (by omega)
    clear P7 L7 P6 LL SS BB B7
    refine ⟨4, rfl, by decide, by decide, fun D4 nD4 => ?_⟩
    have aD4 := B7'.ne nD4
    have hD4 := S7.free aD4 nD4
    refine lc_it walk_range (fun j H' => Dr H' a c (n + 31 + j) ∧ LD K [D4, a, c] H' l (ns.map prD) ∧ LD K [D4, a, c] H' D3 (is.map .int) ∧ ∃ js : List Int, Bld K [a, c] D4 H (js.map .int) H' ∧ js.length = j ∧ ∀ i ∈ js, inB i = true)
      ⟨B7'.same (same_upd nD4), Pl.same (rmL_fresh nD4), Rl.same (rmL_fresh nD4), [], .on S7 nD4, rfl, (by intro c hc; cases hc)⟩ (fun _ _ _ _ => trivial) ?_ ?_
    · rintro j x _ H8 hj ⟨B8, P8, R8, js, L8, hl8, hk8⟩ ⟨rfl, ex⟩
      have hj' : j < 4 := hj
      refine ⟨rfl, yesI ?_⟩
      refine iteT ⟨_, rfl, a, c, _, 9, rfl, B8, by omega, by decide, by decide, fun r9 H9 r90 r91 s9 B9 => ?_⟩
      have e9 : ButL [D4, a, c] H8 H9 := s9.more fun b hb => List.mem_cons_of_mem _ hb
      obtain ⟨acc, h1, h2, h3⟩ := (L8.move aD4 s9).push hD4 (y := .int r9) (d := .int r9) (.int _) (by rw [List.length_map]; omega)
      have u5 : rmL [D4, a, c] (upd H9 D4 (.lst (acc ++ [.int r9]))) = rmL [D4, a, c] H9 := rmL_upd (List.mem_cons_self ..)
      refine ⟨acc, h1, h2, (B9.upd aD4).le (by omega), (P8.but e9).same (by rw [u5]; exact fun _ _ h => h), (R8.but e9).same (by rw [u5]; exact fun _ _ h => h), js ++ [r9], by rw [ints_bld]; exact h3, by rw [List.length_append, hl8]; rfl, fun i hi => ?_⟩
      rcases List.mem_append.mp hi with z | z
      · exact hk8 i z
      · rw [List.mem_singleton.mp z]; exact inB_of (by omega) (by omega)
    rintro H8 ⟨B8, P8, R8, js, L8, hl8, hk8⟩
    have lz8 : Same (rmL [D4, a, c] H8) (rmL [a, c] H8) := rmL_less fun b => List.mem_cons_of_mem _
    have P9 := P8.same lz8
    have R9 := R8.same lz8
    obtain ⟨us, u1, u2⟩ := L8.ld aD4
    rw [dpA_ints u2] at u1
    have S8 := L8.1
    have B9 : Dr H8 a c (n + 35) := B8
    refine ⟨D4, _, rfl, .inl ⟨SqL.of (rmL_sub _ _ u1), fun sp nsp => ?_⟩⟩
    have e9 : Same H8 (upd H8 sp (.tup (js.map V.int))) := same_upd nsp
    have hsp := rmL_new (o := .tup (js.map V.int)) B9.in_ nsp
    have P10 := P9.but (.same e9)
    have R10 := R9.but (.same e9)
    have B10 := B9.same e9
    have S10 := S8.trans (.same e9)
    generalize upd H8 sp (.tup (js.map V.int)) = H10 at *
    have hp10 := rmL_but S10 _ _ hp
    have at3 : atI (ws.map V.str) 3 = some (.str x3) := atI_nat (j := 3) (by rw [List.getElem?_map, h3]; rfl)
    refine ⟨_, rfl, _, rfl, p, _, 3, _, rfl, rfl, SqL.of (rmL_sub _ _ hp10), at3, _, rfl, z2, fun t1 nt1 => ⟨z1, fun l3 nl3 => ?_⟩⟩
    have f1 : ButL [a, c] H10 _ := .same (same_upd (o := .tup [.str x3, .ref D3]) nt1)
    have f2 : ButL [a, c] _ _ := .same (same_upd (o := .lst [.ref t1]) nl3)
    have hl3 : LD K [a, c] _ l3 [rwD (x3, is)] := ⟨_, rmL_new (B10.same (same_upd nt1)).in_ nl3, .cons (.tup (SqT.of (rmL_but f2 _ _ (rmL_new B10.in_ nt1))) (.cons (.str _) (.cons (R10.but (f1.trans f2)).dp .nil))) .nil⟩
    have B11 := (B10.same (same_upd (o := .tup [.str x3, .ref D3]) nt1)).same (same_upd (o := .lst [.ref t1]) nl3)
    have P11 := P10.but (f1.trans f2)
    have S11 := S10.trans (f1.trans f2)
    have hs11 := rmL_but (f1.trans f2) _ _ hsp
    generalize upd (upd H10 t1 (.tup [.str x3, .ref D3])) l3 (.lst [.ref t1]) = H11 at *
    have hp11 := rmL_but S11 _ _ hp
    refine ⟨_, rfl, _, rfl, 4, rfl, _, rfl, a, c, n + 35, 2, rfl, B11, by omega, by decide, by decide, fun r12 H12 r120 r121 s12 B12 => ⟨5, r12, rfl, rfl, _, rfl, p, _, rfl, SqL.of (rmL_sub _ _ (rmL_but s12 _ _ hp11)), fun m nm => ⟨z4, fun tp ntp => ?_⟩⟩⟩
    have g1 : ButL [a, c] _ _ := .same (same_upd (o := .lst (cutV (ws.map V.str) (some 4) (some (5 + r12)))) nm)
    have g2 : ButL [a, c] _ _ := .same (same_upd (o := .tup [.ref l, .ref l3, .ref sp, .ref m]) ntp)
    obtain ⟨mt, em, lm, hm⟩ : ∃ mt : List Str, cutV (ws.map V.str) (some 4) (some (5 + r12)) = mt.map V.str ∧ mt.length ≤ 7 ∧ ∀ z ∈ mt, z ∈ ws := by
      have e1 : (5 + r12) = (((5 + r12).toNat : Nat) : Int) := by omega
      rw [e1, show (4 : Int) = ((4 : Nat) : Int) from rfl, cut_mid]
      refine ⟨(ws.drop 4).take (min (5 + r12).toNat (ws.map V.str).length - min 4 (ws.map V.str).length), by rw [List.map_take, List.map_drop], ?_, fun z hz => List.mem_of_mem_drop (List.mem_of_mem_take hz)⟩
      rw [List.length_take, List.length_drop]
      omega
    have B13 := (B12.same (same_upd (o := .lst (cutV (ws.map V.str) (some 4) (some (5 + r12)))) nm))
    have hmm := (rmL_but g2 _ _ (rmL_new (o := .lst (cutV (ws.map V.str) (some 4) (some (5 + r12)))) B12.in_ nm)).trans (congrArg (fun z => some (HO.lst z)) em)
    refine q _ ⟨ns, [(x3, is)], js, mt⟩ _ ((S11.trans s12).trans (g1.trans g2)) ((B13.same (same_upd ntp)).le (by omega)) ?_ ⟨nn, kk, (show 1 ≤ 3 by decide), fun p hp => ?_, ?_, hk8, lm, hm⟩ ⟨is, rfl⟩
    · refine .tup (SqT.of (rmL_new B13.in_ ntp)) (.cons (P11.but (s12.trans (g1.trans g2))).dp (.cons (hl3.but (s12.trans (g1.trans g2))).dp (.cons (.tup (SqT.of (rmL_but (s12.trans (g1.trans g2)) _ _ hs11)) (dpA_of_ints _)) (.cons (.lst (SqL.of hmm) ?_) .nil))))
      exact dpA_of_strs mt
    · rw [List.mem_singleton.mp hp]
      exact ⟨List.mem_of_getElem? h3, by show is.length ≤ 8; omega, hk7⟩
    · exact hl8
end
end Fd

set_option Elab.async false
set_option linter.all false
set_option maxRecDepth 100000
set_option maxHeartbeats 2000000
namespace Fd
open PySem PySem.Spec PyProof.Rows L2
theorem Shw.fits2 {d : PyData} {a : Nat} (h : Shw d a 200000) : d.shown.length ≤ sizeLine := by
  have := PyData.shown_le 13 (by decide) d h.l
  have := h.w
  have e : sizeLine = 16777216 := by decide
  omega
/-! ### tuples for lists -/
mutual
def tupD : PyData → PyData
  | .list ds => .tuple (tupA ds)
  | .tuple ds => .tuple (tupA ds)
  | d => d
def tupA : List PyData → List PyData
  | [] => []
  | d :: ds => tupD d :: tupA ds
end
theorem tupA_map : ∀ ds : List PyData, tupA ds = ds.map tupD
  | [] => rfl
  | d :: ds => by show tupD d :: tupA ds = _; rw [tupA_map ds]; rfl
theorem tupA_id : ∀ {ds : List PyData}, (∀ d ∈ ds, tupD d = d) → tupA ds = ds
  | [], _ => rfl
  | d :: ds, h => by
    show tupD d :: tupA ds = _
    rw [h d (List.mem_cons_self ..), tupA_id fun x hx => h x (List.mem_cons_of_mem _ hx)]
theorem tup_id {ds : List PyData} (h : ∀ d ∈ ds, tupD d = d) : tupD (.tuple ds) = .tuple ds := by
  show PyData.tuple (tupA ds) = _
  rw [tupA_id h]
/-- data that is shown, not too deep, not too heavy, of tuples alone -/
structure Nc (dep wt : Nat) (d : PyData) : Prop where
  s : Shw d dep wt
  o : OkD (dep + 1) d
  t : tupD d = d
theorem okd_up : ∀ {n : Nat} {d : PyData}, OkD n d → OkD (n + 1) d
  | n + 1, .none, _ => trivial
  | n + 1, .bool _, _ => trivial
  | n + 1, .int _, _ => trivial
  | n + 1, .str _, _ => trivial
  | n + 1, .list ds, h => ⟨h.1, fun d hd => okd_up (h.2 d hd)⟩
  | n + 1, .tuple ds, h => ⟨h.1, fun d hd => okd_up (h.2 d hd)⟩
theorem okd_le {n m : Nat} {d : PyData} (h : OkD n d) (hm : n ≤ m) : OkD m d := by
  induction hm with
  | refl => exact h
  | step _ ih => exact okd_up ih
theorem Nc.le {a b a' b' : Nat} {d : PyData} (h : Nc a b d) (h1 : a ≤ a') (h2 : b ≤ b') : Nc a' b' d := ⟨h.s.le h1 h2, okd_le h.o (by omega), h.t⟩
structure NcA (dep wt : Nat) (ds : List PyData) : Prop where
  s : ShwA ds dep wt
  o : ds.length ≤ 1000 ∧ ∀ d ∈ ds, OkD (dep + 1) d
  t : ∀ d ∈ ds, tupD d = d
theorem NcA.nil {a b : Nat} : NcA a b [] := ⟨.nil, ⟨Nat.zero_le _, fun d h => by cases h⟩, fun d h => by cases h⟩
theorem NcA.cons {a b c : Nat} {d : PyData} {ds : List PyData} (h : Nc a b d) (t : NcA a c ds) (hl : ds.length ≤ 999 := by simp) : NcA a (b + 1 + c) (d :: ds) := ⟨.cons h.s t.s, ⟨by rw [List.length_cons]; omega, fun x hx => by
  rcases List.mem_cons.mp hx with z | z
  · rw [z]; exact h.o
  · exact t.o.2 x z⟩, fun x hx => by
  rcases List.mem_cons.mp hx with z | z
  · rw [z]; exact h.t
  · exact t.t x z⟩
theorem NcA.tup {a b : Nat} {ds : List PyData} (h : NcA a b ds) : Nc (a + 1) b (.tuple ds) := ⟨h.s.tup, h.o, tup_id h.t⟩
theorem NcA.all {a b : Nat} : ∀ {ds : List PyData}, (∀ d ∈ ds, Nc a b d) → ds.length ≤ 1000 → NcA a (ds.length * (b + 1)) ds
  | [], _, _ => ⟨.nil, ⟨Nat.zero_le _, fun d h => by cases h⟩, fun d h => by cases h⟩
  | d :: ds, h, hl => by
    have ih := NcA.all (fun x hx => h x (List.mem_cons_of_mem _ hx)) (Nat.le_of_succ_le hl)
    have := NcA.cons (h d (List.mem_cons_self ..)) ih (Nat.le_of_succ_le_succ hl)
    rw [List.length_cons, Nat.add_mul, Nat.one_mul, Nat.add_comm]
    exact this
theorem nc_c {x : Str} (h1 : PyData.leavesShort 13 (.str x) = true) (h2 : x.cps.size ≤ 8) : Nc 0 8 (.str x) := ⟨shw_c h1 h2, trivial, rfl⟩
theorem nc_nm {x : Str} (h : IsNm x) : Nc 0 8 (.str x) := ⟨shw_nm h, trivial, rfl⟩
theorem nc_int {i : Int} (h : inB i = true) : Nc 0 20 (.int i) := ⟨shw_int h, trivial, rfl⟩
theorem lk_tup : ∀ L : Lk, tupD (lkD L) = lkD L
  | .num _ | .name _ | .many _ | .spot _ => rfl
  | .item x a => by show PyData.tuple [.str "item", .str x, tupD (lkD a)] = _; rw [lk_tup a]; rfl
  | .bin o a b => by show PyData.tuple [.str o.word, tupD (lkD a), tupD (lkD b)] = _; rw [lk_tup a, lk_tup b]; rfl
theorem ts_tup : ∀ t : Ts, tupD (tsD t) = tsD t
  | .meets _ => rfl
  | .not_ t => by show PyData.tuple [.str "not", tupD (tsD t)] = _; rw [ts_tup t]; rfl
  | .both t u => by show PyData.tuple [.str "both", tupD (tsD t), tupD (tsD u)] = _; rw [ts_tup t, ts_tup u]; rfl
  | .any_ t u => by show PyData.tuple [.str "any", tupD (tsD t), tupD (tsD u)] = _; rw [ts_tup t, ts_tup u]; rfl
  | .like a b => by show PyData.tuple [.str "like", tupD (lkD a), tupD (lkD b)] = _; rw [lk_tup a, lk_tup b]; rfl
  | .less a b => by show PyData.tuple [.str "below", tupD (lkD a), tupD (lkD b)] = _; rw [lk_tup a, lk_tup b]; rfl
theorem nc_lk {ws : List Str} (hw : ∀ z ∈ ws, IsNm z) {L : Lk} (h : LkOk ws L) {n : Nat} (hd : L.deep ≤ n) : Nc n (40 * 2 ^ n - 20) (lkD L) := by
  refine ⟨(shw_lk hw h).le hd ?_, okd_lk hd, lk_tup L⟩
  have p : 2 ^ L.deep ≤ 2 ^ n := Nat.pow_le_pow_right (by decide) hd
  omega
theorem nc_ts {ws : List Str} (hw : ∀ z ∈ ws, IsNm z) {t : Ts} (h : TsOk ws t) {n : Nat} (hd : t.deep ≤ n) : Nc n (40 * 2 ^ n - 20) (tsD t) := by
  refine ⟨(shw_ts hw h).le hd ?_, okd_ts hd, ts_tup t⟩
  have p : 2 ^ t.deep ≤ 2 ^ n := Nat.pow_le_pow_right (by decide) hd
  omega
/-! ### blocks drawn -/
def dw : Nat → Nat
  | 0 => 160
  | k + 1 => 2 * (3 * (dw k + 1)) + 330
def dc : Nat → Nat
  | 0 => 40
  | k + 1 => 80 + 2 * (1 + 3 * dc k)
theorem dc_ge : ∀ k, 40 ≤ dc k
  | 0 => Nat.le_refl _
  | k + 1 => by show 40 ≤ 80 + 2 * (1 + 3 * dc k); omega
/-- at most three deeds, each so deep and heavy at most -/
def Blk (d : Nat) (ds : List PyData) : Prop := ds.length ≤ 3 ∧ ∀ x ∈ ds, Nc (2 * d + 3) (dw d) x
theorem Blk.tup {d : Nat} {ds : List PyData} (h : Blk d ds) : Nc (2 * d + 4) (3 * (dw d + 1)) (.tuple ds) := by
  have := (NcA.all h.2 (by have := h.1; omega)).tup
  exact this.le (Nat.le_refl _) (Nat.mul_le_mul_right _ h.1)
theorem dw_ge : ∀ k, 160 ≤ dw k
  | 0 => Nat.le_refl _
  | k + 1 => by show 160 ≤ 2 * (3 * (dw k + 1)) + 330; omega
section
variable {P : Program} {w : World} {K : PySem.W.Frag} {mg : Str → Option Value} {base : Heap} {f : Addr} {fd : FuncData}
def spBlock (K : PySem.W.Frag) (d : Nat) : Sp := fun vs H Q _ => ∃ (a c p : Addr) (n : Nat) (deep : Int) (ws : List Str) (x3 : Str) (as : List Addr), vs = [.ref a, .ref p, .int deep] ∧ Dr H a c n ∧ n + (1 + 3 * dc d) ≤ 1000000 ∧ 0 ≤ deep ∧ deep ≤ d ∧ rmL [a, c] H p = some (.lst (ws.map V.str)) ∧ ws.length = 7 ∧ ws[3]? = some x3 ∧ (∀ b ∈ [a, c], b ∈ as) ∧ (∀ b ∈ as, ∃ u, H b = some u) ∧ (∀ z ∈ ws, IsNm z) ∧
  ∀ (v : V) (ds : List PyData) (H' : Hp), ButL [a, c] H H' → Dr H' a c (n + (1 + 3 * dc d)) → Dp K (rmL as H') v (.tuple ds) → Blk d ds → Q v H'
def spBlockP (K : PySem.W.Frag) (d : Nat) : Sp := fun vs H Q E => ∃ d', d = d' + 1 ∧ spBlock K d' vs H Q E
def spDeed (K : PySem.W.Frag) (d : Nat) : Sp := fun vs H Q _ => ∃ (a c p : Addr) (n : Nat) (deep : Int) (ws : List Str) (x3 : Str) (as : List Addr), vs = [.ref a, .ref p, .int deep] ∧ Dr H a c n ∧ n + dc d ≤ 1000000 ∧ 0 ≤ deep ∧ deep ≤ d ∧ rmL [a, c] H p = some (.lst (ws.map V.str)) ∧ ws.length = 7 ∧ ws[3]? = some x3 ∧ (∀ b ∈ [a, c], b ∈ as) ∧ (∀ b ∈ as, ∃ u, H b = some u) ∧ (∀ z ∈ ws, IsNm z) ∧
  ∀ (v : V) (x : PyData) (H' : Hp), ButL [a, c] H H' → Dr H' a c (n + dc d) → Dp K (rmL as H') v x → Nc (2 * d + 3) (dw d) x → Q v H'
/-! ### _law_block_by -/
abbrev sBlock : Stmt := top 58
theorem scBlock : FnScope ["_law_state", "_law_words", "_law_deep", "_law_turn"] ["_law_state", "_law_words", "_law_deep"] (defScope sBlock) := ⟨rfl, rfl, rfl, by decide +kernel, rfl, by decide +kernel, by decide +kernel⟩
theorem ok_block {k d : Nat} (F : Fun K "_law_block_by" "_law_block_by" sBlock f fd) (GT : FnG P w K mg base CX0 k "_law_take" ["_law_state", "_law_many"] spTake) (GD : FnG P w K mg base CX0 k "_law_deed_by" ["_law_state", "_law_words", "_law_deep"] (spDeed K d)) (m_range : mg "range" = none) (m_tuple : mg "tuple" = none) :
    FnOk P w K mg base CX0 (k + 1) f fd ["_law_state", "_law_words", "_law_deep"] (spBlock K d) := by
  obtain ⟨_, _, G__law_take, m__law_take, k__law_take, b__law_take⟩ := GT
  obtain ⟨_, _, G__law_deed_by, m__law_deed_by, k__law_deed_by, b__law_deed_by⟩ := GD
  have sc := scBlock
  refine F.ok sc (fun vs H Q E h => ?_) (fun cdv A outer s H vs Q E hr h => ?_)
  · obtain ⟨a, c, p, n, deep, ws, x3, as, rfl, _⟩ := h
    rfl
  obtain ⟨a, c, p, n, deep, ws, x3, as, rfl, hD, hn, d0, d1, hp, hw, h3, sub, ha, hnm, q⟩ := h
  refine ⟨_, (pss_one (ps_ret (pe_callTy call_tuple_of (by rfl) m_tuple (by decide +kernel) (pa_cons (pe_lc (own := [("_law_turn", 3)]) (by rfl) sc.nd  (pi_range1 (by rfl) m_range (pa_cons (pe_call G__law_take (hr.mono (by omega)) (by rfl) m__law_take k__law_take b__law_take .nil pass0 (pa_cons (pv 0) (pa_cons pe_int pa_nil))) pa_nil)) (blkOk_by (own := [("_law_turn", 3)]) (N := ["_law_state", "_law_words", "_law_deep", "_law_turn"]) (sc := defScope sBlock) (by decide +kernel)) (fun _ _ _ _ _ => (pg_name (i := 3) sc.nd rfl (.inl rfl))) (fun _ _ _ _ _ => pts_nil) (fun _ _ _ _ _ => (pe_call G__law_deed_by (hr.mono (by omega)) (by rfl) m__law_deed_by k__law_deed_by b__law_deed_by .nil pass0 (pa_cons (pv 0) (pa_cons (pv 1) (pa_cons (pv 2) pa_nil)))))) pa_nil)))), ?_⟩
  refine ⟨_, rfl, a, c, n, 4, rfl, hD, by omega, by decide, by decide, fun r H1 r0 r1 s1 D1 => ⟨r, rfl, by omega, by omega, fun D nD => ?_⟩⟩
  have aD := D1.ne nD
  have hD0 := s1.free aD nD
  have dD : D ∉ as := fun z => by
    obtain ⟨u, hu⟩ := in_as ha s1 D1 D z
    rw [nD] at hu
    cases hu
  have step : ∀ j, j < 3 → dc d * (j + 1) = dc d * j + dc d ∧ dc d * (j + 1) ≤ 3 * dc d := fun j hj => ⟨Nat.mul_succ _ _, by rw [Nat.mul_comm 3]; exact Nat.mul_le_mul_left _ hj⟩
  refine lc_it walk_range (fun j H' => Dr H' a c (n + 1 + dc d * j) ∧ ButL [a, c] H H' ∧ ∃ ds : List PyData, Bld K as D H ds H' ∧ ds.length = j ∧ ∀ x ∈ ds, Nc (2 * d + 3) (dw d) x)
    ⟨D1.same (same_upd nD), s1.trans (.same (same_upd nD)), [], .on (s1.more sub) nD, rfl, (by intro c hc; cases hc)⟩ (fun _ _ _ _ => trivial) ?_ ?_
  · rintro j x _ H2 hj ⟨D2, b2, ds, L2, hl, hk⟩ ⟨rfl, ex⟩
    have hj' : j < 3 := by omega
    obtain ⟨m1, m2⟩ := step j hj'
    refine ⟨rfl, yesI ?_⟩
    refine iteT ⟨_, rfl, _, rfl, _, rfl, a, c, p, _, deep, ws, x3, D :: as, rfl, D2, by omega, d0, d1, rmL_but b2 _ _ hp, hw, h3, fun b hb => List.mem_cons_of_mem _ (sub b hb), L2.in_ (in_as ha b2 D2), hnm, fun v x H3 s3 D3 dx nx => ?_⟩
    obtain ⟨acc, h1, h2, h3⟩ := (L2.move dD (s3.more sub)).push hD0 (y := v) (d := x) dx (by omega)
    refine ⟨acc, h1, h2, (D3.upd aD).le (by omega), fun b o nb h => ?_, ds ++ [x], h3, by rw [List.length_append, hl]; rfl, fun y hy => ?_⟩
    · rw [upd_ne (ne_of_none h hD0)]
      exact s3 _ _ nb (b2 _ _ nb h)
    · rcases List.mem_append.mp hy with z | z
      · exact hk y z
      · rw [List.mem_singleton.mp z]; exact nx
  rintro H2 ⟨D2, b2, ds, L2, hl, hk⟩
  have r3 : ds.length ≤ 3 := by omega
  obtain ⟨us, u1, u2⟩ := L2.ld dD
  refine ⟨D, _, rfl, .inl ⟨SqL.of (rmL_sub _ _ u1), fun T nT => ?_⟩⟩
  refine q _ ds _ (b2.trans (.same (same_upd nT))) ((D2.same (same_upd nT)).le ?_) (.tup (SqT.of (rmL_new (in_as ha b2 D2) nT)) (dpAll_same (rmL_same (same_upd nT)) _ _ u2)) ⟨r3, hk⟩
  have : dc d * r.toNat ≤ dc d * 3 := Nat.mul_le_mul_left _ (by omega)
  omega
/-! ### _law_deed_by -/
abbrev sDeed : Stmt := top 59
theorem scDeed : FnScope ["_law_state", "_law_words", "_law_deep", "_law_way", "_law_look", "_law_test"] ["_law_state", "_law_words", "_law_deep"] (defScope sDeed) := ⟨rfl, rfl, rfl, by decide +kernel, rfl, by decide +kernel, by decide +kernel⟩
theorem ok_deed {k d : Nat} (F : Fun K "_law_deed_by" "_law_deed_by" sDeed f fd) (GT : FnG P w K mg base CX0 k "_law_take" ["_law_state", "_law_many"] spTake) (GL : FnG P w K mg base CX0 k "_law_look_by" ["_law_state", "_law_words", "_law_deep"] (spLook K 2)) (GL3 : FnG P w K mg base CX0 k "_law_look_by" ["_law_state", "_law_words", "_law_deep"] (spLook K 3))
    (GS : FnG P w K mg base CX0 k "_law_test_by" ["_law_state", "_law_words", "_law_deep"] (spTest K 3)) (GB : FnG P w K mg base CX0 k "_law_block_by" ["_law_state", "_law_words", "_law_deep"] (spBlockP K d)) : FnOk P w K mg base CX0 (k + 1) f fd ["_law_state", "_law_words", "_law_deep"] (spDeed K d) := by
  obtain ⟨_, _, G__law_take, m__law_take, k__law_take, b__law_take⟩ := GT
  obtain ⟨_, _, G2, m2, k2, b2⟩ := GL
  obtain ⟨_, _, G3, m3, k3, b3⟩ := GL3
  obtain ⟨_, _, GT3, mt3, kt3, bt3⟩ := GS
  obtain ⟨_, _, G__law_block_by, m__law_block_by, k__law_block_by, b__law_block_by⟩ := GB
  have sc := scDeed
  refine F.ok sc (fun vs H Q E h => ?_) (fun cdv A outer s H vs Q E hr h => ?_)
  · obtain ⟨a, c, p, n, deep, ws, x3, as, rfl, _⟩ := h
    rfl
  obtain ⟨a, c, p, n, deep, ws, x3, as, rfl, hD, hn, d0, d1, hp, hw, h3, sub, ha, hnm, q⟩ := h
  refine ⟨_, (pss_cons (ps_set (i := 3) sc.nd rfl (.inl rfl) (pe_call G__law_take (hr.mono (by omega)) (by rfl) m__law_take k__law_take b__law_take .nil pass0 (pa_cons (pv 0) (pa_cons pe_int pa_nil))))
      (pss_cons (ps_if (PW.pt (pw_or (pt_cmpR op_lt (pv 2) pe_int (nomark _)) (pw_or1 (pt_cmpR op_lt (pv 3) pe_int (nomark _))))) (pss_cons (ps_set (i := 4) sc.nd rfl (.inl rfl) (pe_call G2 (hr.mono (by omega)) (by rfl) m2 k2 b2 .nil pass0 (pa_cons (pv 0) (pa_cons (pv 1) (pa_cons pe_int pa_nil)))))
      (pss_one (ps_ret (pe_ix ix_list (pe_lst (pa_cons (pe_tup (pa_cons pe_str (pa_cons (pv 4) pa_nil))) (pa_cons (pe_tup (pa_cons pe_str (pa_cons (pv 4) pa_nil))) (pa_cons (pe_tup (pa_cons pe_str (pa_cons (pv 4) pa_nil))) (pa_cons (pe_tup (pa_cons pe_str (pa_cons pe_int pa_nil))) pa_nil))))) (pe_call G__law_take (hr.mono (by omega)) (by rfl) m__law_take k__law_take b__law_take .nil pass0 (pa_cons (pv 0) (pa_cons pe_int pa_nil))) (fun _ _ => rfl))))) pss_nil)
      (pss_cons (ps_if (pt_cmpR op_lt (pv 3) pe_int (nomark _)) (pss_cons (ps_set (i := 5) sc.nd rfl (.inl rfl) (pe_call GT3 (hr.mono (by omega)) (by rfl) mt3 kt3 bt3 .nil pass0 (pa_cons (pv 0) (pa_cons (pv 1) (pa_cons pe_int pa_nil)))))
      (pss_one (ps_ret (pe_tup (pa_cons pe_str (pa_cons (pv 5) (pa_cons (pe_call G__law_block_by (hr.mono (by omega)) (by rfl) m__law_block_by k__law_block_by b__law_block_by .nil pass0 (pa_cons (pv 0) (pa_cons (pv 1) (pa_cons (pe_op op_sub (pv 2) pe_int) pa_nil)))) (pa_cons (pe_call G__law_block_by (hr.mono (by omega)) (by rfl) m__law_block_by k__law_block_by b__law_block_by .nil pass0 (pa_cons (pv 0) (pa_cons (pv 1) (pa_cons (pe_op op_sub (pv 2) pe_int) pa_nil)))) pa_nil)))))))) pss_nil)
      (pss_cons (ps_if (pt_cmpR op_eq (pv 3) pe_int (nomark _)) (pss_one (ps_ret (pe_tup (pa_cons pe_str (pa_cons (pe_call G3 (hr.mono (by omega)) (by rfl) m3 k3 b3 .nil pass0 (pa_cons (pv 0) (pa_cons (pv 1) (pa_cons pe_int pa_nil)))) (pa_cons (pe_call G__law_block_by (hr.mono (by omega)) (by rfl) m__law_block_by k__law_block_by b__law_block_by .nil pass0 (pa_cons (pv 0) (pa_cons (pv 1) (pa_cons (pe_op op_sub (pv 2) pe_int) pa_nil)))) pa_nil)))))) pss_nil)
      (pss_cons (ps_if (pt_cmpR op_eq (pv 3) pe_int (nomark _)) (pss_one (ps_ret (pe_tup (pa_cons pe_str (pa_cons (pe_call GT3 (hr.mono (by omega)) (by rfl) mt3 kt3 bt3 .nil pass0 (pa_cons (pv 0) (pa_cons (pv 1) (pa_cons pe_int pa_nil)))) (pa_cons (pe_call G__law_block_by (hr.mono (by omega)) (by rfl) m__law_block_by k__law_block_by b__law_block_by .nil pass0 (pa_cons (pv 0) (pa_cons (pv 1) (pa_cons (pe_op op_sub (pv 2) pe_int) pa_nil)))) pa_nil)))))) pss_nil)
      (pss_one (ps_ret (pe_tup (pa_cons pe_str (pa_cons (pe_call G__law_block_by (hr.mono (by omega)) (by rfl) m__law_block_by k__law_block_by b__law_block_by .nil pass0 (pa_cons (pv 0) (pa_cons (pv 1) (pa_cons (pe_op op_sub (pv 2) pe_int) pa_nil)))) pa_nil)))))))))), ?_⟩
  have z2 : 2 ≤ sizeLine := by decide
  have z3 : 3 ≤ sizeLine := by decide
  have z4 : 4 ≤ sizeLine := by decide
  have c2 : cost 2 = 38 := by decide
  have c3 : cost 3 = 78 := by decide
  have g40 := dc_ge d
  have g160 := dw_ge d
  refine ⟨_, rfl, a, c, n, 9, rfl, hD, by omega, by decide, by decide, fun way H1 w0 w1 s1 D1 => ?_⟩
  have hp1 := rmL_but s1 _ _ hp
  refine ⟨_, rfl, _, _, rfl, rfl, _, rfl, ite2 (fun e1 => ?b1) (fun e1 => ⟨_, rfl, _, _, rfl, rfl, _, rfl, ite2 (fun e2 => ?b2) (fun e2 => ?rest)⟩)⟩
  case rest =>
    have dp1 : 1 ≤ deep := by
      have : ¬ deep < 1 := fun z => e1 (decide_eq_true z)
      omega
    obtain ⟨d', rfl⟩ : ∃ d', d = d' + 1 := ⟨d - 1, by omega⟩
    have cd : dc (d' + 1) = 80 + 2 * (1 + 3 * dc d') := rfl
    have wd : dw (d' + 1) = 2 * (3 * (dw d' + 1)) + 330 := rfl
    have blkN : ∀ {ds : List PyData}, Blk d' ds → Nc (2 * d' + 4) (3 * (dw d' + 1)) (.tuple ds) := fun h => h.tup
    have cN : ∀ {z : Str}, PyData.leavesShort 13 (.str z) = true → z.cps.size ≤ 8 → Nc (2 * d' + 4) 8 (.str z) := fun h1 h2 => (nc_c h1 h2).le (Nat.zero_le _) (Nat.le_refl _)
    refine ⟨_, rfl, _, _, rfl, rfl, _, rfl, ite2 (fun e3 => ?_) (fun e3 => ?_)⟩
    · refine ⟨_, rfl, _, rfl, a, c, p, n + 1, 3, ws, x3, as, rfl, D1, by omega, by decide, by decide, hp1, hw, h3, sub, in_as ha s1 D1, fun vt t H2 s2 D2 dT oT gT eT => ?_⟩
      have hp2 := rmL_but s2 _ _ hp1
      have b2' := s1.trans s2
      refine ⟨_, rfl, _, rfl, _, rfl, _, rfl, _, _, rfl, rfl, d', rfl, a, c, p, _, deep - 1, ws, x3, as, rfl, D2, by omega, by omega, by omega, hp2, hw, h3, sub, in_as ha b2' D2, hnm, fun v1 ds1 H3 s3 D3 k1 o1 => ?_⟩
      refine ⟨_, rfl, _, rfl, _, rfl, _, _, rfl, rfl, d', rfl, a, c, p, _, deep - 1, ws, x3, as, rfl, D3, by omega, by omega, by omega, rmL_but s3 _ _ hp2, hw, h3, sub, in_as ha (b2'.trans s3) D3, hnm, fun v2 ds2 H4 s4 D4 k2 o2 => ⟨z4, fun T nT => ?_⟩⟩
      have sn := rmL_same (as := as) (same_upd (o := .tup [.str "if", vt, v1, v2]) nT)
      have m4 := rmL_but (s4.more sub)
      refine q _ (.tuple [.str "if", tsD t, .tuple ds1, .tuple ds2]) _ (b2'.trans ((s3.trans s4).trans (.same (same_upd nT)))) ((D4.same (same_upd nT)).le (by omega))
        (.tup (SqT.of (rmL_new (in_as ha (b2'.trans (s3.trans s4)) D4) nT)) (.cons (.str _) (.cons (dp_same ((rmL_but (s3.more sub)).trans (m4.trans sn)) _ _ dT) (.cons (dp_same (m4.trans sn) _ _ k1) (.cons (dp_same sn _ _ k2) .nil))))) ?_
      exact ((NcA.cons (cN (z := "if") (by decide +kernel) (by decide +kernel)) (NcA.cons ((nc_ts hnm oT eT).le (by omega) (Nat.le_refl _)) (NcA.cons (blkN o1) (NcA.cons (blkN o2) (NcA.nil (b := 0)))))).tup).le (by omega) (by rw [wd]; omega)
    refine ⟨_, rfl, rfl, _, rfl, ite2 (fun e4 => ?_) (fun e4 => ?_)⟩
    · refine ⟨_, rfl, _, rfl, a, c, p, n + 1, 3, ws, x3, as, rfl, D1, by omega, by decide, by decide, hp1, hw, h3, sub, in_as ha s1 D1, fun vt t H2 s2 D2 dT oT gT eT => ?_⟩
      have hp2 := rmL_but s2 _ _ hp1
      have b2' := s1.trans s2
      refine ⟨_, rfl, _, rfl, _, rfl, _, _, rfl, rfl, d', rfl, a, c, p, _, deep - 1, ws, x3, as, rfl, D2, by omega, by omega, by omega, hp2, hw, h3, sub, in_as ha b2' D2, hnm, fun v1 ds1 H3 s3 D3 k1 o1 => ⟨z3, fun T nT => ?_⟩⟩
      have sn := rmL_same (as := as) (same_upd (o := .tup [.str "times", vt, v1]) nT)
      refine q _ (.tuple [.str "times", lkD t, .tuple ds1]) _ (b2'.trans (s3.trans (.same (same_upd nT)))) ((D3.same (same_upd nT)).le (by omega))
        (.tup (SqT.of (rmL_new (in_as ha (b2'.trans s3) D3) nT)) (.cons (.str _) (.cons (dp_same ((rmL_but (s3.more sub)).trans sn) _ _ dT) (.cons (dp_same sn _ _ k1) .nil)))) ?_
      exact ((NcA.cons (cN (z := "times") (by decide +kernel) (by decide +kernel)) (NcA.cons ((nc_lk hnm oT eT).le (by omega) (Nat.le_refl _)) (NcA.cons (blkN o1) (NcA.nil (b := 0))))).tup).le (by omega) (by rw [wd]; omega)
    refine ⟨_, rfl, rfl, _, rfl, ite2 (fun e5 => ?_) (fun e5 => ?_)⟩
    · refine ⟨_, rfl, _, rfl, a, c, p, n + 1, 3, ws, x3, as, rfl, D1, by omega, by decide, by decide, hp1, hw, h3, sub, in_as ha s1 D1, fun vt t H2 s2 D2 dT oT gT eT => ?_⟩
      have hp2 := rmL_but s2 _ _ hp1
      have b2' := s1.trans s2
      refine ⟨_, rfl, _, rfl, _, rfl, _, _, rfl, rfl, d', rfl, a, c, p, _, deep - 1, ws, x3, as, rfl, D2, by omega, by omega, by omega, hp2, hw, h3, sub, in_as ha b2' D2, hnm, fun v1 ds1 H3 s3 D3 k1 o1 => ⟨z3, fun T nT => ?_⟩⟩
      have sn := rmL_same (as := as) (same_upd (o := .tup [.str "while", vt, v1]) nT)
      refine q _ (.tuple [.str "while", tsD t, .tuple ds1]) _ (b2'.trans (s3.trans (.same (same_upd nT)))) ((D3.same (same_upd nT)).le (by omega))
        (.tup (SqT.of (rmL_new (in_as ha (b2'.trans s3) D3) nT)) (.cons (.str _) (.cons (dp_same ((rmL_but (s3.more sub)).trans sn) _ _ dT) (.cons (dp_same sn _ _ k1) .nil)))) ?_
      exact ((NcA.cons (cN (z := "while") (by decide +kernel) (by decide +kernel)) (NcA.cons ((nc_ts hnm oT eT).le (by omega) (Nat.le_refl _)) (NcA.cons (blkN o1) (NcA.nil (b := 0))))).tup).le (by omega) (by rw [wd]; omega)
    · refine ⟨_, rfl, _, rfl, _, rfl, _, _, rfl, rfl, d', rfl, a, c, p, _, deep - 1, ws, x3, as, rfl, D1, by omega, by omega, by omega, hp1, hw, h3, sub, in_as ha s1 D1, hnm, fun v1 ds1 H3 s3 D3 k1 o1 => ⟨z2, fun T nT => ?_⟩⟩
      have sn := rmL_same (as := as) (same_upd (o := .tup [.str "ever", v1]) nT)
      refine q _ (.tuple [.str "ever", .tuple ds1]) _ (s1.trans (s3.trans (.same (same_upd nT)))) ((D3.same (same_upd nT)).le (by omega))
        (.tup (SqT.of (rmL_new (in_as ha (s1.trans s3) D3) nT)) (.cons (.str _) (.cons (dp_same sn _ _ k1) .nil))) ?_
      exact ((NcA.cons (cN (z := "ever") (by decide +kernel) (by decide +kernel)) (NcA.cons (blkN o1) (NcA.nil (b := 0)))).tup).le (by omega) (by rw [wd]; omega)
  case' b1 => refine iteT ?_
  all_goals
    refine ⟨_, rfl, _, rfl, a, c, p, n + 1, 2, ws, x3, as, rfl, D1, by omega, by decide, by decide, hp1, hw, h3, sub, in_as ha s1 D1, fun vl L H2 s2 D2 dL oL gL eL => ?_⟩
    refine ⟨_, rfl, z2, fun t1 n1 => ⟨_, rfl, z2, fun t2 n2 => ⟨_, rfl, z2, fun t3 n3 => ⟨z2, fun t4 n4 => ⟨z4, fun l nl => ?_⟩⟩⟩⟩⟩
    have x1 : Same H2 _ := same_upd (o := .tup [.str "move", vl]) n1
    have x2 := same_upd (o := .tup [.str "say", vl]) n2
    have x3' := same_upd (o := .tup [.str "wait", vl]) n3
    have x4 := same_upd (o := .tup [.str "turn", .int 1]) n4
    have x5 := same_upd (o := .lst [.ref t1, .ref t2, .ref t3, .ref t4]) nl
    have i2 := in_as ha (s1.trans s2) D2
    have up : ∀ {H' : Hp}, Same H2 H' → ∀ b ∈ as, ∃ u, H' b = some u := fun s b hb => by
      obtain ⟨u, hu⟩ := i2 b hb
      exact ⟨u, s _ _ hu⟩
    have r1 := rmL_same (as := as) (x2.trans (x3'.trans (x4.trans x5))) _ _ (rmL_new (o := .tup [.str "move", vl]) i2 n1)
    have r2 := rmL_same (as := as) (x3'.trans (x4.trans x5)) _ _ (rmL_new (o := .tup [.str "say", vl]) (up x1) n2)
    have r3 := rmL_same (as := as) (x4.trans x5) _ _ (rmL_new (o := .tup [.str "wait", vl]) (up (x1.trans x2)) n3)
    have r4 := rmL_same (as := as) x5 _ _ (rmL_new (o := .tup [.str "turn", .int 1]) (up (x1.trans (x2.trans x3'))) n4)
    have hl := laid_at (.lst [.ref t1, .ref t2, .ref t3, .ref t4]) nl
    have XX := x1.trans (x2.trans (x3'.trans (x4.trans x5)))
    have lc : l ∉ [a, c] := (D2.same (x1.trans (x2.trans (x3'.trans x4)))).ne nl
    revert r1 r2 r3 r4 hl XX
    generalize upd _ l _ = H3
    intro r1 r2 r3 r4 hl XX
    refine ⟨_, rfl, a, c, _, 4, rfl, D2.same XX, by omega, by decide, by decide, fun r H4 r40 r41 s4 D4 => ?_⟩
    have dl4 := dp_same ((rmL_same XX).trans (rmL_but (s4.more sub))) _ _ dL
    have nl2 := nc_lk hnm oL eL
    have mk : ∀ (t : Addr) (z : Str), PyData.leavesShort 13 (.str z) = true → z.cps.size ≤ 8 → rmL as H3 t = some (.tup [.str z, vl]) → ∃ x, Dp K (rmL as H4) (.ref t) x ∧ Nc 3 160 x := fun t z h1 h2 ht =>
      ⟨.tuple [.str z, lkD L], .tup (SqT.of (rmL_but (s4.more sub) _ _ ht)) (.cons (.str _) (.cons dl4 .nil)), ((NcA.cons ((nc_c h1 h2).le (Nat.zero_le 2) (Nat.le_refl _)) (NcA.cons nl2 (NcA.nil (b := 0)))).tup).le (Nat.le_refl _) (by decide)⟩
    obtain ⟨j, rfl⟩ : ∃ j : Nat, r = (j : Int) := ⟨r.toNat, by omega⟩
    have hj : j < 4 := by omega
    obtain ⟨v, hv, x, dx, nx⟩ : ∃ v, [V.ref t1, .ref t2, .ref t3, .ref t4][j]? = some v ∧ ∃ x, Dp K (rmL as H4) v x ∧ Nc 3 160 x := by
      rcases (by omega : j = 0 ∨ j = 1 ∨ j = 2 ∨ j = 3) with rfl | rfl | rfl | rfl
      · exact ⟨_, rfl, mk t1 "move" (by decide +kernel) (by decide +kernel) r1⟩
      · exact ⟨_, rfl, mk t2 "say" (by decide +kernel) (by decide +kernel) r2⟩
      · exact ⟨_, rfl, mk t3 "wait" (by decide +kernel) (by decide +kernel) r3⟩
      · exact ⟨_, rfl, .tuple [.str "turn", .int 1], .tup (SqT.of (rmL_but (s4.more sub) _ _ r4)) (.cons (.str _) (.cons (.int 1) .nil)), ((NcA.cons (nc_c (x := "turn") (by decide +kernel) (by decide +kernel)) (NcA.cons ((nc_int (i := 1) rfl)) (NcA.nil (b := 0)))).tup).le (by decide) (by decide)⟩
    exact ⟨l, _, _, _, rfl, rfl, SqL.of (s4 _ _ lc hl), atI_nat hv, q _ x _ ((s1.trans s2).trans ((ButL.same XX).trans s4)) (D4.le (by omega)) dx (nx.le (by omega) g160)⟩
theorem no_fn {x : Str} {st : Stmt} {ps : List Str} (D : Df K mg x st ps f fd) : FnG P w K mg base CX0 0 x ps (fun _ _ _ _ => False) := ⟨f, fd, ⟨fun vs H Q E h => h.elim, fun A outer s H args us vs Q E _ _ _ _ h => h.elim⟩, D.m, D.F.kp, D.b⟩
theorem FnG.imp {CX : CXT} {k : Nat} {x : Str} {ps : List Str} {sp sp' : Sp} (G : FnG P w K mg base CX k x ps sp) (h : ∀ vs H Q E, sp' vs H Q E → sp vs H Q E) : FnG P w K mg base CX k x ps sp' := by
  obtain ⟨f, fd, F, r⟩ := G
  exact ⟨f, fd, F.imp h, r⟩
theorem ok_deeds {fb : Addr} {fbd : FuncData} (D : Df K mg "_law_deed_by" sDeed ["_law_state", "_law_words", "_law_deep"] f fd) (DB : Df K mg "_law_block_by" sBlock ["_law_state", "_law_words", "_law_deep"] fb fbd) (GT : FnG P w K mg base CX0 6 "_law_take" ["_law_state", "_law_many"] spTake) (GL : FnG P w K mg base CX0 6 "_law_look_by" ["_law_state", "_law_words", "_law_deep"] (spLook K 2)) (GL3 : FnG P w K mg base CX0 6 "_law_look_by" ["_law_state", "_law_words", "_law_deep"] (spLook K 3))
    (GS : FnG P w K mg base CX0 6 "_law_test_by" ["_law_state", "_law_words", "_law_deep"] (spTest K 3)) (m_range : mg "range" = none) (m_tuple : mg "tuple" = none) : ∀ d, FnG P w K mg base CX0 (2 * d + 7) "_law_deed_by" ["_law_state", "_law_words", "_law_deep"] (spDeed K d)
  | 0 => D.g (ok_deed (k := 6) D.F GT GL GL3 GS (((no_fn DB).mono (Nat.zero_le _)).imp fun vs H Q E h => by
      obtain ⟨d', e, _⟩ := h
      omega))
  | d + 1 => by
    have ih := ok_deeds D DB GT GL GL3 GS m_range m_tuple d
    have B : FnG P w K mg base CX0 (2 * d + 8) "_law_block_by" ["_law_state", "_law_words", "_law_deep"] (spBlock K d) := DB.g (ok_block (k := 2 * d + 7) DB.F (GT.mono (by omega)) ih m_range m_tuple)
    exact D.g (ok_deed (k := 2 * d + 8) D.F (GT.mono (by omega)) (GL.mono (by omega)) (GL3.mono (by omega)) (GS.mono (by omega)) (B.imp fun vs H Q E h => by
      obtain ⟨d', e, h⟩ := h
      cases e
      exact h))
end
end Fd

set_option Elab.async false
set_option linter.all false
set_option maxRecDepth 100000
set_option maxHeartbeats 2000000
namespace Fd
open PySem PySem.Spec PyProof.Rows L2
abbrev Fr : Type := Str × List (Str × Int)
def f1D (f : Fr) : PyData := .tuple [.str f.1, .tuple (f.2.map prD)]
def frD (fs : List Fr) : PyData := .tuple (fs.map f1D)
structure F1Ok (f : Fr) : Prop where
  k : f.1 = "open" ∨ f.1 = "closed"
  l : f.2.length ≤ 2
  v : ∀ p ∈ f.2, IsNm p.1 ∧ inB p.2 = true
def closed (fs : List Fr) : Bool := fs.any fun f => decide (f.1 = "closed")
theorem nc_pr {p : Str × Int} (h : IsNm p.1 ∧ inB p.2 = true) : Nc 1 40 (prD p) :=
  ((NcA.cons (nc_nm h.1) (NcA.cons (nc_int h.2) (NcA.nil (b := 0)))).tup).le (Nat.le_refl _) (by decide)
theorem nc_f1 {f : Fr} (h : F1Ok f) : Nc 3 110 (f1D f) := by
  have hp : Nc 2 (2 * 41) (.tuple (f.2.map prD)) := by
    have := (NcA.all (ds := f.2.map prD) (a := 1) (b := 40) (fun d hd => by
      obtain ⟨p, hp, rfl⟩ := List.mem_map.mp hd
      exact nc_pr (h.v p hp)) (by rw [List.length_map]; have := h.l; omega)).tup
    exact this.le (Nat.le_refl _) (Nat.mul_le_mul_right _ (by rw [List.length_map]; exact h.l))
  have hk : Nc 2 8 (.str f.1) := by
    rcases h.k with e | e <;> rw [e]
    · exact (nc_c (by decide +kernel) (by decide +kernel)).le (by decide) (Nat.le_refl _)
    · exact (nc_c (by decide +kernel) (by decide +kernel)).le (by decide) (Nat.le_refl _)
  exact ((NcA.cons hk (NcA.cons hp (NcA.nil (b := 0)))).tup).le (Nat.le_refl _) (by decide)
theorem nc_fr {fs : List Fr} (h : ∀ f ∈ fs, F1Ok f) (hl : fs.length ≤ 12) : Nc 4 1400 (frD fs) := by
  have := (NcA.all (ds := fs.map f1D) (a := 3) (b := 110) (fun d hd => by
    obtain ⟨p, hp, rfl⟩ := List.mem_map.mp hd
    exact nc_f1 (h p hp)) (by rw [List.length_map]; omega)).tup
  refine this.le (Nat.le_refl _) ?_
  rw [List.length_map]
  exact Nat.le_trans (Nat.mul_le_mul_right _ hl) (by decide)
theorem cut_str (ws : List Str) (r : Int) (h : 0 ≤ r) : cutV (ws.map V.str) none (some r) = (ws.take r.toNat).map V.str := by
  rw [show r = ((r.toNat : Nat) : Int) by omega, cut_to, ← List.map_take, Int.toNat_natCast]
section
variable {P : Program} {w : World} {K : PySem.W.Frag} {mg : Str → Option Value} {base : Heap} {f : Addr} {fd : FuncData}
/-! ### _law_frames_by -/
abbrev sFrames : Stmt := top 60
theorem scFrames : FnScope ["_law_state", "_law_words", "_law_many", "_law_found", "_law_k", "_law_pairs", "_law_word"] ["_law_state", "_law_words", "_law_many"] (defScope sFrames) := ⟨rfl, rfl, rfl, by decide +kernel, rfl, by decide +kernel, by decide +kernel⟩
-- ["_law_state", "_law_words", "_law_many", "_law_found", "_law_k", "_law_pairs", "_law_word"]
def spFrames (K : PySem.W.Frag) : Sp := fun vs H Q _ => ∃ (a c p : Addr) (n m : Nat) (ws : List Str), vs = [.ref a, .ref p, .int m] ∧ Dr H a c n ∧ n + 60 ≤ 1000000 ∧ m ≤ 6 ∧ rmL [a, c] H p = some (.lst (ws.map V.str)) ∧ (∀ z ∈ ws, IsNm z) ∧
  ∀ (v : V) (fs : List Fr) (H' : Hp), ButL [a, c] H H' → Dr H' a c (n + 60) → Dp K (rmL [a, c] H') v (frD fs) → fs.length ≤ 6 → (∀ f ∈ fs, F1Ok f) → Q v H'
theorem ok_frames {k : Nat} (F : Fun K "_law_frames_by" "_law_frames_by" sFrames f fd) (GT : FnG P w K mg base CX0 k "_law_take" ["_law_state", "_law_many"] spTake) (GA : FnG P w K mg base CX0 k "_law_value_by" ["_law_state"] spValue) (m_range : mg "range" = none) (m_tuple : mg "tuple" = none) :
    FnOk P w K mg base CX0 (k + 1) f fd ["_law_state", "_law_words", "_law_many"] (spFrames K) := by
  obtain ⟨_, _, G__law_take, m__law_take, k__law_take, b__law_take⟩ := GT
  obtain ⟨_, _, G__law_value_by, m__law_value_by, k__law_value_by, b__law_value_by⟩ := GA
  have sc := scFrames
  refine F.ok sc (fun vs H Q E h => ?_) (fun cdv A outer s H vs Q E hr h => ?_)
  · obtain ⟨a, c, p, n, m, ws, rfl, _⟩ := h
    rfl
  obtain ⟨a, c, p, n, m, ws, rfl, hD, hn, m6, hp, hnm, q⟩ := h
  refine ⟨_, (pss_cons (ps_set (i := 3) sc.nd rfl (.inl rfl) (pe_lst pa_nil))
      (pss_cons (ps_for PassesOwn.never rfl (pi_range1 (by rfl) m_range (pa_cons (pv 2) pa_nil)) (pg_name (i := 4) sc.nd rfl (.inl rfl)) (pss_cons (ps_set (i := 5) sc.nd rfl (.inl rfl) (pe_callTy call_tuple_of (by rfl) m_tuple (by decide +kernel) (pa_cons (pe_lc (own := [("_law_word", 6)]) (by rfl) sc.nd  (pi_list (pe_slice sl_list (pv 1) po_none (po_some (pe_call G__law_take (hr.mono (by omega)) (by rfl) m__law_take k__law_take b__law_take .nil pass0 (pa_cons (pv 0) (pa_cons pe_int pa_nil)))))) (blkOk_by (own := [("_law_word", 6)]) (N := ["_law_state", "_law_words", "_law_many", "_law_found", "_law_k", "_law_pairs", "_law_word"]) (sc := defScope sFrames) (by decide +kernel)) (fun _ _ _ _ _ => (pg_name (i := 6) sc.nd rfl (.inl rfl))) (fun _ _ _ _ _ => pts_nil) (fun _ _ _ _ _ => (pe_tup (pa_cons (pv 6) (pa_cons (pe_call G__law_value_by (hr.mono (by omega)) (by rfl) m__law_value_by k__law_value_by b__law_value_by .nil pass0 (pa_cons (pv 0) pa_nil)) pa_nil))))) pa_nil)))
      (pss_one (ps_expr (pe_bm PySem.F.plainAttrs_list PySem.F.slot_list_append PySem.F.type_list_append mt_append (pv 3) (pa_cons (pe_tup (pa_cons (pe_ix ix_list (pe_lst (pa_cons pe_str (pa_cons pe_str (pa_cons pe_str pa_nil)))) (pe_call G__law_take (hr.mono (by omega)) (by rfl) m__law_take k__law_take b__law_take .nil pass0 (pa_cons (pv 0) (pa_cons pe_int pa_nil))) (fun _ _ => rfl)) (pa_cons (pv 5) pa_nil))) pa_nil))))))
      (pss_one (ps_ret (pe_callTy call_tuple_of (by rfl) m_tuple (by decide +kernel) (pa_cons (pv 3) pa_nil)))))), ?_⟩
  have z2 : 2 ≤ sizeLine := by decide
  have z3 : 3 ≤ sizeLine := by decide
  refine ⟨by show 0 ≤ sizeLine; decide, fun L nL => ?_⟩
  have aL := hD.ne nL
  refine ⟨_, rfl, m, rfl, by omega, by omega, for_it walk_range
    (fun i σ H' => Dr H' a c (n + 10 * i) ∧ ButL [a, c] H H' ∧ (∃ fs : List Fr, Bld K [a, c] L H (fs.map f1D) H' ∧ fs.length = i ∧ ∀ f ∈ fs, F1Ok f) ∧ ∃ o4 o5, σ = [some (.ref a), some (.ref p), some (.int m), some (.ref L), o4, o5, none])
    ⟨hD.same (same_upd nL), .same (same_upd nL), ⟨[], .start nL, rfl, (by intro c hc; cases hc)⟩, _, _, rfl⟩ (fun _ _ _ _ _ => trivial) ?_ ?_⟩
  · rintro i x σ _ H1 hi ⟨D1, b1, ⟨fs, L1, hl, hk⟩, o4, o5, rfl⟩ ⟨rfl, ex⟩
    have hi' : i < 6 := by omega
    refine ⟨_, rfl, _, rfl, a, c, _, 3, rfl, D1, by omega, by decide, by decide, fun r H2 r0 r1 s2 D2 => ⟨r, rfl, p, _, rfl, SqL.of (rmL_sub _ _ (rmL_but (b1.trans s2) _ _ hp)), fun sl nsl => ?_⟩⟩
    rw [cut_str ws r r0]
    have L2 := (L1.move aL s2).move aL (.same (same_upd (o := .lst ((ws.take r.toNat).map V.str)) nsl))
    have b3 := (b1.trans s2).trans (.same (same_upd (o := .lst ((ws.take r.toNat).map V.str)) nsl))
    have D3 := D2.same (same_upd (o := .lst ((ws.take r.toNat).map V.str)) nsl)
    have hs3 := laid_at (.lst ((ws.take r.toNat).map V.str)) nsl
    have lt : (ws.take r.toNat).length ≤ 2 := by rw [List.length_take]; omega
    have tn : ∀ z ∈ ws.take r.toNat, IsNm z := fun z hz => hnm z (List.mem_of_mem_take hz)
    have sac : sl ∉ [a, c] := D2.ne nsl
    have sL : sl ≠ L := fun z => by
      obtain ⟨_, vs, h, _⟩ := L1.move aL s2
      rw [z, h] at nsl
      cases nsl
    generalize upd H2 sl (.lst ((ws.take r.toNat).map V.str)) = H3 at *
    generalize ws.take r.toNat = us at *
    refine ⟨sl, rfl, ⟨_, SqL.of hs3⟩, fun D nD => ?_⟩
    have aD := D3.ne nD
    have dD : D ∉ L :: [a, c] := fun z => by
      obtain ⟨u, hu⟩ := L2.in_ D3.in_ D z
      rw [nD] at hu
      cases hu
    refine lc_it (walk_list (xs := us.map V.str)) (fun j H' => Dr H' a c (n + 10 * i + 1 + 4 * j) ∧ ButL [a, c] H3 H' ∧ H' sl = some (.lst (us.map V.str)) ∧ ∃ ps : List (Str × Int), Bld K (L :: [a, c]) D H3 (ps.map prD) H' ∧ ps.length = j ∧ ∀ p ∈ ps, IsNm p.1 ∧ inB p.2 = true)
      ⟨D3.same (same_upd nD), .same (same_upd nD), same_upd nD _ _ hs3, [], .start nD, rfl, (by intro c hc; cases hc)⟩ (fun _ _ _ h => SqL.of h.2.2.1) ?_ ?_
    · rintro j x _ H4 hj ⟨D4, b4, hs4, ps, L4, hl4, hk4⟩ ⟨rfl, ex⟩
      have hj' : j < 2 := by rw [List.length_map] at hj; omega
      obtain ⟨z, hz, rfl⟩ : ∃ z, z ∈ us ∧ V.str z = x := List.mem_map.mp (List.mem_of_getElem? ex)
      refine ⟨rfl, yesI ?_⟩
      refine iteT ⟨_, rfl, _, rfl, a, c, _, rfl, D4, by omega, fun r5 H5 ri s5 D5 => ⟨z2, fun t nt => ?_⟩⟩
      have m5 : ButL (L :: [a, c]) H4 H5 := s5.more fun b hb => List.mem_cons_of_mem _ hb
      have L5 := L4.move dD m5
      have L6 := L5.move dD (.same (same_upd (o := .tup [.str z, .int r5]) nt))
      have inn : ∀ b ∈ D :: L :: [a, c], ∃ u, H5 b = some u := L5.in_ (fun b hb => by
        rcases List.mem_cons.mp hb with e | e
        · obtain ⟨_, vs, h, _⟩ := L2
          rw [e]
          exact ⟨_, s5 _ _ aL (b4 _ _ aL h)⟩
        · exact D5.in_ b e)
      obtain ⟨acc, h1, h2, h3⟩ := L6.push nD (d := prD (z, r5)) (y := .ref t) (.tup (SqT.of (rmL_new inn nt)) (.cons (.str _) (.cons (.int _) .nil))) (by rw [List.length_map]; omega)
      refine ⟨acc, h1, h2, ((D5.same (same_upd nt)).upd aD).le (by omega), fun b o nb h => ?_, ?_, ps ++ [(z, r5)], by rw [List.map_append]; exact h3, by rw [List.length_append, hl4]; rfl, fun p hp => ?_⟩
      · rw [upd_ne (ne_of_none h nD)]
        exact same_upd nt _ _ (s5 _ _ nb (b4 _ _ nb h))
      · rw [upd_ne (ne_of_none hs3 nD)]
        exact same_upd nt _ _ (s5 _ _ sac hs4)
      · rcases List.mem_append.mp hp with e | e
        · exact hk4 p e
        · rw [List.mem_singleton.mp e]; exact ⟨tn z hz, ri⟩
    rintro H4 ⟨D4, b4, hs4, ps, L4, hl4, hk4⟩
    rw [List.length_map] at hl4 D4
    have p2 : ps.length ≤ 2 := by omega
    obtain ⟨vs, v1, v2⟩ := L4.ld dD
    refine ⟨D, _, rfl, .inl ⟨SqL.of (rmL_sub _ _ v1), fun T nT => ?_⟩⟩
    have e5 : Same H4 (upd H4 T (.tup vs)) := same_upd nT
    have L5 := (L2.move aL b4).move aL (.same e5)
    have D5 : Dr (upd H4 T (.tup vs)) a c (n + 10 * i + 9) := (D4.same e5).le (by omega)
    have b5 := b3.trans (b4.trans (.same e5))
    have inn : ∀ b ∈ L :: [a, c], ∃ u, H4 b = some u := (L2.move aL b4).in_ D4.in_
    have pT : Dp K (rmL (L :: [a, c]) (upd H4 T (.tup vs))) (.ref T) (.tuple (ps.map prD)) := .tup (SqT.of (rmL_new inn nT)) (dpAll_same (rmL_same e5) _ _ v2)
    generalize upd H4 T (.tup vs) = H5 at *
    clear L4 v1 v2 D4 b4 hs4 inn e5
    obtain ⟨_, ls, hL5, _⟩ := id L5
    refine ⟨_, rfl, .inl ⟨rfl, _, SqL.of hL5⟩, z3, fun l nl => ⟨_, rfl, a, c, _, 3, rfl, D5.same (same_upd nl), by omega, by decide, by decide, fun r6 H6 r60 r61 s6 D6 => ?_⟩⟩
    have lac := D5.ne nl
    have hl6 := s6 _ _ lac (laid_at (.lst [.str "open", .str "open", .str "closed"]) nl)
    obtain ⟨kd, hkd, hat⟩ : ∃ kd : Str, (kd = "open" ∨ kd = "closed") ∧ atI [V.str "open", .str "open", .str "closed"] r6 = some (.str kd) := by
      rcases (by omega : r6 = 0 ∨ r6 = 1 ∨ r6 = 2) with rfl | rfl | rfl
      · exact ⟨"open", .inl rfl, rfl⟩
      · exact ⟨"open", .inl rfl, rfl⟩
      · exact ⟨"closed", .inr rfl, rfl⟩
    have b6 : ButL [a, c] H5 H6 := (ButL.same (same_upd nl)).trans s6
    have L6 := L5.move aL b6
    refine ⟨l, _, _, _, rfl, rfl, SqL.of hl6, hat, _, rfl, z2, fun t nt => ?_⟩
    have L7 := L6.move aL (.same (same_upd (o := .tup [.str kd, .ref T]) nt))
    have m6' : Same (rmL (L :: [a, c]) H5) (rmL (L :: [a, c]) H6) := rmL_but (b6.more fun b hb => List.mem_cons_of_mem _ hb)
    have pT7 := dp_same (m6'.trans (rmL_same (same_upd (o := .tup [.str kd, .ref T]) nt))) _ _ pT
    obtain ⟨acc, h1, h2, h3⟩ := L7.push nL (d := f1D (kd, ps)) (y := .ref t) (.tup (SqT.of (rmL_new (L6.in_ D6.in_) nt)) (.cons (.str _) (.cons pT7 .nil))) (by rw [List.length_map]; omega)
    refine ⟨L, _, _, rfl, rfl, h1, h2, ((D6.same (same_upd nt)).upd aL).le (by omega), fun b o nb h => ?_, ⟨fs ++ [(kd, ps)], by rw [List.map_append]; exact h3, by rw [List.length_append, hl]; rfl, fun f hf => ?_⟩, _, _, rfl⟩
    · rw [upd_ne (ne_of_none h nL)]
      exact same_upd nt _ _ (b6 _ _ nb (b5 _ _ nb h))
    · rcases List.mem_append.mp hf with e | e
      · exact hk f e
      · rw [List.mem_singleton.mp e]; exact ⟨hkd, p2, hk4⟩
  · rintro σ H1 ⟨D1, b1, ⟨fs, L1, hl, hk⟩, o4, o5, rfl⟩
    obtain ⟨vs, v1, v2⟩ := L1.ld aL
    have l6 : fs.length ≤ 6 := by omega
    refine ⟨_, rfl, L, _, rfl, .inl ⟨SqL.of (rmL_sub _ _ v1), fun T nT => ?_⟩⟩
    exact q _ fs _ (b1.trans (.same (same_upd nT))) ((D1.same (same_upd nT)).le (by omega)) (.tup (SqT.of (rmL_new D1.in_ nT)) (dpAll_same (rmL_same (same_upd nT)) _ _ v2)) l6 hk
end
end Fd

set_option Elab.async false
set_option linter.all false
set_option maxRecDepth 100000
set_option maxHeartbeats 2000000
namespace Fd
open PySem PySem.Spec PyProof.Rows L2
theorem bop_n1 (o : BOp) : decide (V.str o.word = V.str "name") = false := by cases o <;> decide +kernel
theorem bop_n2 (o : BOp) : decide (V.str o.word = V.str "many") = false := by cases o <;> decide +kernel
theorem bop_n3 (o : BOp) : decide (V.str o.word = V.str "item") = false := by cases o <;> decide +kernel
theorem bop_n4 (o : BOp) : inV (.str o.word) [.str "x", .str "y", .str "way", .str "number"] = false := by cases o <;> decide +kernel
theorem bop_n5 (o : BOp) : inV (.str o.word) [.str "item", .str "many"] = false := by cases o <;> decide +kernel
theorem spot_n : ∀ k, k < 4 → decide (V.str (spotWords.getD k "") = V.str "name") = false ∧ inV (.str (spotWords.getD k "")) [.str "x", .str "y", .str "way", .str "number"] = true
  | 0, _ => ⟨by decide +kernel, by decide +kernel⟩
  | 1, _ => ⟨by decide +kernel, by decide +kernel⟩
  | 2, _ => ⟨by decide +kernel, by decide +kernel⟩
  | 3, _ => ⟨by decide +kernel, by decide +kernel⟩
  | k + 4, h => by omega
section
variable {P : Program} {w : World} {K : PySem.W.Frag} {mg : Str → Option Value} {base : Heap} {f : Addr} {fd : FuncData}
/-! ### _law_reckoned -/
abbrev sReck : Stmt := top 55
theorem scReck : FnScope ["_law_word", "_law_left", "_law_right", "_law_made"] ["_law_word", "_law_left", "_law_right"] (defScope sReck) := ⟨rfl, rfl, rfl, by decide +kernel, rfl, by decide +kernel, by decide +kernel⟩
def spReck : Sp := fun vs H Q _ => ∃ (o : BOp) (i j : Int), vs = [.str o.word, .int i, .int j] ∧ inB i = true ∧ inB j = true ∧ ∀ p H', Same H H' → H' p = some (.tup (outV (far (o.run i j)))) → Q (.ref p) H'
theorem ok_reck {k : Nat} (F : Fun K "_law_reckoned" "_law_reckoned" sReck f fd) : FnOk P w K mg base CX0 (k + 1) f fd ["_law_word", "_law_left", "_law_right"] spReck := by
  have sc := scReck
  refine F.ok sc (fun vs H Q E h => ?_) (fun cdv A outer s H vs Q E hr h => ?_)
  · obtain ⟨o, i, j, rfl, _⟩ := h
    rfl
  obtain ⟨o, i, j, rfl, hi, hj, q⟩ := h
  refine ⟨_, (pss_cons (ps_if (PW.pt (pw_and (pt_cmpR op_in_seq (pv 0) (pe_tup (pa_cons pe_str (pa_cons pe_str pa_nil))) (by rfl)) (pw_and1 (pt_cmpR op_eq (pv 2) pe_int (nomark _))))) (pss_one (ps_ret (pe_tup (pa_cons pe_non (pa_cons pe_str pa_nil))))) pss_nil)
      (pss_cons (ps_if (pt_cmpR op_in_seq (pv 0) (pe_tup (pa_cons pe_str (pa_cons pe_str pa_nil))) (by rfl)) (pss_one (ps_set (i := 3) sc.nd rfl (.inl rfl) (pe_ifExp (pt_cmpR op_eq (pv 0) pe_str (nomark _)) (pe_op op_fdivN (pv 1) (pv 2)) (pe_op op_modN (pv 1) (pv 2))))) (pss_one (ps_set (i := 3) sc.nd rfl (.inl rfl) (pe_ifExp (pt_cmpR op_eq (pv 0) pe_str (nomark _)) (pe_op op_add (pv 1) (pv 2)) (pe_ifExp (pt_cmpR op_eq (pv 0) pe_str (nomark _)) (pe_op op_sub (pv 1) (pv 2)) (pe_op op_mul (pv 1) (pv 2)))))))
      (pss_one (ps_ret (pe_ifExp (pt_chain op_le op_le (pe_un un_neg (pe_op op_pow pe_int pe_int)) (pv 3) (pe_op op_pow pe_int pe_int)) (pe_tup (pa_cons (pv 3) (pa_cons pe_non pa_nil))) (pe_tup (pa_cons pe_non (pa_cons pe_str pa_nil)))))))), ?_⟩
  have z2 : 2 ≤ sizeLine := by decide
  refine ⟨_, rfl, z2, fun t nt => ⟨t, _, rfl, .inr (SqT.of upd_same), rfl, by decide +kernel, _, rfl, ?_⟩⟩
  have jn : j.natAbs < 1073741824 := by
    unfold inB at hj
    have h1 := of_decide_eq_true (Bool.and_eq_true_iff.mp hj).1
    have h2 := of_decide_eq_true (Bool.and_eq_true_iff.mp hj).2
    omega
  have fin : ∀ m, o.run i j = .ok m → ∀ p H', Same H H' → (inB m = true → H' p = some (.tup [.int m, .non]) → Q (.ref p) H') ∧ (¬ inB m = true → H' p = some (.tup [.non, .str "far"]) → Q (.ref p) H') := fun m e p H' s => by
    rw [e] at q
    constructor
    · intro b h
      refine q p H' s ?_
      rw [show far (.ok m) = .ok m from if_pos b]
      exact h
    · intro b h
      refine q p H' s ?_
      rw [show far (.ok m) = .error "far" from if_neg b]
      exact h
  have jm : inB j = true → -(2 ^ 64) < j ∧ j < 2 ^ 64 := fun hj => by
    unfold inB at hj
    have h1 := of_decide_eq_true (Bool.and_eq_true_iff.mp hj).1
    have h2 := of_decide_eq_true (Bool.and_eq_true_iff.mp hj).2
    omega
  have pw : (10 : Int) ^ (6 : Int).toNat = 1000000 := by decide
  have s1 : Same H (upd H t (.tup [.str "over", .str "rest"])) := same_upd nt
  cases o
  case' plus =>
    refine iteBF rfl ?_
    refine iteF ?_
    refine ⟨_, rfl, z2, fun t2 nt2 => ⟨t2, _, rfl, .inr (SqT.of upd_same), rfl, by decide +kernel, _, rfl, iteBF (by decide +kernel) ⟨_, rfl, rfl, _, rfl, iteB (by decide +kernel) ⟨_, rfl, _, rfl, i, j, rfl, rfl, ?_⟩⟩⟩⟩
    replace fin := fin (i + j) rfl
  case' minus =>
    refine iteBF rfl ?_
    refine iteF ?_
    refine ⟨_, rfl, z2, fun t2 nt2 => ⟨t2, _, rfl, .inr (SqT.of upd_same), rfl, by decide +kernel, _, rfl, iteBF (by decide +kernel) ⟨_, rfl, rfl, _, rfl, iteBF (by decide +kernel) ⟨_, rfl, rfl, _, rfl, iteB (by decide +kernel) ⟨_, rfl, _, rfl, i, j, rfl, rfl, ?_⟩⟩⟩⟩⟩
    replace fin := fin (i - j) rfl
  case' by_ =>
    refine iteBF rfl ?_
    refine iteF ?_
    refine ⟨_, rfl, z2, fun t2 nt2 => ⟨t2, _, rfl, .inr (SqT.of upd_same), rfl, by decide +kernel, _, rfl, iteBF (by decide +kernel) ⟨_, rfl, rfl, _, rfl, iteBF (by decide +kernel) ⟨_, rfl, rfl, _, rfl, iteBF (by decide +kernel) ⟨_, rfl, _, rfl, i, j, rfl, rfl, .inr (jm hj), ?_⟩⟩⟩⟩⟩
    replace fin := fin (i * j) rfl
  case' over =>
    refine iteB rfl ?_
    refine ⟨_, rfl, rfl, _, rfl, ite2 (fun c => ?_) (fun c => ?_)⟩
    · have e : j = 0 := V.int.inj (of_decide_eq_true c)
      refine ⟨z2, fun p np => q p _ (s1.trans (same_upd np)) ?_⟩
      rw [upd_same, show BOp.run .over i j = .error "nought" from if_pos e]
      rfl
    have e : j ≠ 0 := fun e => c (decide_eq_true (by rw [e]))
    refine ⟨_, rfl, z2, fun t2 nt2 => ⟨t2, _, rfl, .inr (SqT.of upd_same), rfl, by decide +kernel, _, rfl, iteB (by decide +kernel) ⟨_, rfl, rfl, _, rfl, iteB (by decide +kernel) ⟨_, rfl, _, rfl, i, j, rfl, rfl, ⟨e, jn⟩, ?_⟩⟩⟩⟩
    replace fin := fin (i.fdiv j) (if_neg e)
  case' rest =>
    refine iteB rfl ?_
    refine ⟨_, rfl, rfl, _, rfl, ite2 (fun c => ?_) (fun c => ?_)⟩
    · have e : j = 0 := V.int.inj (of_decide_eq_true c)
      refine ⟨z2, fun p np => q p _ (s1.trans (same_upd np)) ?_⟩
      rw [upd_same, show BOp.run .rest i j = .error "nought" from if_pos e]
      rfl
    have e : j ≠ 0 := fun e => c (decide_eq_true (by rw [e]))
    refine ⟨_, rfl, z2, fun t2 nt2 => ⟨t2, _, rfl, .inr (SqT.of upd_same), rfl, by decide +kernel, _, rfl, iteB (by decide +kernel) ⟨_, rfl, rfl, _, rfl, iteBF (by decide +kernel) ⟨_, rfl, _, rfl, i, j, rfl, rfl, e, ?_⟩⟩⟩⟩
    replace fin := fin (i.fmod j) (if_neg e)
  all_goals
    have s2 := s1.trans (same_upd (o := .tup [.str "over", .str "rest"]) nt2)
    refine ⟨10, 6, rfl, rfl, ⟨by decide, by decide, by decide⟩, _, rfl, _, rfl, _, _, rfl, rfl, _, rfl, ite2 (fun c1 => ⟨10, 6, rfl, rfl, ⟨by decide, by decide, by decide⟩, _, _, rfl, rfl, _, rfl, ite2 (fun c2 => ?_) (fun c2 => ?_)⟩) (fun c1 => ?_)⟩
    · rw [pw] at c1 c2
      exact ⟨_, rfl, z2, fun p np => (fin p _ (s2.trans (same_upd np))).1 (inB_of (of_decide_eq_true c1) (of_decide_eq_true c2)) upd_same⟩
    · rw [pw] at c2
      refine ⟨z2, fun p np => (fin p _ (s2.trans (same_upd np))).2 (fun b => c2 ?_) upd_same⟩
      unfold inB at b
      exact (Bool.and_eq_true_iff.mp b).2
    · rw [pw] at c1
      refine ⟨false, rfl, iteF ⟨z2, fun p np => (fin p _ (s2.trans (same_upd np))).2 (fun b => c1 ?_) upd_same⟩⟩
      unfold inB at b
      exact (Bool.and_eq_true_iff.mp b).1
/-! ### _law_valued -/
abbrev sValued : Stmt := top 56
theorem scValued : FnScope ["_law_look", "_law_eyes", "_law_some", "_law_row", "_law_left", "_law_fell", "_law_right", "_law_name", "_law_worth"] ["_law_look", "_law_eyes"] (defScope sValued) := ⟨rfl, rfl, rfl, by decide +kernel, rfl, by decide +kernel, by decide +kernel⟩
-- ["_law_look", "_law_eyes", "_law_some", "_law_row", "_law_left", "_law_fell", "_law_right", "_law_name", "_law_worth"]
def spValued (K : PySem.W.Frag) (n : Nat) : Sp := fun vs H Q _ => ∃ (v : V) (e : Addr) (L : Lk) (Y : Ey) (ws : List Str) (x3 : Str), vs = [v, .ref e] ∧ Dp K H v (lkD L) ∧ LkOk ws L ∧ LkL x3 L ∧ L.deep ≤ n ∧ Dp K H (.ref e) (eyD Y) ∧ EyOk ws Y ∧ (∃ row, Y.lists = [(x3, row)]) ∧
  ∀ p H', Same H H' → H' p = some (.tup (outV (val Y L))) → Q (.ref p) H'
theorem ok_valued {k n : Nat} (F : Fun K "_law_valued" "_law_valued" sValued f fd) (GR : FnG P w K mg base CX0 k "_law_reckoned" ["_law_word", "_law_left", "_law_right"] spReck) (GV : FnG P w K mg base CX0 k "_law_valued" ["_law_look", "_law_eyes"] (spValued K n))
    (m_len : mg "len" = none) (m_isinstance : mg "isinstance" = none) (m_int : mg "int" = none) : FnOk P w K mg base CX0 (k + 1) f fd ["_law_look", "_law_eyes"] (spValued K (n + 1)) := by
  obtain ⟨_, _, G__law_reckoned, m__law_reckoned, k__law_reckoned, b__law_reckoned⟩ := GR
  obtain ⟨_, _, G__law_valued, m__law_valued, k__law_valued, b__law_valued⟩ := GV
  have sc := scValued
  refine F.ok sc (fun vs H Q E h => ?_) (fun cdv A outer s H vs Q E hr h => ?_)
  · obtain ⟨v, e, L, Y, ws, x3, rfl, _⟩ := h
    rfl
  obtain ⟨v, e, L, Y, ws, x3, rfl, hL, oL, gL, hd, hE, oE, ⟨row, hrow⟩, q⟩ := h
  refine ⟨_, (pss_cons (ps_if (pt_val (pe_callB call_isi (by rfl) m_isinstance (by decide +kernel) (pa_cons (pv 0) (pa_cons (pe_bltn (v := .ty "int") (by rfl) m_int (by decide +kernel) rfl) pa_nil)))) (pss_one (ps_ret (pe_tup (pa_cons (pv 0) (pa_cons pe_non pa_nil))))) pss_nil)
      (pss_cons (ps_if (pt_cmpR op_eq (pe_ix (show IxR _ (rIxT K) from ix_tup) (pv 0) pe_int (fun _ _ => rfl)) pe_str (nomark _)) (pss_cons (ps_setLc (i := 2) (own := [("_law_name", 7), ("_law_worth", 8)]) (g := gTup K 2 (gCons (gName 7) (gCons (gName 8) gNil))) (by rfl) sc.nd rfl rfl (sw_true rfl rfl rfl (by decide +kernel)) (pi_list (pe_ix ix_tup (pv 1) pe_int (fun _ _ => rfl))) (blkOk_by (own := [("_law_name", 7), ("_law_worth", 8)]) (N := ["_law_look", "_law_eyes", "_law_some", "_law_row", "_law_left", "_law_fell", "_law_right", "_law_name", "_law_worth"]) (sc := defScope sValued) (by decide +kernel)) (fun _ _ _ _ _ => (pg_tup (by rfl) (pgs_cons (pg_name (i := 7) sc.nd rfl (.inl rfl)) (pgs_cons (pg_name (i := 8) sc.nd rfl (.inl rfl)) pgs_nil)))) (fun _ _ _ _ _ => (pts_one (pt_cmpR op_eq (pv 7) (pe_ix (show IxR _ (rIxT K) from ix_tup) (pv 0) pe_int (fun _ _ => rfl)) (nomark _)))) (fun _ _ _ _ _ => (pv 8)))
      (pss_one (ps_ret (pe_ifExp (pt_cmpR (op_neD hr.units) (pv 2) (pe_lst pa_nil) (nomark _)) (pe_tup (pa_cons (pe_ix ix_list (pv 2) pe_int (fun _ _ => rfl)) (pa_cons pe_non pa_nil))) (pe_tup (pa_cons pe_non (pa_cons pe_str pa_nil))))))) pss_nil)
      (pss_cons (ps_if (pt_cmpR op_in_seq (pe_ix (show IxR _ (rIxT K) from ix_tup) (pv 0) pe_int (fun _ _ => rfl)) (pe_tup (pa_cons pe_str (pa_cons pe_str (pa_cons pe_str (pa_cons pe_str pa_nil))))) (by rfl)) (pss_one (ps_ret (pe_tup (pa_cons (pe_ix ix_tup (pe_ix ix_tup (pv 1) pe_int (fun _ _ => rfl)) (pe_bm PySem.F.plainAttrs_list PySem.F.slot_list_index PySem.F.type_list_index mt_index (pe_lst (pa_cons pe_str (pa_cons pe_str (pa_cons pe_str (pa_cons pe_str pa_nil))))) (pa_cons (pe_ix (show IxR _ (rIxT K) from ix_tup) (pv 0) pe_int (fun _ _ => rfl)) pa_nil)) (fun _ _ => rfl)) (pa_cons pe_non pa_nil))))) pss_nil)
      (pss_cons (ps_set (i := 3) sc.nd rfl (.inl rfl) (pe_ifExp (pt_cmpR op_in_seq (pe_ix (show IxR _ (rIxT K) from ix_tup) (pv 0) pe_int (fun _ _ => rfl)) (pe_tup (pa_cons pe_str (pa_cons pe_str pa_nil))) (by rfl)) (pe_ix ix_list (pe_lc (own := [("_law_name", 7), ("_law_row", 3)]) (g := gTup K 2 (gCons (gName 7) (gCons (gName 3) gNil))) (by rfl) sc.nd  (pi_list (pe_ix ix_tup (pv 1) pe_int (fun _ _ => rfl))) (blkOk_by (own := [("_law_name", 7), ("_law_row", 3)]) (N := ["_law_look", "_law_eyes", "_law_some", "_law_row", "_law_left", "_law_fell", "_law_right", "_law_name", "_law_worth"]) (sc := defScope sValued) (by decide +kernel)) (fun _ _ _ _ _ => (pg_tup (by rfl) (pgs_cons (pg_name (i := 7) sc.nd rfl (.inl rfl)) (pgs_cons (pg_name (i := 3) sc.nd rfl (.inl rfl)) pgs_nil)))) (fun _ _ _ _ _ => (pts_one (pt_cmpR op_eq (pv 7) (pe_ix (show IxR _ (rIxT K) from ix_tup) (pv 0) pe_int (fun _ _ => rfl)) (nomark _)))) (fun _ _ _ _ _ => (pv 3))) pe_int (fun _ _ => rfl)) (pe_lst pa_nil)))
      (pss_cons (ps_if (pt_cmpR op_eq (pe_ix (show IxR _ (rIxT K) from ix_tup) (pv 0) pe_int (fun _ _ => rfl)) pe_str (nomark _)) (pss_one (ps_ret (pe_tup (pa_cons (pe_callB call_len_seq (by rfl) m_len (by decide +kernel) (pa_cons (pv 3) pa_nil)) (pa_cons pe_non pa_nil))))) pss_nil)
      (pss_cons (ps_asg (pe_call G__law_valued (hr.mono (by omega)) (by rfl) m__law_valued k__law_valued b__law_valued .nil pass0 (pa_cons (pe_ix (show IxR _ (rIxT K) from ix_tup) (pv 0) (pe_op op_add (pe_un un_neg pe_int) (pe_callTy call_int1 (by rfl) m_int (by decide +kernel) (pa_cons (pe_cmpR op_eq (pe_ix (show IxR _ (rIxT K) from ix_tup) (pv 0) pe_int (fun _ _ => rfl)) pe_str (nomark _)) pa_nil))) (fun _ _ => rfl)) (pa_cons (pv 1) pa_nil))) (pg_tup (by rfl) (pgs_cons (pg_name (i := 4) sc.nd rfl (.inl rfl)) (pgs_cons (pg_name (i := 5) sc.nd rfl (.inl rfl)) pgs_nil))))
      (pss_cons (ps_if (pt_cmpR op_notN (pv 5) pe_non (nomark _)) (pss_one (ps_ret (pe_tup (pa_cons pe_non (pa_cons (pv 5) pa_nil))))) pss_nil)
      (pss_cons (ps_if (pt_cmpR op_eq (pe_ix (show IxR _ (rIxT K) from ix_tup) (pv 0) pe_int (fun _ _ => rfl)) pe_str (nomark _)) (pss_one (ps_ret (pe_ifExp (pt_chain op_le op_lt pe_int (pv 4) (pe_callB call_len_seq (by rfl) m_len (by decide +kernel) (pa_cons (pv 3) pa_nil))) (pe_tup (pa_cons (pe_ix ix_list (pv 3) (pv 4) (fun _ _ => rfl)) (pa_cons pe_non pa_nil))) (pe_tup (pa_cons pe_non (pa_cons pe_str pa_nil)))))) pss_nil)
      (pss_cons (ps_asg (pe_call G__law_valued (hr.mono (by omega)) (by rfl) m__law_valued k__law_valued b__law_valued .nil pass0 (pa_cons (pe_ix (show IxR _ (rIxT K) from ix_tup) (pv 0) pe_int (fun _ _ => rfl)) (pa_cons (pv 1) pa_nil))) (pg_tup (by rfl) (pgs_cons (pg_name (i := 6) sc.nd rfl (.inl rfl)) (pgs_cons (pg_name (i := 5) sc.nd rfl (.inl rfl)) pgs_nil))))
      (pss_one (ps_ret (pe_ifExp (pt_cmpR op_notN (pv 5) pe_non (nomark _)) (pe_tup (pa_cons pe_non (pa_cons (pv 5) pa_nil))) (pe_call G__law_reckoned (hr.mono (by omega)) (by rfl) m__law_reckoned k__law_reckoned b__law_reckoned .nil pass0 (pa_cons (pe_ix (show IxR _ (rIxT K) from ix_tup) (pv 0) pe_int (fun _ _ => rfl)) (pa_cons (pv 4) (pa_cons (pv 6) pa_nil)))))))))))))))), ?_⟩
  have z0 : 0 ≤ sizeLine := Nat.zero_le _
  have z2 : 2 ≤ sizeLine := by decide
  have z4 : 4 ≤ sizeLine := by decide
  obtain ⟨en, el, es, em, ps, rs, hS, n1, n2, l1, l2, s1, m1⟩ := eyD_at hE
  rw [hrow] at l2
  obtain ⟨rv, rr, rfl, hr1, l2⟩ := dpA_cons l2
  rw [dpA_nil l2] at l1
  obtain ⟨ra, rx, ry, rfl, hra, hrx, hry⟩ := dp_pair hr1
  rw [dp_str hrx] at hra
  obtain ⟨rb, rys, rfl, hrb, hrys⟩ := dp_list hry
  rw [dpA_ints hrys] at hrb
  have rok := oE.ls (x3, row) (by rw [hrow]; exact List.mem_cons_self ..)
  cases L with
  | num i =>
    rw [dp_int hL]
    refine ⟨_, rfl, _, _, .type "int", _, true, rfl, .ty _, .base (.int i), kit_ty (by decide +kernel), _, rfl, iteT ⟨_, rfl, z2, fun p np => q p _ (same_upd np) ?_⟩⟩
    rw [upd_same, show val Y (.num i) = .ok i from if_pos oL]
    rfl
  | name x =>
    obtain ⟨a, u, y, rfl, ha, hu, hy⟩ := dp_pair hL
    rw [dp_str hu, dp_str hy] at ha
    refine ⟨_, rfl, _, _, .type "tuple", _, false, rfl, .ty _, ty_tup ha, kit_ty (by decide +kernel), _, rfl, iteF ?_⟩
    refine ⟨_, rfl, a, _, 0, _, rfl, rfl, ha, rfl, rfl, _, rfl, iteB (by decide +kernel) ?_⟩
    have hkv := kv_names n2
    have hl7 := paired_len hkv
    have hk5 : (Y.names.map fun p => (p.1, V.int p.2)).length ≤ 5 := by rw [List.length_map]; exact oE.n5
    generalize hkk : (Y.names.map fun p => (p.1, V.int p.2)) = kvs at hkv hl7 hk5
    refine ⟨_, rfl, e, _, 0, _, rfl, rfl, hS, rfl, en, rfl, ⟨_, n1⟩, fun D nD => lc_it (walk_list (xs := ps)) (fun i H' => Same H H' ∧ H' D = some (.lst (sel x (kvs.take i)))) ⟨same_upd nD, by rw [upd_same]; rfl⟩ (fun _ H' _ h => h.1.seq n1) ?_ ?_⟩
    · rintro i u _ H1 hi ⟨s2, hD⟩ ⟨rfl, ex⟩
      obtain ⟨kv, ek, t2, rfl, h2⟩ := paired_at hkv ex
      have tk : kvs.take (i + 1) = kvs.take i ++ [kv] := by rw [List.take_succ, ek]; rfl
      refine ⟨t2, _, rfl, seqT s2 h2, rfl, _, _, rfl, _, _, rfl, rfl, rfl, _, rfl, _, rfl, a, _, 1, _, rfl, rfl, seqT s2 ha, rfl, rfl, _, rfl, ite2 (fun c => ⟨_, rfl, _, hD, ?_, ?_, ?_⟩) (fun c => ⟨s2, ?_⟩)⟩
      · have := sel_len x (kvs.take i)
        rw [List.length_take] at this
        exact small1000 (by omega)
      · exact fun b o h => by
          rw [upd_ne (fun z => by rw [z, nD] at h; cases h)]
          exact s2 b o h
      · have e : kv.1 = x := V.str.inj (of_decide_eq_true c)
        rw [upd_same, tk, sel_snoc, if_pos (by rw [e]; exact beq_self_eq_true _)]
      · have e : kv.1 ≠ x := fun z => c (decide_eq_true (by rw [z]))
        rw [hD, tk, sel_snoc, if_neg (fun z => e (beq_iff_eq.mp z).symm), List.append_nil]
    rintro H1 ⟨s2, hD⟩
    rw [List.take_of_length_le (by rw [hl7]; exact Nat.le_refl _), ← hkk, sel_names] at hD
    have qv : ∀ p H', Same H H' → H' p = some (.tup (outV (far (some_of (sel x Y.names).head? .ok)))) → Q (.ref p) H' := by
      rw [← sel_look]; exact q
    have iv : ∀ i ∈ sel x Y.names, inB i = true := fun i hi => by
      obtain ⟨k, hk⟩ := sel_mem hi
      exact (oE.nm _ hk).2
    cases eS : sel x Y.names with
    | nil =>
      rw [eS] at hD qv
      refine ⟨_, rfl, z0, fun t4 nt4 => ⟨.list [], .list [], .lst (SqL.of ((same_upd nt4) _ _ hD)) .nil, .lst (SqL.of upd_same) .nil, by decide +kernel, by decide +kernel, _, rfl, iteBF (by decide +kernel) ?_⟩⟩
      exact ⟨z2, fun p np => qv p _ ((s2.trans (same_upd nt4)).trans (same_upd np)) upd_same⟩
    | cons i r =>
      rw [eS] at hD qv iv
      have b1 : inB i = true := iv i (List.mem_cons_self ..)
      rw [show far (some_of (i :: r).head? .ok) = .ok i from if_pos b1] at qv
      refine ⟨_, rfl, z0, fun t4 nt4 => ⟨.list ((i :: r).map .int), .list [], .lst (SqL.of ((same_upd nt4) _ _ hD)) (dpAll_ints _), .lst (SqL.of upd_same) .nil, shaped_ints _, by decide +kernel, _, rfl, iteB (by rw [eqv_nil]; rfl) ?_⟩⟩
      exact ⟨_, rfl, D, _, 0, _, rfl, rfl, SqL.of ((same_upd nt4) _ _ hD), at_of (j := 0) (by omega) rfl, z2, fun p np => qv p _ ((s2.trans (same_upd nt4)).trans (same_upd np)) upd_same⟩
  | spot j =>
    obtain ⟨a, xs, rfl, ha, hxs⟩ := dp_tup hL
    obtain ⟨u, r, rfl, hu, hxs⟩ := dpA_cons hxs
    rw [dpA_nil hxs, dp_str hu] at ha
    have hj : j < 4 := oL
    obtain ⟨c1, c2⟩ := spot_n j hj
    refine ⟨_, rfl, _, _, .type "tuple", _, false, rfl, .ty _, ty_tup ha, kit_ty (by decide +kernel), _, rfl, iteF ?_⟩
    refine ⟨_, rfl, a, _, 0, _, rfl, rfl, ha, rfl, rfl, _, rfl, iteBF c1 ?_⟩
    refine ⟨_, rfl, a, _, 0, _, rfl, rfl, ha, rfl, z4, fun t nt => ⟨t, _, rfl, .inr (SqT.of upd_same), rfl, by decide +kernel, _, rfl, iteB c2 ?_⟩⟩
    have sT : Same H (upd H t (.tup [.str "x", .str "y", .str "way", .str "number"])) := same_upd nt
    refine ⟨_, rfl, e, _, 2, _, rfl, rfl, seqT sT hS, rfl, z4, fun t2 nt2 => ?_⟩
    have sU := sT.trans (same_upd (o := .lst [.str "x", .str "y", .str "way", .str "number"]) nt2)
    obtain ⟨f1, f2, f3⟩ := spot_facts hj
    have h4 : j < Y.spot.length := by rw [oE.s4]; exact hj
    have hv : Y.spot[j]? = some (Y.spot.getD j 0) := by rw [List.getD_eq_getElem?_getD, List.getElem?_eq_getElem h4]; rfl
    refine ⟨.inl ⟨rfl, _, SqL.of upd_same⟩, _, rfl, a, _, 0, _, rfl, rfl, seqT sU ha, rfl, t2, _, _, j, .str (spotWords.getD j ""), rfl, rfl, SqL.of upd_same, rfl, by decide +kernel, f1, f2, f3, es, _, (j : Int), .int (Y.spot.getD j 0), rfl, rfl, seqT sU s1, atI_nat ?_, z2, fun p np => q p _ (sU.trans (same_upd np)) ?_⟩
    · rw [List.getElem?_map, hv]
      rfl
    · rw [upd_same, show val Y (.spot j) = .ok (Y.spot.getD j 0) from if_pos (oE.sp _ (List.mem_of_getElem? hv))]
      rfl
  | many x =>
    have ex : x = x3 := gL
    subst ex
    obtain ⟨a, u, y, rfl, ha, hu, hy⟩ := dp_pair hL
    rw [dp_str hu, dp_str hy] at ha
    refine ⟨_, rfl, _, _, .type "tuple", _, false, rfl, .ty _, ty_tup ha, kit_ty (by decide +kernel), _, rfl, iteF ?_⟩
    refine ⟨_, rfl, a, _, 0, _, rfl, rfl, ha, rfl, rfl, _, rfl, iteBF (by decide +kernel) ?_⟩
    refine ⟨_, rfl, a, _, 0, _, rfl, rfl, ha, rfl, z4, fun t nt => ⟨t, _, rfl, .inr (SqT.of upd_same), rfl, by decide +kernel, _, rfl, iteBF (by decide +kernel) ?_⟩⟩
    have sT : Same H (upd H t (.tup [.str "x", .str "y", .str "way", .str "number"])) := same_upd nt
    refine ⟨_, rfl, a, _, 0, _, rfl, rfl, seqT sT ha, rfl, z2, fun t2 nt2 => ⟨t2, _, rfl, .inr (SqT.of upd_same), rfl, by decide +kernel, _, rfl, iteB (by decide +kernel) ?_⟩⟩
    have sU := sT.trans (same_upd (o := .tup [.str "item", .str "many"]) nt2)
    refine ⟨_, rfl, e, _, 1, _, rfl, rfl, seqT sU hS, rfl, el, rfl, ⟨_, sU.seq l1⟩, fun D nD => lc_it (walk_list (xs := [V.ref ra])) (fun i H' => Same H H' ∧ H' D = some (.lst ([V.ref rb].take i))) ⟨sU.trans (same_upd nD), by rw [upd_same]; rfl⟩ (fun _ H' _ h => h.1.seq l1) ?_ ?_⟩
    · rintro i u _ H1 hi ⟨s2, hD⟩ ⟨rfl, ex⟩
      have hi' : i = 0 := Nat.lt_one_iff.mp hi
      subst hi'
      cases ex
      refine ⟨ra, _, rfl, seqT s2 hra, rfl, _, _, rfl, _, _, rfl, rfl, rfl, _, rfl, _, rfl, a, _, 1, _, rfl, rfl, seqT s2 ha, rfl, rfl, _, rfl, iteB (decide_eq_true rfl) ⟨_, rfl, _, hD, (show 0 < sizeLine by decide), fun b o h => ?_, upd_same⟩⟩
      rw [upd_ne (fun z => by rw [z, sU.free nD] at h; cases h)]
      exact s2 b o h
    rintro H1 ⟨s2, hD⟩
    refine ⟨D, _, 0, _, rfl, rfl, SqL.of hD, rfl, ?_⟩
    refine ⟨_, rfl, a, _, 0, _, rfl, rfl, seqT s2 ha, rfl, rfl, _, rfl, iteB (by decide +kernel) ?_⟩
    refine ⟨_, rfl, rb, _, rfl, .inl (s2.seq hrb), z2, fun p np => q p _ (s2.trans (same_upd np)) ?_⟩
    have e1 : val Y (.many x) = .ok (row.length : Int) := by
      show far (some_of (Y.lists.lookup x) fun l => .ok l.length) = _
      rw [hrow, List.lookup_cons, beq_self_eq_true]
      exact if_pos (inB_of (by have := rok.2.1; dsimp only at this; omega) (by have := rok.2.1; dsimp only at this; omega))
    rw [upd_same, e1, List.length_map]
    rfl
  | item x M =>
    obtain ⟨ex, gM⟩ := gL
    subst ex
    obtain ⟨a, u, y, z, rfl, ha, hu, hy, hz⟩ := dp_tri hL
    rw [dp_str hu, dp_str hy] at ha
    refine ⟨_, rfl, _, _, .type "tuple", _, false, rfl, .ty _, ty_tup ha, kit_ty (by decide +kernel), _, rfl, iteF ?_⟩
    refine ⟨_, rfl, a, _, 0, _, rfl, rfl, ha, rfl, rfl, _, rfl, iteBF (by decide +kernel) ?_⟩
    refine ⟨_, rfl, a, _, 0, _, rfl, rfl, ha, rfl, z4, fun t nt => ⟨t, _, rfl, .inr (SqT.of upd_same), rfl, by decide +kernel, _, rfl, iteBF (by decide +kernel) ?_⟩⟩
    have sT : Same H (upd H t (.tup [.str "x", .str "y", .str "way", .str "number"])) := same_upd nt
    refine ⟨_, rfl, a, _, 0, _, rfl, rfl, seqT sT ha, rfl, z2, fun t2 nt2 => ⟨t2, _, rfl, .inr (SqT.of upd_same), rfl, by decide +kernel, _, rfl, iteB (by decide +kernel) ?_⟩⟩
    have sU := sT.trans (same_upd (o := .tup [.str "item", .str "many"]) nt2)
    refine ⟨_, rfl, e, _, 1, _, rfl, rfl, seqT sU hS, rfl, el, rfl, ⟨_, sU.seq l1⟩, fun D nD => lc_it (walk_list (xs := [V.ref ra])) (fun i H' => Same H H' ∧ H' D = some (.lst ([V.ref rb].take i))) ⟨sU.trans (same_upd nD), by rw [upd_same]; rfl⟩ (fun _ H' _ h => h.1.seq l1) ?_ ?_⟩
    · rintro i u _ H1 hi ⟨s2, hD⟩ ⟨rfl, ex⟩
      have hi' : i = 0 := Nat.lt_one_iff.mp hi
      subst hi'
      cases ex
      refine ⟨ra, _, rfl, seqT s2 hra, rfl, _, _, rfl, _, _, rfl, rfl, rfl, _, rfl, _, rfl, a, _, 1, _, rfl, rfl, seqT s2 ha, rfl, rfl, _, rfl, iteB (decide_eq_true rfl) ⟨_, rfl, _, hD, (show 0 < sizeLine by decide), fun b o h => ?_, upd_same⟩⟩
      rw [upd_ne (fun z => by rw [z, sU.free nD] at h; cases h)]
      exact s2 b o h
    rintro H1 ⟨s2, hD⟩
    refine ⟨D, _, 0, _, rfl, rfl, SqL.of hD, rfl, ?_⟩
    refine ⟨_, rfl, a, _, 0, _, rfl, rfl, seqT s2 ha, rfl, rfl, _, rfl, iteBF (by decide +kernel) ?_⟩
    have ea : atI [V.str "item", .str x, z] (-2 + if decide (V.str "item" = V.str "item") = true then 1 else 0) = some z := by rw [decide_eq_true rfl]; rfl
    refine ⟨_, rfl, 2, rfl, _, rfl, a, _, 0, _, rfl, rfl, seqT s2 ha, rfl, rfl, .inr ⟨_, rfl, _, _, rfl, rfl, a, _, _, _, rfl, rfl, seqT s2 ha, ea, _, rfl, z, e, M, Y, ws, x, rfl, dp_same s2 _ _ hz, oL.2, gM, Nat.le_of_succ_le_succ hd, dp_same s2 _ _ hE, oE, ⟨row, hrow⟩, fun p1 H2 s3 h1 => ?_⟩⟩
    have sA := s2.trans s3
    have q1 : ∀ p H', Same H H' → H' p = some (.tup (outV (far (then_ (val Y M) (itemOf row))))) → Q (.ref p) H' := fun p H' s h => q p H' s (by
      show H' p = some (.tup (outV (far (some_of (Y.lists.lookup x) fun l => then_ (val Y M) (itemOf l)))))
      rw [hrow, List.lookup_cons, beq_self_eq_true]
      exact h)
    cases ev : val Y M with
    | error w =>
      rw [ev] at h1 q1
      exact ⟨p1, _, rfl, SqT.of h1, rfl, _, _, rfl, _, _, rfl, rfl, _, rfl, rfl, _, rfl, iteT ⟨_, rfl, z2, fun p np => q1 p _ (sA.trans (same_upd np)) upd_same⟩⟩
    | ok i =>
      rw [ev] at h1 q1
      refine ⟨p1, _, rfl, SqT.of h1, rfl, _, _, rfl, _, _, rfl, rfl, _, rfl, rfl, _, rfl, iteF ?_⟩
      refine ⟨_, rfl, a, _, 0, _, rfl, rfl, seqT sA ha, rfl, rfl, _, rfl, iteB (by decide +kernel) ?_⟩
      have q2 : ∀ p H', Same H H' → H' p = some (.tup (outV (far (itemOf row i)))) → Q (.ref p) H' := q1
      refine ⟨_, rfl, _, _, rfl, rfl, _, rfl, ite2 (fun c1 => ⟨_, rfl, rb, _, rfl, .inl (sA.seq hrb), _, _, rfl, rfl, _, rfl, ite2 (fun c2 => ?_) (fun c2 => ?_)⟩) (fun c1 => ⟨false, rfl, iteF ?_⟩)⟩
      · have c1' : 0 ≤ i := of_decide_eq_true c1
        have c2' : i < ((row.map V.int).length : Nat) := of_decide_eq_true c2
        rw [List.length_map] at c2'
        have hi : i.toNat < row.length := by omega
        have e2 : itemOf row i = .ok (row.getD i.toNat 0) := if_pos ⟨c1', by omega⟩
        have gv : row[i.toNat]? = some (row.getD i.toNat 0) := by rw [List.getD_eq_getElem?_getD, List.getElem?_eq_getElem hi]; rfl
        rw [e2, show far (.ok (row.getD i.toNat 0)) = .ok (row.getD i.toNat 0) from if_pos (rok.2.2 _ (List.mem_of_getElem? gv))] at q2
        exact ⟨_, rfl, _, rfl, rb, _, i, _, rfl, rfl, sA.seq hrb, at_of (j := i.toNat) (by omega) (by rw [List.getElem?_map, gv]; rfl), z2, fun p np => q2 p _ (sA.trans (same_upd np)) upd_same⟩
      · have c2' : ¬ i < ((row.map V.int).length : Nat) := fun z => c2 (decide_eq_true z)
        rw [List.length_map] at c2'
        rw [show itemOf row i = .error "none" from if_neg (fun z => c2' (by omega))] at q2
        exact ⟨z2, fun p np => q2 p _ (sA.trans (same_upd np)) upd_same⟩
      · have c1' : ¬ 0 ≤ i := fun z => c1 (decide_eq_true z)
        rw [show itemOf row i = .error "none" from if_neg (fun z => c1' z.1)] at q2
        exact ⟨z2, fun p np => q2 p _ (sA.trans (same_upd np)) upd_same⟩
  | bin o M N =>
    obtain ⟨a, u, x, y, rfl, ha, hu, hx, hy⟩ := dp_tri hL
    rw [dp_str hu] at ha
    have hd' : max M.deep N.deep ≤ n := Nat.le_of_succ_le_succ hd
    refine ⟨_, rfl, _, _, .type "tuple", _, false, rfl, .ty _, ty_tup ha, kit_ty (by decide +kernel), _, rfl, iteF ?_⟩
    refine ⟨_, rfl, a, _, 0, _, rfl, rfl, ha, rfl, rfl, _, rfl, iteBF (bop_n1 o) ?_⟩
    refine ⟨_, rfl, a, _, 0, _, rfl, rfl, ha, rfl, z4, fun t nt => ⟨t, _, rfl, .inr (SqT.of upd_same), rfl, by decide +kernel, _, rfl, iteBF (bop_n4 o) ?_⟩⟩
    have sT : Same H (upd H t (.tup [.str "x", .str "y", .str "way", .str "number"])) := same_upd nt
    refine ⟨_, rfl, a, _, 0, _, rfl, rfl, seqT sT ha, rfl, z2, fun t2 nt2 => ⟨t2, _, rfl, .inr (SqT.of upd_same), rfl, by decide +kernel, _, rfl, iteBF (bop_n5 o) ⟨z0, fun l nl => ?_⟩⟩⟩
    have sU := (sT.trans (same_upd (o := .tup [.str "item", .str "many"]) nt2)).trans (same_upd (o := .lst []) nl)
    refine ⟨_, rfl, a, _, 0, _, rfl, rfl, seqT sU ha, rfl, rfl, _, rfl, iteBF (bop_n2 o) ?_⟩
    have ea : atI [V.str o.word, x, y] (-2 + if decide (V.str o.word = V.str "item") = true then 1 else 0) = some x := by rw [bop_n3]; rfl
    refine ⟨_, rfl, 2, rfl, _, rfl, a, _, 0, _, rfl, rfl, seqT sU ha, rfl, rfl, .inr ⟨_, rfl, _, _, rfl, rfl, a, _, _, _, rfl, rfl, seqT sU ha, ea, _, rfl, x, e, M, Y, ws, x3, rfl, dp_same sU _ _ hx, oL.1, gL.1, by omega, dp_same sU _ _ hE, oE, ⟨row, hrow⟩, fun p1 H2 s3 h1 => ?_⟩⟩
    have sA := sU.trans s3
    have q1 : ∀ p H', Same H H' → H' p = some (.tup (outV (far (then_ (val Y M) fun i => then_ (val Y N) fun j => o.run i j)))) → Q (.ref p) H' := q
    cases ev : val Y M with
    | error w =>
      rw [ev] at h1 q1
      exact ⟨p1, _, rfl, SqT.of h1, rfl, _, _, rfl, _, _, rfl, rfl, _, rfl, rfl, _, rfl, iteT ⟨_, rfl, z2, fun p np => q1 p _ (sA.trans (same_upd np)) upd_same⟩⟩
    | ok i =>
      rw [ev] at h1 q1
      refine ⟨p1, _, rfl, SqT.of h1, rfl, _, _, rfl, _, _, rfl, rfl, _, rfl, rfl, _, rfl, iteF ?_⟩
      refine ⟨_, rfl, a, _, 0, _, rfl, rfl, seqT sA ha, rfl, rfl, _, rfl, iteBF (bop_n3 o) ?_⟩
      refine ⟨_, rfl, a, _, 2, _, rfl, rfl, seqT sA ha, rfl, _, rfl, y, e, N, Y, ws, x3, rfl, dp_same sA _ _ hy, oL.2, gL.2, by omega, dp_same sA _ _ hE, oE, ⟨row, hrow⟩, fun p2 H3 s4 h2 => ?_⟩
      have sB := sA.trans s4
      have q2 : ∀ p H', Same H H' → H' p = some (.tup (outV (far (then_ (val Y N) fun j => o.run i j)))) → Q (.ref p) H' := q1
      cases ew : val Y N with
      | error w =>
        rw [ew] at h2 q2
        exact ⟨p2, _, rfl, SqT.of h2, rfl, _, _, rfl, _, _, rfl, rfl, _, rfl, rfl, _, rfl, iteT ⟨_, rfl, z2, fun p np => q2 p _ (sB.trans (same_upd np)) upd_same⟩⟩
      | ok j =>
        rw [ew] at h2 q2
        refine ⟨p2, _, rfl, SqT.of h2, rfl, _, _, rfl, _, _, rfl, rfl, _, rfl, rfl, _, rfl, iteF ?_⟩
        exact ⟨_, rfl, a, _, 0, _, rfl, rfl, seqT sB ha, rfl, _, rfl, _, rfl, o, i, j, rfl, val_in ev, val_in ew, fun p H' s h => q2 p H' (sB.trans s) h⟩
theorem ok_valueds (D : Df K mg "_law_valued" sValued ["_law_look", "_law_eyes"] f fd) (GR : FnG P w K mg base CX0 3 "_law_reckoned" ["_law_word", "_law_left", "_law_right"] spReck) (m_len : mg "len" = none) (m_isinstance : mg "isinstance" = none) (m_int : mg "int" = none) : ∀ n, FnG P w K mg base CX0 (n + 3) "_law_valued" ["_law_look", "_law_eyes"] (spValued K n)
  | 0 => ⟨f, fd, ⟨fun vs H Q E h => by
      obtain ⟨v, e, L, Y, ws, x3, rfl, _⟩ := h
      rfl, fun A outer s H args us vs Q E _ _ _ _ h => by
      obtain ⟨v, e, L, Y, ws, x3, _, _, _, _, h1, _⟩ := h
      exact absurd h1 (by cases L <;> simp [Lk.deep])⟩, D.m, D.F.kp, D.b⟩
  | n + 1 => D.g (ok_valued (k := n + 3) D.F (GR.mono (by omega)) (ok_valueds D GR m_len m_isinstance m_int n) m_len m_isinstance m_int)
end
end Fd

set_option Elab.async false
set_option linter.all false
set_option maxRecDepth 100000
set_option maxHeartbeats 2000000
namespace Fd
open PySem PySem.Spec PyProof.Rows L2
def outB : Except Str Bool → List V
  | .ok b => [.bl b, .non]
  | .error w => [.non, .str w]
section
variable {P : Program} {w : World} {K : PySem.W.Frag} {mg : Str → Option Value} {base : Heap} {f : Addr} {fd : FuncData}
abbrev sHeld : Stmt := top 57
theorem scHeld : FnScope ["_law_test", "_law_eyes", "_law_left", "_law_fell", "_law_right", "_law_one"] ["_law_test", "_law_eyes"] (defScope sHeld) := ⟨rfl, rfl, rfl, by decide +kernel, rfl, by decide +kernel, by decide +kernel⟩
def spHeld (K : PySem.W.Frag) (n : Nat) : Sp := fun vs H Q _ => ∃ (v : V) (e : Addr) (t : Ts) (Y : Ey) (ws : List Str) (x3 : Str), vs = [v, .ref e] ∧ Dp K H v (tsD t) ∧ TsOk ws t ∧ TsL x3 t ∧ t.deep ≤ n ∧ Dp K H (.ref e) (eyD Y) ∧ EyOk ws Y ∧ (∃ row, Y.lists = [(x3, row)]) ∧
  ∀ p H', Same H H' → H' p = some (.tup (outB (hold Y t))) → Q (.ref p) H'
theorem ok_held {k n : Nat} (F : Fun K "_law_held" "_law_held" sHeld f fd) (GV : FnG P w K mg base CX0 k "_law_valued" ["_law_look", "_law_eyes"] (spValued K n)) (GH : FnG P w K mg base CX0 k "_law_held" ["_law_test", "_law_eyes"] (spHeld K n)) :
    FnOk P w K mg base CX0 (k + 1) f fd ["_law_test", "_law_eyes"] (spHeld K (n + 1)) := by
  obtain ⟨_, _, G__law_valued, m__law_valued, k__law_valued, b__law_valued⟩ := GV
  obtain ⟨_, _, G__law_held, m__law_held, k__law_held, b__law_held⟩ := GH
  have sc := scHeld
  refine F.ok sc (fun vs H Q E h => ?_) (fun cdv A outer s H vs Q E hr h => ?_)
  · obtain ⟨v, e, t, Y, ws, x3, rfl, _⟩ := h
    rfl
  obtain ⟨v, e, t, Y, ws, x3, rfl, hT, oT, gT, hd, hE, oE, hrow, q⟩ := h
  refine ⟨_, (pss_cons (ps_if (pt_cmpR op_eq (pe_ix ix_tup (pv 0) pe_int (fun _ _ => rfl)) pe_str (nomark _)) (pss_one (ps_ret (pe_tup (pa_cons (pe_cmpR op_in_seq (pe_ix ix_tup (pv 0) pe_int (fun _ _ => rfl)) (pe_ix ix_tup (pv 1) pe_int (fun _ _ => rfl)) (by rfl)) (pa_cons pe_non pa_nil))))) pss_nil)
      (pss_cons (ps_if (pt_cmpR op_in_seq (pe_ix ix_tup (pv 0) pe_int (fun _ _ => rfl)) (pe_tup (pa_cons pe_str (pa_cons pe_str pa_nil))) (by rfl)) (pss_cons (ps_asg (pe_call G__law_valued (hr.mono (by omega)) (by rfl) m__law_valued k__law_valued b__law_valued .nil pass0 (pa_cons (pe_ix ix_tup (pv 0) pe_int (fun _ _ => rfl)) (pa_cons (pv 1) pa_nil))) (pg_tup (by rfl) (pgs_cons (pg_name (i := 2) sc.nd rfl (.inl rfl)) (pgs_cons (pg_name (i := 3) sc.nd rfl (.inl rfl)) pgs_nil))))
      (pss_cons (ps_if (pt_cmpR op_isN (pv 3) pe_non (nomark _)) (pss_one (ps_asg (pe_call G__law_valued (hr.mono (by omega)) (by rfl) m__law_valued k__law_valued b__law_valued .nil pass0 (pa_cons (pe_ix ix_tup (pv 0) pe_int (fun _ _ => rfl)) (pa_cons (pv 1) pa_nil))) (pg_tup (by rfl) (pgs_cons (pg_name (i := 4) sc.nd rfl (.inl rfl)) (pgs_cons (pg_name (i := 3) sc.nd rfl (.inl rfl)) pgs_nil))))) pss_nil)
      (pss_cons (ps_if (pt_cmpR op_notN (pv 3) pe_non (nomark _)) (pss_one (ps_ret (pe_tup (pa_cons pe_non (pa_cons (pv 3) pa_nil))))) pss_nil)
      (pss_one (ps_ret (pe_tup (pa_cons (pe_ifExp (pt_cmpR op_eq (pe_ix ix_tup (pv 0) pe_int (fun _ _ => rfl)) pe_str (nomark _)) (pe_cmpR op_eq (pv 2) (pv 4) (nomark _)) (pe_cmpR op_lt (pv 2) (pv 4) (nomark _))) (pa_cons pe_non pa_nil)))))))) pss_nil)
      (pss_cons (ps_asg (pe_call G__law_held (hr.mono (by omega)) (by rfl) m__law_held k__law_held b__law_held .nil pass0 (pa_cons (pe_ix ix_tup (pv 0) pe_int (fun _ _ => rfl)) (pa_cons (pv 1) pa_nil))) (pg_tup (by rfl) (pgs_cons (pg_name (i := 5) sc.nd rfl (.inl rfl)) (pgs_cons (pg_name (i := 3) sc.nd rfl (.inl rfl)) pgs_nil))))
      (pss_cons (ps_if (PW.pt (pw_or (pt_cmpR op_notN (pv 3) pe_non (nomark _)) (pw_or1 (pt_cmpR op_eq (pe_ix ix_tup (pv 0) pe_int (fun _ _ => rfl)) pe_str (nomark _))))) (pss_one (ps_ret (pe_ifExp (pt_cmpR op_notN (pv 3) pe_non (nomark _)) (pe_tup (pa_cons pe_non (pa_cons (pv 3) pa_nil))) (pe_tup (pa_cons (pe_not (pv 5)) (pa_cons pe_non pa_nil)))))) pss_nil)
      (pss_one (ps_ret (pe_ifExp (pt_cmpR op_eq (pv 5) (pe_cmpR op_eq (pe_ix ix_tup (pv 0) pe_int (fun _ _ => rfl)) pe_str (nomark _)) (nomark _)) (pe_tup (pa_cons (pv 5) (pa_cons pe_non pa_nil))) (pe_call G__law_held (hr.mono (by omega)) (by rfl) m__law_held k__law_held b__law_held .nil pass0 (pa_cons (pe_ix ix_tup (pv 0) pe_int (fun _ _ => rfl)) (pa_cons (pv 1) pa_nil)))))))))), ?_⟩
  have z2 : 2 ≤ sizeLine := by decide
  obtain ⟨en, el, es, em, ps, rs, hS, n1, n2, l1, l2, s1, m1⟩ := eyD_at hE
  cases t with
  | meets x =>
    obtain ⟨a, u, y, rfl, ha, hu, hy⟩ := dp_pair hT
    rw [dp_str hu, dp_str hy] at ha
    refine ⟨_, rfl, a, _, 0, _, rfl, rfl, ha, rfl, rfl, _, rfl, iteB (by decide +kernel) ?_⟩
    refine ⟨_, rfl, a, _, 1, _, rfl, rfl, ha, rfl, _, rfl, e, _, 3, _, rfl, rfl, hS, rfl, em, _, rfl, .inl m1, rfl, flat_met _, z2, fun p np => q p _ (same_upd np) ?_⟩
    rw [upd_same]
    show some (HO.tup [.bl (inV (.str x) (Y.met.map V.str)), .non]) = _
    rw [in_met]
    rfl
  | not_ t =>
    obtain ⟨a, u, y, rfl, ha, hu, hy⟩ := dp_pair hT
    rw [dp_str hu] at ha
    refine ⟨_, rfl, a, _, 0, _, rfl, rfl, ha, rfl, rfl, _, rfl, iteBF (by decide +kernel) ?_⟩
    refine ⟨_, rfl, a, _, 0, _, rfl, rfl, ha, rfl, z2, fun t0 nt => ⟨t0, _, rfl, .inr (SqT.of upd_same), rfl, by decide +kernel, _, rfl, iteBF (by decide +kernel) ?_⟩⟩
    have sT : Same H (upd H t0 (.tup [.str "like", .str "below"])) := same_upd nt
    refine ⟨_, rfl, a, _, 1, _, rfl, rfl, seqT sT ha, rfl, _, rfl, y, e, t, Y, ws, x3, rfl, dp_same sT _ _ hy, oT, gT, Nat.le_of_succ_le_succ hd, dp_same sT _ _ hE, oE, hrow, fun p1 H1 s1 h1 => ?_⟩
    have sA := sT.trans s1
    have q1 : ∀ p H', Same H H' → H' p = some (.tup (outB (thenB (hold Y t) fun b => .ok (!b)))) → Q (.ref p) H' := q
    cases ev : hold Y t with
    | error z =>
      rw [ev] at h1 q1
      refine ⟨p1, _, rfl, SqT.of h1, rfl, _, _, rfl, _, _, rfl, rfl, _, rfl, rfl, _, rfl, iteT ?_⟩
      refine iteT ⟨_, rfl, rfl, _, rfl, iteT ⟨_, rfl, z2, fun p np => q1 p _ (sA.trans (same_upd np)) upd_same⟩⟩
    | ok b =>
      rw [ev] at h1 q1
      refine ⟨p1, _, rfl, SqT.of h1, rfl, _, _, rfl, _, _, rfl, rfl, _, rfl, rfl, _, rfl, iteF ?_⟩
      refine ⟨_, rfl, a, _, 0, _, rfl, rfl, seqT sA ha, rfl, rfl, _, rfl, iteB (by decide +kernel) ?_⟩
      refine ⟨_, rfl, rfl, _, rfl, iteF ⟨_, rfl, _, rfl, z2, fun p np => q1 p _ (sA.trans (same_upd np)) upd_same⟩⟩
  | both t u =>
    obtain ⟨a, wv, x, y, rfl, ha, hwv, hx, hy⟩ := dp_tri hT
    rw [dp_str hwv] at ha
    have hd' : max t.deep u.deep ≤ n := Nat.le_of_succ_le_succ hd
    refine ⟨_, rfl, a, _, 0, _, rfl, rfl, ha, rfl, rfl, _, rfl, iteBF (by decide +kernel) ?_⟩
    refine ⟨_, rfl, a, _, 0, _, rfl, rfl, ha, rfl, z2, fun t0 nt => ⟨t0, _, rfl, .inr (SqT.of upd_same), rfl, by decide +kernel, _, rfl, iteBF (by decide +kernel) ?_⟩⟩
    have sT : Same H (upd H t0 (.tup [.str "like", .str "below"])) := same_upd nt
    refine ⟨_, rfl, a, _, 1, _, rfl, rfl, seqT sT ha, rfl, _, rfl, x, e, t, Y, ws, x3, rfl, dp_same sT _ _ hx, oT.1, gT.1, by omega, dp_same sT _ _ hE, oE, hrow, fun p1 H1 s1 h1 => ?_⟩
    have sA := sT.trans s1
    have q1 : ∀ p H', Same H H' → H' p = some (.tup (outB (thenB (hold Y t) fun b => if b = true then hold Y u else .ok false))) → Q (.ref p) H' := q
    cases ev : hold Y t with
    | error z =>
      rw [ev] at h1 q1
      refine ⟨p1, _, rfl, SqT.of h1, rfl, _, _, rfl, _, _, rfl, rfl, _, rfl, rfl, _, rfl, iteT ?_⟩
      refine iteT ⟨_, rfl, rfl, _, rfl, iteT ⟨_, rfl, z2, fun p np => q1 p _ (sA.trans (same_upd np)) upd_same⟩⟩
    | ok b =>
      rw [ev] at h1 q1
      refine ⟨p1, _, rfl, SqT.of h1, rfl, _, _, rfl, _, _, rfl, rfl, _, rfl, rfl, _, rfl, iteF ?_⟩
      refine ⟨_, rfl, a, _, 0, _, rfl, rfl, seqT sA ha, rfl, rfl, _, rfl, iteBF (by decide +kernel) ?_⟩
      refine ⟨_, rfl, _, rfl, a, _, 0, _, rfl, rfl, seqT sA ha, rfl, rfl, rfl, _, rfl, ?_⟩
      cases b with
      | true =>
        refine iteBF (by decide +kernel) ?_
        exact ⟨_, rfl, a, _, 2, _, rfl, rfl, seqT sA ha, rfl, _, rfl, y, e, u, Y, ws, x3, rfl, dp_same sA _ _ hy, oT.2, gT.2, by omega, dp_same sA _ _ hE, oE, hrow, fun p H' s h => q1 p H' (sA.trans s) h⟩
      | false =>
        refine iteB (by decide +kernel) ?_
        exact ⟨_, rfl, z2, fun p np => q1 p _ (sA.trans (same_upd np)) upd_same⟩
  | any_ t u =>
    obtain ⟨a, wv, x, y, rfl, ha, hwv, hx, hy⟩ := dp_tri hT
    rw [dp_str hwv] at ha
    have hd' : max t.deep u.deep ≤ n := Nat.le_of_succ_le_succ hd
    refine ⟨_, rfl, a, _, 0, _, rfl, rfl, ha, rfl, rfl, _, rfl, iteBF (by decide +kernel) ?_⟩
    refine ⟨_, rfl, a, _, 0, _, rfl, rfl, ha, rfl, z2, fun t0 nt => ⟨t0, _, rfl, .inr (SqT.of upd_same), rfl, by decide +kernel, _, rfl, iteBF (by decide +kernel) ?_⟩⟩
    have sT : Same H (upd H t0 (.tup [.str "like", .str "below"])) := same_upd nt
    refine ⟨_, rfl, a, _, 1, _, rfl, rfl, seqT sT ha, rfl, _, rfl, x, e, t, Y, ws, x3, rfl, dp_same sT _ _ hx, oT.1, gT.1, by omega, dp_same sT _ _ hE, oE, hrow, fun p1 H1 s1 h1 => ?_⟩
    have sA := sT.trans s1
    have q1 : ∀ p H', Same H H' → H' p = some (.tup (outB (thenB (hold Y t) fun b => if b = true then .ok true else hold Y u))) → Q (.ref p) H' := q
    cases ev : hold Y t with
    | error z =>
      rw [ev] at h1 q1
      refine ⟨p1, _, rfl, SqT.of h1, rfl, _, _, rfl, _, _, rfl, rfl, _, rfl, rfl, _, rfl, iteT ?_⟩
      refine iteT ⟨_, rfl, rfl, _, rfl, iteT ⟨_, rfl, z2, fun p np => q1 p _ (sA.trans (same_upd np)) upd_same⟩⟩
    | ok b =>
      rw [ev] at h1 q1
      refine ⟨p1, _, rfl, SqT.of h1, rfl, _, _, rfl, _, _, rfl, rfl, _, rfl, rfl, _, rfl, iteF ?_⟩
      refine ⟨_, rfl, a, _, 0, _, rfl, rfl, seqT sA ha, rfl, rfl, _, rfl, iteBF (by decide +kernel) ?_⟩
      refine ⟨_, rfl, _, rfl, a, _, 0, _, rfl, rfl, seqT sA ha, rfl, rfl, rfl, _, rfl, ?_⟩
      cases b with
      | true =>
        refine iteB (by decide +kernel) ?_
        exact ⟨_, rfl, z2, fun p np => q1 p _ (sA.trans (same_upd np)) upd_same⟩
      | false =>
        refine iteBF (by decide +kernel) ?_
        exact ⟨_, rfl, a, _, 2, _, rfl, rfl, seqT sA ha, rfl, _, rfl, y, e, u, Y, ws, x3, rfl, dp_same sA _ _ hy, oT.2, gT.2, by omega, dp_same sA _ _ hE, oE, hrow, fun p H' s h => q1 p H' (sA.trans s) h⟩
  | like L M =>
    obtain ⟨a, wv, x, y, rfl, ha, hwv, hx, hy⟩ := dp_tri hT
    rw [dp_str hwv] at ha
    have hd' : max L.deep M.deep ≤ n := Nat.le_of_succ_le_succ hd
    refine ⟨_, rfl, a, _, 0, _, rfl, rfl, ha, rfl, rfl, _, rfl, iteBF (by decide +kernel) ?_⟩
    refine ⟨_, rfl, a, _, 0, _, rfl, rfl, ha, rfl, z2, fun t0 nt => ⟨t0, _, rfl, .inr (SqT.of upd_same), rfl, by decide +kernel, _, rfl, iteB (by decide +kernel) ?_⟩⟩
    have sT : Same H (upd H t0 (.tup [.str "like", .str "below"])) := same_upd nt
    refine ⟨_, rfl, a, _, 1, _, rfl, rfl, seqT sT ha, rfl, _, rfl, x, e, L, Y, ws, x3, rfl, dp_same sT _ _ hx, oT.1, gT.1, by omega, dp_same sT _ _ hE, oE, hrow, fun p1 H1 s1 h1 => ?_⟩
    have sA := sT.trans s1
    have q1 : ∀ p H', Same H H' → H' p = some (.tup (outB (thenB (val Y L) fun i => thenB (val Y M) fun j => .ok (decide (i = j))))) → Q (.ref p) H' := q
    cases ev : val Y L with
    | error z =>
      rw [ev] at h1 q1
      exact ⟨p1, _, rfl, SqT.of h1, rfl, _, _, rfl, _, _, rfl, rfl, _, rfl, rfl, _, rfl, iteF ⟨_, rfl, rfl, _, rfl, iteT ⟨_, rfl, z2, fun p np => q1 p _ (sA.trans (same_upd np)) upd_same⟩⟩⟩
    | ok i =>
      rw [ev] at h1 q1
      refine ⟨p1, _, rfl, SqT.of h1, rfl, _, _, rfl, _, _, rfl, rfl, _, rfl, rfl, _, rfl, iteT ?_⟩
      refine ⟨_, rfl, a, _, 2, _, rfl, rfl, seqT sA ha, rfl, _, rfl, y, e, M, Y, ws, x3, rfl, dp_same sA _ _ hy, oT.2, gT.2, by omega, dp_same sA _ _ hE, oE, hrow, fun p2 H2 s2 h2 => ?_⟩
      have sB := sA.trans s2
      have q2 : ∀ p H', Same H H' → H' p = some (.tup (outB (thenB (val Y M) fun j => .ok (decide (i = j))))) → Q (.ref p) H' := q1
      cases ew : val Y M with
      | error z =>
        rw [ew] at h2 q2
        exact ⟨p2, _, rfl, SqT.of h2, rfl, _, _, rfl, _, _, rfl, rfl, _, rfl, rfl, _, rfl, iteT ⟨_, rfl, z2, fun p np => q2 p _ (sB.trans (same_upd np)) upd_same⟩⟩
      | ok j =>
        rw [ew] at h2 q2
        refine ⟨p2, _, rfl, SqT.of h2, rfl, _, _, rfl, _, _, rfl, rfl, _, rfl, rfl, _, rfl, iteF ?_⟩
        refine ⟨_, rfl, a, _, 0, _, rfl, rfl, seqT sB ha, rfl, rfl, _, rfl, iteB (by decide +kernel) ⟨_, rfl, _, rfl, rfl, z2, fun p np => q2 p _ (sB.trans (same_upd np)) ?_⟩⟩
        rw [upd_same]
        show some (HO.tup [.bl (decide (V.int i = V.int j)), .non]) = some (HO.tup [.bl (decide (i = j)), .non])
        by_cases z : i = j
        · rw [decide_eq_true z, decide_eq_true (by rw [z])]
        · rw [decide_eq_false z, decide_eq_false (fun y => z (V.int.inj y))]
  | less L M =>
    obtain ⟨a, wv, x, y, rfl, ha, hwv, hx, hy⟩ := dp_tri hT
    rw [dp_str hwv] at ha
    have hd' : max L.deep M.deep ≤ n := Nat.le_of_succ_le_succ hd
    refine ⟨_, rfl, a, _, 0, _, rfl, rfl, ha, rfl, rfl, _, rfl, iteBF (by decide +kernel) ?_⟩
    refine ⟨_, rfl, a, _, 0, _, rfl, rfl, ha, rfl, z2, fun t0 nt => ⟨t0, _, rfl, .inr (SqT.of upd_same), rfl, by decide +kernel, _, rfl, iteB (by decide +kernel) ?_⟩⟩
    have sT : Same H (upd H t0 (.tup [.str "like", .str "below"])) := same_upd nt
    refine ⟨_, rfl, a, _, 1, _, rfl, rfl, seqT sT ha, rfl, _, rfl, x, e, L, Y, ws, x3, rfl, dp_same sT _ _ hx, oT.1, gT.1, by omega, dp_same sT _ _ hE, oE, hrow, fun p1 H1 s1 h1 => ?_⟩
    have sA := sT.trans s1
    have q1 : ∀ p H', Same H H' → H' p = some (.tup (outB (thenB (val Y L) fun i => thenB (val Y M) fun j => .ok (decide (i < j))))) → Q (.ref p) H' := q
    cases ev : val Y L with
    | error z =>
      rw [ev] at h1 q1
      exact ⟨p1, _, rfl, SqT.of h1, rfl, _, _, rfl, _, _, rfl, rfl, _, rfl, rfl, _, rfl, iteF ⟨_, rfl, rfl, _, rfl, iteT ⟨_, rfl, z2, fun p np => q1 p _ (sA.trans (same_upd np)) upd_same⟩⟩⟩
    | ok i =>
      rw [ev] at h1 q1
      refine ⟨p1, _, rfl, SqT.of h1, rfl, _, _, rfl, _, _, rfl, rfl, _, rfl, rfl, _, rfl, iteT ?_⟩
      refine ⟨_, rfl, a, _, 2, _, rfl, rfl, seqT sA ha, rfl, _, rfl, y, e, M, Y, ws, x3, rfl, dp_same sA _ _ hy, oT.2, gT.2, by omega, dp_same sA _ _ hE, oE, hrow, fun p2 H2 s2 h2 => ?_⟩
      have sB := sA.trans s2
      have q2 : ∀ p H', Same H H' → H' p = some (.tup (outB (thenB (val Y M) fun j => .ok (decide (i < j))))) → Q (.ref p) H' := q1
      cases ew : val Y M with
      | error z =>
        rw [ew] at h2 q2
        exact ⟨p2, _, rfl, SqT.of h2, rfl, _, _, rfl, _, _, rfl, rfl, _, rfl, rfl, _, rfl, iteT ⟨_, rfl, z2, fun p np => q2 p _ (sB.trans (same_upd np)) upd_same⟩⟩
      | ok j =>
        rw [ew] at h2 q2
        refine ⟨p2, _, rfl, SqT.of h2, rfl, _, _, rfl, _, _, rfl, rfl, _, rfl, rfl, _, rfl, iteF ?_⟩
        refine ⟨_, rfl, a, _, 0, _, rfl, rfl, seqT sB ha, rfl, rfl, _, rfl, iteBF (by decide +kernel) ⟨_, rfl, _, rfl, _, _, rfl, rfl, z2, fun p np => q2 p _ (sB.trans (same_upd np)) upd_same⟩⟩
theorem ok_helds (D : Df K mg "_law_held" sHeld ["_law_test", "_law_eyes"] f fd) (GV : ∀ n, FnG P w K mg base CX0 (n + 3) "_law_valued" ["_law_look", "_law_eyes"] (spValued K n)) : ∀ n, FnG P w K mg base CX0 (n + 3) "_law_held" ["_law_test", "_law_eyes"] (spHeld K n)
  | 0 => ⟨f, fd, ⟨fun vs H Q E h => by
      obtain ⟨v, e, t, Y, ws, x3, rfl, _⟩ := h
      rfl, fun A outer s H args us vs Q E _ _ _ _ h => by
      obtain ⟨v, e, t, Y, ws, x3, _, _, _, _, h1, _⟩ := h
      exact absurd h1 (by cases t <;> simp [Ts.deep])⟩, D.m, D.F.kp, D.b⟩
  | n + 1 => D.g (ok_held (k := n + 3) D.F (GV n) (ok_helds D GV n))
/-! ### _law_shut -/
abbrev sShut : Stmt := top 61
theorem scShut : FnScope ["_law_frames", "_law_kind", "_law_pairs"] ["_law_frames"] (defScope sShut) := ⟨rfl, rfl, rfl, by decide +kernel, rfl, by decide +kernel, by decide +kernel⟩
def spShut (K : PySem.W.Frag) : Sp := fun vs H Q _ => ∃ (v : V) (fs : List Fr), vs = [v] ∧ Dp K H v (frD fs) ∧ fs.length ≤ 900 ∧ ∀ H', Same H H' → Q (.bl (closed fs)) H'
theorem fr_at {K : PySem.W.Frag} {H : Hp} {v : V} {fs : List Fr} (h : Dp K H v (frD fs)) : ∃ a xs, v = .ref a ∧ SqT K H a xs ∧ xs.length = fs.length ∧ ∀ (i : Nat) (x : V), xs[i]? = some x → ∃ f t y, fs[i]? = some f ∧ x = .ref t ∧ SqT K H t [.str f.1, y] ∧ Dp K H y (.tuple (f.2.map prD)) := by
  obtain ⟨a, xs, rfl, h1, h2⟩ := dp_tup h
  refine ⟨a, xs, rfl, h1, by rw [dpAll_len h2, List.length_map], fun i x hx => ?_⟩
  obtain ⟨d, hd, hdx⟩ := dpAll_at h2 hx
  rw [List.getElem?_map] at hd
  obtain ⟨f, hf, rfl⟩ := Option.map_eq_some_iff.mp hd
  obtain ⟨t, u, y, rfl, ht, hu, hy⟩ := dp_pair hdx
  rw [dp_str hu] at ht
  exact ⟨f, t, y, hf, rfl, ht, hy⟩
theorem in_kinds : ∀ fs : List Fr, inV (.str "closed") (fs.map fun f => V.str f.1) = closed fs
  | [] => rfl
  | f :: fs => by
    show (eqV (.str f.1) (.str "closed") || inV (.str "closed") (fs.map fun f => V.str f.1)) = (decide (f.1 = "closed") || closed fs)
    rw [in_kinds fs]
    congr 1
theorem flat_kinds : ∀ fs : List Fr, (fs.map fun f => V.str f.1).all flatV = true
  | [] => rfl
  | _ :: r => by rw [List.map_cons, List.all_cons, flat_kinds r]; rfl
theorem ok_shut {k : Nat} (F : Fun K "_law_shut" "_law_shut" sShut f fd) : FnOk P w K mg base CX0 (k + 1) f fd ["_law_frames"] (spShut K) := by
  have sc := scShut
  refine F.ok sc (fun vs H Q E h => ?_) (fun cdv A outer s H vs Q E hr h => ?_)
  · obtain ⟨v, fs, rfl, _⟩ := h
    rfl
  obtain ⟨v, fs, rfl, hF, hl, q⟩ := h
  refine ⟨_, (pss_one (ps_ret (pe_cmpR op_in_seq pe_str (pe_lc (own := [("_law_kind", 1), ("_law_pairs", 2)]) (g := gTup K 2 (gCons (gName 1) (gCons (gName 2) gNil))) (by rfl) sc.nd  (pi_tup (pv 0)) (blkOk_by (own := [("_law_kind", 1), ("_law_pairs", 2)]) (N := ["_law_frames", "_law_kind", "_law_pairs"]) (sc := defScope sShut) (by decide +kernel)) (fun _ _ _ _ _ => (pg_tup (by rfl) (pgs_cons (pg_name (i := 1) sc.nd rfl (.inl rfl)) (pgs_cons (pg_name (i := 2) sc.nd rfl (.inl rfl)) pgs_nil)))) (fun _ _ _ _ _ => pts_nil) (fun _ _ _ _ _ => (pv 1))) (by rfl)))), ?_⟩
  obtain ⟨a, xs, rfl, ha, hlen, hat⟩ := fr_at hF
  refine ⟨_, rfl, a, rfl, ⟨_, ha⟩, fun D nD => lc_it (walk_tup (xs := xs)) (fun i H' => Same H H' ∧ H' D = some (.lst ((fs.take i).map fun f => V.str f.1))) ⟨same_upd nD, upd_same⟩ (fun _ _ _ h => seqT h.1 ha) ?_ ?_⟩
  · rintro i x _ H1 hi ⟨s1, hD⟩ ⟨rfl, ex⟩
    obtain ⟨f1, t, y, hf, rfl, ht, _⟩ := hat i x ex
    refine ⟨t, _, rfl, seqT s1 ht, rfl, _, _, rfl, _, _, rfl, rfl, rfl, yesI ?_⟩
    refine iteT ⟨_, rfl, _, hD, small1000 (by rw [List.length_map, List.length_take]; omega), fun b o h => ?_, ?_⟩
    · rw [upd_ne (fun z => by rw [z, nD] at h; cases h)]
      exact s1 _ _ h
    · rw [upd_same, List.take_succ, hf, List.map_append]
      rfl
  · rintro H1 ⟨s1, hD⟩
    rw [List.take_of_length_le (by rw [hlen]; exact Nat.le_refl _)] at hD
    refine ⟨D, _, rfl, .inl (SqL.of hD), rfl, flat_kinds _, ?_⟩
    rw [show (if false = true then !inV (V.str "closed") (fs.map fun f => V.str f.1) else inV (V.str "closed") (fs.map fun f => V.str f.1)) = closed fs from in_kinds fs]
    exact q _ s1
end
end Fd

set_option Elab.async false
set_option linter.all false
set_option maxRecDepth 100000
set_option maxHeartbeats 2000000
namespace Fd
open PySem PySem.Spec PyProof.Rows L2
/-! ### items of a rest -/
inductive It where
  | wait (L : Lk) | until_ (t : Ts) | if_ (t : Ts) (a b : List PyData) | times (L : Lk) (b : List PyData) | while_ (t : Ts) (b : List PyData) | ever (b : List PyData) | round (d : PyData) | do_ (x : Str) (Ls : List Lk) | out
def It.word : It → Str
  | .wait _ => "wait" | .until_ _ => "until" | .if_ .. => "if" | .times .. => "times" | .while_ .. => "while" | .ever _ => "ever" | .round _ => "round" | .do_ .. => "do" | .out => "out"
def It.parts : It → List PyData
  | .wait L => [lkD L]
  | .until_ t => [tsD t]
  | .if_ t a b => [tsD t, .tuple a, .tuple b]
  | .times L b => [lkD L, .tuple b]
  | .while_ t b => [tsD t, .tuple b]
  | .ever b => [.tuple b]
  | .round d => [d]
  | .do_ x Ls => [.str x, .tuple (Ls.map lkD)]
  | .out => []
def itD (i : It) : PyData := .tuple (.str i.word :: i.parts)
abbrev Pc : Type := Str × Str × List Str × List PyData
def p1D (p : Pc) : PyData := .tuple [.str p.1, .str p.2.1, .tuple (p.2.2.1.map .str), .tuple p.2.2.2]
def pcD (ps : List Pc) : PyData := .tuple (ps.map p1D)
abbrev Un : Type := Except Str (List PyData × List Fr × Bool)
def vals (Y : Ey) : List Lk → Except Str (List Int)
  | [] => .ok []
  | L :: Ls => thenB (val Y L) fun v => thenB (vals Y Ls) fun vs => .ok (v :: vs)
def unroll (Y : Ey) (fs : List Fr) (ps : List Pc) : It → Un
  | .wait L => thenB (val Y L) fun v => if v < 1 then .ok ([], fs, false) else if closed fs = true then .error "closed" else .ok ([.tuple [.str "wait", .int (v - 1)]], fs, true)
  | .until_ t => thenB (hold Y t) fun b => if b = true then .ok ([], fs, false) else if closed fs = true then .error "closed" else .ok ([itD (.until_ t)], fs, true)
  | .if_ t a b => thenB (hold Y t) fun x => .ok (if x = true then a else b, fs, false)
  | .times L b => thenB (val Y L) fun v => if v < 1 then .ok ([], fs, false) else .ok (b ++ [.tuple [.str "round", .tuple [.str "times", .int (v - 1), .tuple b]]], fs, false)
  | .while_ t b => thenB (hold Y t) fun x => if x = true then .ok (b ++ [.tuple [.str "round", itD (.while_ t b)]], fs, false) else .ok ([], fs, false)
  | .ever b => .ok (b ++ [.tuple [.str "round", itD (.ever b)]], fs, false)
  | .round d => .ok ([d], fs, !closed fs)
  | .do_ x Ls => thenB (vals Y Ls) fun vs => if 6 ≤ fs.length then .error "deep" else match ps.find? (fun p => decide (p.1 = x)) with
    | some p => .ok (p.2.2.2 ++ [.tuple [.str "out"]], fs ++ [(p.2.1, p.2.2.1.zip vs)], false)
    | none => .error "none"
  | .out => .ok ([], fs.dropLast, false)
/-- its looks and tests are six deep at most -/
def It.ok6 : It → Prop
  | .wait L => L.deep ≤ 6
  | .until_ t => t.deep ≤ 6
  | .if_ t _ _ => t.deep ≤ 6
  | .times L _ => L.deep ≤ 6
  | .while_ t _ => t.deep ≤ 6
  | .do_ _ Ls => Ls.length ≤ 10 ∧ ∀ L ∈ Ls, L.deep ≤ 6
  | _ => True
/-- its looks and tests, of these words -/
def It.okW (ws : List Str) : It → Prop
  | .wait L => LkOk ws L
  | .until_ t => TsOk ws t
  | .if_ t _ _ => TsOk ws t
  | .times L _ => LkOk ws L
  | .while_ t _ => TsOk ws t
  | .do_ _ Ls => ∀ L ∈ Ls, LkOk ws L
  | _ => True
/-- the piece that it enters is there, with as many params as looks -/
def It.okP (ps : List Pc) : It → Prop
  | .do_ x Ls => ∃ p, ps.find? (fun p => decide (p.1 = x)) = some p ∧ p.2.2.1.length = Ls.length ∧ p.2.2.2.length ≤ 100 ∧ (∀ d ∈ p.2.2.2, OkD 14 d) ∧ ps.length ≤ 900
  | _ => True
def ComesU (K : PySem.W.Frag) (C : Addr) (H : Hp) (r : Un) (Q : VK) (E : XK) : Prop := match r with
  | .ok (its, fs, g) => ∀ p vi vf H', Same H H' → H' p = some (.tup [vi, vf, .bl g]) → Dp K H' vi (.tuple its) → Dp K H' vf (frD fs) → Q (.ref p) H'
  | .error z => ∀ H', Same H H' → Falls C E H' z
section
variable {P : Program} {w : World} {K : PySem.W.Frag} {mg : Str → Option Value} {base : Heap} {f C fI : Addr} {fd : FuncData}
/-! ### tupled -/
abbrev sTupled : Stmt := top 28
theorem scTupled : FnScope ["thing", "part"] ["thing"] (defScope sTupled) := ⟨rfl, rfl, rfl, by decide +kernel, rfl, by decide +kernel, by decide +kernel⟩
def spTupled (K : PySem.W.Frag) (n : Nat) : Sp := fun vs H Q _ => ∃ (v : V) (d : PyData) (as : List Addr), vs = [v] ∧ (∀ b ∈ as, ∃ u, H b = some u) ∧ Dp K (rmL as H) v d ∧ OkD n d ∧ ∀ v' H', Same H H' → Dp K (rmL as H') v' (tupD d) → Q v' H'
theorem ok_tupled {k n : Nat} (F : Fun K "tupled" "tupled" sTupled f fd) (G : FnG P w K mg base CX0 k "tupled" ["thing"] (spTupled K n)) (m_isinstance : mg "isinstance" = none) (m_list : mg "list" = none) (m_tuple : mg "tuple" = none) :
    FnOk P w K mg base CX0 (k + 1) f fd ["thing"] (spTupled K (n + 1)) := by
  obtain ⟨_, _, G_tupled, m_tupled, k_tupled, b_tupled⟩ := G
  have sc := scTupled
  refine F.ok sc (fun vs H Q E h => ?_) (fun cdv A outer s H vs Q E hr h => ?_)
  · obtain ⟨v, d, as, rfl, _⟩ := h
    rfl
  obtain ⟨v, d, as, rfl, ha, hv, ok, q⟩ := h
  refine ⟨_, (pss_cons (ps_if (pt_val (pe_callB call_isiT (by rfl) m_isinstance (by decide +kernel) (pa_cons (pv 0) (pa_cons (pe_tup (pa_cons (pe_bltn (v := .ty "list") (by rfl) m_list (by decide +kernel) rfl) (pa_cons (pe_bltn (v := .ty "tuple") (by rfl) m_tuple (by decide +kernel) rfl) pa_nil))) pa_nil)))) (pss_one (ps_ret (pe_callTy call_tuple_of (by rfl) m_tuple (by decide +kernel) (pa_cons (pe_lc (own := [("part", 1)]) (by rfl) sc.nd  (pi_or (pi_tup (pv 0)) (pi_list (pv 0))) (blkOk_by (own := [("part", 1)]) (N := ["thing", "part"]) (sc := defScope sTupled) (by decide +kernel)) (fun _ _ _ _ _ => (pg_name (i := 1) sc.nd rfl (.inl rfl))) (fun _ _ _ _ _ => pts_nil) (fun _ _ _ _ _ => (pe_call G_tupled (hr.mono (by omega)) (by rfl) m_tupled k_tupled b_tupled .nil pass0 (pa_cons (pv 1) pa_nil)))) pa_nil)))) pss_nil)
      (pss_one (ps_ret (pv 0)))), ?_⟩
  refine ⟨_, rfl, by show 2 ≤ sizeLine; decide, fun p np => ?_⟩
  have s1 : Same H (upd H p (.tup [.ty "list", .ty "tuple"])) := same_upd np
  have sE : Same (rmL as H) (upd H p (.tup [.ty "list", .ty "tuple"])) := rmL_sub.trans s1
  have turn : ∀ (ds : List PyData) (xs : List V) (D : Addr) (H2 : Hp) (i : Nat) (x : V), (upd H p (.tup [.ty "list", .ty "tuple"])) D = none → DpAll K (rmL as H) xs ds → (∀ d ∈ ds, OkD n d) → ds.length ≤ 1000 → BldD K as D (upd H p (.tup [.ty "list", .ty "tuple"])) ((ds.map tupD).take i) H2 → xs[i]? = some x →
      ∃ (v : V) (d : PyData) (as' : List Addr), x = v ∧ as' = D :: as ∧ (∀ b ∈ as', ∃ u, H2 b = some u) ∧ Dp K (rmL as' H2) v d ∧ OkD n d ∧ ∀ v' H3, Same H2 H3 → Dp K (rmL as' H3) v' (tupD d) → ∃ acc, H3 D = some (.lst acc) ∧ acc.length < sizeLine ∧ BldD K as D (upd H p (.tup [.ty "list", .ty "tuple"])) ((ds.map tupD).take (i + 1)) (upd H3 D (.lst (acc ++ [v']))) := fun ds xs D H2 i x nD hxs hok hlen B ex => by
    obtain ⟨d', ed, hd'⟩ := dpAll_at hxs ex
    have tk : (ds.map tupD).take (i + 1) = (ds.map tupD).take i ++ [tupD d'] := by rw [List.take_succ, List.getElem?_map, ed]; rfl
    refine ⟨x, d', D :: as, rfl, rfl, B.in_ s1 ha, dp_same ((rmL_but (.same s1)).trans (rmL_later nD B.1)) _ _ hd', hok d' (List.mem_of_getElem? ed), fun v' H3 s3 hv' => ?_⟩
    rw [tk]
    exact B.push nD s3 hv' (by rw [List.length_take, List.length_map]; have := (List.getElem?_eq_some_iff.mp ed).1; omega)
  have fin : ∀ (ds : List PyData) (D : Addr) (H2 : Hp), (upd H p (.tup [.ty "list", .ty "tuple"])) D = none → tupD d = .tuple (tupA ds) → BldD K as D (upd H p (.tup [.ty "list", .ty "tuple"])) (ds.map tupD) H2 → ∃ vs, H2 D = some (.lst vs) ∧ ∀ t, H2 t = none → Q (.ref t) (upd H2 t (.tup vs)) := fun ds D H2 nD hd B => by
    obtain ⟨vs, hD, hD', hv2⟩ := B.end_ nD s1 ha
    refine ⟨vs, hD, fun t nt => ?_⟩
    have sN := s1.trans B.1
    refine q _ _ (sN.trans (same_upd nt)) ?_
    rw [hd, tupA_map]
    exact .tup (SqT.of (rmL_new (fun b hb => by obtain ⟨u, hu⟩ := ha b hb; exact ⟨u, sN _ _ hu⟩) nt)) (dpAll_same (rmL_but (.same (same_upd nt))) _ _ hv2)
  have leaf : tupD d = d → Q v (upd H p (.tup [.ty "list", .ty "tuple"])) := fun e => q _ _ s1 (by rw [e]; exact dp_same (rmL_but (.same s1)) _ _ hv)
  rcases dp_split hv ok with ⟨rfl, rfl⟩ | ⟨b, rfl, rfl⟩ | ⟨i, rfl, rfl⟩ | ⟨x, rfl, rfl⟩ | ⟨a, xs, ds, rfl, hq, hxs, hlen, hok, rfl⟩ | ⟨a, xs, ds, rfl, hq, hxs, hlen, hok, rfl⟩
  · exact ⟨_, p, _, .type "NoneType", _, false, rfl, upd_same, .cons (.ty _) (.cons (.ty _) .nil), .base .non, kitLT (b1 := false) (b2 := false) (by decide +kernel) (by decide +kernel), _, rfl, iteF ⟨_, rfl, leaf rfl⟩⟩
  · exact ⟨_, p, _, .type "bool", _, false, rfl, upd_same, .cons (.ty _) (.cons (.ty _) .nil), .base (.bl b), kitLT (b1 := false) (b2 := false) (by decide +kernel) (by decide +kernel), _, rfl, iteF ⟨_, rfl, leaf rfl⟩⟩
  · exact ⟨_, p, _, .type "int", _, false, rfl, upd_same, .cons (.ty _) (.cons (.ty _) .nil), .base (.int i), kitLT (b1 := false) (b2 := false) (by decide +kernel) (by decide +kernel), _, rfl, iteF ⟨_, rfl, leaf rfl⟩⟩
  · exact ⟨_, p, _, .type "str", _, false, rfl, upd_same, .cons (.ty _) (.cons (.ty _) .nil), .base (.str x), kitLT (b1 := false) (b2 := false) (by decide +kernel) (by decide +kernel), _, rfl, iteF ⟨_, rfl, leaf rfl⟩⟩
  · refine ⟨_, p, _, .type "list", _, true, rfl, upd_same, .cons (.ty _) (.cons (.ty _) .nil), ty_lst (sE.seq hq), kitLT (b1 := true) (b2 := false) (by decide +kernel) (by decide +kernel), _, rfl, iteT (.inr ⟨_, rfl, a, rfl, ⟨_, sE.seq hq⟩, fun D nD => ?_⟩)⟩
    refine lc_it (walk_list (xs := xs)) (fun i H' => BldD K as D (upd H p (.tup [.ty "list", .ty "tuple"])) ((ds.map tupD).take i) H') ⟨same_upd nD, [], upd_same, .nil⟩ (fun _ H2 _ B => (sE.trans B.1).seq hq) ?_ ?_
    · rintro i x _ H2 hi B ⟨rfl, ex⟩
      obtain ⟨v', d', as', rfl, rfl, h1, h2, h3, h4⟩ := turn ds xs D H2 i x nD hxs hok hlen B ex
      exact ⟨rfl, yesI (iteT ⟨_, rfl, x, d', _, rfl, h1, h2, h3, h4⟩)⟩
    rintro H2 B
    rw [List.take_of_length_le (by rw [List.length_map]; exact Nat.le_of_eq (dpAll_len hxs).symm)] at B
    obtain ⟨vs, hD, ht⟩ := fin ds D H2 nD rfl B
    exact ⟨D, _, rfl, .inl ⟨SqL.of hD, ht⟩⟩
  · refine ⟨_, p, _, .type "tuple", _, true, rfl, upd_same, .cons (.ty _) (.cons (.ty _) .nil), ty_tup (seqT sE hq), kitLT (b1 := false) (b2 := true) (by decide +kernel) (by decide +kernel), _, rfl, iteT (.inl ⟨_, rfl, a, rfl, ⟨_, seqT sE hq⟩, fun D nD => ?_⟩)⟩
    refine lc_it (walk_tup (xs := xs)) (fun i H' => BldD K as D (upd H p (.tup [.ty "list", .ty "tuple"])) ((ds.map tupD).take i) H') ⟨same_upd nD, [], upd_same, .nil⟩ (fun _ H2 _ B => seqT (sE.trans B.1) hq) ?_ ?_
    · rintro i x _ H2 hi B ⟨rfl, ex⟩
      obtain ⟨v', d', as', rfl, rfl, h1, h2, h3, h4⟩ := turn ds xs D H2 i x nD hxs hok hlen B ex
      exact ⟨rfl, yesI (iteT ⟨_, rfl, x, d', _, rfl, h1, h2, h3, h4⟩)⟩
    rintro H2 B
    rw [List.take_of_length_le (by rw [List.length_map]; exact Nat.le_of_eq (dpAll_len hxs).symm)] at B
    obtain ⟨vs, hD, ht⟩ := fin ds D H2 nD rfl B
    exact ⟨D, _, rfl, .inl ⟨SqL.of hD, ht⟩⟩
theorem ok_tupleds (D : Df K mg "tupled" sTupled ["thing"] f fd) (m_isinstance : mg "isinstance" = none) (m_list : mg "list" = none) (m_tuple : mg "tuple" = none) : ∀ n, FnG P w K mg base CX0 n "tupled" ["thing"] (spTupled K n)
  | 0 => D.g ⟨fun vs H Q E h => by
      obtain ⟨v, d, as, rfl, _⟩ := h
      rfl, fun A outer s H args us vs Q E _ _ _ _ h => by
      obtain ⟨v, d, as, _, _, _, ok, _⟩ := h
      exact ok.elim⟩
  | n + 1 => D.g (ok_tupled D.F (ok_tupleds D m_isinstance m_list m_tuple n) m_isinstance m_list m_tuple)
/-! ### is_closed, refuse_closed -/
abbrev sIsClosed : Stmt := top 31
theorem scIsClosed : FnScope ["frames", "kind", "pairs"] ["frames"] (defScope sIsClosed) := ⟨rfl, rfl, rfl, by decide +kernel, rfl, by decide +kernel, by decide +kernel⟩
theorem any_closed (fs : List Fr) : (fs.map fun f => decide (V.str f.1 = V.str "closed")).any id = closed fs := by
  unfold closed
  rw [List.any_map]
  congr 1
  funext f
  show decide (V.str f.1 = V.str "closed") = decide (f.1 = "closed")
  exact decide_eq_decide.mpr ⟨fun h => V.str.inj h, fun h => by rw [h]⟩
theorem ok_isClosed {k : Nat} (F : Fun K "is_closed" "is_closed" sIsClosed f fd) (m_any : mg "any" = none) : FnOk P w K mg base CX0 (k + 1) f fd ["frames"] (spShut K) := by
  have sc := scIsClosed
  refine F.ok sc (fun vs H Q E h => ?_) (fun cdv A outer s H vs Q E hr h => ?_)
  · obtain ⟨v, fs, rfl, _⟩ := h
    rfl
  obtain ⟨v, fs, rfl, hF, hl, q⟩ := h
  refine ⟨_, (pss_one (ps_ret (pe_callB (cr_any rfl) (by rfl) m_any (by decide +kernel) (pa_cons (pe_lc (own := [("kind", 1), ("pairs", 2)]) (g := gTup K 2 (gCons (gName 1) (gCons (gName 2) gNil))) (by rfl) sc.nd  (pi_tup (pv 0)) (blkOk_by (own := [("kind", 1), ("pairs", 2)]) (N := ["frames", "kind", "pairs"]) (sc := defScope sIsClosed) (by decide +kernel)) (fun _ _ _ _ _ => (pg_tup (by rfl) (pgs_cons (pg_name (i := 1) sc.nd rfl (.inl rfl)) (pgs_cons (pg_name (i := 2) sc.nd rfl (.inl rfl)) pgs_nil)))) (fun _ _ _ _ _ => pts_nil) (fun _ _ _ _ _ => (pe_cmpR op_eq (pv 1) pe_str (nomark _)))) pa_nil)))), ?_⟩
  obtain ⟨a, xs, rfl, ha, hlen, hat⟩ := fr_at hF
  refine ⟨_, rfl, a, rfl, ⟨_, ha⟩, fun D nD => lc_it (walk_tup (xs := xs)) (fun i H' => Same H H' ∧ H' D = some (.lst (((fs.take i).map fun f => decide (V.str f.1 = V.str "closed")).map V.bl))) ⟨same_upd nD, upd_same⟩ (fun _ _ _ h => seqT h.1 ha) ?_ ?_⟩
  · rintro i x _ H1 hi ⟨s1, hD⟩ ⟨rfl, ex⟩
    obtain ⟨f1, t, y, hf, rfl, ht, _⟩ := hat i x ex
    refine ⟨t, _, rfl, seqT s1 ht, rfl, _, _, rfl, _, _, rfl, rfl, rfl, yesI ?_⟩
    refine iteT ⟨_, rfl, rfl, _, hD, small1000 (by rw [List.length_map, List.length_map, List.length_take]; omega), fun b o h => ?_, ?_⟩
    · rw [upd_ne (fun z => by rw [z, nD] at h; cases h)]
      exact s1 _ _ h
    · rw [upd_same, List.take_succ, hf, List.map_append, List.map_append]
      rfl
  · rintro H1 ⟨s1, hD⟩
    rw [List.take_of_length_le (by rw [hlen]; exact Nat.le_refl _)] at hD
    refine ⟨D, _, rfl, SqL.of hD, ?_⟩
    rw [any_closed]
    exact q _ s1
abbrev sRefuse : Stmt := top 32
def spRefuse (K : PySem.W.Frag) (C : Addr) : Sp := fun vs H Q E => ∃ (v : V) (fs : List Fr), vs = [v] ∧ Dp K H v (frD fs) ∧ fs.length ≤ 900 ∧ (closed fs = true → ∀ H', Same H H' → Falls C E H' "closed") ∧ (closed fs = false → ∀ H', Same H H' → Q .non H')
theorem ok_refuse {k : Nat} (T : PySem.FellX.FellTxt K mg C fI) (F : Fun K "refuse_closed" "refuse_closed" sRefuse f fd) (G : FnG P w K mg base CX0 k "is_closed" ["frames"] (spShut K)) : FnOk P w K mg base (L2.CX P w) (k + 2) f fd ["frames"] (spRefuse K C) := by
  obtain ⟨_, _, G_is_closed, m_is_closed, k_is_closed, b_is_closed⟩ := G
  have sc : FnScope ["frames"] ["frames"] (defScope sRefuse) := ⟨rfl, rfl, rfl, by decide +kernel, rfl, by decide +kernel, by decide +kernel⟩
  refine F.okX sc (fun vs H Q E h => ?_) (fun cdv A outer s H vs Q E hr h => ?_)
  · obtain ⟨v, fs, rfl, _⟩ := h
    rfl
  obtain ⟨v, fs, rfl, hF, hl, q1, q2⟩ := h
  refine ⟨_, (pss_one (ps_if (pt_val (pe_call G_is_closed (hr.mono (by omega)) (by rfl) m_is_closed k_is_closed b_is_closed .nil pass0 (pa_cons (pv 0) pa_nil))) (pss_one (ps_raiseFell rfl T hr (takes_of rfl rfl rfl rfl) (by exact (pa_cons pe_str pa_nil)))) pss_nil)), ?_⟩
  refine ⟨_, rfl, v, fs, rfl, hF, hl, fun H1 s1 => ⟨_, rfl, ?_⟩⟩
  cases e : closed fs with
  | true => exact iteT ⟨_, rfl, fun d nd => q1 e H1 s1 d nd⟩
  | false => exact iteF (q2 e H1 s1)
end
end Fd

set_option Elab.async false
set_option linter.all false
set_option maxRecDepth 100000
set_option maxHeartbeats 2000000
namespace Fd
open PySem PySem.Spec PyProof.Rows L2
theorem sIx_1 (n : Nat) (h : 1 ≤ n) (d : Nat) : HT.sIx n d (some (1 : Int)) = 1 := by
  rw [show (1 : Int) = ((1 : Nat) : Int) from rfl, HT.sIx_nat]
  exact Nat.min_eq_left h
theorem at0 (x : V) (xs : List V) : atI (x :: xs) 0 = some x := atI_nat (j := 0) rfl
theorem slA_rest {K : PySem.W.Frag} {H : Hp} {a : Addr} {x : V} {xs : List V} {Q : VK} (hs : SqT K H a (x :: xs)) (h : ∀ p, H p = none → Q (.ref p) (upd H p (.tup xs))) : rSlA K (.ref a) (some 1) none H Q := by
  refine ⟨a, _, rfl, hs, fun wh => ?_, fun _ p np => ?_⟩
  · have e := wh.1
    rw [sIx_1 _ (by simp)] at e
    cases e
  · rw [show cutV (x :: xs) (some 1) none = xs from cut_drop (x :: xs) 1]
    exact h p np
theorem catA_all {K : PySem.W.Frag} {H : Hp} {a b : Addr} {xs ys : List V} {Q : VK} (ha : SqT K H a xs) (hb : SqT K H b ys) (hl : xs.length + ys.length ≤ 1000) (h : ∀ p H2, Same H H2 → SqT K H2 p (xs ++ ys) → Q (.ref p) H2) : rCatA K (.ref a) (.ref b) H Q := by
  refine ⟨a, b, xs, ys, rfl, rfl, ha, hb, Nat.le_of_lt (small1000 hl), fun z => ?_, fun _ z => ?_, fun _ _ p np => h p _ (same_upd np) (SqT.of upd_same)⟩
  · subst z
    exact h b H (Same.refl _) hb
  · subst z
    exact h a H (Same.refl _) (by rw [List.append_nil]; exact ha)
section
variable {P : Program} {w : World} {K : PySem.W.Frag} {mg : Str → Option Value} {base : Heap} {f C fI cm : Addr} {fd : FuncData} {fc : Str → Addr}
def spBy (K : PySem.W.Frag) (C : Addr) (i : It) : Sp := fun vs H Q E => ∃ (vi vf : V) (e : Addr) (vp : V) (Y : Ey) (fs : List Fr) (ps : List Pc), vs = [vi, vf, .ref e, vp] ∧ Dp K H vi (itD i) ∧ Dp K H vf (frD fs) ∧ fs.length ≤ 900 ∧ Eyes K H e Y ∧ Dp K H vp (pcD ps) ∧ i.ok6 ∧ i.okP ps ∧ (∃ ws, i.okW ws) ∧ ComesU K C H (unroll Y fs ps i) Q E
abbrev GVal (P : Program) (w : World) (K : PySem.W.Frag) (mg : Str → Option Value) (base : Heap) (C : Addr) (k : Nat) : Prop := FnG P w K mg base (L2.CX P w) k "value_of" ["look", "eyes"] (spVal K C 6)
abbrev GHold (P : Program) (w : World) (K : PySem.W.Frag) (mg : Str → Option Value) (base : Heap) (C : Addr) (k : Nat) : Prop := FnG P w K mg base (L2.CX P w) k "holds" ["test", "eyes"] (spHold K C 6)
abbrev GRef (P : Program) (w : World) (K : PySem.W.Frag) (mg : Str → Option Value) (base : Heap) (C : Addr) (k : Nat) : Prop := FnG P w K mg base (L2.CX P w) k "refuse_closed" ["frames"] (spRefuse K C)
/-! ### by_wait -/
abbrev sByWait : Stmt := top 33
theorem ok_byWait {k : Nat} (F : Fun K "by_wait" "by_wait" sByWait f fd) (GV : GVal P w K mg base C k) (GR : GRef P w K mg base C k) : FnOk P w K mg base (L2.CX P w) (k + 1) f fd ["item", "frames", "eyes", "pieces"] (fun vs H Q E => ∃ L, spBy K C (.wait L) vs H Q E) := by
  obtain ⟨_, _, G_value_of, m_value_of, k_value_of, b_value_of⟩ := GV
  obtain ⟨_, _, G_refuse_closed, m_refuse_closed, k_refuse_closed, b_refuse_closed⟩ := GR
  have sc : FnScope ["item", "frames", "eyes", "pieces", "value"] ["item", "frames", "eyes", "pieces"] (defScope sByWait) := ⟨rfl, rfl, rfl, by decide +kernel, rfl, by decide +kernel, by decide +kernel⟩
  refine F.okX sc (fun vs H Q E h => ?_) (fun cdv A outer s H vs Q E hr h => ?_)
  · obtain ⟨L, vi, vf, e, vp, Y, fs, ps, rfl, _⟩ := h
    rfl
  obtain ⟨L, vi, vf, e, vp, Y, fs, ps, rfl, hi, hf, hl, hE, hp, o6, oP, ⟨ws, oW⟩, q⟩ := h
  refine ⟨_, (pss_cons (ps_set (i := 4) sc.nd rfl (.inl rfl) (pe_callS G_value_of (hr.mono (by omega)) (by rfl) m_value_of k_value_of b_value_of (fun σ => passAt (takes_of rfl rfl rfl rfl) σ) (pa_cons (pe_ix ix_tup (pv 0) pe_int (fun _ _ => rfl)) (pa_cons (pv 2) pa_nil))))
      (pss_cons (ps_if (pt_cmpR op_lt (pv 4) pe_int (nomark _)) (pss_one (ps_ret (pe_tup (pa_cons (pe_tup pa_nil) (pa_cons (pv 1) (pa_cons pe_bl pa_nil)))))) pss_nil)
      (pss_cons (ps_expr (pe_callS G_refuse_closed (hr.mono (by omega)) (by rfl) m_refuse_closed k_refuse_closed b_refuse_closed (fun σ => passAt (takes_of rfl rfl rfl rfl) σ) (pa_cons (pv 1) pa_nil)))
      (pss_one (ps_ret (pe_tup (pa_cons (pe_tup (pa_cons (pe_tup (pa_cons pe_str (pa_cons (pe_op op_sub (pv 4) pe_int) pa_nil))) pa_nil)) (pa_cons (pv 1) (pa_cons pe_bl pa_nil))))))))), ?_⟩
  have z0 : 0 ≤ sizeLine := Nat.zero_le _
  have z1 : 1 ≤ sizeLine := by decide
  have z2 : 2 ≤ sizeLine := by decide
  have z3 : 3 ≤ sizeLine := by decide
  obtain ⟨a, u, y, rfl, ha, hu, hy⟩ := dp_pair hi
  rw [dp_str hu] at ha
  have q : ComesU K C H (thenB (val Y L) fun v => if v < 1 then .ok ([], fs, false) else if closed fs = true then .error "closed" else .ok ([.tuple [.str "wait", .int (v - 1)]], fs, true)) Q E := q
  refine ⟨_, rfl, a, _, 1, _, rfl, rfl, ha, rfl, _, rfl, y, e, L, Y, rfl, lk_sd oW (sd_dp _ _ hy), o6, hE, ?_⟩
  cases ev : val Y L with
  | error z =>
    rw [ev] at q
    exact fun d nd => q H (Same.refl _) d nd
  | ok v =>
    rw [ev] at q
    have q : ComesU K C H (if v < 1 then .ok ([], fs, false) else if closed fs = true then .error "closed" else .ok ([.tuple [.str "wait", .int (v - 1)]], fs, true)) Q E := q
    refine ⟨_, rfl, _, _, rfl, rfl, _, rfl, ite2 (fun c => ?_) (fun c => ?_)⟩
    · rw [if_pos (of_decide_eq_true c)] at q
      exact ⟨z0, fun t nt => ⟨_, rfl, z3, fun p np => q p (.ref t) vf _ ((same_upd nt).trans (same_upd np)) upd_same (.tup (SqT.of (same_upd np _ _ upd_same)) .nil) (dp_same ((same_upd nt).trans (same_upd np)) _ _ hf)⟩⟩
    · rw [if_neg (fun z => c (decide_eq_true z))] at q
      refine ⟨_, rfl, vf, fs, rfl, hf, hl, fun hc H1 s1 => ?_, fun hc H1 s1 => ?_⟩
      · rw [if_pos hc] at q
        exact fun d nd => q H1 s1 d nd
      · rw [if_neg (by rw [hc]; exact Bool.false_ne_true)] at q
        refine ⟨_, rfl, _, _, rfl, rfl, z2, fun t1 n1 => ⟨z1, fun t2 n2 => ⟨_, rfl, z3, fun p np => ?_⟩⟩⟩
        have x1 := same_upd (o := .tup [.str "wait", .int (v - 1)]) n1
        have x2 := same_upd (o := .tup [.ref t1]) n2
        have x3 := same_upd (o := .tup [.ref t2, vf, .bl true]) np
        exact q p (.ref t2) vf _ (s1.trans (x1.trans (x2.trans x3))) upd_same (.tup (SqT.of (x3 _ _ upd_same)) (.cons (.tup (SqT.of ((x2.trans x3) _ _ upd_same)) (.cons (.str _) (.cons (.int _) .nil))) .nil)) (dp_same (s1.trans (x1.trans (x2.trans x3))) _ _ hf)
/-! ### by_until -/
abbrev sByUntil : Stmt := top 34
theorem ok_byUntil {k : Nat} (F : Fun K "by_until" "by_until" sByUntil f fd) (GV : GHold P w K mg base C k) (GR : GRef P w K mg base C k) : FnOk P w K mg base (L2.CX P w) (k + 1) f fd ["item", "frames", "eyes", "pieces"] (fun vs H Q E => ∃ t, spBy K C (.until_ t) vs H Q E) := by
  obtain ⟨_, _, G_holds, m_holds, k_holds, b_holds⟩ := GV
  obtain ⟨_, _, G_refuse_closed, m_refuse_closed, k_refuse_closed, b_refuse_closed⟩ := GR
  have sc : FnScope ["item", "frames", "eyes", "pieces"] ["item", "frames", "eyes", "pieces"] (defScope sByUntil) := ⟨rfl, rfl, rfl, by decide +kernel, rfl, by decide +kernel, by decide +kernel⟩
  refine F.okX sc (fun vs H Q E h => ?_) (fun cdv A outer s H vs Q E hr h => ?_)
  · obtain ⟨L, vi, vf, e, vp, Y, fs, ps, rfl, _⟩ := h
    rfl
  obtain ⟨t, vi, vf, e, vp, Y, fs, ps, rfl, hi, hf, hl, hE, hp, o6, oP, ⟨ws, oW⟩, q⟩ := h
  refine ⟨_, (pss_cons (ps_if (pt_val (pe_callS G_holds (hr.mono (by omega)) (by rfl) m_holds k_holds b_holds (fun σ => passAt (takes_of rfl rfl rfl rfl) σ) (pa_cons (pe_ix ix_tup (pv 0) pe_int (fun _ _ => rfl)) (pa_cons (pv 2) pa_nil)))) (pss_one (ps_ret (pe_tup (pa_cons (pe_tup pa_nil) (pa_cons (pv 1) (pa_cons pe_bl pa_nil)))))) pss_nil)
      (pss_cons (ps_expr (pe_callS G_refuse_closed (hr.mono (by omega)) (by rfl) m_refuse_closed k_refuse_closed b_refuse_closed (fun σ => passAt (takes_of rfl rfl rfl rfl) σ) (pa_cons (pv 1) pa_nil)))
      (pss_one (ps_ret (pe_tup (pa_cons (pe_tup (pa_cons (pv 0) pa_nil)) (pa_cons (pv 1) (pa_cons pe_bl pa_nil)))))))), ?_⟩
  have z0 : 0 ≤ sizeLine := Nat.zero_le _
  have z1 : 1 ≤ sizeLine := by decide
  have z3 : 3 ≤ sizeLine := by decide
  obtain ⟨a, u, y, rfl, ha, hu, hy⟩ := dp_pair (show Dp K H vi (.tuple [.str "until", tsD t]) from hi)
  rw [dp_str hu] at ha
  have q : ComesU K C H (thenB (hold Y t) fun b => if b = true then .ok ([], fs, false) else if closed fs = true then .error "closed" else .ok ([itD (.until_ t)], fs, true)) Q E := q
  refine ⟨_, rfl, a, _, 1, _, rfl, rfl, ha, rfl, _, rfl, y, e, t, Y, rfl, ts_sd oW (sd_dp _ _ hy), o6, hE, ?_⟩
  cases ev : hold Y t with
  | error z =>
    rw [ev] at q
    exact fun d nd => q H (Same.refl _) d nd
  | ok b =>
    rw [ev] at q
    refine ⟨_, rfl, ?_⟩
    cases b with
    | true => exact iteT ⟨z0, fun t nt => ⟨_, rfl, z3, fun p np => q p (.ref t) vf _ ((same_upd nt).trans (same_upd np)) upd_same (.tup (SqT.of (same_upd np _ _ upd_same)) .nil) (dp_same ((same_upd nt).trans (same_upd np)) _ _ hf)⟩⟩
    | false =>
      have q : ComesU K C H (if closed fs = true then .error "closed" else .ok ([itD (.until_ t)], fs, true)) Q E := q
      refine iteF ⟨_, rfl, vf, fs, rfl, hf, hl, fun hc H1 s1 => ?_, fun hc H1 s1 => ?_⟩
      · rw [if_pos hc] at q
        exact fun d nd => q H1 s1 d nd
      · rw [if_neg (by rw [hc]; exact Bool.false_ne_true)] at q
        refine ⟨_, rfl, z1, fun t2 n2 => ⟨_, rfl, z3, fun p np => ?_⟩⟩
        have x2 := same_upd (o := .tup [.ref a]) n2
        have x3 := same_upd (o := .tup [.ref t2, vf, .bl true]) np
        exact q p (.ref t2) vf _ (s1.trans (x2.trans x3)) upd_same (.tup (SqT.of (x3 _ _ upd_same)) (.cons (dp_same (s1.trans (x2.trans x3)) _ _ hi) .nil)) (dp_same (s1.trans (x2.trans x3)) _ _ hf)
/-! ### led_on -/
/-- the table of controls -/
structure Wc (K : PySem.W.Frag) (w : World) (mg : Str → Option Value) (cm : Addr) (fc : Str → Addr) : Prop where
  m : mg "CONTROLS" = some (.ref cm)
  ct : ∀ i : It, KDct K w cm i.word (.ref (fc i.word))
def ComesR (K : PySem.W.Frag) (C : Addr) (H : Hp) (r : Un) (bs : List PyData) (Q : VK) (E : XK) : Prop := match r with
  | .ok (its, fs, g) => ∀ p vi vf H', Same H H' → H' p = some (.tup [vi, vf, .bl g]) → Dp K H' vi (.tuple (its ++ bs)) → Dp K H' vf (frD fs) → Q (.ref p) H'
  | .error z => ∀ H', Same H H' → Falls C E H' z
def spLed (K : PySem.W.Frag) (C : Addr) (okI : It → Prop) : Sp := fun vs H Q E => ∃ (vr vf : V) (e : Addr) (vp : V) (i : It) (bs : List PyData) (Y : Ey) (fs : List Fr) (ps : List Pc), vs = [vr, vf, .ref e, vp] ∧ okI i ∧ Dp K H vr (.tuple (itD i :: bs)) ∧ bs.length ≤ 100 ∧ Dp K H vf (frD fs) ∧ fs.length ≤ 900 ∧ Eyes K H e Y ∧ Dp K H vp (pcD ps) ∧ i.ok6 ∧ i.okP ps ∧ (∃ ws, i.okW ws) ∧
  (∀ its fs' g, unroll Y fs ps i = .ok (its, fs', g) → its.length ≤ 900) ∧ ComesR K C H (unroll Y fs ps i) bs Q E
abbrev sLed : Stmt := top 44
theorem ok_led {k : Nat} {okI : It → Prop} (F : Fun K "led_on" "led_on" sLed f fd) (W : Wc K w mg cm fc) (HB : ∀ i, okI i → HeldX P w K mg base k (fc i.word) (spBy K C i)) : FnOk P w K mg base (L2.CX P w) (k + 1) f fd ["rest", "frames", "eyes", "pieces"] (spLed K C okI) := by
  have sc : FnScope ["rest", "frames", "eyes", "pieces", "action", "items", "after", "gives"] ["rest", "frames", "eyes", "pieces"] (defScope sLed) := ⟨rfl, rfl, rfl, by decide +kernel, rfl, by decide +kernel, by decide +kernel⟩
  refine F.okX sc (fun vs H Q E h => ?_) (fun cdv A outer s H vs Q E hr h => ?_)
  · obtain ⟨vr, vf, e, vp, i, bs, Y, fs, ps, rfl, _⟩ := h
    rfl
  obtain ⟨vr, vf, e, vp, i, bs, Y, fs, ps, rfl, oI, hR, hb, hf, hl, hE, hp, o6, oP, oW, h9, q⟩ := h
  refine ⟨_, (pss_cons (ps_set (i := 4) sc.nd rfl (.inl rfl) (pe_ix ix_kdict (pe_glob (v := .ref cm) (by rfl) W.m rfl) (pe_ix ix_tup (pe_ix ix_tup (pv 0) pe_int (fun _ _ => rfl)) pe_int (fun _ _ => rfl)) (fun _ _ => rfl)))
      (pss_cons (ps_asg (pe_callX (k := k) (i := 4) (hr.mono (by omega)) rfl (.inl rfl) (fun σ => passAt (takes_of rfl rfl rfl rfl) σ) (by exact (pa_cons (pe_ix ix_tup (pv 0) pe_int (fun _ _ => rfl)) (pa_cons (pv 1) (pa_cons (pv 2) (pa_cons (pv 3) pa_nil)))))) (pg_tup (by rfl) (pgs_cons (pg_name (i := 5) sc.nd rfl (.inl rfl)) (pgs_cons (pg_name (i := 6) sc.nd rfl (.inl rfl)) (pgs_cons (pg_name (i := 7) sc.nd rfl (.inl rfl)) pgs_nil)))))
      (pss_one (ps_ret (pe_tup (pa_cons (pe_op op_catA (pv 5) (pe_slice sl_tupA (pv 0) (po_some pe_int) po_none)) (pa_cons (pv 6) (pa_cons (pv 7) pa_nil)))))))), ?_⟩
  have z3 : 3 ≤ sizeLine := by decide
  obtain ⟨a, xs, rfl, ha, hxs⟩ := dp_tup hR
  obtain ⟨vi, xr, rfl, hvi, hxr⟩ := dpA_cons hxs
  obtain ⟨ai, xi, rfl, hai, hxi⟩ := dp_tup hvi
  obtain ⟨vw, xp, rfl, hvw, hxp⟩ := dpA_cons hxi
  rw [dp_str hvw] at hai
  refine ⟨_, rfl, a, _, 0, _, rfl, rfl, ha, at0 _ _, ai, _, 0, _, rfl, rfl, hai, at0 _ _, cm, i.word, _, rfl, rfl, W.ct i, ?_⟩
  refine ⟨fc i.word, spBy K C i, rfl, HB i oI, _, rfl, a, _, 0, _, rfl, rfl, ha, at0 _ _, _, rfl, _, rfl, _, rfl, .ref ai, vf, e, vp, Y, fs, ps, rfl, hvi, hf, hl, hE, hp, o6, oP, oW, ?_⟩
  cases ev : unroll Y fs ps i with
  | error z =>
    rw [ev] at q
    exact fun H1 s1 d nd => q H1 s1 d nd
  | ok r =>
    obtain ⟨its, fs', g⟩ := r
    rw [ev] at q
    have l9 := h9 its fs' g ev
    intro p1 v1 v2 H1 s1 h1 d1 d2
    obtain ⟨b1, ys, rfl, hb1, hys⟩ := dp_tup d1
    refine ⟨p1, _, rfl, SqT.of h1, rfl, _, _, rfl, _, _, rfl, _, _, rfl, rfl, ?_⟩
    refine ⟨_, rfl, _, rfl, 1, rfl, ?_⟩
    dsimp only [tNoPart]
    refine slA_rest (seqT s1 ha) fun pB nB => ?_
    have s2 : Same H1 (upd H1 pB (.tup xr)) := same_upd nB
    refine catA_all (seqT s2 hb1) (SqT.of upd_same) (by rw [dpAll_len hys, dpAll_len hxr]; omega) fun p2 H2 s3 hp2 => ⟨_, rfl, _, rfl, z3, fun p np => ?_⟩
    have x3 := same_upd (o := .tup [.ref p2, v2, .bl g]) np
    exact q p (.ref p2) v2 _ (s1.trans (s2.trans (s3.trans x3))) upd_same (.tup (seqT x3 hp2) (dpAll_app (dpAll_same (s1.trans (s2.trans (s3.trans x3))) _ _ hxr) (dpAll_same (s2.trans (s3.trans x3)) _ _ hys))) (dp_same (s2.trans (s3.trans x3)) _ _ d2)
/-! ### unrolled -/
def spUnr (K : PySem.W.Frag) (C : Addr) (okI : It → Prop) : Sp := fun vs H Q E => ∃ (vr vf : V) (e : Addr) (vp : V) (i : It) (bs : List PyData) (Y : Ey) (fs : List Fr) (ps : List Pc) (dr dp : PyData), vs = [vr, vf, .ref e, vp] ∧ okI i ∧ Dp K H vr dr ∧ tupD dr = .tuple (itD i :: bs) ∧ OkD 30 dr ∧ bs.length ≤ 100 ∧ Dp K H vf (frD fs) ∧ tupD (frD fs) = frD fs ∧ OkD 30 (frD fs) ∧ fs.length ≤ 900 ∧ Eyes K H e Y ∧ Dp K H vp dp ∧ tupD dp = pcD ps ∧ OkD 30 dp ∧ i.ok6 ∧ i.okP ps ∧ (∃ ws, i.okW ws) ∧
  (∀ its fs' g, unroll Y fs ps i = .ok (its, fs', g) → its.length ≤ 900) ∧ ComesR K C H (unroll Y fs ps i) bs Q E
abbrev sUnr : Stmt := top 45
theorem ok_unr {k : Nat} {okI : It → Prop} (F : Fun K "unrolled" "unrolled" sUnr f fd) (GT : FnG P w K mg base CX0 k "tupled" ["thing"] (spTupled K 30)) (GL : FnG P w K mg base (L2.CX P w) k "led_on" ["rest", "frames", "eyes", "pieces"] (spLed K C okI)) : FnOk P w K mg base (L2.CX P w) (k + 1) f fd ["rest", "frames", "eyes", "pieces"] (spUnr K C okI) := by
  obtain ⟨_, _, G_tupled, m_tupled, k_tupled, b_tupled⟩ := GT
  obtain ⟨_, _, G_led_on, m_led_on, k_led_on, b_led_on⟩ := GL
  have sc : FnScope ["rest", "frames", "eyes", "pieces"] ["rest", "frames", "eyes", "pieces"] (defScope sUnr) := ⟨rfl, rfl, rfl, by decide +kernel, rfl, by decide +kernel, by decide +kernel⟩
  refine F.okX sc (fun vs H Q E h => ?_) (fun cdv A outer s H vs Q E hr h => ?_)
  · obtain ⟨vr, vf, e, vp, i, bs, Y, fs, ps, dr, dp, rfl, _⟩ := h
    rfl
  obtain ⟨vr, vf, e, vp, i, bs, Y, fs, ps, dr, dp, rfl, oI, hR, tR, kR, hb, hf, tf, kf, hl, hE, hp, tp, kp, o6, oP, oW, h9, q⟩ := h
  refine ⟨_, (pss_one (ps_ret (pe_callS G_led_on (hr.mono (by omega)) (by rfl) m_led_on k_led_on b_led_on (fun σ => passAt (takes_of rfl rfl rfl rfl) σ) (pa_cons (pe_call G_tupled (hr.mono (by omega)) (by rfl) m_tupled k_tupled b_tupled .nil pass0 (pa_cons (pv 0) pa_nil)) (pa_cons (pe_call G_tupled (hr.mono (by omega)) (by rfl) m_tupled k_tupled b_tupled .nil pass0 (pa_cons (pv 1) pa_nil)) (pa_cons (pv 2) (pa_cons (pe_call G_tupled (hr.mono (by omega)) (by rfl) m_tupled k_tupled b_tupled .nil pass0 (pa_cons (pv 3) pa_nil)) pa_nil))))))), ?_⟩
  have nil_in : ∀ {Hx : Hp}, ∀ b ∈ ([] : List Addr), ∃ u, Hx b = some u := fun b hb => by cases hb
  refine ⟨_, rfl, vr, dr, [], rfl, nil_in, by rw [rmL_nil]; exact hR, kR, fun v1 H1 s1 d1 => ?_⟩
  rw [rmL_nil, tR] at d1
  refine ⟨_, rfl, vf, frD fs, [], rfl, nil_in, by rw [rmL_nil]; exact dp_same s1 _ _ hf, kf, fun v2 H2 s2 d2 => ?_⟩
  rw [rmL_nil, tf] at d2
  refine ⟨_, rfl, _, rfl, vp, dp, [], rfl, nil_in, by rw [rmL_nil]; exact dp_same (s1.trans s2) _ _ hp, kp, fun v3 H3 s3 d3 => ?_⟩
  rw [rmL_nil, tp] at d3
  have S := s1.trans (s2.trans s3)
  refine ⟨v1, v2, e, v3, i, bs, Y, fs, ps, rfl, oI, dp_same (s2.trans s3) _ _ d1, hb, dp_same s3 _ _ d2, hl, hE.same S, d3, o6, oP, oW, h9, ?_⟩
  cases ev : unroll Y fs ps i with
  | error z =>
    rw [ev] at q
    exact fun H' s d nd => q H' (S.trans s) d nd
  | ok r =>
    obtain ⟨its, fs', g⟩ := r
    rw [ev] at q
    exact fun p vi vf' H' s h1 h2 h3 => q p vi vf' H' (S.trans s) h1 h2 h3
end
end Fd

set_option Elab.async false
set_option linter.all false
set_option maxRecDepth 100000
set_option maxHeartbeats 2000000
namespace Fd
open PySem PySem.Spec PyProof.Rows L2
def It.okL (x3 : Str) : It → Prop
  | .wait L => LkL x3 L
  | .until_ t => TsL x3 t
  | .if_ t _ _ => TsL x3 t
  | .times L _ => LkL x3 L
  | .while_ t _ => TsL x3 t
  | .do_ _ Ls => ∀ L ∈ Ls, LkL x3 L
  | _ => True
def isGiven : It → Prop
  | .wait _ => True
  | .until_ _ => True
  | _ => False
def GivenAt (K : PySem.W.Frag) (H : Hp) (p : Addr) (r : Un) : Prop := match r with
  | .ok (its, _, g) => ∃ t, H p = some (.tup [.ref t, .bl g, .non]) ∧ Dp K H (.ref t) (.tuple its)
  | .error z => ∃ t, H p = some (.tup [.ref t, .bl false, .str z])
section
variable {P : Program} {w : World} {K : PySem.W.Frag} {mg : Str → Option Value} {base : Heap} {f : Addr} {fd : FuncData}
abbrev sGiven : Stmt := top 63
theorem scGiven : FnScope ["_law_deed", "_law_frames", "_law_eyes", "_law_left", "_law_fell"] ["_law_deed", "_law_frames", "_law_eyes"] (defScope sGiven) := ⟨rfl, rfl, rfl, by decide +kernel, rfl, by decide +kernel, by decide +kernel⟩
def spGiven (K : PySem.W.Frag) : Sp := fun vs H Q _ => ∃ (vd vf : V) (e : Addr) (i : It) (Y : Ey) (fs : List Fr) (ps : List Pc) (ws : List Str) (x3 : Str), vs = [vd, vf, .ref e] ∧ isGiven i ∧ Dp K H vd (itD i) ∧ i.ok6 ∧ i.okP ps ∧ i.okW ws ∧ i.okL x3 ∧ Dp K H vf (frD fs) ∧ fs.length ≤ 900 ∧ Dp K H (.ref e) (eyD Y) ∧ EyOk ws Y ∧ (∃ row, Y.lists = [(x3, row)]) ∧
  ∀ p H', Same H H' → GivenAt K H' p (unroll Y fs ps i) → Q (.ref p) H'
theorem ok_given {k : Nat} (F : Fun K "_law_given" "_law_given" sGiven f fd) (GV : FnG P w K mg base CX0 k "_law_valued" ["_law_look", "_law_eyes"] (spValued K 6)) (GH : FnG P w K mg base CX0 k "_law_held" ["_law_test", "_law_eyes"] (spHeld K 6)) (GS : FnG P w K mg base CX0 k "_law_shut" ["_law_frames"] (spShut K)) :
    FnOk P w K mg base CX0 (k + 1) f fd ["_law_deed", "_law_frames", "_law_eyes"] (spGiven K) := by
  obtain ⟨_, _, G__law_valued, m__law_valued, k__law_valued, b__law_valued⟩ := GV
  obtain ⟨_, _, G__law_held, m__law_held, k__law_held, b__law_held⟩ := GH
  obtain ⟨_, _, G__law_shut, m__law_shut, k__law_shut, b__law_shut⟩ := GS
  have sc := scGiven
  refine F.ok sc (fun vs H Q E h => ?_) (fun cdv A outer s H vs Q E hr h => ?_)
  · obtain ⟨vd, vf, e, i, Y, fs, ps, ws, x3, rfl, _⟩ := h
    rfl
  obtain ⟨vd, vf, e, i, Y, fs, ps, ws, x3, rfl, gi, hi, o6, oP, oW, oL, hf, hl, hE, oE, hrow, q⟩ := h
  refine ⟨_, (pss_cons (ps_asg (pe_ifExp (pt_cmpR op_eq (pe_ix ix_tup (pv 0) pe_int (fun _ _ => rfl)) pe_str (nomark _)) (pe_call G__law_valued (hr.mono (by omega)) (by rfl) m__law_valued k__law_valued b__law_valued .nil pass0 (pa_cons (pe_ix ix_tup (pv 0) pe_int (fun _ _ => rfl)) (pa_cons (pv 2) pa_nil))) (pe_call G__law_held (hr.mono (by omega)) (by rfl) m__law_held k__law_held b__law_held .nil pass0 (pa_cons (pe_ix ix_tup (pv 0) pe_int (fun _ _ => rfl)) (pa_cons (pv 2) pa_nil)))) (pg_tup (by rfl) (pgs_cons (pg_name (i := 3) sc.nd rfl (.inl rfl)) (pgs_cons (pg_name (i := 4) sc.nd rfl (.inl rfl)) pgs_nil))))
      (pss_cons (ps_if (pt_cmpR op_notN (pv 4) pe_non (nomark _)) (pss_one (ps_ret (pe_tup (pa_cons (pe_tup pa_nil) (pa_cons pe_bl (pa_cons (pv 4) pa_nil)))))) pss_nil)
      (pss_cons (ps_if (PW.pt (pw_or (PW.pt (pw_and (pt_cmpR op_eq (pe_ix ix_tup (pv 0) pe_int (fun _ _ => rfl)) pe_str (nomark _)) (pw_and1 (pt_cmpR op_lt (pv 3) pe_int (nomark _))))) (pw_or1 (PW.pt (pw_and (pt_cmpR op_eq (pe_ix ix_tup (pv 0) pe_int (fun _ _ => rfl)) pe_str (nomark _)) (pw_and1 (pt_val (pv 3)))))))) (pss_one (ps_ret (pe_tup (pa_cons (pe_tup pa_nil) (pa_cons pe_bl (pa_cons pe_non pa_nil)))))) pss_nil)
      (pss_cons (ps_if (pt_val (pe_call G__law_shut (hr.mono (by omega)) (by rfl) m__law_shut k__law_shut b__law_shut .nil pass0 (pa_cons (pv 1) pa_nil))) (pss_one (ps_ret (pe_tup (pa_cons (pe_tup pa_nil) (pa_cons pe_bl (pa_cons pe_str pa_nil)))))) pss_nil)
      (pss_one (ps_ret (pe_tup (pa_cons (pe_ifExp (pt_cmpR op_eq (pe_ix ix_tup (pv 0) pe_int (fun _ _ => rfl)) pe_str (nomark _)) (pe_tup (pa_cons (pe_tup (pa_cons pe_str (pa_cons (pe_op op_sub (pv 3) pe_int) pa_nil))) pa_nil)) (pe_tup (pa_cons (pv 0) pa_nil))) (pa_cons pe_bl (pa_cons pe_non pa_nil)))))))))), ?_⟩
  have z0 : 0 ≤ sizeLine := Nat.zero_le _
  have z1 : 1 ≤ sizeLine := by decide
  have z2 : 2 ≤ sizeLine := by decide
  have z3 : 3 ≤ sizeLine := by decide
  cases i with
  | wait L =>
    obtain ⟨a, u, y, rfl, ha, hu, hy⟩ := dp_pair (show Dp K H vd (.tuple [.str "wait", lkD L]) from hi)
    rw [dp_str hu] at ha
    refine ⟨_, rfl, a, _, 0, _, rfl, rfl, ha, rfl, rfl, _, rfl, iteB (by decide +kernel) ?_⟩
    refine ⟨_, rfl, a, _, 1, _, rfl, rfl, ha, rfl, _, rfl, y, e, L, Y, ws, x3, rfl, hy, oW, oL, o6, hE, oE, hrow, fun p1 H1 s1 h1 => ?_⟩
    have q : ∀ p H', Same H H' → GivenAt K H' p (thenB (val Y L) fun v => if v < 1 then .ok ([], fs, false) else if closed fs = true then .error "closed" else .ok ([.tuple [.str "wait", .int (v - 1)]], fs, true)) → Q (.ref p) H' := q
    cases ev : val Y L with
    | error z =>
      rw [ev] at h1 q
      exact ⟨p1, _, rfl, SqT.of h1, rfl, _, _, rfl, _, _, rfl, rfl, _, rfl, rfl, _, rfl, iteT ⟨z0, fun t nt => ⟨_, rfl, z3, fun p np => q p _ (s1.trans ((same_upd nt).trans (same_upd np))) ⟨t, upd_same⟩⟩⟩⟩
    | ok v =>
      rw [ev] at h1 q
      have q : ∀ p H', Same H H' → GivenAt K H' p (if v < 1 then .ok ([], fs, false) else if closed fs = true then .error "closed" else .ok ([.tuple [.str "wait", .int (v - 1)]], fs, true)) → Q (.ref p) H' := q
      refine ⟨p1, _, rfl, SqT.of h1, rfl, _, _, rfl, _, _, rfl, rfl, _, rfl, rfl, _, rfl, iteF ?_⟩
      refine ⟨_, rfl, a, _, 0, _, rfl, rfl, seqT s1 ha, rfl, rfl, _, rfl, iteB (by decide +kernel) ⟨_, rfl, _, _, rfl, rfl, _, rfl, ?_⟩⟩
      by_cases c : v < 1
      · rw [if_pos c] at q
        exact ifT c ⟨z0, fun t nt => ⟨z3, fun p np => q p _ (s1.trans ((same_upd nt).trans (same_upd np))) ⟨t, upd_same, .tup (SqT.of (same_upd np _ _ upd_same)) .nil⟩⟩⟩
      · rw [if_neg c] at q
        refine ifF c ?_
        refine ⟨_, rfl, a, _, 0, _, rfl, rfl, seqT s1 ha, rfl, rfl, _, rfl, iteBF (by decide +kernel) ?_⟩
        refine iteF ⟨_, rfl, vf, fs, rfl, dp_same s1 _ _ hf, hl, fun H2 s2 => ⟨_, rfl, ?_⟩⟩
        have sA := s1.trans s2
        cases ec : closed fs with
        | true =>
          rw [ec, if_pos rfl] at q
          exact iteT ⟨z0, fun t nt => ⟨z3, fun p np => q p _ (sA.trans ((same_upd nt).trans (same_upd np))) ⟨t, upd_same⟩⟩⟩
        | false =>
          rw [ec, if_neg Bool.false_ne_true] at q
          refine iteF ?_
          refine ⟨_, rfl, a, _, 0, _, rfl, rfl, seqT sA ha, rfl, rfl, _, rfl, iteB (by decide +kernel) ?_⟩
          refine ⟨_, rfl, _, _, rfl, rfl, z2, fun t1 n1 => ⟨z1, fun t2 n2 => ⟨z3, fun p np => ?_⟩⟩⟩
          have x1 := same_upd (o := .tup [.str "wait", .int (v - 1)]) n1
          have x2 := same_upd (o := .tup [.ref t1]) n2
          have x3 := same_upd (o := .tup [.ref t2, .bl true, .non]) np
          exact q p _ (sA.trans (x1.trans (x2.trans x3))) ⟨t2, upd_same, .tup (SqT.of (x3 _ _ upd_same)) (.cons (.tup (SqT.of ((x2.trans x3) _ _ upd_same)) (.cons (.str _) (.cons (.int _) .nil))) .nil)⟩
  | until_ t =>
    obtain ⟨a, u, y, rfl, ha, hu, hy⟩ := dp_pair (show Dp K H vd (.tuple [.str "until", tsD t]) from hi)
    rw [dp_str hu] at ha
    refine ⟨_, rfl, a, _, 0, _, rfl, rfl, ha, rfl, rfl, _, rfl, iteBF (by decide +kernel) ?_⟩
    refine ⟨_, rfl, a, _, 1, _, rfl, rfl, ha, rfl, _, rfl, y, e, t, Y, ws, x3, rfl, hy, oW, oL, o6, hE, oE, hrow, fun p1 H1 s1 h1 => ?_⟩
    have q : ∀ p H', Same H H' → GivenAt K H' p (thenB (hold Y t) fun b => if b = true then .ok ([], fs, false) else if closed fs = true then .error "closed" else .ok ([itD (.until_ t)], fs, true)) → Q (.ref p) H' := q
    cases ev : hold Y t with
    | error z =>
      rw [ev] at h1 q
      exact ⟨p1, _, rfl, SqT.of h1, rfl, _, _, rfl, _, _, rfl, rfl, _, rfl, rfl, _, rfl, iteT ⟨z0, fun t nt => ⟨_, rfl, z3, fun p np => q p _ (s1.trans ((same_upd nt).trans (same_upd np))) ⟨t, upd_same⟩⟩⟩⟩
    | ok b =>
      rw [ev] at h1 q
      refine ⟨p1, _, rfl, SqT.of h1, rfl, _, _, rfl, _, _, rfl, rfl, _, rfl, rfl, _, rfl, iteF ?_⟩
      refine ⟨_, rfl, a, _, 0, _, rfl, rfl, seqT s1 ha, rfl, rfl, _, rfl, iteBF (by decide +kernel) ?_⟩
      refine ⟨_, rfl, a, _, 0, _, rfl, rfl, seqT s1 ha, rfl, rfl, _, rfl, iteB (by decide +kernel) ⟨_, rfl, _, rfl, ?_⟩⟩
      cases b with
      | true => exact iteT ⟨z0, fun t nt => ⟨z3, fun p np => q p _ (s1.trans ((same_upd nt).trans (same_upd np))) ⟨t, upd_same, .tup (SqT.of (same_upd np _ _ upd_same)) .nil⟩⟩⟩
      | false =>
        have q : ∀ p H', Same H H' → GivenAt K H' p (if closed fs = true then .error "closed" else .ok ([itD (.until_ t)], fs, true)) → Q (.ref p) H' := q
        refine iteF ⟨_, rfl, vf, fs, rfl, dp_same s1 _ _ hf, hl, fun H2 s2 => ⟨_, rfl, ?_⟩⟩
        have sA := s1.trans s2
        cases ec : closed fs with
        | true =>
          rw [ec, if_pos rfl] at q
          exact iteT ⟨z0, fun t nt => ⟨z3, fun p np => q p _ (sA.trans ((same_upd nt).trans (same_upd np))) ⟨t, upd_same⟩⟩⟩
        | false =>
          rw [ec, if_neg Bool.false_ne_true] at q
          refine iteF ?_
          refine ⟨_, rfl, a, _, 0, _, rfl, rfl, seqT sA ha, rfl, rfl, _, rfl, iteBF (by decide +kernel) ?_⟩
          refine ⟨_, rfl, z1, fun t2 n2 => ⟨z3, fun p np => ?_⟩⟩
          have x2 := same_upd (o := .tup [.ref a]) n2
          have x3 := same_upd (o := .tup [.ref t2, .bl true, .non]) np
          exact q p _ (sA.trans (x2.trans x3)) ⟨t2, upd_same, .tup (SqT.of (x3 _ _ upd_same)) (.cons (dp_same (sA.trans (x2.trans x3)) _ _ hi) .nil)⟩
  | _ => exact gi.elim
/-! ### _law_due -/
abbrev sDue : Stmt := top 65
theorem scDue : FnScope ["_law_rest", "_law_frames", "_law_eyes", "_law_pieces", "_law_deed", "_law_behind", "_law_gives", "_law_fell"] ["_law_rest", "_law_frames", "_law_eyes", "_law_pieces"] (defScope sDue) := ⟨rfl, rfl, rfl, by decide +kernel, rfl, by decide +kernel, by decide +kernel⟩
-- ["_law_rest", "_law_frames", "_law_eyes", "_law_pieces", "_law_deed", "_law_behind", "_law_gives", "_law_fell"]
/-- what is told of a rest: a tuple, or the word of a fall in a list -/
def unD (bs : List PyData) : Un → PyData
  | .ok (its, fs, g) => .tuple [.tuple (its ++ bs), frD fs, .bool g]
  | .error z => .list [.str z]
def spDue (K : PySem.W.Frag) (okI : It → Prop) : Sp := fun vs H Q _ => ∃ (vr vf : V) (e : Addr) (vp : V) (i : It) (bs : List PyData) (Y : Ey) (fs : List Fr) (ps : List Pc) (ws : List Str) (x3 : Str), vs = [vr, vf, .ref e, vp] ∧ okI i ∧ Dp K H vr (.tuple (itD i :: bs)) ∧ bs.length ≤ 100 ∧ i.ok6 ∧ i.okP ps ∧ i.okW ws ∧ i.okL x3 ∧ Dp K H vf (frD fs) ∧ fs.length ≤ 900 ∧ Dp K H (.ref e) (eyD Y) ∧ EyOk ws Y ∧ (∃ row, Y.lists = [(x3, row)]) ∧ Dp K H vp (pcD ps) ∧
  (∀ its fs' g, unroll Y fs ps i = .ok (its, fs', g) → its.length ≤ 900) ∧ ∀ v H', Same H H' → Dp K H' v (unD bs (unroll Y fs ps i)) → Q v H'
theorem given_fs {Y : Ey} {fs fs' : List Fr} {ps : List Pc} {i : It} {its : List PyData} {g : Bool} (gi : isGiven i) (h : unroll Y fs ps i = .ok (its, fs', g)) : fs' = fs := by
  cases i with
  | wait L =>
    have h : thenB (val Y L) (fun v => if v < 1 then (.ok ([], fs, false) : Un) else if closed fs = true then .error "closed" else .ok ([.tuple [.str "wait", .int (v - 1)]], fs, true)) = .ok (its, fs', g) := h
    cases ev : val Y L with
    | error z => rw [ev] at h; cases h
    | ok v =>
      rw [ev] at h
      have h : (if v < 1 then (.ok ([], fs, false) : Un) else if closed fs = true then .error "closed" else .ok ([.tuple [.str "wait", .int (v - 1)]], fs, true)) = .ok (its, fs', g) := h
      split at h
      · cases h; rfl
      · split at h
        · cases h
        · cases h; rfl
  | until_ t =>
    have h : thenB (hold Y t) (fun b => if b = true then (.ok ([], fs, false) : Un) else if closed fs = true then .error "closed" else .ok ([itD (.until_ t)], fs, true)) = .ok (its, fs', g) := h
    cases ev : hold Y t with
    | error z => rw [ev] at h; cases h
    | ok v =>
      rw [ev] at h
      have h : (if v = true then (.ok ([], fs, false) : Un) else if closed fs = true then .error "closed" else .ok ([itD (.until_ t)], fs, true)) = .ok (its, fs', g) := h
      split at h
      · cases h; rfl
      · split at h
        · cases h
        · cases h; rfl
  | _ => exact gi.elim
theorem ok_due {k : Nat} (F : Fun K "_law_due" "_law_due" sDue f fd) (GG : FnG P w K mg base CX0 k "_law_given" ["_law_deed", "_law_frames", "_law_eyes"] (spGiven K)) (GS : FnG P w K mg base CX0 k "_law_shut" ["_law_frames"] (spShut K))
    (GE : FnG P w K mg base CX0 k "_law_entered" ["_law_deed", "_law_frames", "_law_eyes", "_law_pieces"] (fun _ _ _ _ => False)) (GL : FnG P w K mg base CX0 k "_law_looped" ["_law_deed", "_law_eyes"] (fun _ _ _ _ => False)) : FnOk P w K mg base CX0 (k + 1) f fd ["_law_rest", "_law_frames", "_law_eyes", "_law_pieces"] (spDue K isGiven) := by
  obtain ⟨_, _, G__law_given, m__law_given, k__law_given, b__law_given⟩ := GG
  obtain ⟨_, _, G__law_shut, m__law_shut, k__law_shut, b__law_shut⟩ := GS
  obtain ⟨_, _, G__law_entered, m__law_entered, k__law_entered, b__law_entered⟩ := GE
  obtain ⟨_, _, G__law_looped, m__law_looped, k__law_looped, b__law_looped⟩ := GL
  have sc := scDue
  refine F.ok sc (fun vs H Q E h => ?_) (fun cdv A outer s H vs Q E hr h => ?_)
  · obtain ⟨vr, vf, e, vp, i, bs, Y, fs, ps, ws, x3, rfl, _⟩ := h
    rfl
  obtain ⟨vr, vf, e, vp, i, bs, Y, fs, ps, ws, x3, rfl, gi, hR, hb, o6, oP, oW, oL, hf, hl, hE, oE, hrow, hp, h9, q⟩ := h
  refine ⟨_, (pss_cons (ps_asg (pe_tup (pa_cons (pe_ix ix_tup (pv 0) pe_int (fun _ _ => rfl)) (pa_cons (pe_tup pa_nil) (pa_cons pe_bl (pa_cons pe_non pa_nil))))) (pg_tup (by rfl) (pgs_cons (pg_name (i := 4) sc.nd rfl (.inl rfl)) (pgs_cons (pg_name (i := 5) sc.nd rfl (.inl rfl)) (pgs_cons (pg_name (i := 6) sc.nd rfl (.inl rfl)) (pgs_cons (pg_name (i := 7) sc.nd rfl (.inl rfl)) pgs_nil))))))
      (pss_cons (ps_if (pt_cmpR op_in_seq (pe_ix ix_tup (pv 4) pe_int (fun _ _ => rfl)) (pe_tup (pa_cons pe_str (pa_cons pe_str pa_nil))) (by rfl)) (pss_one (ps_asg (pe_call G__law_given (hr.mono (by omega)) (by rfl) m__law_given k__law_given b__law_given .nil pass0 (pa_cons (pv 4) (pa_cons (pv 1) (pa_cons (pv 2) pa_nil)))) (pg_tup (by rfl) (pgs_cons (pg_name (i := 5) sc.nd rfl (.inl rfl)) (pgs_cons (pg_name (i := 6) sc.nd rfl (.inl rfl)) (pgs_cons (pg_name (i := 7) sc.nd rfl (.inl rfl)) pgs_nil)))))) (pss_one (ps_if (pt_cmpR op_eq (pe_ix ix_tup (pv 4) pe_int (fun _ _ => rfl)) pe_str (nomark _)) (pss_one (ps_asg (pe_call G__law_entered (hr.mono (by omega)) (by rfl) m__law_entered k__law_entered b__law_entered .nil pass0 (pa_cons (pv 4) (pa_cons (pv 1) (pa_cons (pv 2) (pa_cons (pv 3) pa_nil))))) (pg_tup (by rfl) (pgs_cons (pg_name (i := 5) sc.nd rfl (.inl rfl)) (pgs_cons (pg_name (i := 1) sc.nd rfl (.inl rfl)) (pgs_cons (pg_name (i := 7) sc.nd rfl (.inl rfl)) pgs_nil)))))) (pss_one (ps_if (pt_cmpR op_eq (pe_ix ix_tup (pv 4) pe_int (fun _ _ => rfl)) pe_str (nomark _)) (pss_one (ps_par (i := 5) (j := 6) (by rfl) sc.nd rfl rfl (by decide) rfl rfl (pa_cons (pe_tup (pa_cons (pe_ix ix_tup (pv 4) pe_int (fun _ _ => rfl)) pa_nil)) (pa_cons (pe_not (pe_call G__law_shut (hr.mono (by omega)) (by rfl) m__law_shut k__law_shut b__law_shut .nil pass0 (pa_cons (pv 1) pa_nil))) pa_nil)) (by rfl))) (pss_one (ps_if (pt_cmpR op_eq (pe_ix ix_tup (pv 4) pe_int (fun _ _ => rfl)) pe_str (nomark _)) (pss_one (ps_set (i := 1) sc.nd rfl (.inl rfl) (pe_slice sl_tupA (pv 1) po_none (po_some (pe_un un_neg pe_int))))) (pss_one (ps_asg (pe_call G__law_looped (hr.mono (by omega)) (by rfl) m__law_looped k__law_looped b__law_looped .nil pass0 (pa_cons (pv 4) (pa_cons (pv 2) pa_nil))) (pg_tup (by rfl) (pgs_cons (pg_name (i := 5) sc.nd rfl (.inl rfl)) (pgs_cons (pg_name (i := 7) sc.nd rfl (.inl rfl)) pgs_nil))))))))))))
      (pss_one (ps_ret (pe_ifExp (pt_cmpR op_notN (pv 7) pe_non (nomark _)) (pe_lst (pa_cons (pv 7) pa_nil)) (pe_tup (pa_cons (pe_op op_catA (pv 5) (pe_slice sl_tupA (pv 0) (po_some pe_int) po_none)) (pa_cons (pv 1) (pa_cons (pv 6) pa_nil))))))))), ?_⟩
  have z0 : 0 ≤ sizeLine := Nat.zero_le _
  have z1 : 1 ≤ sizeLine := by decide
  have z2 : 2 ≤ sizeLine := by decide
  have z3 : 3 ≤ sizeLine := by decide
  have z4 : 4 ≤ sizeLine := by decide
  obtain ⟨a, xs, rfl, ha, hxs⟩ := dp_tup hR
  obtain ⟨vi, xr, rfl, hvi, hxr⟩ := dpA_cons hxs
  obtain ⟨ai, xi, rfl, hai, hxi⟩ := dp_tup (show Dp K H vi (.tuple (.str i.word :: i.parts)) from hvi)
  obtain ⟨vw, xp, rfl, hvw, hxp⟩ := dpA_cons hxi
  rw [dp_str hvw] at hai
  refine ⟨_, rfl, a, _, 0, _, rfl, rfl, ha, at0 _ _, z0, fun t0 n0 => ⟨z4, fun T nT => ⟨T, _, rfl, .inl (.inl upd_same), rfl, _, _, rfl, _, _, rfl, _, _, rfl, _, _, rfl, rfl, ?_⟩⟩⟩
  have s1 : Same H _ := (same_upd (o := .tup []) n0).trans (same_upd (o := .tup [.ref ai, .ref t0, .bl false, .non]) nT)
  generalize upd (upd H t0 (.tup [])) T (.tup [.ref ai, .ref t0, .bl false, .non]) = H1 at *
  have hin : inV (.str i.word) [.str "wait", .str "until"] = true := by
    cases i with
    | wait L => exact (by decide +kernel : inV (.str "wait") [.str "wait", .str "until"] = true)
    | until_ t => exact (by decide +kernel : inV (.str "until") [.str "wait", .str "until"] = true)
    | _ => exact gi.elim
  refine ⟨_, rfl, ai, _, 0, _, rfl, rfl, seqT s1 hai, at0 _ _, z2, fun t1 n1 => ⟨t1, _, rfl, .inr (SqT.of upd_same), rfl, by decide +kernel, _, rfl, iteB hin ?_⟩⟩
  have s2 := s1.trans (same_upd (o := .tup [.str "wait", .str "until"]) n1)
  refine ⟨_, rfl, _, rfl, _, rfl, .ref ai, vf, e, i, Y, fs, ps, ws, x3, rfl, gi, dp_same s2 _ _ hvi, o6, oP, oW, oL, dp_same s2 _ _ hf, hl, dp_same s2 _ _ hE, oE, hrow, fun p2 H2 s3 h2 => ?_⟩
  have s4 := s2.trans s3
  cases ev : unroll Y fs ps i with
  | error z =>
    rw [ev] at h2 q
    obtain ⟨t, h2⟩ := h2
    exact ⟨p2, _, rfl, .inl (.inl h2), rfl, _, _, rfl, _, _, rfl, _, _, rfl, rfl, _, rfl, rfl, _, rfl, iteT ⟨_, rfl, z1, fun l nl => q _ _ (s4.trans (same_upd nl)) (.lst (SqL.of upd_same) (.cons (.str _) .nil))⟩⟩
  | ok r =>
    obtain ⟨its, fs', g⟩ := r
    have efs := given_fs gi ev
    subst efs
    have l9 := h9 _ _ _ ev
    rw [ev] at h2 q
    obtain ⟨t, h2, dt⟩ := h2
    obtain ⟨b1, ys, eb, hb1, hys⟩ := dp_tup dt
    cases eb
    refine ⟨p2, _, rfl, .inl (.inl h2), rfl, _, _, rfl, _, _, rfl, _, _, rfl, rfl, _, rfl, rfl, _, rfl, iteF ?_⟩
    refine ⟨_, rfl, _, rfl, 1, rfl, ?_⟩
    dsimp only [tNoPart]
    refine slA_rest (seqT s4 ha) fun pB nB => ?_
    have s5 : Same H2 (upd H2 pB (.tup xr)) := same_upd nB
    refine catA_all (seqT s5 hb1) (SqT.of upd_same) (by rw [dpAll_len hys, dpAll_len hxr]; omega) fun p3 H3 s6 hp3 => ⟨_, rfl, _, rfl, z3, fun p np => ?_⟩
    have x3 := same_upd (o := .tup [.ref p3, vf, .bl g]) np
    exact q _ _ (s4.trans (s5.trans (s6.trans x3))) (.tup (SqT.of upd_same) (.cons (.tup (seqT x3 hp3) (dpAll_app (dpAll_same (s4.trans (s5.trans (s6.trans x3))) _ _ hxr) (dpAll_same (s5.trans (s6.trans x3)) _ _ hys))) (.cons (dp_same (s4.trans (s5.trans (s6.trans x3))) _ _ hf) (.cons (.bl g) .nil))))
end
end Fd

set_option Elab.async false
set_option linter.all false
set_option maxRecDepth 100000
set_option maxHeartbeats 2000000
namespace Fd
open PySem PySem.Spec PyProof.Rows L2 RZ
section
variable {P : Program} {w : World} {K : PySem.W.Frag} {mg : Str → Option Value} {base : Heap} {f C fI : Addr} {fd : FuncData}
/-! ### _law_same, of equal things -/
abbrev sSame : Stmt := top 50
theorem scSame : FnScope ["_law_found", "_law_due_here", "_law_one", "_law_other"] ["_law_found", "_law_due_here"] (defScope sSame) := ⟨rfl, rfl, rfl, by decide +kernel, rfl, by decide +kernel, by decide +kernel⟩
def spSame (K : PySem.W.Frag) (n : Nat) : Sp := fun vs H Q _ => ∃ (x y : V) (d : PyData), vs = [x, y] ∧ Dp K H x d ∧ Dp K H y d ∧ OkD n d ∧ ∀ H', Same H H' → Q (.bl true) H'
structure SameB (mg : Str → Option Value) : Prop where
  m_isinstance : mg "isinstance" = none
  m_list : mg "list" = none
  m_tuple : mg "tuple" = none
  m_len : mg "len" = none
  m_all : mg "all" = none
  m_zip : mg "zip" = none
  m_str : mg "str" = none
  m_int : mg "int" = none
  m_bool : mg "bool" = none
theorem ok_same1 {n : Nat} (F : Fun K "_law_same" "_law_same" sSame f fd) (B : SameB mg) (G : FnG P w K mg base CX0 n "_law_same" ["_law_found", "_law_due_here"] (spSame K n)) :
    FnOk P w K mg base CX0 (n + 1) f fd ["_law_found", "_law_due_here"] (spSame K (n + 1)) := by
  obtain ⟨_, _, G__law_same, m__law_same, k__law_same, b__law_same⟩ := G
  obtain ⟨m_isinstance, m_list, m_tuple, m_len, m_all, m_zip, m_str, m_int, m_bool⟩ := B
  have sc := scSame
  refine F.ok sc (fun vs H Q E h => ?_) (fun cdv A outer s H vs Q E hr h => ?_)
  · obtain ⟨a, n, m, rfl, _⟩ := h
    rfl
  obtain ⟨x, y, d, rfl, hx, hy, ok, q⟩ := h
  refine ⟨_, (pss_cons (ps_if (pt_val (pe_callB call_isiT (by rfl) m_isinstance (by decide +kernel) (pa_cons (pv 1) (pa_cons (pe_tup (pa_cons (pe_bltn (v := .ty "list") (by rfl) m_list (by decide +kernel) rfl) (pa_cons (pe_bltn (v := .ty "tuple") (by rfl) m_tuple (by decide +kernel) rfl) pa_nil))) pa_nil)))) (pss_cons (ps_if (PW.pt (pw_or (pt_cmpR op_ne (pe_callB call_isi (by rfl) m_isinstance (by decide +kernel) (pa_cons (pv 0) (pa_cons (pe_bltn (v := .ty "list") (by rfl) m_list (by decide +kernel) rfl) pa_nil))) (pe_callB call_isi (by rfl) m_isinstance (by decide +kernel) (pa_cons (pv 1) (pa_cons (pe_bltn (v := .ty "list") (by rfl) m_list (by decide +kernel) rfl) pa_nil))) (nomark _)) (pw_or1 (pt_cmpR op_ne (pe_callB call_isi (by rfl) m_isinstance (by decide +kernel) (pa_cons (pv 0) (pa_cons (pe_bltn (v := .ty "tuple") (by rfl) m_tuple (by decide +kernel) rfl) pa_nil))) (pe_callB call_isi (by rfl) m_isinstance (by decide +kernel) (pa_cons (pv 1) (pa_cons (pe_bltn (v := .ty "tuple") (by rfl) m_tuple (by decide +kernel) rfl) pa_nil))) (nomark _))))) (pss_one (ps_ret pe_bl)) pss_nil)
      (pss_one (ps_ret (pe_and (pe_cmpR op_eq (pe_callB call_len_seq (by rfl) m_len (by decide +kernel) (pa_cons (pv 0) pa_nil)) (pe_callB call_len_seq (by rfl) m_len (by decide +kernel) (pa_cons (pv 1) pa_nil)) (nomark _)) (pe_one (pe_callB (cr_all rfl) (by rfl) m_all (by decide +kernel) (pa_cons (pe_lc (own := [("_law_one", 2), ("_law_other", 3)]) (g := gTup K 2 (gCons (gName 2) (gCons (gName 3) gNil))) (by rfl) sc.nd  (pi_zipA (by rfl) m_zip (pa_cons (pv 0) (pa_cons (pv 1) pa_nil))) (blkOk_by (own := [("_law_one", 2), ("_law_other", 3)]) (N := ["_law_found", "_law_due_here", "_law_one", "_law_other"]) (sc := defScope sSame) (by decide +kernel)) (fun _ _ _ _ _ => (pg_tup (by rfl) (pgs_cons (pg_name (i := 2) sc.nd rfl (.inl rfl)) (pgs_cons (pg_name (i := 3) sc.nd rfl (.inl rfl)) pgs_nil)))) (fun _ _ _ _ _ => pts_nil) (fun _ _ _ _ _ => (pe_call G__law_same (hr.mono (by omega)) (by rfl) m__law_same k__law_same b__law_same .nil pass0 (pa_cons (pv 2) (pa_cons (pv 3) pa_nil))))) pa_nil))))))) pss_nil)
      (pss_cons (ps_if (PW.pt (pw_or (pt_cmpR op_isN (pv 1) pe_non (nomark _)) (pw_or1 (pt_val (pe_callB call_isi (by rfl) m_isinstance (by decide +kernel) (pa_cons (pv 1) (pa_cons (pe_bltn (v := .ty "str") (by rfl) m_str (by decide +kernel) rfl) pa_nil))))))) (pss_one (ps_ret (pe_and (pe_cmpR op_eq (pv 0) (pv 1) (nomark _)) (pe_one (pe_cmpR op_eq (pe_callB call_isi (by rfl) m_isinstance (by decide +kernel) (pa_cons (pv 0) (pa_cons (pe_bltn (v := .ty "str") (by rfl) m_str (by decide +kernel) rfl) pa_nil))) (pe_callB call_isi (by rfl) m_isinstance (by decide +kernel) (pa_cons (pv 1) (pa_cons (pe_bltn (v := .ty "str") (by rfl) m_str (by decide +kernel) rfl) pa_nil))) (nomark _)))))) pss_nil)
      (pss_one (ps_ret (pe_and (pe_callB call_isi (by rfl) m_isinstance (by decide +kernel) (pa_cons (pv 0) (pa_cons (pe_bltn (v := .ty "int") (by rfl) m_int (by decide +kernel) rfl) pa_nil))) (pe_and (pe_cmpR op_eq (pe_callB call_isi (by rfl) m_isinstance (by decide +kernel) (pa_cons (pv 0) (pa_cons (pe_bltn (v := .ty "bool") (by rfl) m_bool (by decide +kernel) rfl) pa_nil))) (pe_callB call_isi (by rfl) m_isinstance (by decide +kernel) (pa_cons (pv 1) (pa_cons (pe_bltn (v := .ty "bool") (by rfl) m_bool (by decide +kernel) rfl) pa_nil))) (nomark _)) (pe_one (pe_cmpR op_eq (pv 0) (pv 1) (nomark _))))))))), ?_⟩
  refine ⟨_, rfl, by show 2 ≤ sizeLine; decide, fun p np => ?_⟩
  have s1 : Same H (upd H p (.tup [.ty "list", .ty "tuple"])) := same_upd np
  cases d with
  | none =>
    cases hx; cases hy
    refine ⟨_, p, _, .type "NoneType", _, false, rfl, upd_same, .cons (.ty _) (.cons (.ty _) .nil), .base .non, kitLT (b1 := false) (b2 := false) (by decide +kernel) (by decide +kernel), _, rfl, iteF ?_⟩
    refine ⟨_, rfl, rfl, _, rfl, iteT (iteT ?_)⟩
    exact ⟨_, rfl, _, rfl, rfl, _, rfl, iteB (decide_eq_true rfl) ⟨_, rfl, _, _, .type "NoneType", _, false, rfl, .ty _, .base .non, kit_ty (by decide +kernel), _, rfl, _, _, .type "NoneType", _, false, rfl, .ty _, .base .non, kit_ty (by decide +kernel), rfl, qd (q _ s1)⟩⟩
  | str z =>
    cases hx; cases hy
    refine ⟨_, p, _, .type "str", _, false, rfl, upd_same, .cons (.ty _) (.cons (.ty _) .nil), .base (.str z), kitLT (b1 := false) (b2 := false) (by decide +kernel) (by decide +kernel), _, rfl, iteF ?_⟩
    refine ⟨_, rfl, rfl, _, rfl, iteF ⟨_, rfl, _, _, .type "str", _, true, rfl, .ty _, .base (.str z), kit_ty (by decide +kernel), _, rfl, iteT ?_⟩⟩
    exact ⟨_, rfl, _, rfl, rfl, _, rfl, iteB (decide_eq_true rfl) ⟨_, rfl, _, _, .type "str", _, true, rfl, .ty _, .base (.str z), kit_ty (by decide +kernel), _, rfl, _, _, .type "str", _, true, rfl, .ty _, .base (.str z), kit_ty (by decide +kernel), rfl, qd (q _ s1)⟩⟩
  | int z =>
    cases hx; cases hy
    refine ⟨_, p, _, .type "int", _, false, rfl, upd_same, .cons (.ty _) (.cons (.ty _) .nil), .base (.int z), kitLT (b1 := false) (b2 := false) (by decide +kernel) (by decide +kernel), _, rfl, iteF ?_⟩
    refine ⟨_, rfl, rfl, _, rfl, iteF ⟨_, rfl, _, _, .type "int", _, false, rfl, .ty _, .base (.int z), kit_ty (by decide +kernel), _, rfl, iteF ?_⟩⟩
    exact ⟨_, rfl, _, _, .type "int", _, true, rfl, .ty _, .base (.int z), kit_ty (by decide +kernel), _, rfl, iteT ⟨_, rfl, _, _, .type "int", _, false, rfl, .ty _, .base (.int z), kit_ty (by decide +kernel),
      _, rfl, _, _, .type "int", _, false, rfl, .ty _, .base (.int z), kit_ty (by decide +kernel), rfl, _, rfl, iteT ⟨_, rfl, _, rfl, rfl, qd (q _ s1)⟩⟩⟩
  | bool z =>
    cases hx; cases hy
    refine ⟨_, p, _, .type "bool", _, false, rfl, upd_same, .cons (.ty _) (.cons (.ty _) .nil), .base (.bl z), kitLT (b1 := false) (b2 := false) (by decide +kernel) (by decide +kernel), _, rfl, iteF ?_⟩
    refine ⟨_, rfl, rfl, _, rfl, iteF ⟨_, rfl, _, _, .type "bool", _, false, rfl, .ty _, .base (.bl z), kit_ty (by decide +kernel), _, rfl, iteF ?_⟩⟩
    exact ⟨_, rfl, _, _, .type "bool", _, true, rfl, .ty _, .base (.bl z), kit_ty (by decide +kernel), _, rfl, iteT ⟨_, rfl, _, _, .type "bool", _, true, rfl, .ty _, .base (.bl z), kit_ty (by decide +kernel),
      _, rfl, _, _, .type "bool", _, true, rfl, .ty _, .base (.bl z), kit_ty (by decide +kernel), rfl, _, rfl, iteT ⟨_, rfl, _, rfl, rfl, qd (q _ s1)⟩⟩⟩
  | dict _ => exact ok.elim
  | list ds =>
    obtain ⟨w1, w2⟩ := (show ds.length ≤ 1000 ∧ ∀ d ∈ ds, OkD n d from ok)
    cases hx with | @lst a xs _ ha ax =>
    cases hy with | @lst b ys _ hb by_ =>
    have ha1 := s1.seq ha
    have hb1 := s1.seq hb
    have le : xs.length = ys.length := (dpAll_len ax).trans (dpAll_len by_).symm
    refine ⟨_, p, _, .type "list", _, true, rfl, upd_same, .cons (.ty _) (.cons (.ty _) .nil), ty_lst hb1, kitLT (b1 := true) (b2 := false) (by decide +kernel) (by decide +kernel), _, rfl, iteT ?_⟩
    refine ⟨_, rfl, _, _, .type "list", _, true, rfl, .ty _, ty_lst ha1, kit_ty (by decide +kernel), _, rfl, _, _, .type "list", _, true, rfl, .ty _, ty_lst hb1, kit_ty (by decide +kernel), rfl, _, rfl, iteF
      ⟨_, rfl, _, _, .type "list", _, false, rfl, .ty _, ty_lst ha1, kit_ty (by decide +kernel), _, rfl, _, _, .type "list", _, false, rfl, .ty _, ty_lst hb1, kit_ty (by decide +kernel), rfl, _, rfl, iteF ?_⟩⟩
    refine ⟨_, rfl, a, _, rfl, .inl ha1, _, rfl, b, _, rfl, .inl hb1, rfl, true, congrArg V.bl (decide_eq_true (by rw [le])), iteT ?_⟩
    refine ⟨_, rfl, _, rfl, a, b, xs, ys, rfl, .inl ⟨ha1, hb1, fun D nD => lc_it (walk_zip (xs := xs) (ys := ys) rfl) (fun i H' => Same (upd H p (.tup [.ty "list", .ty "tuple"])) H' ∧ H' D = some (.lst (List.replicate i (.bl true)))) ⟨same_upd nD, upd_same⟩
      (fun i H' _ h => ⟨h.1.seq ha1, h.1.seq hb1⟩) ?_ ?_⟩⟩
    · rintro i v H1 H2 hi ⟨sm, hD⟩ ⟨T, x, y, rfl, nT, rfl, ex, ey⟩
      obtain ⟨d, ed, dx⟩ := dpAll_at (dpAll_same (s1.trans sm) ds xs ax) ex
      obtain ⟨d', ed', dy⟩ := dpAll_at (dpAll_same (s1.trans sm) ds ys by_) ey
      obtain rfl : d = d' := Option.some.inj (ed.symm.trans ed')
      have sT := same_upd (o := .tup [x, y]) nT
      refine ⟨T, _, rfl, .inl (.inl upd_same), rfl, _, _, rfl, _, _, rfl, rfl, rfl, ?_⟩
      unfold tYes
      refine iteT ?_
      refine ⟨_, rfl, _, rfl, x, y, d, rfl, dp_same sT _ _ dx, dp_same sT _ _ dy, w2 d (List.mem_of_getElem? ed), fun H3 s3 => ⟨_, s3 _ _ (sT _ _ hD), ?_, ?_, ?_⟩⟩
      · rw [List.length_replicate]
        exact small1000 (by have := dpAll_len ax; omega)
      · intro b' o' h'
        have nb : b' ≠ D := fun z => by rw [z, nD] at h'; cases h'
        rw [upd_ne nb]
        exact s3 _ _ (sT _ _ (sm _ _ h'))
      · rw [upd_same, List.replicate_succ']
    · rintro H1 ⟨sm, hD⟩
      refine ⟨D, List.replicate (min xs.length ys.length) true, rfl, SqL.of (by rw [hD, List.map_replicate]), ?_⟩
      rw [all_rep]
      exact q _ (s1.trans sm)
  | tuple ds =>
    obtain ⟨w1, w2⟩ := (show ds.length ≤ 1000 ∧ ∀ d ∈ ds, OkD n d from ok)
    cases hx with | @tup a xs _ ha ax =>
    cases hy with | @tup b ys _ hb by_ =>
    have ha1 := seqT s1 ha
    have hb1 := seqT s1 hb
    have le : xs.length = ys.length := (dpAll_len ax).trans (dpAll_len by_).symm
    refine ⟨_, p, _, .type "tuple", _, true, rfl, upd_same, .cons (.ty _) (.cons (.ty _) .nil), ty_tup hb1, kitLT (b1 := false) (b2 := true) (by decide +kernel) (by decide +kernel), _, rfl, iteT ?_⟩
    refine ⟨_, rfl, _, _, .type "tuple", _, false, rfl, .ty _, ty_tup ha1, kit_ty (by decide +kernel), _, rfl, _, _, .type "tuple", _, false, rfl, .ty _, ty_tup hb1, kit_ty (by decide +kernel), rfl, _, rfl, iteF
      ⟨_, rfl, _, _, .type "tuple", _, true, rfl, .ty _, ty_tup ha1, kit_ty (by decide +kernel), _, rfl, _, _, .type "tuple", _, true, rfl, .ty _, ty_tup hb1, kit_ty (by decide +kernel), rfl, _, rfl, iteF ?_⟩⟩
    refine ⟨_, rfl, a, _, rfl, .inr ha1, _, rfl, b, _, rfl, .inr hb1, rfl, true, congrArg V.bl (decide_eq_true (by rw [le])), iteT ?_⟩
    refine ⟨_, rfl, _, rfl, a, b, xs, ys, rfl, .inr ⟨ha1, hb1, fun D nD => lc_it (walk_zipT (xs := xs) (ys := ys) rfl) (fun i H' => Same (upd H p (.tup [.ty "list", .ty "tuple"])) H' ∧ H' D = some (.lst (List.replicate i (.bl true)))) ⟨same_upd nD, upd_same⟩
      (fun i H' _ h => ⟨seqT h.1 ha1, seqT h.1 hb1⟩) ?_ ?_⟩⟩
    · rintro i v H1 H2 hi ⟨sm, hD⟩ ⟨T, x, y, rfl, nT, rfl, ex, ey⟩
      obtain ⟨d, ed, dx⟩ := dpAll_at (dpAll_same (s1.trans sm) ds xs ax) ex
      obtain ⟨d', ed', dy⟩ := dpAll_at (dpAll_same (s1.trans sm) ds ys by_) ey
      obtain rfl : d = d' := Option.some.inj (ed.symm.trans ed')
      have sT := same_upd (o := .tup [x, y]) nT
      refine ⟨T, _, rfl, .inl (.inl upd_same), rfl, _, _, rfl, _, _, rfl, rfl, rfl, ?_⟩
      unfold tYes
      refine iteT ?_
      refine ⟨_, rfl, _, rfl, x, y, d, rfl, dp_same sT _ _ dx, dp_same sT _ _ dy, w2 d (List.mem_of_getElem? ed), fun H3 s3 => ⟨_, s3 _ _ (sT _ _ hD), ?_, ?_, ?_⟩⟩
      · rw [List.length_replicate]
        exact small1000 (by have := dpAll_len ax; omega)
      · intro b' o' h'
        have nb : b' ≠ D := fun z => by rw [z, nD] at h'; cases h'
        rw [upd_ne nb]
        exact s3 _ _ (sT _ _ (sm _ _ h'))
      · rw [upd_same, List.replicate_succ']
    · rintro H1 ⟨sm, hD⟩
      refine ⟨D, List.replicate (min xs.length ys.length) true, rfl, SqL.of (by rw [hD, List.map_replicate]), ?_⟩
      rw [all_rep]
      exact q _ (s1.trans sm)
theorem ok_same (F : Fun K "_law_same" "_law_same" sSame f fd) (B : SameB mg) (m : mg "_law_same" = some (.ref f)) (b : Binds K fd ["_law_found", "_law_due_here"] []) :
    ∀ n, FnOk P w K mg base CX0 n f fd ["_law_found", "_law_due_here"] (spSame K n)
  | 0 => ⟨fun vs H Q E h => by obtain ⟨_, _, d, _, _, _, ok, _⟩ := h; exact ok.elim, fun A outer s H args us vs Q E _ _ _ _ h => by obtain ⟨_, _, d, _, _, _, ok, _⟩ := h; exact ok.elim⟩
  | n + 1 => ok_same1 F B ⟨f, fd, ok_same F B m b n, m, F.kp, b⟩
/-! ### _law_told -/
abbrev sTold : Stmt := top 66
theorem scTold : FnScope ["_law_rest", "_law_frames", "_law_eyes", "_law_pieces", "_law_found", "_law_caught", "error"] ["_law_rest", "_law_frames", "_law_eyes", "_law_pieces"] (defScope sTold) := ⟨rfl, rfl, rfl, by decide +kernel, rfl, by decide +kernel, by decide +kernel⟩
-- ["_law_rest", "_law_frames", "_law_eyes", "_law_pieces", "_law_found", "_law_caught", "error"]
def spToldU (K : PySem.W.Frag) (okI : It → Prop) : Sp := fun vs H Q _ => ∃ (vr vf : V) (e : Addr) (vp : V) (i : It) (bs : List PyData) (Y : Ey) (fs : List Fr) (ps : List Pc) (dr dp : PyData), vs = [vr, vf, .ref e, vp] ∧ okI i ∧ Dp K H vr dr ∧ tupD dr = .tuple (itD i :: bs) ∧ OkD 30 dr ∧ bs.length ≤ 100 ∧ Dp K H vf (frD fs) ∧ tupD (frD fs) = frD fs ∧ OkD 30 (frD fs) ∧ fs.length ≤ 900 ∧ Eyes K H e Y ∧ Dp K H vp dp ∧ tupD dp = pcD ps ∧ OkD 30 dp ∧ i.ok6 ∧ i.okP ps ∧ (∃ ws, i.okW ws) ∧
  (∀ its fs' g, unroll Y fs ps i = .ok (its, fs', g) → its.length ≤ 900) ∧ ∀ v H', Same H H' → Dp K H' v (unD bs (unroll Y fs ps i)) → Q v H'
theorem ok_toldU {k : Nat} {okI : It → Prop} (T : PySem.FellX.FellTxt K mg C fI) (EC : ErrC K C) (kr : PySem.W.kitOne K (.ref C) (.type "RuntimeError") = some true) (F : Fun K "_law_told" "_law_told" sTold f fd) (GU : FnG P w K mg base (L2.CX P w) k "unrolled" ["rest", "frames", "eyes", "pieces"] (spUnr K C okI))
    (m_isinstance : mg "isinstance" = none) (m_RuntimeError : mg "RuntimeError" = none) : FnOk P w K mg base CX0 (k + 1) f fd ["_law_rest", "_law_frames", "_law_eyes", "_law_pieces"] (spToldU K okI) := by
  obtain ⟨_, _, G_unrolled, m_unrolled, k_unrolled, b_unrolled⟩ := GU
  have sc := scTold
  refine F.ok sc (fun vs H Q E h => ?_) (fun cdv A outer s H vs Q E hr h => ?_)
  · obtain ⟨vr, vf, e, vp, i, bs, Y, fs, ps, dr, dp, rfl, _⟩ := h
    rfl
  obtain ⟨vr, vf, e, vp, i, bs, Y, fs, ps, dr, dp, rfl, oI, hR, tR, kR, hb, hf, tf, kf, hl, hE, hp, tp, kp, o6, oP, oW, h9, q⟩ := h
  refine ⟨_, (pss_cons (ps_asg (pe_tup (pa_cons pe_non (pa_cons pe_non pa_nil))) (pg_tup (by rfl) (pgs_cons (pg_name (i := 4) sc.nd rfl (.inl rfl)) (pgs_cons (pg_name (i := 5) sc.nd rfl (.inl rfl)) pgs_nil))))
      (pss_cons (ps_try_keep (i := 6) (tb := fun W => tAsg (tCallS (spUnr K C okI) (WE W) (tCons (tVar 0) (tCons (tVar 1) (tCons (tVar 2) (tCons (tVar 3) tNil))))) (gName 4)) (ts := fun a cls d => tAsg (tVar 6) (gName 5)) (Wout := fun _ _ _ _ => False) rfl rfl sc.nd rfl rfl ⟨rfl, by decide, .inl T.gC⟩ takes0 (fun W pn xe tk _ => pss_one (ps_set (i := 4) sc.nd rfl (.inl rfl) (by exact (pe_callS G_unrolled (hr.mono (by omega)) (by rfl) m_unrolled k_unrolled b_unrolled (fun σ => passAt tk σ) (by exact (pa_cons (pv 0) (pa_cons (pv 1) (pa_cons (pv 2) (pa_cons (pv 3) pa_nil))))))))) (fun a oe cls d pn hz hf => pss_one (ps_set (i := 5) sc.nd rfl (.inl rfl) (by exact (pv 6)))))
      (pss_cons (ps_if (pt_cmpR op_isN (pv 5) pe_non (nomark _)) (pss_one (ps_ret (pv 4))) pss_nil)
      (pss_one (ps_ret (pe_ifExp (pt_val (pe_callB (call_isErr EC) (by rfl) m_isinstance (by decide +kernel) (pa_cons (pv 5) (pa_cons (pe_bltn (v := .ty "RuntimeError") (by rfl) m_RuntimeError (by decide +kernel) rfl) pa_nil)))) (pe_lst (pa_cons (pe_errF EC T.noN (pv 5)) pa_nil)) (pe_lst (pa_cons pe_str pa_nil)))))))), ?_⟩
  refine ⟨by show 2 ≤ sizeLine; decide, fun t nt => ⟨t, _, rfl, .inl (.inl upd_same), rfl, _, _, rfl, _, _, rfl, rfl, ?_⟩⟩
  have s0 : Same H (upd H t (.tup [.non, .non])) := same_upd nt
  refine ⟨_, rfl, _, rfl, _, rfl, _, rfl, vr, vf, e, vp, i, bs, Y, fs, ps, dr, dp, rfl, oI, dp_same s0 _ _ hR, tR, kR, hb, dp_same s0 _ _ hf, tf, kf, hl, hE.same s0, dp_same s0 _ _ hp, tp, kp, o6, oP, oW, h9, ?_⟩
  cases ev : unroll Y fs ps i with
  | error z =>
    rw [ev] at q
    refine fun H1 s1 d nd => ⟨true, T.te, (by intro z; cases z), fun _ a na => ⟨_, rfl, fun na' => ?_⟩⟩
    have nda : d ≠ a := ne_of_none upd_same na
    have s2 : Same H1 (upd H1 d (.xd [(("word" : Str), .str z)])) := same_upd nd
    have hd := laid_at (.xd [(("word" : Str), .str z)]) nd
    have s3 := same_upd (o := ErrO (.ref C) (some d) a) na
    refine ⟨_, rfl, rfl, _, rfl, iteF ⟨_, rfl, a, d, _, "RuntimeError", true, rfl, upd_same, s3 _ _ hd, kr, _, rfl, iteT ⟨_, rfl, a, d, _, _, rfl, upd_same, s3 _ _ hd, rfl, by show 1 ≤ sizeLine; decide, fun p np => ?_⟩⟩⟩
    exact q _ _ (s0.trans (s1.trans (s2.trans (s3.trans (same_upd np))))) (.lst (SqL.of upd_same) (.cons (.str _) .nil))
  | ok r =>
    obtain ⟨its, fs', g⟩ := r
    rw [ev] at q
    refine fun p vi vf' H1 s1 h1 h2 h3 => ⟨_, rfl, rfl, _, rfl, iteT ⟨_, rfl, q _ _ (s0.trans s1) (.tup (SqT.of h1) (.cons h2 (.cons h3 (.cons (.bl g) .nil))))⟩⟩
/-- one entry of a def, by its body there -/
theorem enter {x qual : Str} {st : Stmt} {f : Addr} {fd : FuncData} {N ps : List Str} {k : Nat} {A : Around} {outer : List Env} {s : Shared} {H : Hp} {args : Args} {us : List Value} {vs : List V} {Q : VK} {E : XK} (F : Fun K x qual st f fd) (S : FnScope N ps (defScope st))
    (hl : vs.length = ps.length) (hr : Room (k + 1) A) (e0 : Env0 P w K mg base A outer s H) (hb : BindsTo s fd args (ps.zip us)) (r : Vals vs us)
    (body : ∀ cdv : Value, Room k (A.deeper (envOfC qual (defScope st) s.heap.objs.size f cdv)) → ∃ t, PSs (cxOf CX0 P w K mg base N qual (defScope st) f cdv A outer s H E).nox (defBody st) t ∧ t { nx := fun _ H' => Q .non H', rt := Q } (L2.start N vs) H) :
    codeAny (model P w) A (.call (.ref f) args) (CR CX0 outer P w H s Q E) s := by
  obtain ⟨oc, od, kV, doc, pm, an, cdv, ct, osl, rfl, lk, hcd⟩ := F.ex
  obtain ⟨t, ht, hq⟩ := body cdv (hr.deeper _)
  have old : ∀ b o, base.get? b = some o → s.heap.get? b = some o := fun b o e => (e0.bs b o e).1
  refine codeAny_call_function hr.depth ((e0.mod.kin.keeps old) _ _ lk) rfl S.co S.gen rfl (PySem.W.codeRec_of (e0.mod.kin.keeps old) hcd) (hb _ _ _ _ (wpAny_newFunctionEnv_cells S.kind (fun y hy => ?_) fun env he s1 x => ?_))
  · exact (S.par y.1 (List.of_mem_zip (show (y.1, y.2) ∈ ps.zip us from hy)).1).elim .inl fun z => .inr ⟨z, PySem.W.cellsFrom_some _ _ _ (.inl z)⟩
  subst he
  refine ⟨(e0.mod.nolimit.keeps old).keeps x.toInCall.keep, codeAny_func (wpAny_mono (ht.nox.run [] s1 _ H _ (inv_start S hr.hd e0 hl r x) hq) (fun fl s' hs => ?_) fun _ _ hs => hs)⟩
  cases fl with
  | ret u =>
    obtain ⟨v, _, H', J, rv, q⟩ := hs
    exact ⟨v, H', J.os, J.bare, J.base, J.hok, rv, q⟩
  | next =>
    obtain ⟨_, H', J, q⟩ := hs
    exact ⟨.non, H', J.os, J.bare, J.base, J.hok, (rfl : RelV .non Value.none), q⟩
  | brk => obtain ⟨_, _, _, q⟩ := hs; exact q.elim
  | cont => obtain ⟨_, _, _, q⟩ := hs; exact q.elim
/-! ### defs that are called where nothing guards -/
structure FnOkG (P : Program) (w : World) (K : PySem.W.Frag) (mg : Str → Option Value) (base : Heap) (k : Nat) (f : Addr) (fd : FuncData) (ps : List Str) (sp : Sp) : Prop where
  len : ∀ vs H Q E, sp vs H Q E → vs.length = ps.length
  run : ∀ (A : Around) (outer : List Env) (s : Shared) (H : Hp) (args : Args) (us : List Value) (vs : List V) (Q : VK) (E : XK), A.guards = some [] → Room k A → Env0 P w K mg base A outer s H → BindsTo s fd args (ps.zip us) → Vals vs us → sp vs H Q E →
    codeAny (model P w) A (.call (.ref f) args) (CR CX0 outer P w H s Q E) s
theorem pe_callG {X : Cx} {k : Nat} {f : Addr} {fd : FuncData} {ps : List Str} {sp : Sp} {x : Str} {e : Expr} {es : List Expr} {t : TA} {p pos : Pos} (F : FnOkG X.prog X.w X.K X.mg X.base k f fd ps sp) (hA : X.A.guards = some []) (hr : Room k X.A) (hg : Gl X x) (hm : X.mg x = some (.ref f)) (hk : PySem.W.keepIn X.K (.ref f) = true) (hb : Binds X.K fd ps [])
    (ha : PA X (e :: es) t) (hdb : (x == ("__debug__" : Str)) = false := by decide) (he : starEach (e :: es) X.env = (false, eval e X.env) :: starEach es X.env := by rfl) (hpl : (backTo pos (starEach es X.env)).any (·.1) = false := by rfl) :
    PE X (.Call (.Name x p) (e :: es) [] pos) (tCall sp [] E0 t) := by
  refine ⟨fun pins s σ H Q I h => ?_⟩
  refine wpAny_Call_Name_kw (ld_glob I hg hm ?_ hdb)
  refine PySem.W.callWith_K (h₀ := X.base) I.ok.mod.kin hk (thn (ha.run pos pins s σ H _ I h) fun us s1 ⟨vs, H1, I1, r, q⟩ => ⟨I1.kIn, ?_⟩) he hpl
  have q' : sp vs H1 Q E0 := by
    have q0 : sp (vs ++ []) H1 Q E0 := q
    rw [List.append_nil] at q0
    exact q0
  have hl : us.length = ps.length := by rw [← r.length]; exact F.len _ _ _ _ q'
  have hb' := hb s1 us I1.kIn (by rw [List.append_nil]; exact hl)
  rw [List.append_nil] at hb'
  refine wpAny_call (codeAny_mono (F.run X.A X.stack s1 H1 ⟨us, []⟩ us vs Q E0 hA hr I1.env0 hb' r q') fun r s' hq => ?_)
  cases r with
  | error e => exact pass0 pins σ H1 s1 e s' I1 hq
  | ok fl =>
    cases fl with
    | ret u => exact I1.after hq
    | next => exact False.elim hq
    | brk => exact False.elim hq
    | cont => exact False.elim hq
end
end Fd

set_option Elab.async false
set_option linter.all false
set_option maxRecDepth 100000
set_option maxHeartbeats 4000000
namespace Fd
open PySem PySem.Spec PyProof.Rows L2
theorem okd_un {bs : List PyData} {r : Un} (hb : bs.length ≤ 100 ∧ ∀ d ∈ bs, OkD 20 d) (h : ∀ its fs g, r = .ok (its, fs, g) → its.length ≤ 900 ∧ (∀ d ∈ its, OkD 20 d) ∧ OkD 21 (frD fs)) : OkD 22 (unD bs r) := by
  cases r with
  | error z => exact ⟨(by show 1 ≤ 1000; decide), fun d hd => by rw [List.mem_singleton.mp hd]; trivial⟩
  | ok r =>
    obtain ⟨its, fs, g⟩ := r
    obtain ⟨h1, h2, h3⟩ := h its fs g rfl
    refine ⟨(by show 3 ≤ 1000; decide), fun d hd => ?_⟩
    rcases List.mem_cons.mp hd with z | hd
    · rw [z]
      refine ⟨by rw [List.length_append]; have := hb.1; omega, fun x hx => ?_⟩
      rcases List.mem_append.mp hx with y | y
      · exact h2 x y
      · exact hb.2 x y
    rcases List.mem_cons.mp hd with z | hd
    · rw [z]; exact h3
    · rw [List.mem_singleton.mp hd]; trivial
section
variable {P : Program} {w : World} {K : PySem.W.Frag} {mg : Str → Option Value} {base : Heap} {f : Addr} {fd : FuncData}
abbrev sAs : Stmt := top 67
theorem scAs : FnScope ["_law_rest", "_law_frames", "_law_eyes", "_law_pieces", "_law_kept", "_law_due_here"] ["_law_rest", "_law_frames", "_law_eyes", "_law_pieces"] (defScope sAs) := ⟨rfl, rfl, rfl, by decide +kernel, rfl, by decide +kernel, by decide +kernel⟩
-- ["_law_rest", "_law_frames", "_law_eyes", "_law_pieces", "_law_kept", "_law_due_here"]
def spAs (K : PySem.W.Frag) (okI : It → Prop) : Sp := fun vs H Q _ => ∃ (vr vf : V) (e : Addr) (vp : V) (i : It) (bs : List PyData) (Y : Ey) (fs : List Fr) (ps : List Pc) (ws : List Str) (x3 : Str), vs = [vr, vf, .ref e, vp] ∧ okI i ∧ Dp K H vr (.tuple (itD i :: bs)) ∧ Nc 20 100000 (.tuple (itD i :: bs)) ∧ bs.length ≤ 100 ∧ i.ok6 ∧ i.okP ps ∧ i.okW ws ∧ i.okL x3 ∧ Dp K H vf (frD fs) ∧ (∀ f ∈ fs, F1Ok f) ∧ fs.length ≤ 12 ∧ Dp K H (.ref e) (eyD Y) ∧ EyOk ws Y ∧ (∀ z ∈ ws, IsNm z) ∧ (∃ row, Y.lists = [(x3, row)]) ∧ Dp K H vp (pcD ps) ∧ Nc 20 50000 (pcD ps) ∧
  (∀ its fs' g, unroll Y fs ps i = .ok (its, fs', g) → its.length ≤ 900) ∧ OkD 22 (unD bs (unroll Y fs ps i)) ∧ ∀ H', Same H H' → Q (.bl true) H'
theorem ok_as {k : Nat} {okI : It → Prop} (F : Fun K "_law_as_due" "_law_as_due" sAs f fd) (GD : FnG P w K mg base CX0 k "_law_due" ["_law_rest", "_law_frames", "_law_eyes", "_law_pieces"] (spDue K okI)) (GO : FnG P w K mg base CX0 k "_law_told" ["_law_rest", "_law_frames", "_law_eyes", "_law_pieces"] (spToldU K okI))
    (GS : FnG P w K mg base CX0 k "_law_same" ["_law_found", "_law_due_here"] (spSame K 22)) (m_repr : mg "repr" = none) : FnOkG P w K mg base (k + 1) f fd ["_law_rest", "_law_frames", "_law_eyes", "_law_pieces"] (spAs K okI) := by
  obtain ⟨_, _, G__law_due, m__law_due, k__law_due, b__law_due⟩ := GD
  obtain ⟨_, _, G__law_told, m__law_told, k__law_told, b__law_told⟩ := GO
  obtain ⟨_, _, G__law_same, m__law_same, k__law_same, b__law_same⟩ := GS
  have sc := scAs
  refine ⟨fun vs H Q E h => ?_, fun A outer s H args us vs Q E hA hr0 e0 hb0 rv h => enter F sc ?_ hr0 e0 hb0 rv fun cdv hr => ?_⟩
  · obtain ⟨vr, vf, e, vp, i, bs, Y, fs, ps, ws, x3, rfl, _⟩ := h
    rfl
  · obtain ⟨vr, vf, e, vp, i, bs, Y, fs, ps, ws, x3, rfl, _⟩ := h
    rfl
  obtain ⟨vr, vf, e, vp, i, bs, Y, fs, ps, ws, x3, rfl, oI, hR, nR, hb, o6, oP, oW, oL, hf, of, lf, hE, oE, hnm, hrow, hp, nP, h9, hO, q⟩ := h
  refine ⟨_, (pss_cons (ps_set (i := 4) sc.nd rfl (.inl rfl) (pe_callB (call_reprD hA hr.units) (by rfl) m_repr (by decide +kernel) (pa_cons (pe_tup (pa_cons (pv 0) (pa_cons (pv 1) (pa_cons (pv 2) (pa_cons (pv 3) pa_nil))))) pa_nil)))
      (pss_cons (ps_set (i := 5) sc.nd rfl (.inl rfl) (pe_call G__law_due (hr.mono (by omega)) (by rfl) m__law_due k__law_due b__law_due .nil pass0 (pa_cons (pv 0) (pa_cons (pv 1) (pa_cons (pv 2) (pa_cons (pv 3) pa_nil))))))
      (pss_cons (ps_if (pt_not (pt_val (pe_call G__law_same (hr.mono (by omega)) (by rfl) m__law_same k__law_same b__law_same .nil pass0 (pa_cons (pe_call G__law_told (hr.mono (by omega)) (by rfl) m__law_told k__law_told b__law_told .nil pass0 (pa_cons (pv 0) (pa_cons (pv 1) (pa_cons (pv 2) (pa_cons (pv 3) pa_nil))))) (pa_cons (pv 5) pa_nil))))) (pss_one (ps_ret pe_bl)) pss_nil)
      (pss_one (ps_ret (pe_and (pe_call G__law_same (hr.mono (by omega)) (by rfl) m__law_same k__law_same b__law_same .nil pass0 (pa_cons (pe_call G__law_told (hr.mono (by omega)) (by rfl) m__law_told k__law_told b__law_told .nil pass0 (pa_cons (pv 0) (pa_cons (pv 1) (pa_cons (pv 2) (pa_cons (pv 3) pa_nil))))) (pa_cons (pv 5) pa_nil))) (pe_one (pe_cmpR op_eq (pe_callB (call_reprD hA hr.units) (by rfl) m_repr (by decide +kernel) (pa_cons (pe_tup (pa_cons (pv 0) (pa_cons (pv 1) (pa_cons (pv 2) (pa_cons (pv 3) pa_nil))))) pa_nil)) (pv 4) (nomark _))))))))), ?_⟩
  have z4 : 4 ≤ sizeLine := by decide
  have nF := nc_fr of lf
  have sE := shw_ey hnm oE
  have sh : Shw (.tuple [.tuple (itD i :: bs), frD fs, eyD Y, pcD ps]) 21 200000 := by
    refine ((ShwA.cons nR.s (ShwA.cons (nF.s.le (by decide) (Nat.le_refl _)) (ShwA.cons (sE.le (by decide) (Nat.le_refl _)) (ShwA.cons nP.s (.nil (b := 0)))))).tup).le (Nat.le_refl _) (by decide)
  obtain ⟨z, hz⟩ : ∃ z, (PyData.tuple [.tuple (itD i :: bs), frD fs, eyD Y, pcD ps]).shown = z := ⟨_, rfl⟩
  have dall : ∀ {H' : Hp} {T : Addr}, Same H H' → H' T = some (.tup [vr, vf, .ref e, vp]) → Dp K H' (.ref T) (.tuple [.tuple (itD i :: bs), frD fs, eyD Y, pcD ps]) := fun s hT => .tup (SqT.of hT) (.cons (dp_same s _ _ hR) (.cons (dp_same s _ _ hf) (.cons (dp_same s _ _ hE) (.cons (dp_same s _ _ hp) .nil))))
  have eyOf : ∀ {Hx : Hp}, Same H Hx → Eyes K Hx e Y := fun s => by
    obtain ⟨e', ee, h⟩ := ey_sd oE.s4 (sd_same s _ _ (sd_dp _ _ hE))
    cases ee
    exact h
  refine ⟨_, rfl, _, rfl, _, rfl, _, rfl, z4, fun T nT => ⟨.ref T, _, rfl, dall (same_upd nT) upd_same, rfl, sh.s, sh.n, Nat.le_trans sh.d (by decide), sh.fits2, z, hz, ?_⟩⟩
  have s1 : Same H (upd H T (.tup [vr, vf, .ref e, vp])) := same_upd nT
  refine ⟨_, rfl, _, rfl, _, rfl, _, rfl, vr, vf, e, vp, i, bs, Y, fs, ps, ws, x3, rfl, oI, dp_same s1 _ _ hR, hb, o6, oP, oW, oL, dp_same s1 _ _ hf, by omega, dp_same s1 _ _ hE, oE, hrow, dp_same s1 _ _ hp, h9, fun vd H1 s2 dd => ?_⟩
  have S1 := s1.trans s2
  refine ⟨_, rfl, _, rfl, _, rfl, _, rfl, vr, vf, e, vp, i, bs, Y, fs, ps, _, _, rfl, oI, dp_same S1 _ _ hR, nR.t, okd_le nR.o (by decide), hb, dp_same S1 _ _ hf, nF.t, okd_le nF.o (by decide), by omega, eyOf S1, dp_same S1 _ _ hp, nP.t, okd_le nP.o (by decide), o6, oP, ⟨ws, oW⟩, h9, fun v1 H2 s3 d1 => ?_⟩
  refine ⟨_, rfl, v1, vd, _, rfl, d1, dp_same s3 _ _ dd, hO, fun H3 s4 => ⟨_, rfl, iteF ?_⟩⟩
  have S3 := S1.trans (s3.trans s4)
  have dd3 := dp_same (s3.trans s4) _ _ dd
  refine ⟨_, rfl, _, rfl, _, rfl, _, rfl, vr, vf, e, vp, i, bs, Y, fs, ps, _, _, rfl, oI, dp_same S3 _ _ hR, nR.t, okd_le nR.o (by decide), hb, dp_same S3 _ _ hf, nF.t, okd_le nF.o (by decide), by omega, eyOf S3, dp_same S3 _ _ hp, nP.t, okd_le nP.o (by decide), o6, oP, ⟨ws, oW⟩, h9, fun v2 H4 s5 d2 => ?_⟩
  refine ⟨_, rfl, v2, vd, _, rfl, d2, dp_same s5 _ _ dd3, hO, fun H5 s6 => ⟨_, rfl, iteT ?_⟩⟩
  have S5 := S3.trans (s5.trans s6)
  refine ⟨_, rfl, _, rfl, _, rfl, _, rfl, z4, fun T2 nT2 => ⟨.ref T2, _, rfl, dall (S5.trans (same_upd nT2)) upd_same, rfl, sh.s, sh.n, Nat.le_trans sh.d (by decide), sh.fits2, z, hz, _, rfl, rfl, ?_⟩⟩
  rw [decide_eq_true rfl]
  exact q _ (S5.trans (same_upd nT2))
end
end Fd

set_option Elab.async false
set_option linter.all false
set_option maxRecDepth 100000
set_option maxHeartbeats 2000000
namespace Fd
open PySem PySem.Spec PyProof.Rows L2
open StX (pa_star)
theorem dp_three {K : PySem.W.Frag} {H : Hp} {v : V} {d e g : PyData} (h : Dp K H v (.tuple [d, e, g])) : ∃ a x y z, v = .ref a ∧ SqT K H a [x, y, z] ∧ Dp K H x d ∧ Dp K H y e ∧ Dp K H z g := by
  obtain ⟨a, xs, rfl, ha, hx⟩ := dp_tup h
  obtain ⟨x, r, rfl, k1, hx⟩ := dpA_cons hx
  obtain ⟨y, r, rfl, k2, hx⟩ := dpA_cons hx
  obtain ⟨z, r, rfl, k3, hx⟩ := dpA_cons hx
  rw [dpA_nil hx] at ha
  exact ⟨a, x, y, z, rfl, ha, k1, k2, k3⟩
theorem dp_four {K : PySem.W.Frag} {H : Hp} {v : V} {d e g i : PyData} (h : Dp K H v (.tuple [d, e, g, i])) : ∃ a x y z u, v = .ref a ∧ SqT K H a [x, y, z, u] ∧ Dp K H x d ∧ Dp K H y e ∧ Dp K H z g ∧ Dp K H u i := by
  obtain ⟨a, xs, rfl, ha, hx⟩ := dp_tup h
  obtain ⟨x, r, rfl, k1, hx⟩ := dpA_cons hx
  obtain ⟨y, r, rfl, k2, hx⟩ := dpA_cons hx
  obtain ⟨z, r, rfl, k3, hx⟩ := dpA_cons hx
  obtain ⟨u, r, rfl, k4, hx⟩ := dpA_cons hx
  rw [dpA_nil hx] at ha
  exact ⟨a, x, y, z, u, rfl, ha, k1, k2, k3, k4⟩
/-- a block not too long nor too deep -/
def BkOk (b : List PyData) : Prop := b.length ≤ 100 ∧ ∀ d ∈ b, OkD 14 d
def isLoop : It → Prop
  | .if_ _ a b => BkOk a ∧ BkOk b
  | .times _ b => BkOk b
  | .while_ _ b => BkOk b
  | .ever b => BkOk b
  | _ => False
theorem bk_size {b : List PyData} {xs : List V} {y : V} {K : PySem.W.Frag} {H : Hp} (h : BkOk b) (hx : DpAll K H xs b) : (xs ++ [y]).length ≤ sizeLine := by
  rw [List.length_append, dpAll_len hx]
  have := h.1
  have e : sizeLine = 16777216 := by decide
  show b.length + 1 ≤ _
  omega
section
variable {P : Program} {w : World} {K : PySem.W.Frag} {mg : Str → Option Value} {base : Heap} {f C fI cm : Addr} {fd : FuncData} {fc : Str → Addr}
/-! ### by_if -/
abbrev sByIf : Stmt := top 35
theorem ok_byIf {k : Nat} (F : Fun K "by_if" "by_if" sByIf f fd) (GV : GHold P w K mg base C k) : FnOk P w K mg base (L2.CX P w) (k + 1) f fd ["item", "frames", "eyes", "pieces"] (fun vs H Q E => ∃ t b1 b2, spBy K C (.if_ t b1 b2) vs H Q E) := by
  obtain ⟨_, _, G_holds, m_holds, k_holds, b_holds⟩ := GV
  have sc : FnScope ["item", "frames", "eyes", "pieces"] ["item", "frames", "eyes", "pieces"] (defScope sByIf) := ⟨rfl, rfl, rfl, by decide +kernel, rfl, by decide +kernel, by decide +kernel⟩
  refine F.okX sc (fun vs H Q E h => ?_) (fun cdv A outer s H vs Q E hr h => ?_)
  · obtain ⟨t, b1, b2, vi, vf, e, vp, Y, fs, ps, rfl, _⟩ := h
    rfl
  obtain ⟨t, b1, b2, vi, vf, e, vp, Y, fs, ps, rfl, hi, hf, hl, hE, hp, o6, oP, ⟨ws, oW⟩, q⟩ := h
  refine ⟨_, (pss_one (ps_ret (pe_tup (pa_cons (pe_ifExp (pt_val (pe_callS G_holds (hr.mono (by omega)) (by rfl) m_holds k_holds b_holds (fun σ => passAt (takes_of rfl rfl rfl rfl) σ) (pa_cons (pe_ix ix_tup (pv 0) pe_int (fun _ _ => rfl)) (pa_cons (pv 2) pa_nil)))) (pe_ix ix_tup (pv 0) pe_int (fun _ _ => rfl)) (pe_ix ix_tup (pv 0) pe_int (fun _ _ => rfl))) (pa_cons (pv 1) (pa_cons pe_bl pa_nil)))))), ?_⟩
  have z3 : 3 ≤ sizeLine := by decide
  obtain ⟨a, u, y, x1, x2, rfl, ha, hu, hy, h1, h2⟩ := dp_four (show Dp K H vi (.tuple [.str "if", tsD t, .tuple b1, .tuple b2]) from hi)
  rw [dp_str hu] at ha
  have q : ComesU K C H (thenB (hold Y t) fun x => .ok (if x = true then b1 else b2, fs, false)) Q E := q
  refine ⟨_, rfl, a, _, 1, _, rfl, rfl, ha, rfl, _, rfl, y, e, t, Y, rfl, ts_sd oW (sd_dp _ _ hy), o6, hE, ?_⟩
  cases ev : hold Y t with
  | error z =>
    rw [ev] at q
    exact fun d nd => q H (Same.refl _) d nd
  | ok b =>
    rw [ev] at q
    cases b with
    | true => exact ⟨_, rfl, iteT ⟨_, rfl, a, _, 2, _, rfl, rfl, ha, rfl, _, rfl, z3, fun p np => q p x1 vf _ (same_upd np) upd_same (dp_same (same_upd np) _ _ h1) (dp_same (same_upd np) _ _ hf)⟩⟩
    | false => exact ⟨_, rfl, iteF ⟨_, rfl, a, _, 3, _, rfl, rfl, ha, rfl, _, rfl, z3, fun p np => q p x2 vf _ (same_upd np) upd_same (dp_same (same_upd np) _ _ h2) (dp_same (same_upd np) _ _ hf)⟩⟩
/-! ### by_ever -/
abbrev sByEver : Stmt := top 38
theorem ok_byEver {k : Nat} (F : Fun K "by_ever" "by_ever" sByEver f fd) : FnOk P w K mg base (L2.CX P w) (k + 1) f fd ["item", "frames", "eyes", "pieces"] (fun vs H Q E => ∃ b, BkOk b ∧ spBy K C (.ever b) vs H Q E) := by
  have sc : FnScope ["item", "frames", "eyes", "pieces"] ["item", "frames", "eyes", "pieces"] (defScope sByEver) := ⟨rfl, rfl, rfl, by decide +kernel, rfl, by decide +kernel, by decide +kernel⟩
  refine F.okX sc (fun vs H Q E h => ?_) (fun cdv A outer s H vs Q E hr h => ?_)
  · obtain ⟨b, _, vi, vf, e, vp, Y, fs, ps, rfl, _⟩ := h
    rfl
  obtain ⟨b, ob, vi, vf, e, vp, Y, fs, ps, rfl, hi, hf, hl, hE, hp, o6, oP, ⟨ws, oW⟩, q⟩ := h
  refine ⟨_, (pss_one (ps_ret (pe_tup (pa_cons (pe_tup (pa_star (pe_ix ix_tup (pv 0) pe_int (fun _ _ => rfl)) (pa_cons (pe_tup (pa_cons pe_str (pa_cons (pv 0) pa_nil))) pa_nil))) (pa_cons (pv 1) (pa_cons pe_bl pa_nil)))))), ?_⟩
  have z2 : 2 ≤ sizeLine := by decide
  have z3 : 3 ≤ sizeLine := by decide
  obtain ⟨a, u, y, rfl, ha, hu, hy⟩ := dp_pair (show Dp K H vi (.tuple [.str "ever", .tuple b]) from hi)
  rw [dp_str hu] at ha
  obtain ⟨ab, xb, rfl, hab, hxb⟩ := dp_tup hy
  have q : ComesU K C H (.ok (b ++ [.tuple [.str "round", itD (.ever b)]], fs, false)) Q E := q
  refine ⟨_, rfl, a, _, 1, _, rfl, rfl, ha, rfl, ab, xb, rfl, .inl hab, _, rfl, z2, fun t1 n1 => ⟨bk_size ob hxb, fun t2 n2 => ⟨_, rfl, z3, fun p np => ?_⟩⟩⟩
  have x1 := same_upd (o := .tup [.str "round", .ref a]) n1
  have x2 := same_upd (o := .tup (xb ++ [.ref t1])) n2
  have x3 := same_upd (o := .tup [.ref t2, vf, .bl false]) np
  have X := x1.trans (x2.trans x3)
  exact q p (.ref t2) vf _ X upd_same (.tup (SqT.of (x3 _ _ upd_same)) (dpAll_snoc (.tup (SqT.of ((x2.trans x3) _ _ upd_same)) (.cons (.str _) (.cons (dp_same X _ _ hi) .nil))) (dpAll_same X _ _ hxb))) (dp_same X _ _ hf)
/-! ### by_while -/
abbrev sByWhile : Stmt := top 37
theorem ok_byWhile {k : Nat} (F : Fun K "by_while" "by_while" sByWhile f fd) (GV : GHold P w K mg base C k) : FnOk P w K mg base (L2.CX P w) (k + 1) f fd ["item", "frames", "eyes", "pieces"] (fun vs H Q E => ∃ t b, BkOk b ∧ spBy K C (.while_ t b) vs H Q E) := by
  obtain ⟨_, _, G_holds, m_holds, k_holds, b_holds⟩ := GV
  have sc : FnScope ["item", "frames", "eyes", "pieces"] ["item", "frames", "eyes", "pieces"] (defScope sByWhile) := ⟨rfl, rfl, rfl, by decide +kernel, rfl, by decide +kernel, by decide +kernel⟩
  refine F.okX sc (fun vs H Q E h => ?_) (fun cdv A outer s H vs Q E hr h => ?_)
  · obtain ⟨t, b, _, vi, vf, e, vp, Y, fs, ps, rfl, _⟩ := h
    rfl
  obtain ⟨t, b, ob, vi, vf, e, vp, Y, fs, ps, rfl, hi, hf, hl, hE, hp, o6, oP, ⟨ws, oW⟩, q⟩ := h
  refine ⟨_, (pss_cons (ps_if (pt_not (pt_val (pe_callS G_holds (hr.mono (by omega)) (by rfl) m_holds k_holds b_holds (fun σ => passAt (takes_of rfl rfl rfl rfl) σ) (pa_cons (pe_ix ix_tup (pv 0) pe_int (fun _ _ => rfl)) (pa_cons (pv 2) pa_nil))))) (pss_one (ps_ret (pe_tup (pa_cons (pe_tup pa_nil) (pa_cons (pv 1) (pa_cons pe_bl pa_nil)))))) pss_nil)
      (pss_one (ps_ret (pe_tup (pa_cons (pe_tup (pa_star (pe_ix ix_tup (pv 0) pe_int (fun _ _ => rfl)) (pa_cons (pe_tup (pa_cons pe_str (pa_cons (pv 0) pa_nil))) pa_nil))) (pa_cons (pv 1) (pa_cons pe_bl pa_nil))))))), ?_⟩
  have z0 : 0 ≤ sizeLine := Nat.zero_le _
  have z2 : 2 ≤ sizeLine := by decide
  have z3 : 3 ≤ sizeLine := by decide
  obtain ⟨a, u, y, x1, rfl, ha, hu, hy, h1⟩ := dp_three (show Dp K H vi (.tuple [.str "while", tsD t, .tuple b]) from hi)
  rw [dp_str hu] at ha
  obtain ⟨ab, xb, rfl, hab, hxb⟩ := dp_tup h1
  have q : ComesU K C H (thenB (hold Y t) fun x => if x = true then .ok (b ++ [.tuple [.str "round", itD (.while_ t b)]], fs, false) else .ok ([], fs, false)) Q E := q
  refine ⟨_, rfl, a, _, 1, _, rfl, rfl, ha, rfl, _, rfl, y, e, t, Y, rfl, ts_sd oW (sd_dp _ _ hy), o6, hE, ?_⟩
  cases ev : hold Y t with
  | error z =>
    rw [ev] at q
    exact fun d nd => q H (Same.refl _) d nd
  | ok b' =>
    rw [ev] at q
    cases b' with
    | false => exact ⟨_, rfl, iteT ⟨z0, fun t nt => ⟨_, rfl, z3, fun p np => q p (.ref t) vf _ ((same_upd nt).trans (same_upd np)) upd_same (.tup (SqT.of (same_upd np _ _ upd_same)) .nil) (dp_same ((same_upd nt).trans (same_upd np)) _ _ hf)⟩⟩⟩
    | true =>
      refine ⟨_, rfl, iteF ⟨_, rfl, a, _, 2, _, rfl, rfl, ha, rfl, ab, xb, rfl, .inl hab, _, rfl, z2, fun t1 n1 => ⟨bk_size ob hxb, fun t2 n2 => ⟨_, rfl, z3, fun p np => ?_⟩⟩⟩⟩
      have x1 := same_upd (o := .tup [.str "round", .ref a]) n1
      have x2 := same_upd (o := .tup (xb ++ [.ref t1])) n2
      have x3 := same_upd (o := .tup [.ref t2, vf, .bl false]) np
      have X := x1.trans (x2.trans x3)
      exact q p (.ref t2) vf _ X upd_same (.tup (SqT.of (x3 _ _ upd_same)) (dpAll_snoc (.tup (SqT.of ((x2.trans x3) _ _ upd_same)) (.cons (.str _) (.cons (dp_same X _ _ hi) .nil))) (dpAll_same X _ _ hxb))) (dp_same X _ _ hf)
/-! ### by_times -/
abbrev sByTimes : Stmt := top 36
theorem ok_byTimes {k : Nat} (F : Fun K "by_times" "by_times" sByTimes f fd) (GV : GVal P w K mg base C k) : FnOk P w K mg base (L2.CX P w) (k + 1) f fd ["item", "frames", "eyes", "pieces"] (fun vs H Q E => ∃ L b, BkOk b ∧ spBy K C (.times L b) vs H Q E) := by
  obtain ⟨_, _, G_value_of, m_value_of, k_value_of, b_value_of⟩ := GV
  have sc : FnScope ["item", "frames", "eyes", "pieces", "value", "again"] ["item", "frames", "eyes", "pieces"] (defScope sByTimes) := ⟨rfl, rfl, rfl, by decide +kernel, rfl, by decide +kernel, by decide +kernel⟩
  refine F.okX sc (fun vs H Q E h => ?_) (fun cdv A outer s H vs Q E hr h => ?_)
  · obtain ⟨L, b, _, vi, vf, e, vp, Y, fs, ps, rfl, _⟩ := h
    rfl
  obtain ⟨L, b, ob, vi, vf, e, vp, Y, fs, ps, rfl, hi, hf, hl, hE, hp, o6, oP, ⟨ws, oW⟩, q⟩ := h
  refine ⟨_, (pss_cons (ps_set (i := 4) sc.nd rfl (.inl rfl) (pe_callS G_value_of (hr.mono (by omega)) (by rfl) m_value_of k_value_of b_value_of (fun σ => passAt (takes_of rfl rfl rfl rfl) σ) (pa_cons (pe_ix ix_tup (pv 0) pe_int (fun _ _ => rfl)) (pa_cons (pv 2) pa_nil))))
      (pss_cons (ps_if (pt_cmpR op_lt (pv 4) pe_int (nomark _)) (pss_one (ps_ret (pe_tup (pa_cons (pe_tup pa_nil) (pa_cons (pv 1) (pa_cons pe_bl pa_nil)))))) pss_nil)
      (pss_cons (ps_set (i := 5) sc.nd rfl (.inl rfl) (pe_tup (pa_cons pe_str (pa_cons (pe_op op_sub (pv 4) pe_int) (pa_cons (pe_ix ix_tup (pv 0) pe_int (fun _ _ => rfl)) pa_nil)))))
      (pss_one (ps_ret (pe_tup (pa_cons (pe_tup (pa_star (pe_ix ix_tup (pv 0) pe_int (fun _ _ => rfl)) (pa_cons (pe_tup (pa_cons pe_str (pa_cons (pv 5) pa_nil))) pa_nil))) (pa_cons (pv 1) (pa_cons pe_bl pa_nil))))))))), ?_⟩
  have z0 : 0 ≤ sizeLine := Nat.zero_le _
  have z2 : 2 ≤ sizeLine := by decide
  have z3 : 3 ≤ sizeLine := by decide
  obtain ⟨a, u, y, x1, rfl, ha, hu, hy, h1⟩ := dp_three (show Dp K H vi (.tuple [.str "times", lkD L, .tuple b]) from hi)
  rw [dp_str hu] at ha
  obtain ⟨ab, xb, rfl, hab, hxb⟩ := dp_tup h1
  have q : ComesU K C H (thenB (val Y L) fun v => if v < 1 then .ok ([], fs, false) else .ok (b ++ [.tuple [.str "round", .tuple [.str "times", .int (v - 1), .tuple b]]], fs, false)) Q E := q
  refine ⟨_, rfl, a, _, 1, _, rfl, rfl, ha, rfl, _, rfl, y, e, L, Y, rfl, lk_sd oW (sd_dp _ _ hy), o6, hE, ?_⟩
  cases ev : val Y L with
  | error z =>
    rw [ev] at q
    exact fun d nd => q H (Same.refl _) d nd
  | ok v =>
    rw [ev] at q
    have q : ComesU K C H (if v < 1 then .ok ([], fs, false) else .ok (b ++ [.tuple [.str "round", .tuple [.str "times", .int (v - 1), .tuple b]]], fs, false)) Q E := q
    refine ⟨_, rfl, _, _, rfl, rfl, _, rfl, ite2 (fun c => ?_) (fun c => ?_)⟩
    · rw [if_pos (of_decide_eq_true c)] at q
      exact ⟨z0, fun t nt => ⟨_, rfl, z3, fun p np => q p (.ref t) vf _ ((same_upd nt).trans (same_upd np)) upd_same (.tup (SqT.of (same_upd np _ _ upd_same)) .nil) (dp_same ((same_upd nt).trans (same_upd np)) _ _ hf)⟩⟩
    · rw [if_neg (fun z => c (decide_eq_true z))] at q
      refine ⟨_, rfl, _, _, rfl, rfl, _, rfl, a, _, 2, _, rfl, rfl, ha, rfl, z3, fun t0 n0 => ?_⟩
      have x0 := same_upd (o := .tup [.str "times", .int (v - 1), .ref ab]) n0
      refine ⟨_, rfl, a, _, 2, _, rfl, rfl, seqT x0 ha, rfl, ab, xb, rfl, .inl (seqT x0 hab), _, rfl, z2, fun t1 n1 => ⟨bk_size ob hxb, fun t2 n2 => ⟨_, rfl, z3, fun p np => ?_⟩⟩⟩
      have x1 := same_upd (o := .tup [.str "round", .ref t0]) n1
      have x2 := same_upd (o := .tup (xb ++ [.ref t1])) n2
      have x3 := same_upd (o := .tup [.ref t2, vf, .bl false]) np
      have X := x0.trans (x1.trans (x2.trans x3))
      exact q p (.ref t2) vf _ X upd_same (.tup (SqT.of (x3 _ _ upd_same)) (dpAll_snoc (.tup (SqT.of ((x2.trans x3) _ _ upd_same)) (.cons (.str _) (.cons (.tup (SqT.of ((x1.trans (x2.trans x3)) _ _ upd_same)) (.cons (.str _) (.cons (.int _) (.cons (dp_same X _ _ h1) .nil)))) .nil))) (dpAll_same X _ _ hxb))) (dp_same X _ _ hf)
end
end Fd

set_option Elab.async false
set_option linter.all false
set_option maxRecDepth 100000
set_option maxHeartbeats 2000000
namespace Fd
open PySem PySem.Spec PyProof.Rows L2
def LoopAt (K : PySem.W.Frag) (H : Hp) (p : Addr) (r : Un) : Prop := match r with
  | .ok (its, _, _) => ∃ t, H p = some (.tup [.ref t, .non]) ∧ Dp K H (.ref t) (.tuple its)
  | .error z => ∃ t, H p = some (.tup [.ref t, .str z])
section
variable {P : Program} {w : World} {K : PySem.W.Frag} {mg : Str → Option Value} {base : Heap} {f : Addr} {fd : FuncData}
abbrev sLooped : Stmt := top 62
theorem scLooped : FnScope ["_law_deed", "_law_eyes", "_law_left", "_law_fell", "_law_one"] ["_law_deed", "_law_eyes"] (defScope sLooped) := ⟨rfl, rfl, rfl, by decide +kernel, rfl, by decide +kernel, by decide +kernel⟩
-- ["_law_deed", "_law_eyes", "_law_left", "_law_fell", "_law_one"]
def spLooped (K : PySem.W.Frag) : Sp := fun vs H Q _ => ∃ (vd : V) (e : Addr) (i : It) (Y : Ey) (fs : List Fr) (ps : List Pc) (ws : List Str) (x3 : Str), vs = [vd, .ref e] ∧ isLoop i ∧ Dp K H vd (itD i) ∧ i.ok6 ∧ i.okP ps ∧ i.okW ws ∧ i.okL x3 ∧ Dp K H (.ref e) (eyD Y) ∧ EyOk ws Y ∧ (∃ row, Y.lists = [(x3, row)]) ∧
  ∀ p H', Same H H' → LoopAt K H' p (unroll Y fs ps i) → Q (.ref p) H'
/-- the end of a loop's turn: the block, then the round -/
theorem loop_end {H : Hp} {ab : Addr} {xb : List V} {b : List PyData} {d : PyData} {v : V} {Q : VK} (ob : BkOk b) (z1 : 1 ≤ sizeLine) (z2 : 2 ≤ sizeLine) (hab : SqT K H ab xb) (hxb : DpAll K H xb b) (hv : Dp K H v d)
    (q : ∀ p H', Same H H' → (∃ t, H' p = some (.tup [.ref t, .non]) ∧ Dp K H' (.ref t) (.tuple (b ++ [.tuple [.str "round", d]]))) → Q (.ref p) H') (t1 : Addr) (n1 : H t1 = none) (t2 : Addr) (n2 : upd H t1 (.tup [.str "round", v]) t2 = none) :
    rCatA K (.ref ab) (.ref t2) (upd (upd H t1 (.tup [.str "round", v])) t2 (.tup [.ref t1])) fun y H3 => 2 ≤ sizeLine ∧ ∀ p, H3 p = none → Q (.ref p) (upd H3 p (.tup [y, .non])) := by
  have x1 := same_upd (o := .tup [.str "round", v]) n1
  have x2 := same_upd (o := .tup [.ref t1]) n2
  refine catA_all (seqT (x1.trans x2) hab) (SqT.of upd_same) (by rw [dpAll_len hxb]; have := ob.1; show _ + 1 ≤ 1000; omega) fun p3 H3 s3 hp3 => ⟨z2, fun p np => ?_⟩
  have x4 := same_upd (o := .tup [.ref p3, .non]) np
  have X := x1.trans (x2.trans (s3.trans x4))
  exact q p _ X ⟨p3, upd_same, .tup (seqT x4 hp3) (dpAll_snoc (.tup (SqT.of ((x2.trans (s3.trans x4)) _ _ upd_same)) (.cons (.str _) (.cons (dp_same X _ _ hv) .nil))) (dpAll_same X _ _ hxb))⟩
theorem ok_looped {k : Nat} (F : Fun K "_law_looped" "_law_looped" sLooped f fd) (GV : FnG P w K mg base CX0 k "_law_valued" ["_law_look", "_law_eyes"] (spValued K 6)) (GH : FnG P w K mg base CX0 k "_law_held" ["_law_test", "_law_eyes"] (spHeld K 6)) :
    FnOk P w K mg base CX0 (k + 1) f fd ["_law_deed", "_law_eyes"] (spLooped K) := by
  obtain ⟨_, _, G__law_valued, m__law_valued, k__law_valued, b__law_valued⟩ := GV
  obtain ⟨_, _, G__law_held, m__law_held, k__law_held, b__law_held⟩ := GH
  have sc := scLooped
  refine F.ok sc (fun vs H Q E h => ?_) (fun cdv A outer s H vs Q E hr h => ?_)
  · obtain ⟨vd, e, i, Y, fs, ps, ws, x3, rfl, _⟩ := h
    rfl
  obtain ⟨vd, e, i, Y, fs, ps, ws, x3, rfl, gi, hi, o6, oP, oW, oL, hE, oE, hrow, q⟩ := h
  refine ⟨_, (pss_cons (ps_if (pt_cmpR op_eq (pe_ix ix_tup (pv 0) pe_int (fun _ _ => rfl)) pe_str (nomark _)) (pss_one (ps_ret (pe_tup (pa_cons (pe_op op_catA (pe_ix ix_tup (pv 0) pe_int (fun _ _ => rfl)) (pe_tup (pa_cons (pe_tup (pa_cons pe_str (pa_cons (pv 0) pa_nil))) pa_nil))) (pa_cons pe_non pa_nil))))) pss_nil)
      (pss_cons (ps_if (pt_cmpR op_eq (pe_ix ix_tup (pv 0) pe_int (fun _ _ => rfl)) pe_str (nomark _)) (pss_cons (ps_asg (pe_call G__law_valued (hr.mono (by omega)) (by rfl) m__law_valued k__law_valued b__law_valued .nil pass0 (pa_cons (pe_ix ix_tup (pv 0) pe_int (fun _ _ => rfl)) (pa_cons (pv 1) pa_nil))) (pg_tup (by rfl) (pgs_cons (pg_name (i := 2) sc.nd rfl (.inl rfl)) (pgs_cons (pg_name (i := 3) sc.nd rfl (.inl rfl)) pgs_nil))))
      (pss_cons (ps_if (PW.pt (pw_or (pt_cmpR op_notN (pv 3) pe_non (nomark _)) (pw_or1 (pt_cmpR op_lt (pv 2) pe_int (nomark _))))) (pss_one (ps_ret (pe_tup (pa_cons (pe_tup pa_nil) (pa_cons (pv 3) pa_nil))))) pss_nil)
      (pss_one (ps_ret (pe_tup (pa_cons (pe_op op_catA (pe_ix ix_tup (pv 0) pe_int (fun _ _ => rfl)) (pe_tup (pa_cons (pe_tup (pa_cons pe_str (pa_cons (pe_tup (pa_cons pe_str (pa_cons (pe_op op_sub (pv 2) pe_int) (pa_cons (pe_ix ix_tup (pv 0) pe_int (fun _ _ => rfl)) pa_nil)))) pa_nil))) pa_nil))) (pa_cons pe_non pa_nil))))))) pss_nil)
      (pss_cons (ps_asg (pe_call G__law_held (hr.mono (by omega)) (by rfl) m__law_held k__law_held b__law_held .nil pass0 (pa_cons (pe_ix ix_tup (pv 0) pe_int (fun _ _ => rfl)) (pa_cons (pv 1) pa_nil))) (pg_tup (by rfl) (pgs_cons (pg_name (i := 4) sc.nd rfl (.inl rfl)) (pgs_cons (pg_name (i := 3) sc.nd rfl (.inl rfl)) pgs_nil))))
      (pss_cons (ps_if (pt_cmpR op_notN (pv 3) pe_non (nomark _)) (pss_one (ps_ret (pe_tup (pa_cons (pe_tup pa_nil) (pa_cons (pv 3) pa_nil))))) pss_nil)
      (pss_cons (ps_if (pt_cmpR op_eq (pe_ix ix_tup (pv 0) pe_int (fun _ _ => rfl)) pe_str (nomark _)) (pss_one (ps_ret (pe_tup (pa_cons (pe_ifExp (pt_val (pv 4)) (pe_ix ix_tup (pv 0) pe_int (fun _ _ => rfl)) (pe_ix ix_tup (pv 0) pe_int (fun _ _ => rfl))) (pa_cons pe_non pa_nil))))) pss_nil)
      (pss_one (ps_ret (pe_tup (pa_cons (pe_ifExp (pt_val (pv 4)) (pe_op op_catA (pe_ix ix_tup (pv 0) pe_int (fun _ _ => rfl)) (pe_tup (pa_cons (pe_tup (pa_cons pe_str (pa_cons (pv 0) pa_nil))) pa_nil))) (pe_tup pa_nil)) (pa_cons pe_non pa_nil)))))))))), ?_⟩
  have z0 : 0 ≤ sizeLine := Nat.zero_le _
  have z1 : 1 ≤ sizeLine := by decide
  have z2 : 2 ≤ sizeLine := by decide
  have z3 : 3 ≤ sizeLine := by decide
  cases i with
  | ever b =>
    obtain ⟨a, u, y, rfl, ha, hu, hy⟩ := dp_pair (show Dp K H vd (.tuple [.str "ever", .tuple b]) from hi)
    rw [dp_str hu] at ha
    obtain ⟨ab, xb, rfl, hab, hxb⟩ := dp_tup hy
    refine ⟨_, rfl, a, _, 0, _, rfl, rfl, ha, rfl, rfl, _, rfl, iteB (by decide +kernel) ?_⟩
    exact ⟨_, rfl, a, _, 1, _, rfl, rfl, ha, rfl, _, rfl, z2, fun t1 n1 => ⟨z1, fun t2 n2 => loop_end gi z1 z2 hab hxb hi q t1 n1 t2 n2⟩⟩
  | times L b =>
    obtain ⟨a, u, y, x1, rfl, ha, hu, hy, h1⟩ := dp_three (show Dp K H vd (.tuple [.str "times", lkD L, .tuple b]) from hi)
    rw [dp_str hu] at ha
    obtain ⟨ab, xb, rfl, hab, hxb⟩ := dp_tup h1
    refine ⟨_, rfl, a, _, 0, _, rfl, rfl, ha, rfl, rfl, _, rfl, iteBF (by decide +kernel) ?_⟩
    refine ⟨_, rfl, a, _, 0, _, rfl, rfl, ha, rfl, rfl, _, rfl, iteB (by decide +kernel) ?_⟩
    refine ⟨_, rfl, a, _, 1, _, rfl, rfl, ha, rfl, _, rfl, y, e, L, Y, ws, x3, rfl, hy, oW, oL, o6, hE, oE, hrow, fun p1 H1 s1 h2 => ?_⟩
    have q : ∀ p H', Same H H' → LoopAt K H' p (thenB (val Y L) fun v => if v < 1 then .ok ([], fs, false) else .ok (b ++ [.tuple [.str "round", .tuple [.str "times", .int (v - 1), .tuple b]]], fs, false)) → Q (.ref p) H' := q
    cases ev : val Y L with
    | error z =>
      rw [ev] at h2 q
      exact ⟨p1, _, rfl, SqT.of h2, rfl, _, _, rfl, _, _, rfl, rfl, _, rfl, rfl, _, rfl, iteT ⟨z0, fun t nt => ⟨_, rfl, z2, fun p np => q p _ (s1.trans ((same_upd nt).trans (same_upd np))) ⟨t, upd_same⟩⟩⟩⟩
    | ok v =>
      rw [ev] at h2 q
      have q : ∀ p H', Same H H' → LoopAt K H' p (if v < 1 then .ok ([], fs, false) else .ok (b ++ [.tuple [.str "round", .tuple [.str "times", .int (v - 1), .tuple b]]], fs, false)) → Q (.ref p) H' := q
      refine ⟨p1, _, rfl, SqT.of h2, rfl, _, _, rfl, _, _, rfl, rfl, _, rfl, rfl, _, rfl, iteF ⟨_, rfl, _, _, rfl, rfl, _, rfl, ite2 (fun c => ?_) (fun c => ?_)⟩⟩
      · rw [if_pos (of_decide_eq_true c)] at q
        exact ⟨z0, fun t nt => ⟨_, rfl, z2, fun p np => q p _ (s1.trans ((same_upd nt).trans (same_upd np))) ⟨t, upd_same, .tup (SqT.of (same_upd np _ _ upd_same)) .nil⟩⟩⟩
      · rw [if_neg (fun z => c (decide_eq_true z))] at q
        refine ⟨_, rfl, a, _, 2, _, rfl, rfl, seqT s1 ha, rfl, _, rfl, _, _, rfl, rfl, _, rfl, a, _, 2, _, rfl, rfl, seqT s1 ha, rfl, z3, fun t0 n0 => ⟨z2, fun t1 n1 => ⟨z1, fun t2 n2 => ?_⟩⟩⟩
        have x0 := same_upd (o := .tup [.str "times", .int (v - 1), .ref ab]) n0
        exact loop_end gi z1 z2 (seqT (s1.trans x0) hab) (dpAll_same (s1.trans x0) _ _ hxb) (.tup (SqT.of upd_same) (.cons (.str _) (.cons (.int _) (.cons (dp_same (s1.trans x0) _ _ h1) .nil)))) (fun p H' s' k => q p H' ((s1.trans x0).trans s') k) t1 n1 t2 n2
  | if_ t b1 b2 =>
    obtain ⟨a, u, y, x1, x2, rfl, ha, hu, hy, h1, h2⟩ := dp_four (show Dp K H vd (.tuple [.str "if", tsD t, .tuple b1, .tuple b2]) from hi)
    rw [dp_str hu] at ha
    obtain ⟨ab1, xb1, rfl, _, _⟩ := dp_tup h1
    obtain ⟨ab2, xb2, rfl, _, _⟩ := dp_tup h2
    refine ⟨_, rfl, a, _, 0, _, rfl, rfl, ha, rfl, rfl, _, rfl, iteBF (by decide +kernel) ?_⟩
    refine ⟨_, rfl, a, _, 0, _, rfl, rfl, ha, rfl, rfl, _, rfl, iteBF (by decide +kernel) ?_⟩
    refine ⟨_, rfl, a, _, 1, _, rfl, rfl, ha, rfl, _, rfl, y, e, t, Y, ws, x3, rfl, hy, oW, oL, o6, hE, oE, hrow, fun p1 H1 s1 h3 => ?_⟩
    have q : ∀ p H', Same H H' → LoopAt K H' p (thenB (hold Y t) fun x => .ok (if x = true then b1 else b2, fs, false)) → Q (.ref p) H' := q
    cases ev : hold Y t with
    | error z =>
      rw [ev] at h3 q
      exact ⟨p1, _, rfl, SqT.of h3, rfl, _, _, rfl, _, _, rfl, rfl, _, rfl, rfl, _, rfl, iteT ⟨z0, fun t nt => ⟨_, rfl, z2, fun p np => q p _ (s1.trans ((same_upd nt).trans (same_upd np))) ⟨t, upd_same⟩⟩⟩⟩
    | ok b =>
      rw [ev] at h3 q
      refine ⟨p1, _, rfl, SqT.of h3, rfl, _, _, rfl, _, _, rfl, rfl, _, rfl, rfl, _, rfl, iteF ?_⟩
      refine ⟨_, rfl, a, _, 0, _, rfl, rfl, seqT s1 ha, rfl, rfl, _, rfl, iteB (by decide +kernel) ⟨_, rfl, _, rfl, ?_⟩⟩
      cases b with
      | true => exact iteT ⟨_, rfl, a, _, 2, _, rfl, rfl, seqT s1 ha, rfl, z2, fun p np => q p _ (s1.trans (same_upd np)) ⟨ab1, upd_same, dp_same (s1.trans (same_upd np)) _ _ h1⟩⟩
      | false => exact iteF ⟨_, rfl, a, _, 3, _, rfl, rfl, seqT s1 ha, rfl, z2, fun p np => q p _ (s1.trans (same_upd np)) ⟨ab2, upd_same, dp_same (s1.trans (same_upd np)) _ _ h2⟩⟩
  | while_ t b =>
    obtain ⟨a, u, y, x1, rfl, ha, hu, hy, h1⟩ := dp_three (show Dp K H vd (.tuple [.str "while", tsD t, .tuple b]) from hi)
    rw [dp_str hu] at ha
    obtain ⟨ab, xb, rfl, hab, hxb⟩ := dp_tup h1
    refine ⟨_, rfl, a, _, 0, _, rfl, rfl, ha, rfl, rfl, _, rfl, iteBF (by decide +kernel) ?_⟩
    refine ⟨_, rfl, a, _, 0, _, rfl, rfl, ha, rfl, rfl, _, rfl, iteBF (by decide +kernel) ?_⟩
    refine ⟨_, rfl, a, _, 1, _, rfl, rfl, ha, rfl, _, rfl, y, e, t, Y, ws, x3, rfl, hy, oW, oL, o6, hE, oE, hrow, fun p1 H1 s1 h3 => ?_⟩
    have q : ∀ p H', Same H H' → LoopAt K H' p (thenB (hold Y t) fun x => if x = true then .ok (b ++ [.tuple [.str "round", itD (.while_ t b)]], fs, false) else .ok ([], fs, false)) → Q (.ref p) H' := q
    cases ev : hold Y t with
    | error z =>
      rw [ev] at h3 q
      exact ⟨p1, _, rfl, SqT.of h3, rfl, _, _, rfl, _, _, rfl, rfl, _, rfl, rfl, _, rfl, iteT ⟨z0, fun t nt => ⟨_, rfl, z2, fun p np => q p _ (s1.trans ((same_upd nt).trans (same_upd np))) ⟨t, upd_same⟩⟩⟩⟩
    | ok b' =>
      rw [ev] at h3 q
      refine ⟨p1, _, rfl, SqT.of h3, rfl, _, _, rfl, _, _, rfl, rfl, _, rfl, rfl, _, rfl, iteF ?_⟩
      refine ⟨_, rfl, a, _, 0, _, rfl, rfl, seqT s1 ha, rfl, rfl, _, rfl, iteBF (by decide +kernel) ⟨_, rfl, _, rfl, ?_⟩⟩
      cases b' with
      | true => exact iteT ⟨_, rfl, a, _, 2, _, rfl, rfl, seqT s1 ha, rfl, _, rfl, z2, fun t1 n1 => ⟨z1, fun t2 n2 => loop_end gi z1 z2 (seqT s1 hab) (dpAll_same s1 _ _ hxb) (dp_same s1 _ _ hi) (fun p H' s' k => q p H' (s1.trans s') k) t1 n1 t2 n2⟩⟩
      | false => exact iteF ⟨z0, fun t nt => ⟨z2, fun p np => q p _ (s1.trans ((same_upd nt).trans (same_upd np))) ⟨t, upd_same, .tup (SqT.of (same_upd np _ _ upd_same)) .nil⟩⟩⟩
  | _ => exact gi.elim
theorem loop_fs {Y : Ey} {fs fs' : List Fr} {ps : List Pc} {i : It} {its : List PyData} {g : Bool} (gi : isLoop i) (o6 : i.ok6) (h : unroll Y fs ps i = .ok (its, fs', g)) : fs' = fs ∧ g = false ∧ its.length ≤ 101 ∧ ∀ d ∈ its, OkD 20 d := by
  have nil : ([] : List PyData).length ≤ 101 ∧ ∀ d ∈ ([] : List PyData), OkD 20 d := ⟨Nat.zero_le _, fun d hd => by cases hd⟩
  have blk : ∀ {b : List PyData}, BkOk b → b.length ≤ 101 ∧ ∀ d ∈ b, OkD 20 d := fun h => ⟨by have := h.1; omega, fun d hd => okd_le (h.2 d hd) (by decide)⟩
  have bt : ∀ {b : List PyData}, BkOk b → OkD 15 (.tuple b) := fun h => ⟨by have := h.1; omega, h.2⟩
  have rnd : ∀ {b : List PyData} {d : PyData}, BkOk b → OkD 16 d → (b ++ [PyData.tuple [.str "round", d]]).length ≤ 101 ∧ ∀ x ∈ b ++ [PyData.tuple [.str "round", d]], OkD 20 x := fun h hd => by
    refine ⟨by rw [List.length_append]; have := h.1; show _ + 1 ≤ 101; omega, fun x hx => ?_⟩
    rcases List.mem_append.mp hx with z | z
    · exact (blk h).2 x z
    · rw [List.mem_singleton.mp z]
      exact ⟨(by show 2 ≤ 1000; decide), fun y hy => by
        rcases List.mem_cons.mp hy with z | z
        · rw [z]; trivial
        · rw [List.mem_singleton.mp z]; exact okd_le hd (by decide)⟩
  cases i with
  | if_ t b1 b2 =>
    have h : thenB (hold Y t) (fun x => (.ok (if x = true then b1 else b2, fs, false) : Un)) = .ok (its, fs', g) := h
    cases ev : hold Y t with
    | error z => rw [ev] at h; cases h
    | ok v =>
      rw [ev] at h
      cases h
      refine ⟨rfl, rfl, ?_⟩
      cases v with
      | true => exact blk gi.1
      | false => exact blk gi.2
  | times L b =>
    have h : thenB (val Y L) (fun v => if v < 1 then (.ok ([], fs, false) : Un) else .ok (b ++ [.tuple [.str "round", .tuple [.str "times", .int (v - 1), .tuple b]]], fs, false)) = .ok (its, fs', g) := h
    cases ev : val Y L with
    | error z => rw [ev] at h; cases h
    | ok v =>
      rw [ev] at h
      have h : (if v < 1 then (.ok ([], fs, false) : Un) else .ok (b ++ [.tuple [.str "round", .tuple [.str "times", .int (v - 1), .tuple b]]], fs, false)) = .ok (its, fs', g) := h
      split at h
      · cases h; exact ⟨rfl, rfl, nil⟩
      · cases h
        refine ⟨rfl, rfl, rnd (d := .tuple [.str "times", .int (v - 1), .tuple b]) gi ⟨(by show 3 ≤ 1000; decide), fun y hy => ?_⟩⟩
        rcases List.mem_cons.mp hy with z | hy
        · rw [z]; trivial
        rcases List.mem_cons.mp hy with z | hy
        · rw [z]; trivial
        · rw [List.mem_singleton.mp hy]; exact bt gi
  | while_ t b =>
    have h : thenB (hold Y t) (fun x => if x = true then (.ok (b ++ [.tuple [.str "round", itD (.while_ t b)]], fs, false) : Un) else .ok ([], fs, false)) = .ok (its, fs', g) := h
    cases ev : hold Y t with
    | error z => rw [ev] at h; cases h
    | ok v =>
      rw [ev] at h
      have h : (if v = true then (.ok (b ++ [.tuple [.str "round", itD (.while_ t b)]], fs, false) : Un) else .ok ([], fs, false)) = .ok (its, fs', g) := h
      split at h
      · cases h
        refine ⟨rfl, rfl, rnd (d := .tuple [.str "while", tsD t, .tuple b]) gi ⟨(by show 3 ≤ 1000; decide), fun y hy => ?_⟩⟩
        rcases List.mem_cons.mp hy with z | hy
        · rw [z]; trivial
        rcases List.mem_cons.mp hy with z | hy
        · rw [z]; exact okd_le (okd_ts (n := 6) o6) (by decide)
        · rw [List.mem_singleton.mp hy]; exact bt gi
      · cases h; exact ⟨rfl, rfl, nil⟩
  | ever b =>
    have h : (.ok (b ++ [.tuple [.str "round", itD (.ever b)]], fs, false) : Un) = .ok (its, fs', g) := h
    cases h
    refine ⟨rfl, rfl, rnd (d := .tuple [.str "ever", .tuple b]) gi ⟨(by show 2 ≤ 1000; decide), fun y hy => ?_⟩⟩
    rcases List.mem_cons.mp hy with z | hy
    · rw [z]; trivial
    · rw [List.mem_singleton.mp hy]; exact bt gi
  | _ => exact gi.elim
theorem ok_dueL {k : Nat} (F : Fun K "_law_due" "_law_due" sDue f fd) (GG : FnG P w K mg base CX0 k "_law_given" ["_law_deed", "_law_frames", "_law_eyes"] (fun _ _ _ _ => False)) (GS : FnG P w K mg base CX0 k "_law_shut" ["_law_frames"] (spShut K))
    (GE : FnG P w K mg base CX0 k "_law_entered" ["_law_deed", "_law_frames", "_law_eyes", "_law_pieces"] (fun _ _ _ _ => False)) (GL : FnG P w K mg base CX0 k "_law_looped" ["_law_deed", "_law_eyes"] (spLooped K)) : FnOk P w K mg base CX0 (k + 1) f fd ["_law_rest", "_law_frames", "_law_eyes", "_law_pieces"] (spDue K isLoop) := by
  obtain ⟨_, _, G__law_given, m__law_given, k__law_given, b__law_given⟩ := GG
  obtain ⟨_, _, G__law_shut, m__law_shut, k__law_shut, b__law_shut⟩ := GS
  obtain ⟨_, _, G__law_entered, m__law_entered, k__law_entered, b__law_entered⟩ := GE
  obtain ⟨_, _, G__law_looped, m__law_looped, k__law_looped, b__law_looped⟩ := GL
  have sc := scDue
  refine F.ok sc (fun vs H Q E h => ?_) (fun cdv A outer s H vs Q E hr h => ?_)
  · obtain ⟨vr, vf, e, vp, i, bs, Y, fs, ps, ws, x3, rfl, _⟩ := h
    rfl
  obtain ⟨vr, vf, e, vp, i, bs, Y, fs, ps, ws, x3, rfl, gi, hR, hb, o6, oP, oW, oL, hf, hl, hE, oE, hrow, hp, h9, q⟩ := h
  refine ⟨_, (pss_cons (ps_asg (pe_tup (pa_cons (pe_ix ix_tup (pv 0) pe_int (fun _ _ => rfl)) (pa_cons (pe_tup pa_nil) (pa_cons pe_bl (pa_cons pe_non pa_nil))))) (pg_tup (by rfl) (pgs_cons (pg_name (i := 4) sc.nd rfl (.inl rfl)) (pgs_cons (pg_name (i := 5) sc.nd rfl (.inl rfl)) (pgs_cons (pg_name (i := 6) sc.nd rfl (.inl rfl)) (pgs_cons (pg_name (i := 7) sc.nd rfl (.inl rfl)) pgs_nil))))))
      (pss_cons (ps_if (pt_cmpR op_in_seq (pe_ix ix_tup (pv 4) pe_int (fun _ _ => rfl)) (pe_tup (pa_cons pe_str (pa_cons pe_str pa_nil))) (by rfl)) (pss_one (ps_asg (pe_call G__law_given (hr.mono (by omega)) (by rfl) m__law_given k__law_given b__law_given .nil pass0 (pa_cons (pv 4) (pa_cons (pv 1) (pa_cons (pv 2) pa_nil)))) (pg_tup (by rfl) (pgs_cons (pg_name (i := 5) sc.nd rfl (.inl rfl)) (pgs_cons (pg_name (i := 6) sc.nd rfl (.inl rfl)) (pgs_cons (pg_name (i := 7) sc.nd rfl (.inl rfl)) pgs_nil)))))) (pss_one (ps_if (pt_cmpR op_eq (pe_ix ix_tup (pv 4) pe_int (fun _ _ => rfl)) pe_str (nomark _)) (pss_one (ps_asg (pe_call G__law_entered (hr.mono (by omega)) (by rfl) m__law_entered k__law_entered b__law_entered .nil pass0 (pa_cons (pv 4) (pa_cons (pv 1) (pa_cons (pv 2) (pa_cons (pv 3) pa_nil))))) (pg_tup (by rfl) (pgs_cons (pg_name (i := 5) sc.nd rfl (.inl rfl)) (pgs_cons (pg_name (i := 1) sc.nd rfl (.inl rfl)) (pgs_cons (pg_name (i := 7) sc.nd rfl (.inl rfl)) pgs_nil)))))) (pss_one (ps_if (pt_cmpR op_eq (pe_ix ix_tup (pv 4) pe_int (fun _ _ => rfl)) pe_str (nomark _)) (pss_one (ps_par (i := 5) (j := 6) (by rfl) sc.nd rfl rfl (by decide) rfl rfl (pa_cons (pe_tup (pa_cons (pe_ix ix_tup (pv 4) pe_int (fun _ _ => rfl)) pa_nil)) (pa_cons (pe_not (pe_call G__law_shut (hr.mono (by omega)) (by rfl) m__law_shut k__law_shut b__law_shut .nil pass0 (pa_cons (pv 1) pa_nil))) pa_nil)) (by rfl))) (pss_one (ps_if (pt_cmpR op_eq (pe_ix ix_tup (pv 4) pe_int (fun _ _ => rfl)) pe_str (nomark _)) (pss_one (ps_set (i := 1) sc.nd rfl (.inl rfl) (pe_slice sl_tupA (pv 1) po_none (po_some (pe_un un_neg pe_int))))) (pss_one (ps_asg (pe_call G__law_looped (hr.mono (by omega)) (by rfl) m__law_looped k__law_looped b__law_looped .nil pass0 (pa_cons (pv 4) (pa_cons (pv 2) pa_nil))) (pg_tup (by rfl) (pgs_cons (pg_name (i := 5) sc.nd rfl (.inl rfl)) (pgs_cons (pg_name (i := 7) sc.nd rfl (.inl rfl)) pgs_nil))))))))))))
      (pss_one (ps_ret (pe_ifExp (pt_cmpR op_notN (pv 7) pe_non (nomark _)) (pe_lst (pa_cons (pv 7) pa_nil)) (pe_tup (pa_cons (pe_op op_catA (pv 5) (pe_slice sl_tupA (pv 0) (po_some pe_int) po_none)) (pa_cons (pv 1) (pa_cons (pv 6) pa_nil))))))))), ?_⟩
  have z0 : 0 ≤ sizeLine := Nat.zero_le _
  have z1 : 1 ≤ sizeLine := by decide
  have z2 : 2 ≤ sizeLine := by decide
  have z3 : 3 ≤ sizeLine := by decide
  have z4 : 4 ≤ sizeLine := by decide
  obtain ⟨a, xs, rfl, ha, hxs⟩ := dp_tup hR
  obtain ⟨vi, xr, rfl, hvi, hxr⟩ := dpA_cons hxs
  obtain ⟨ai, xi, rfl, hai, hxi⟩ := dp_tup (show Dp K H vi (.tuple (.str i.word :: i.parts)) from hvi)
  obtain ⟨vw, xp, rfl, hvw, hxp⟩ := dpA_cons hxi
  rw [dp_str hvw] at hai
  refine ⟨_, rfl, a, _, 0, _, rfl, rfl, ha, at0 _ _, z0, fun t0 n0 => ⟨z4, fun T nT => ⟨T, _, rfl, .inl (.inl upd_same), rfl, _, _, rfl, _, _, rfl, _, _, rfl, _, _, rfl, rfl, ?_⟩⟩⟩
  have s1 : Same H _ := (same_upd (o := .tup []) n0).trans (same_upd (o := .tup [.ref ai, .ref t0, .bl false, .non]) nT)
  generalize upd (upd H t0 (.tup [])) T (.tup [.ref ai, .ref t0, .bl false, .non]) = H1 at *
  have hin : inV (.str i.word) [.str "wait", .str "until"] = false ∧ decide (V.str i.word = V.str "do") = false ∧ decide (V.str i.word = V.str "round") = false ∧ decide (V.str i.word = V.str "out") = false := by
    cases i with
    | if_ t b1 b2 => exact ⟨(by decide +kernel : inV (.str "if") [.str "wait", .str "until"] = false), (by decide +kernel : decide (V.str "if" = V.str "do") = false), (by decide +kernel : decide (V.str "if" = V.str "round") = false), (by decide +kernel : decide (V.str "if" = V.str "out") = false)⟩
    | times L b => exact ⟨(by decide +kernel : inV (.str "times") [.str "wait", .str "until"] = false), (by decide +kernel : decide (V.str "times" = V.str "do") = false), (by decide +kernel : decide (V.str "times" = V.str "round") = false), (by decide +kernel : decide (V.str "times" = V.str "out") = false)⟩
    | while_ t b => exact ⟨(by decide +kernel : inV (.str "while") [.str "wait", .str "until"] = false), (by decide +kernel : decide (V.str "while" = V.str "do") = false), (by decide +kernel : decide (V.str "while" = V.str "round") = false), (by decide +kernel : decide (V.str "while" = V.str "out") = false)⟩
    | ever b => exact ⟨(by decide +kernel : inV (.str "ever") [.str "wait", .str "until"] = false), (by decide +kernel : decide (V.str "ever" = V.str "do") = false), (by decide +kernel : decide (V.str "ever" = V.str "round") = false), (by decide +kernel : decide (V.str "ever" = V.str "out") = false)⟩
    | _ => exact gi.elim
  refine ⟨_, rfl, ai, _, 0, _, rfl, rfl, seqT s1 hai, at0 _ _, z2, fun t1 n1 => ⟨t1, _, rfl, .inr (SqT.of upd_same), rfl, by decide +kernel, _, rfl, iteBF hin.1 ?_⟩⟩
  have s2 := s1.trans (same_upd (o := .tup [.str "wait", .str "until"]) n1)
  generalize upd H1 t1 (.tup [.str "wait", .str "until"]) = H2 at *
  refine ⟨_, rfl, ai, _, 0, _, rfl, rfl, seqT s2 hai, at0 _ _, rfl, _, rfl, iteBF hin.2.1 ?_⟩
  refine ⟨_, rfl, ai, _, 0, _, rfl, rfl, seqT s2 hai, at0 _ _, rfl, _, rfl, iteBF hin.2.2.1 ?_⟩
  refine ⟨_, rfl, ai, _, 0, _, rfl, rfl, seqT s2 hai, at0 _ _, rfl, _, rfl, iteBF hin.2.2.2 ?_⟩
  refine ⟨_, rfl, _, rfl, .ref ai, e, i, Y, fs, ps, ws, x3, rfl, gi, dp_same s2 _ _ hvi, o6, oP, oW, oL, dp_same s2 _ _ hE, oE, hrow, fun p2 H3 s3 h2 => ?_⟩
  have s4 := s2.trans s3
  cases ev : unroll Y fs ps i with
  | error z =>
    rw [ev] at h2 q
    obtain ⟨t, h2⟩ := h2
    exact ⟨p2, _, rfl, .inl (.inl h2), rfl, _, _, rfl, _, _, rfl, rfl, _, rfl, rfl, _, rfl, iteT ⟨_, rfl, z1, fun l nl => q _ _ (s4.trans (same_upd nl)) (.lst (SqL.of upd_same) (.cons (.str _) .nil))⟩⟩
  | ok r =>
    obtain ⟨its, fs', g⟩ := r
    obtain ⟨efs, eg, _⟩ := loop_fs gi o6 ev
    subst efs
    subst eg
    have l9 := h9 _ _ _ ev
    rw [ev] at h2 q
    obtain ⟨t, h2, dt⟩ := h2
    obtain ⟨b1, ys, eb, hb1, hys⟩ := dp_tup dt
    cases eb
    refine ⟨p2, _, rfl, .inl (.inl h2), rfl, _, _, rfl, _, _, rfl, rfl, _, rfl, rfl, _, rfl, iteF ?_⟩
    refine ⟨_, rfl, _, rfl, 1, rfl, ?_⟩
    dsimp only [tNoPart]
    refine slA_rest (seqT s4 ha) fun pB nB => ?_
    have s5 : Same H3 (upd H3 pB (.tup xr)) := same_upd nB
    refine catA_all (seqT s5 hb1) (SqT.of upd_same) (by rw [dpAll_len hys, dpAll_len hxr]; omega) fun p3 H4 s6 hp3 => ⟨_, rfl, _, rfl, z3, fun p np => ?_⟩
    have x3 := same_upd (o := .tup [.ref p3, vf, .bl false]) np
    exact q _ _ (s4.trans (s5.trans (s6.trans x3))) (.tup (SqT.of upd_same) (.cons (.tup (seqT x3 hp3) (dpAll_app (dpAll_same (s4.trans (s5.trans (s6.trans x3))) _ _ hxr) (dpAll_same (s5.trans (s6.trans x3)) _ _ hys))) (.cons (dp_same (s4.trans (s5.trans (s6.trans x3))) _ _ hf) (.cons (.bl false) .nil))))
end
end Fd

set_option Elab.async false
set_option linter.all false
set_option maxRecDepth 100000
set_option maxHeartbeats 2000000
namespace Fd
open PySem PySem.Spec PyProof.Rows L2
def isRound : It → Prop
  | .round d => OkD 19 d
  | _ => False
section
variable {P : Program} {w : World} {K : PySem.W.Frag} {mg : Str → Option Value} {base : Heap} {f C fI cm : Addr} {fd : FuncData} {fc : Str → Addr}
/-! ### by_round -/
abbrev sByRound : Stmt := top 39
theorem ok_byRound {k : Nat} (F : Fun K "by_round" "by_round" sByRound f fd) (GC : FnG P w K mg base CX0 k "is_closed" ["frames"] (spShut K)) : FnOk P w K mg base (L2.CX P w) (k + 1) f fd ["item", "frames", "eyes", "pieces"] (fun vs H Q E => ∃ d, spBy K C (.round d) vs H Q E) := by
  obtain ⟨_, _, G_is_closed, m_is_closed, k_is_closed, b_is_closed⟩ := GC
  have sc : FnScope ["item", "frames", "eyes", "pieces"] ["item", "frames", "eyes", "pieces"] (defScope sByRound) := ⟨rfl, rfl, rfl, by decide +kernel, rfl, by decide +kernel, by decide +kernel⟩
  refine F.okX sc (fun vs H Q E h => ?_) (fun cdv A outer s H vs Q E hr h => ?_)
  · obtain ⟨d, vi, vf, e, vp, Y, fs, ps, rfl, _⟩ := h
    rfl
  obtain ⟨d, vi, vf, e, vp, Y, fs, ps, rfl, hi, hf, hl, hE, hp, o6, oP, ⟨ws, oW⟩, q⟩ := h
  refine ⟨_, (pss_one (ps_ret (pe_tup (pa_cons (pe_tup (pa_cons (pe_ix ix_tup (pv 0) pe_int (fun _ _ => rfl)) pa_nil)) (pa_cons (pv 1) (pa_cons (pe_not (pe_call G_is_closed (hr.mono (by omega)) (by rfl) m_is_closed k_is_closed b_is_closed .nil pass0 (pa_cons (pv 1) pa_nil))) pa_nil)))))), ?_⟩
  have z1 : 1 ≤ sizeLine := by decide
  have z3 : 3 ≤ sizeLine := by decide
  obtain ⟨a, u, y, rfl, ha, hu, hy⟩ := dp_pair (show Dp K H vi (.tuple [.str "round", d]) from hi)
  rw [dp_str hu] at ha
  have q : ComesU K C H (.ok ([d], fs, !closed fs)) Q E := q
  refine ⟨_, rfl, a, _, 1, _, rfl, rfl, ha, rfl, z1, fun t1 n1 => ⟨_, rfl, _, rfl, vf, fs, rfl, dp_same (same_upd n1) _ _ hf, hl, fun H2 s2 => ⟨_, rfl, z3, fun p np => ?_⟩⟩⟩
  have x1 := same_upd (o := .tup [y]) n1
  have x3 := same_upd (o := .tup [.ref t1, vf, .bl (!closed fs)]) np
  have X := x1.trans (s2.trans x3)
  exact q p (.ref t1) vf _ X upd_same (.tup (SqT.of ((s2.trans x3) _ _ upd_same)) (.cons (dp_same X _ _ hy) .nil)) (dp_same X _ _ hf)
/-! ### due of rounds -/
theorem ok_dueR {k : Nat} (F : Fun K "_law_due" "_law_due" sDue f fd) (GG : FnG P w K mg base CX0 k "_law_given" ["_law_deed", "_law_frames", "_law_eyes"] (fun _ _ _ _ => False)) (GS : FnG P w K mg base CX0 k "_law_shut" ["_law_frames"] (spShut K))
    (GE : FnG P w K mg base CX0 k "_law_entered" ["_law_deed", "_law_frames", "_law_eyes", "_law_pieces"] (fun _ _ _ _ => False)) (GL : FnG P w K mg base CX0 k "_law_looped" ["_law_deed", "_law_eyes"] (fun _ _ _ _ => False)) : FnOk P w K mg base CX0 (k + 1) f fd ["_law_rest", "_law_frames", "_law_eyes", "_law_pieces"] (spDue K isRound) := by
  obtain ⟨_, _, G__law_given, m__law_given, k__law_given, b__law_given⟩ := GG
  obtain ⟨_, _, G__law_shut, m__law_shut, k__law_shut, b__law_shut⟩ := GS
  obtain ⟨_, _, G__law_entered, m__law_entered, k__law_entered, b__law_entered⟩ := GE
  obtain ⟨_, _, G__law_looped, m__law_looped, k__law_looped, b__law_looped⟩ := GL
  have sc := scDue
  refine F.ok sc (fun vs H Q E h => ?_) (fun cdv A outer s H vs Q E hr h => ?_)
  · obtain ⟨vr, vf, e, vp, i, bs, Y, fs, ps, ws, x3, rfl, _⟩ := h
    rfl
  obtain ⟨vr, vf, e, vp, i, bs, Y, fs, ps, ws, x3, rfl, gi, hR, hb, o6, oP, oW, oL, hf, hl, hE, oE, hrow, hp, h9, q⟩ := h
  refine ⟨_, (pss_cons (ps_asg (pe_tup (pa_cons (pe_ix ix_tup (pv 0) pe_int (fun _ _ => rfl)) (pa_cons (pe_tup pa_nil) (pa_cons pe_bl (pa_cons pe_non pa_nil))))) (pg_tup (by rfl) (pgs_cons (pg_name (i := 4) sc.nd rfl (.inl rfl)) (pgs_cons (pg_name (i := 5) sc.nd rfl (.inl rfl)) (pgs_cons (pg_name (i := 6) sc.nd rfl (.inl rfl)) (pgs_cons (pg_name (i := 7) sc.nd rfl (.inl rfl)) pgs_nil))))))
      (pss_cons (ps_if (pt_cmpR op_in_seq (pe_ix ix_tup (pv 4) pe_int (fun _ _ => rfl)) (pe_tup (pa_cons pe_str (pa_cons pe_str pa_nil))) (by rfl)) (pss_one (ps_asg (pe_call G__law_given (hr.mono (by omega)) (by rfl) m__law_given k__law_given b__law_given .nil pass0 (pa_cons (pv 4) (pa_cons (pv 1) (pa_cons (pv 2) pa_nil)))) (pg_tup (by rfl) (pgs_cons (pg_name (i := 5) sc.nd rfl (.inl rfl)) (pgs_cons (pg_name (i := 6) sc.nd rfl (.inl rfl)) (pgs_cons (pg_name (i := 7) sc.nd rfl (.inl rfl)) pgs_nil)))))) (pss_one (ps_if (pt_cmpR op_eq (pe_ix ix_tup (pv 4) pe_int (fun _ _ => rfl)) pe_str (nomark _)) (pss_one (ps_asg (pe_call G__law_entered (hr.mono (by omega)) (by rfl) m__law_entered k__law_entered b__law_entered .nil pass0 (pa_cons (pv 4) (pa_cons (pv 1) (pa_cons (pv 2) (pa_cons (pv 3) pa_nil))))) (pg_tup (by rfl) (pgs_cons (pg_name (i := 5) sc.nd rfl (.inl rfl)) (pgs_cons (pg_name (i := 1) sc.nd rfl (.inl rfl)) (pgs_cons (pg_name (i := 7) sc.nd rfl (.inl rfl)) pgs_nil)))))) (pss_one (ps_if (pt_cmpR op_eq (pe_ix ix_tup (pv 4) pe_int (fun _ _ => rfl)) pe_str (nomark _)) (pss_one (ps_par (i := 5) (j := 6) (by rfl) sc.nd rfl rfl (by decide) rfl rfl (pa_cons (pe_tup (pa_cons (pe_ix ix_tup (pv 4) pe_int (fun _ _ => rfl)) pa_nil)) (pa_cons (pe_not (pe_call G__law_shut (hr.mono (by omega)) (by rfl) m__law_shut k__law_shut b__law_shut .nil pass0 (pa_cons (pv 1) pa_nil))) pa_nil)) (by rfl))) (pss_one (ps_if (pt_cmpR op_eq (pe_ix ix_tup (pv 4) pe_int (fun _ _ => rfl)) pe_str (nomark _)) (pss_one (ps_set (i := 1) sc.nd rfl (.inl rfl) (pe_slice sl_tupA (pv 1) po_none (po_some (pe_un un_neg pe_int))))) (pss_one (ps_asg (pe_call G__law_looped (hr.mono (by omega)) (by rfl) m__law_looped k__law_looped b__law_looped .nil pass0 (pa_cons (pv 4) (pa_cons (pv 2) pa_nil))) (pg_tup (by rfl) (pgs_cons (pg_name (i := 5) sc.nd rfl (.inl rfl)) (pgs_cons (pg_name (i := 7) sc.nd rfl (.inl rfl)) pgs_nil))))))))))))
      (pss_one (ps_ret (pe_ifExp (pt_cmpR op_notN (pv 7) pe_non (nomark _)) (pe_lst (pa_cons (pv 7) pa_nil)) (pe_tup (pa_cons (pe_op op_catA (pv 5) (pe_slice sl_tupA (pv 0) (po_some pe_int) po_none)) (pa_cons (pv 1) (pa_cons (pv 6) pa_nil))))))))), ?_⟩
  have z0 : 0 ≤ sizeLine := Nat.zero_le _
  have z1 : 1 ≤ sizeLine := by decide
  have z2 : 2 ≤ sizeLine := by decide
  have z3 : 3 ≤ sizeLine := by decide
  have z4 : 4 ≤ sizeLine := by decide
  obtain ⟨d, rfl⟩ : ∃ d, i = .round d := by
    cases i with
    | round d => exact ⟨d, rfl⟩
    | _ => exact gi.elim
  obtain ⟨a, xs, rfl, ha, hxs⟩ := dp_tup hR
  obtain ⟨vi, xr, rfl, hvi, hxr⟩ := dpA_cons hxs
  obtain ⟨ai, u, y, rfl, hai, hu, hy⟩ := dp_pair (show Dp K H vi (.tuple [.str "round", d]) from hvi)
  rw [dp_str hu] at hai
  have q : ∀ v H', Same H H' → Dp K H' v (.tuple [.tuple ([d] ++ bs), frD fs, .bool (!closed fs)]) → Q v H' := q
  refine ⟨_, rfl, a, _, 0, _, rfl, rfl, ha, at0 _ _, z0, fun t0 n0 => ⟨z4, fun T nT => ⟨T, _, rfl, .inl (.inl upd_same), rfl, _, _, rfl, _, _, rfl, _, _, rfl, _, _, rfl, rfl, ?_⟩⟩⟩
  have s1 : Same H _ := (same_upd (o := .tup []) n0).trans (same_upd (o := .tup [.ref ai, .ref t0, .bl false, .non]) nT)
  generalize upd (upd H t0 (.tup [])) T (.tup [.ref ai, .ref t0, .bl false, .non]) = H1 at *
  refine ⟨_, rfl, ai, _, 0, _, rfl, rfl, seqT s1 hai, at0 _ _, z2, fun t1 n1 => ⟨t1, _, rfl, .inr (SqT.of upd_same), rfl, by decide +kernel, _, rfl, iteBF (by decide +kernel) ?_⟩⟩
  have s2 := s1.trans (same_upd (o := .tup [.str "wait", .str "until"]) n1)
  generalize upd H1 t1 (.tup [.str "wait", .str "until"]) = H2 at *
  refine ⟨_, rfl, ai, _, 0, _, rfl, rfl, seqT s2 hai, at0 _ _, rfl, _, rfl, iteBF (by decide +kernel) ?_⟩
  refine ⟨_, rfl, ai, _, 0, _, rfl, rfl, seqT s2 hai, at0 _ _, rfl, _, rfl, iteB (by decide +kernel) ?_⟩
  refine ⟨_, rfl, ai, _, 1, _, rfl, rfl, seqT s2 hai, rfl, z1, fun t2 n2 => ⟨_, rfl, vf, fs, rfl, dp_same (s2.trans (same_upd n2)) _ _ hf, hl, fun H3 s3 => ⟨_, rfl, ?_⟩⟩⟩
  have s4 := s2.trans ((same_upd (o := .tup [y]) n2).trans s3)
  have k2 : H3 t2 = some (.tup [y]) := s3 _ _ upd_same
  refine ⟨_, _, rfl, _, rfl, rfl, _, rfl, iteF ?_⟩
  refine ⟨_, rfl, _, rfl, 1, rfl, ?_⟩
  dsimp only [tNoPart]
  refine slA_rest (seqT s4 ha) fun pB nB => ?_
  have s5 : Same H3 (upd H3 pB (.tup xr)) := same_upd nB
  refine catA_all (seqT s5 (SqT.of k2)) (SqT.of upd_same) (by rw [dpAll_len hxr]; show 1 + _ ≤ 1000; omega) fun p3 H4 s6 hp3 => ⟨_, rfl, _, rfl, z3, fun p np => ?_⟩
  have x3 := same_upd (o := .tup [.ref p3, vf, .bl (!closed fs)]) np
  have X := s4.trans (s5.trans (s6.trans x3))
  exact q _ _ X (.tup (SqT.of upd_same) (.cons (.tup (seqT x3 hp3) (.cons (dp_same X _ _ hy) (dpAll_same X _ _ hxr))) (.cons (dp_same X _ _ hf) (.cons (.bl (!closed fs)) .nil))))
end
end Fd

set_option Elab.async false
set_option linter.all false
set_option maxRecDepth 100000
set_option maxHeartbeats 2000000
namespace Fd
open PySem PySem.Spec PyProof.Rows L2
def isOut : It → Prop
  | .out => True
  | _ => False
theorem slA_init {K : PySem.W.Frag} {H : Hp} {a : Addr} {xs : List V} {Q : VK} (hs : SqT K H a xs) (h : ∀ p H2, Same H H2 → SqT K H2 p xs.dropLast → Q (.ref p) H2) : rSlA K (.ref a) none (some (-1)) H Q := by
  have e1 : HT.sIx xs.length xs.length (some (-1)) = xs.length - 1 := by
    show (if (-1 : Int) < 0 then (-1 + (xs.length : Int)).toNat else min (-1 : Int).toNat xs.length) = _
    rw [if_pos (by decide)]
    omega
  refine ⟨a, _, rfl, hs, fun wh => h a H (Same.refl _) ?_, fun _ p np => ?_⟩
  · have e := wh.2
    rw [e1] at e
    cases xs with
    | nil => exact hs
    | cons x t => rw [List.length_cons] at e; omega
  · have : cutV xs none (some (-1)) = xs.dropLast := by
      unfold cutV
      rw [e1, List.dropLast_eq_take]
      rfl
    rw [this]
    exact h p _ (same_upd np) (SqT.of upd_same)
theorem dpAll_takeD {K : PySem.W.Frag} {H : Hp} : ∀ (n : Nat) {vs : List V} {ds : List PyData}, DpAll K H vs ds → DpAll K H (vs.take n) (ds.take n)
  | 0, _, _, _ => .nil
  | _ + 1, _, _, .nil => .nil
  | n + 1, _, _, .cons h t => .cons h (dpAll_takeD n t)
theorem dpAll_init {K : PySem.W.Frag} {H : Hp} {vs : List V} {ds : List PyData} (h : DpAll K H vs ds) : DpAll K H vs.dropLast ds.dropLast := by
  rw [List.dropLast_eq_take, List.dropLast_eq_take, dpAll_len h]
  exact dpAll_takeD _ h
theorem fr_init {K : PySem.W.Frag} {H : Hp} {p a : Addr} {xs : List V} {fs : List Fr} (hp : SqT K H p xs.dropLast) (h : DpAll K H xs (fs.map f1D)) : Dp K H (.ref p) (frD fs.dropLast) := by
  have := dpAll_init h
  rw [← List.map_dropLast] at this
  exact .tup hp this
section
variable {P : Program} {w : World} {K : PySem.W.Frag} {mg : Str → Option Value} {base : Heap} {f C fI cm : Addr} {fd : FuncData} {fc : Str → Addr}
/-! ### by_out -/
abbrev sByOut : Stmt := top 41
theorem ok_byOut {k : Nat} (F : Fun K "by_out" "by_out" sByOut f fd) : FnOk P w K mg base (L2.CX P w) (k + 1) f fd ["item", "frames", "eyes", "pieces"] (spBy K C .out) := by
  have sc : FnScope ["item", "frames", "eyes", "pieces"] ["item", "frames", "eyes", "pieces"] (defScope sByOut) := ⟨rfl, rfl, rfl, by decide +kernel, rfl, by decide +kernel, by decide +kernel⟩
  refine F.okX sc (fun vs H Q E h => ?_) (fun cdv A outer s H vs Q E hr h => ?_)
  · obtain ⟨vi, vf, e, vp, Y, fs, ps, rfl, _⟩ := h
    rfl
  obtain ⟨vi, vf, e, vp, Y, fs, ps, rfl, hi, hf, hl, hE, hp, o6, oP, ⟨ws, oW⟩, q⟩ := h
  refine ⟨_, (pss_one (ps_ret (pe_tup (pa_cons (pe_tup pa_nil) (pa_cons (pe_slice sl_tupA (pv 1) po_none (po_some (pe_un un_neg pe_int))) (pa_cons pe_bl pa_nil)))))), ?_⟩
  have z0 : 0 ≤ sizeLine := Nat.zero_le _
  have z3 : 3 ≤ sizeLine := by decide
  obtain ⟨a, xf, rfl, ha, hx⟩ := dp_tup (show Dp K H vf (.tuple (fs.map f1D)) from hf)
  have q : ComesU K C H (.ok ([], fs.dropLast, false)) Q E := q
  refine ⟨z0, fun t1 n1 => ⟨_, rfl, 1, rfl, -1, rfl, ?_⟩⟩
  have x1 := same_upd (o := .tup []) n1
  refine slA_init (seqT x1 ha) fun p2 H2 s2 hp2 => ⟨z3, fun p np => ?_⟩
  have x3 := same_upd (o := .tup [.ref t1, .ref p2, .bl false]) np
  have X := x1.trans (s2.trans x3)
  exact q p (.ref t1) (.ref p2) _ X upd_same (.tup (SqT.of ((s2.trans x3) _ _ upd_same)) .nil) (fr_init (a := a) (seqT x3 hp2) (dpAll_same X _ _ hx))
/-! ### due of out -/
theorem ok_dueO {k : Nat} (F : Fun K "_law_due" "_law_due" sDue f fd) (GG : FnG P w K mg base CX0 k "_law_given" ["_law_deed", "_law_frames", "_law_eyes"] (fun _ _ _ _ => False)) (GS : FnG P w K mg base CX0 k "_law_shut" ["_law_frames"] (spShut K))
    (GE : FnG P w K mg base CX0 k "_law_entered" ["_law_deed", "_law_frames", "_law_eyes", "_law_pieces"] (fun _ _ _ _ => False)) (GL : FnG P w K mg base CX0 k "_law_looped" ["_law_deed", "_law_eyes"] (fun _ _ _ _ => False)) : FnOk P w K mg base CX0 (k + 1) f fd ["_law_rest", "_law_frames", "_law_eyes", "_law_pieces"] (spDue K isOut) := by
  obtain ⟨_, _, G__law_given, m__law_given, k__law_given, b__law_given⟩ := GG
  obtain ⟨_, _, G__law_shut, m__law_shut, k__law_shut, b__law_shut⟩ := GS
  obtain ⟨_, _, G__law_entered, m__law_entered, k__law_entered, b__law_entered⟩ := GE
  obtain ⟨_, _, G__law_looped, m__law_looped, k__law_looped, b__law_looped⟩ := GL
  have sc := scDue
  refine F.ok sc (fun vs H Q E h => ?_) (fun cdv A outer s H vs Q E hr h => ?_)
  · obtain ⟨vr, vf, e, vp, i, bs, Y, fs, ps, ws, x3, rfl, _⟩ := h
    rfl
  obtain ⟨vr, vf, e, vp, i, bs, Y, fs, ps, ws, x3, rfl, gi, hR, hb, o6, oP, oW, oL, hf, hl, hE, oE, hrow, hp, h9, q⟩ := h
  refine ⟨_, (pss_cons (ps_asg (pe_tup (pa_cons (pe_ix ix_tup (pv 0) pe_int (fun _ _ => rfl)) (pa_cons (pe_tup pa_nil) (pa_cons pe_bl (pa_cons pe_non pa_nil))))) (pg_tup (by rfl) (pgs_cons (pg_name (i := 4) sc.nd rfl (.inl rfl)) (pgs_cons (pg_name (i := 5) sc.nd rfl (.inl rfl)) (pgs_cons (pg_name (i := 6) sc.nd rfl (.inl rfl)) (pgs_cons (pg_name (i := 7) sc.nd rfl (.inl rfl)) pgs_nil))))))
      (pss_cons (ps_if (pt_cmpR op_in_seq (pe_ix ix_tup (pv 4) pe_int (fun _ _ => rfl)) (pe_tup (pa_cons pe_str (pa_cons pe_str pa_nil))) (by rfl)) (pss_one (ps_asg (pe_call G__law_given (hr.mono (by omega)) (by rfl) m__law_given k__law_given b__law_given .nil pass0 (pa_cons (pv 4) (pa_cons (pv 1) (pa_cons (pv 2) pa_nil)))) (pg_tup (by rfl) (pgs_cons (pg_name (i := 5) sc.nd rfl (.inl rfl)) (pgs_cons (pg_name (i := 6) sc.nd rfl (.inl rfl)) (pgs_cons (pg_name (i := 7) sc.nd rfl (.inl rfl)) pgs_nil)))))) (pss_one (ps_if (pt_cmpR op_eq (pe_ix ix_tup (pv 4) pe_int (fun _ _ => rfl)) pe_str (nomark _)) (pss_one (ps_asg (pe_call G__law_entered (hr.mono (by omega)) (by rfl) m__law_entered k__law_entered b__law_entered .nil pass0 (pa_cons (pv 4) (pa_cons (pv 1) (pa_cons (pv 2) (pa_cons (pv 3) pa_nil))))) (pg_tup (by rfl) (pgs_cons (pg_name (i := 5) sc.nd rfl (.inl rfl)) (pgs_cons (pg_name (i := 1) sc.nd rfl (.inl rfl)) (pgs_cons (pg_name (i := 7) sc.nd rfl (.inl rfl)) pgs_nil)))))) (pss_one (ps_if (pt_cmpR op_eq (pe_ix ix_tup (pv 4) pe_int (fun _ _ => rfl)) pe_str (nomark _)) (pss_one (ps_par (i := 5) (j := 6) (by rfl) sc.nd rfl rfl (by decide) rfl rfl (pa_cons (pe_tup (pa_cons (pe_ix ix_tup (pv 4) pe_int (fun _ _ => rfl)) pa_nil)) (pa_cons (pe_not (pe_call G__law_shut (hr.mono (by omega)) (by rfl) m__law_shut k__law_shut b__law_shut .nil pass0 (pa_cons (pv 1) pa_nil))) pa_nil)) (by rfl))) (pss_one (ps_if (pt_cmpR op_eq (pe_ix ix_tup (pv 4) pe_int (fun _ _ => rfl)) pe_str (nomark _)) (pss_one (ps_set (i := 1) sc.nd rfl (.inl rfl) (pe_slice sl_tupA (pv 1) po_none (po_some (pe_un un_neg pe_int))))) (pss_one (ps_asg (pe_call G__law_looped (hr.mono (by omega)) (by rfl) m__law_looped k__law_looped b__law_looped .nil pass0 (pa_cons (pv 4) (pa_cons (pv 2) pa_nil))) (pg_tup (by rfl) (pgs_cons (pg_name (i := 5) sc.nd rfl (.inl rfl)) (pgs_cons (pg_name (i := 7) sc.nd rfl (.inl rfl)) pgs_nil))))))))))))
      (pss_one (ps_ret (pe_ifExp (pt_cmpR op_notN (pv 7) pe_non (nomark _)) (pe_lst (pa_cons (pv 7) pa_nil)) (pe_tup (pa_cons (pe_op op_catA (pv 5) (pe_slice sl_tupA (pv 0) (po_some pe_int) po_none)) (pa_cons (pv 1) (pa_cons (pv 6) pa_nil))))))))), ?_⟩
  have z0 : 0 ≤ sizeLine := Nat.zero_le _
  have z1 : 1 ≤ sizeLine := by decide
  have z2 : 2 ≤ sizeLine := by decide
  have z3 : 3 ≤ sizeLine := by decide
  have z4 : 4 ≤ sizeLine := by decide
  obtain rfl : i = .out := by
    cases i with
    | out => rfl
    | _ => exact gi.elim
  obtain ⟨a, xs, rfl, ha, hxs⟩ := dp_tup hR
  obtain ⟨vi, xr, rfl, hvi, hxr⟩ := dpA_cons hxs
  obtain ⟨ai, xi, rfl, hai, hxi⟩ := dp_tup (show Dp K H vi (.tuple [.str "out"]) from hvi)
  obtain ⟨vw, xp, rfl, hvw, hxp⟩ := dpA_cons hxi
  rw [dp_str hvw] at hai
  obtain ⟨af, xf, rfl, haf, hxf⟩ := dp_tup (show Dp K H vf (.tuple (fs.map f1D)) from hf)
  have q : ∀ v H', Same H H' → Dp K H' v (.tuple [.tuple ([] ++ bs), frD fs.dropLast, .bool false]) → Q v H' := q
  refine ⟨_, rfl, a, _, 0, _, rfl, rfl, ha, at0 _ _, z0, fun t0 n0 => ⟨z4, fun T nT => ⟨T, _, rfl, .inl (.inl upd_same), rfl, _, _, rfl, _, _, rfl, _, _, rfl, _, _, rfl, rfl, ?_⟩⟩⟩
  have s1 : Same H _ := (same_upd (o := .tup []) n0).trans (same_upd (o := .tup [.ref ai, .ref t0, .bl false, .non]) nT)
  have k0 : upd (upd H t0 (.tup [])) T (.tup [.ref ai, .ref t0, .bl false, .non]) t0 = some (.tup []) := same_upd nT _ _ upd_same
  generalize upd (upd H t0 (.tup [])) T (.tup [.ref ai, .ref t0, .bl false, .non]) = H1 at *
  refine ⟨_, rfl, ai, _, 0, _, rfl, rfl, seqT s1 hai, at0 _ _, z2, fun t1 n1 => ⟨t1, _, rfl, .inr (SqT.of upd_same), rfl, by decide +kernel, _, rfl, iteBF (by decide +kernel) ?_⟩⟩
  have s2 := s1.trans (same_upd (o := .tup [.str "wait", .str "until"]) n1)
  have k1 := same_upd (o := .tup [.str "wait", .str "until"]) n1 _ _ k0
  generalize upd H1 t1 (.tup [.str "wait", .str "until"]) = H2 at *
  refine ⟨_, rfl, ai, _, 0, _, rfl, rfl, seqT s2 hai, at0 _ _, rfl, _, rfl, iteBF (by decide +kernel) ?_⟩
  refine ⟨_, rfl, ai, _, 0, _, rfl, rfl, seqT s2 hai, at0 _ _, rfl, _, rfl, iteBF (by decide +kernel) ?_⟩
  refine ⟨_, rfl, ai, _, 0, _, rfl, rfl, seqT s2 hai, at0 _ _, rfl, _, rfl, iteB (by decide +kernel) ?_⟩
  refine ⟨_, rfl, 1, rfl, -1, rfl, ?_⟩
  refine slA_init (seqT s2 haf) fun pF H3 s3 hpF => ?_
  have s4 := s2.trans s3
  have dF3 : Dp K H3 (.ref pF) (frD fs.dropLast) := fr_init (a := af) hpF (dpAll_same s4 _ _ hxf)
  refine ⟨_, rfl, rfl, _, rfl, iteF ?_⟩
  refine ⟨_, rfl, _, rfl, 1, rfl, ?_⟩
  dsimp only [tNoPart]
  refine slA_rest (seqT s4 ha) fun pB nB => ?_
  have s5 : Same H3 (upd H3 pB (.tup xr)) := same_upd nB
  refine catA_all (SqT.of ((s3.trans s5) _ _ k1)) (SqT.of upd_same) (by rw [dpAll_len hxr]; show 0 + _ ≤ 1000; omega) fun p3 H4 s6 hp3 => ⟨_, rfl, _, rfl, z3, fun p np => ?_⟩
  have x3 := same_upd (o := .tup [.ref p3, .ref pF, .bl false]) np
  have X := s4.trans (s5.trans (s6.trans x3))
  exact q _ _ X (.tup (SqT.of upd_same) (.cons (.tup (seqT x3 hp3) (dpAll_same X _ _ hxr)) (.cons (dp_same (s5.trans (s6.trans x3)) _ _ dF3) (.cons (.bl false) .nil))))
end
end Fd

set_option Elab.async false
set_option linter.all false
set_option maxRecDepth 100000
set_option maxHeartbeats 2000000
namespace Fd
open PySem PySem.Spec PyProof.Rows L2
section
variable {P : Program} {w : World} {K : PySem.W.Frag} {mg : Str → Option Value} {base : Heap} {f C fI cm : Addr} {fd : FuncData} {fc : Str → Addr}
/-! ### piece_called -/
abbrev sPiece : Stmt := top 43
-- ["wanted", "pieces", "name", "kind", "params", "block"]
def spPiece (K : PySem.W.Frag) (C : Addr) : Sp := fun vs H Q E => ∃ (x : Str) (a : Addr) (ps : List Pc), vs = [.str x, .ref a] ∧ Dp K H (.ref a) (pcD ps) ∧
  (∀ p, ps.find? (fun p => decide (p.1 = x)) = some p → ∀ T H', Same H H' → Dp K H' (.ref T) (.tuple [.str p.2.1, .tuple (p.2.2.1.map .str), .tuple p.2.2.2]) → Q (.ref T) H') ∧ (ps.find? (fun p => decide (p.1 = x)) = none → Falls C E H "none")
theorem find_skip {ps : List Pc} {i : Nat} {p : Pc} {x : Str} (h : (ps.take i).find? (fun p => decide (p.1 = x)) = none) (e : ps[i]? = some p) (n : p.1 ≠ x) : (ps.take (i + 1)).find? (fun p => decide (p.1 = x)) = none := by
  rw [List.take_add_one, e, List.find?_append, h]
  show List.find? (fun p : Pc => decide (p.1 = x)) [p] = none
  rw [List.find?_cons_of_neg (by simpa using n)]
  rfl
theorem find_hit {ps : List Pc} {i : Nat} {p : Pc} {x : Str} (h : (ps.take i).find? (fun p => decide (p.1 = x)) = none) (e : ps[i]? = some p) (n : p.1 = x) : ps.find? (fun p => decide (p.1 = x)) = some p := by
  have hd : ps.drop i = p :: ps.drop (i + 1) := by
    obtain ⟨hi, rfl⟩ := List.getElem?_eq_some_iff.mp e
    exact List.drop_eq_getElem_cons hi
  rw [← List.take_append_drop i ps, List.find?_append, h, hd]
  show List.find? (fun p : Pc => decide (p.1 = x)) (p :: ps.drop (i + 1)) = some p
  rw [List.find?_cons_of_pos (by simpa using n)]
theorem ok_piece {k : Nat} (T : PySem.FellX.FellTxt K mg C fI) (F : Fun K "piece_called" "piece_called" sPiece f fd) : FnOk P w K mg base (L2.CX P w) (k + 2) f fd ["wanted", "pieces"] (spPiece K C) := by
  have sc : FnScope ["wanted", "pieces", "name", "kind", "params", "block"] ["wanted", "pieces"] (defScope sPiece) := ⟨rfl, rfl, rfl, by decide +kernel, rfl, by decide +kernel, by decide +kernel⟩
  refine F.okX sc (fun vs H Q E h => ?_) (fun cdv A outer s H vs Q E hr h => ?_)
  · obtain ⟨x, a, ps, rfl, _⟩ := h
    rfl
  obtain ⟨x, a, ps, rfl, hp, q1, q2⟩ := h
  refine ⟨_, (pss_cons (ps_for (passes_of rfl) rfl (pi_tup (pv 1)) (pg_tup (by rfl) (pgs_cons (pg_name (i := 2) sc.nd rfl (.inl rfl)) (pgs_cons (pg_name (i := 3) sc.nd rfl (.inl rfl)) (pgs_cons (pg_name (i := 4) sc.nd rfl (.inl rfl)) (pgs_cons (pg_name (i := 5) sc.nd rfl (.inl rfl)) pgs_nil))))) (pss_one (ps_if (pt_cmpR op_eq (pv 2) (pv 0) (nomark _)) (pss_one (ps_ret (pe_tup (pa_cons (pv 3) (pa_cons (pv 4) (pa_cons (pv 5) pa_nil)))))) pss_nil)))
      (pss_one (ps_raiseFell rfl T hr (takes_of rfl rfl rfl rfl) (by exact (pa_cons pe_str pa_nil))))), ?_⟩
  have z3 : 3 ≤ sizeLine := by decide
  obtain ⟨a', xs, ea, ha, hxs⟩ := dp_tup (show Dp K H (.ref a) (.tuple (ps.map p1D)) from hp)
  cases ea
  have e0 : (ps.take xs.length).find? (fun p => decide (p.1 = x)) = none → ps.find? (fun p => decide (p.1 = x)) = none := fun h => by
    rw [dpAll_len hxs, List.length_map, List.take_length] at h
    exact h
  refine ⟨_, rfl, a, rfl, ⟨_, ha⟩, for_it (walk_tup (K := K) (a := a) (xs := xs)) (fun i σ H' => H' = H ∧ (ps.take i).find? (fun p => decide (p.1 = x)) = none ∧ ∃ v2 v3 v4 v5, σ = [some (.str x), some (.ref a), v2, v3, v4, v5]) ⟨rfl, rfl, none, none, none, none, rfl⟩
    (fun i σ H' _ h => by rw [h.1]; exact ha) ?_ ?_⟩
  · rintro i v σ H1 H2 hi ⟨e1, hn, v2, v3, v4, v5, rfl⟩ ⟨e2, ev⟩
    obtain ⟨d, ed, hd⟩ := dpAll_at hxs ev
    rw [List.getElem?_map] at ed
    obtain ⟨p, ep, rfl⟩ := Option.map_eq_some_iff.mp ed
    obtain ⟨b, y1, y2, y3, y4, rfl, hb, k1, k2, k3, k4⟩ := dp_four (show Dp K H v (.tuple [.str p.1, .str p.2.1, .tuple (p.2.2.1.map .str), .tuple p.2.2.2]) from hd)
    rw [dp_str k1, dp_str k2] at hb
    rw [e2, e1]
    refine ⟨b, _, rfl, hb, rfl, _, _, rfl, _, _, rfl, _, _, rfl, _, _, rfl, rfl, ?_⟩
    refine ⟨_, rfl, _, rfl, rfl, _, rfl, ite2 (fun c => ?_) (fun c => ?_)⟩
    · refine ⟨_, rfl, _, rfl, _, rfl, z3, fun T nT => q1 p (find_hit hn ep (V.str.inj (of_decide_eq_true c))) T _ (same_upd nT) ?_⟩
      exact .tup (SqT.of upd_same) (.cons (.str _) (.cons (dp_same (same_upd nT) _ _ k3) (.cons (dp_same (same_upd nT) _ _ k4) .nil)))
    · exact ⟨rfl, find_skip hn ep (fun z => c (decide_eq_true (by rw [z]))), _, _, _, _, rfl⟩
  · rintro σ H1 ⟨rfl, hn, v2, v3, v4, v5, rfl⟩
    exact ⟨_, rfl, fun d nd => q2 (e0 hn) d nd⟩
end
end Fd

set_option Elab.async false
set_option linter.all false
set_option maxRecDepth 100000
set_option maxHeartbeats 2000000
namespace Fd
open PySem PySem.Spec PyProof.Rows L2
open StX (pa_star)
/-! ### looks, one behind the other -/
theorem vals_app (Y : Ey) : ∀ (As Bs : List Lk), vals Y (As ++ Bs) = thenB (vals Y As) fun a => thenB (vals Y Bs) fun b => .ok (a ++ b)
  | [], Bs => by
    show vals Y Bs = thenB (vals Y Bs) fun b => .ok ([] ++ b)
    cases vals Y Bs <;> rfl
  | L :: As, Bs => by
    show thenB (val Y L) (fun v => thenB (vals Y (As ++ Bs)) fun vs => .ok (v :: vs)) = thenB (thenB (val Y L) fun v => thenB (vals Y As) fun vs => .ok (v :: vs)) fun a => thenB (vals Y Bs) fun b => .ok (a ++ b)
    cases val Y L with
    | error z => rfl
    | ok v =>
      show thenB (vals Y (As ++ Bs)) (fun vs => .ok (v :: vs)) = thenB (thenB (vals Y As) fun vs => .ok (v :: vs)) fun a => thenB (vals Y Bs) fun b => .ok (a ++ b)
      rw [vals_app Y As Bs]
      cases vals Y As with
      | error z => rfl
      | ok a =>
        show thenB (thenB (vals Y Bs) fun b => .ok (a ++ b)) (fun vs => .ok (v :: vs)) = thenB (vals Y Bs) fun b => .ok ((v :: a) ++ b)
        cases vals Y Bs <;> rfl
theorem vals_one (Y : Ey) (L : Lk) : vals Y [L] = thenB (val Y L) fun v => .ok [v] := by
  show thenB (val Y L) (fun v => thenB (.ok []) fun vs => .ok (v :: vs)) = _
  cases val Y L <;> rfl
theorem vals_next {Y : Ey} {Ls : List Lk} {i : Nat} {L : Lk} {vs : List Int} (h : vals Y (Ls.take i) = .ok vs) (e : Ls[i]? = some L) : vals Y (Ls.take (i + 1)) = thenB (val Y L) fun v => .ok (vs ++ [v]) := by
  rw [List.take_succ, e]
  show vals Y (Ls.take i ++ [L]) = _
  rw [vals_app, h, vals_one]
  show thenB (thenB (val Y L) fun v => .ok [v]) (fun b => .ok (vs ++ b)) = _
  cases val Y L <;> rfl
theorem vals_fell {Y : Ey} {Ls : List Lk} {i : Nat} {L : Lk} {vs : List Int} {z : Str} (h : vals Y (Ls.take i) = .ok vs) (e : Ls[i]? = some L) (ev : val Y L = .error z) : vals Y Ls = .error z := by
  rw [← List.take_append_drop (i + 1) Ls, vals_app, vals_next h e, ev]
  rfl
theorem vals_len {Y : Ey} : ∀ {Ls : List Lk} {vs : List Int}, vals Y Ls = .ok vs → vs.length = Ls.length
  | [], vs, h => by cases h; rfl
  | L :: Ls, vs, h => by
    have h : thenB (val Y L) (fun v => thenB (vals Y Ls) fun vs => .ok (v :: vs)) = .ok vs := h
    cases ev : val Y L with
    | error z => rw [ev] at h; cases h
    | ok v =>
      rw [ev] at h
      have h : thenB (vals Y Ls) (fun vs => .ok (v :: vs)) = .ok vs := h
      cases ew : vals Y Ls with
      | error z => rw [ew] at h; cases h
      | ok ws =>
        rw [ew] at h
        cases h
        rw [List.length_cons, List.length_cons, vals_len ew]
theorem zps_dp {K : PySem.W.Frag} {H : Hp} : ∀ {ts : List Addr} {ns : List Str} {vs : List Int}, ZPs H ts (ns.map V.str) (vs.map V.int) → DpAll K H (ts.map V.ref) ((ns.zip vs).map prD)
  | [], [], [], _ => .nil
  | [], [], _ :: _, h => h.elim
  | [], _ :: _, _, h => h.elim
  | _ :: _, [], _, h => h.elim
  | _ :: _, _ :: _, [], h => h.elim
  | t :: ts, n :: ns, v :: vs, h => .cons (.tup (SqT.of h.1) (.cons (.str _) (.cons (.int _) .nil))) (zps_dp h.2)
def isDo : It → Prop
  | .do_ _ Ls => Ls.length ≤ 2
  | _ => False
section
variable {P : Program} {w : World} {K : PySem.W.Frag} {mg : Str → Option Value} {base : Heap} {f C fI cm : Addr} {fd : FuncData} {fc : Str → Addr}
/-! ### by_do -/
abbrev sByDo : Stmt := top 40
-- ["item", "frames", "eyes", "pieces", "values", "kind", "params", "block", "pairs", "look"]
theorem ok_byDo {k : Nat} {t' : Tok} (T : PySem.FellX.FellTxt K mg C fI) (F : Fun K "by_do" "by_do" sByDo f fd) (GV : GVal P w K mg base C (k + 1)) (GP : FnG P w K mg base (L2.CX P w) (k + 1) "piece_called" ["wanted", "pieces"] (spPiece K C)) (m_MF : mg "MOST_FRAMES" = some (.int 6 t')) (m_len : mg "len" = none) (m_tuple : mg "tuple" = none) (m_zip : mg "zip" = none) :
    FnOk P w K mg base (L2.CX P w) (k + 2) f fd ["item", "frames", "eyes", "pieces"] (fun vs H Q E => ∃ x Ls, isDo (.do_ x Ls) ∧ spBy K C (.do_ x Ls) vs H Q E) := by
  obtain ⟨_, _, G_value_of, m_value_of, k_value_of, b_value_of⟩ := GV
  obtain ⟨_, _, G_piece_called, m_piece_called, k_piece_called, b_piece_called⟩ := GP
  have sc : FnScope ["item", "frames", "eyes", "pieces", "values", "kind", "params", "block", "pairs", "look"] ["item", "frames", "eyes", "pieces"] (defScope sByDo) := ⟨rfl, rfl, rfl, by decide +kernel, rfl, by decide +kernel, by decide +kernel⟩
  refine F.okX sc (fun vs H Q E h => ?_) (fun cdv A outer s H vs Q E hr h => ?_)
  · obtain ⟨x, Ls, _, vi, vf, e, vp, Y, fs, ps, rfl, _⟩ := h
    rfl
  obtain ⟨x, Ls, gi, vi, vf, e, vp, Y, fs, ps, rfl, hi, hf, hl, hE, hp, o6, oP, ⟨ws, oW⟩, q⟩ := h
  refine ⟨_, (pss_cons (ps_setLcX (i := 4) (own := [("look", 9)]) rfl rfl (takes_of rfl rfl rfl rfl) (by rfl) sc.nd rfl rfl (sw_true rfl rfl rfl (by decide +kernel)) (pi_tup (pe_ix ix_tup (pv 0) pe_int (fun _ _ => rfl))) (blkOk_by (own := [("look", 9)]) (N := ["item", "frames", "eyes", "pieces", "values", "kind", "params", "block", "pairs", "look"]) (sc := defScope sByDo) (by decide +kernel)) (fun _ _ _ _ _ => (pg_name (i := 9) sc.nd rfl (.inl rfl))) (fun _ _ _ _ _ ξ px => (pe_callS G_value_of (hr.mono (by omega)) (by rfl) m_value_of k_value_of b_value_of (fun σ => px σ) (pa_cons (pv 9) (pa_cons (pv 2) pa_nil)))))
      (pss_cons (ps_if (pt_cmpR op_ge (pe_callB call_len_seq (by rfl) m_len (by decide +kernel) (pa_cons (pv 1) pa_nil)) (pe_glob (v := .int 6) (by rfl) m_MF ⟨_, rfl⟩) (nomark _)) (pss_one (ps_raiseFell rfl T hr (takes_of rfl rfl rfl rfl) (by exact (pa_cons pe_str pa_nil)))) pss_nil)
      (pss_cons (ps_asg (pe_callS G_piece_called (hr.mono (by omega)) (by rfl) m_piece_called k_piece_called b_piece_called (fun σ => passAt (takes_of rfl rfl rfl rfl) σ) (pa_cons (pe_ix ix_tup (pv 0) pe_int (fun _ _ => rfl)) (pa_cons (pv 3) pa_nil))) (pg_tup (by rfl) (pgs_cons (pg_name (i := 5) sc.nd rfl (.inl rfl)) (pgs_cons (pg_name (i := 6) sc.nd rfl (.inl rfl)) (pgs_cons (pg_name (i := 7) sc.nd rfl (.inl rfl)) pgs_nil)))))
      (pss_cons (ps_set (i := 8) sc.nd rfl (.inl rfl) (pe_tupzip (by rfl) m_tuple (by rfl) m_zip (by rfl) (pa_cons (pv 6) (pa_cons (pv 4) pa_nil))))
      (pss_one (ps_ret (pe_tup (pa_cons (pe_tup (pa_star (pv 7) (pa_cons (pe_tup (pa_cons pe_str pa_nil)) pa_nil))) (pa_cons (pe_tup (pa_star (pv 1) (pa_cons (pe_tup (pa_cons (pv 5) (pa_cons (pv 8) pa_nil))) pa_nil))) (pa_cons pe_bl pa_nil)))))))))), ?_⟩
  have z1 : 1 ≤ sizeLine := by decide
  have z2 : 2 ≤ sizeLine := by decide
  have z3 : 3 ≤ sizeLine := by decide
  have gi : Ls.length ≤ 2 := gi
  obtain ⟨pc, epc, lpc, lbk, obk, lps⟩ := oP
  obtain ⟨a, u, y, x1, rfl, ha, hu, hy, h1⟩ := dp_three (show Dp K H vi (.tuple [.str "do", .str x, .tuple (Ls.map lkD)]) from hi)
  rw [dp_str hu, dp_str hy] at ha
  obtain ⟨al, xl, rfl, hal, hxl⟩ := dp_tup h1
  obtain ⟨ap, xp, rfl, hap, hxp⟩ := dp_tup (show Dp K H vp (.tuple (ps.map p1D)) from hp)
  obtain ⟨af, xf, rfl, haf, hxf⟩ := dp_tup (show Dp K H vf (.tuple (fs.map f1D)) from hf)
  have nl : xl.length = Ls.length := by rw [dpAll_len hxl, List.length_map]
  have nf : xf.length = fs.length := by rw [dpAll_len hxf, List.length_map]
  have q : ComesU K C H (thenB (vals Y Ls) fun vs => if 6 ≤ fs.length then .error "deep" else match ps.find? (fun p => decide (p.1 = x)) with
    | some p => .ok (p.2.2.2 ++ [.tuple [.str "out"]], fs ++ [(p.2.1, p.2.2.1.zip vs)], false)
    | none => .error "none") Q E := q
  refine ⟨_, rfl, a, _, 2, _, rfl, rfl, ha, rfl, al, rfl, ⟨_, hal⟩, fun D nD => ?_⟩
  refine lc_it (walk_tup (xs := xl)) (fun i H' => Same H H' ∧ ∃ vs : List Int, vals Y (Ls.take i) = .ok vs ∧ H' D = some (.lst (vs.map V.int))) ⟨same_upd nD, [], rfl, upd_same⟩ (fun i H' _ h => seqT h.1 hal) ?_ ?_
  · rintro i v _ H1 hi' ⟨s1, vs, hv, hD⟩ ⟨rfl, ev⟩
    obtain ⟨d, ed, hd⟩ := dpAll_at hxl ev
    rw [List.getElem?_map] at ed
    obtain ⟨L, eL, rfl⟩ := Option.map_eq_some_iff.mp ed
    have mL : L ∈ Ls := List.mem_of_getElem? eL
    refine ⟨rfl, yesI (iteT ⟨_, rfl, _, rfl, v, e, L, Y, rfl, lk_sd (oW L mL) (sd_same s1 _ _ (sd_dp _ _ hd)), o6.2 L mL, hE.same s1, ?_⟩)⟩
    cases hval : val Y L with
    | error z =>
      rw [vals_fell hv eL hval] at q
      exact fun d nd => q H1 s1 d nd
    | ok n =>
      have hn := vals_next hv eL
      rw [hval] at hn
      have lv := vals_len hv
      rw [List.length_take] at lv
      refine ⟨_, hD, small1000 (by rw [List.length_map]; omega), fun b o h => ?_, vs ++ [n], hn, ?_⟩
      · rw [upd_ne (fun z => by rw [z, nD] at h; cases h)]
        exact s1 _ _ h
      · rw [upd_same, List.map_append]
        rfl
  rintro H1 ⟨s1, vs, hv, hD⟩
  rw [List.take_of_length_le (by rw [nl]; exact Nat.le_refl _)] at hv
  have lv := vals_len hv
  rw [hv] at q
  have q : ComesU K C H (if 6 ≤ fs.length then .error "deep" else match ps.find? (fun p => decide (p.1 = x)) with
    | some p => .ok (p.2.2.2 ++ [.tuple [.str "out"]], fs ++ [(p.2.1, p.2.2.1.zip vs)], false)
    | none => .error "none") Q E := q
  refine ⟨_, rfl, af, xf, rfl, .inr (seqT s1 haf), _, _, rfl, rfl, _, rfl, ite2 (fun c => ?_) (fun c => ?_)⟩
  · have c' : (6 : Int) ≤ (xf.length : Nat) := of_decide_eq_true c
    rw [if_pos (by rw [← nf]; omega)] at q
    exact ⟨_, rfl, fun d nd => q H1 s1 d nd⟩
  rw [if_neg (fun z => c (decide_eq_true (by show (6 : Int) ≤ (xf.length : Nat); rw [nf]; omega))), epc] at q
  have q : ComesU K C H (.ok (pc.2.2.2 ++ [.tuple [.str "out"]], fs ++ [(pc.2.1, pc.2.2.1.zip vs)], false)) Q E := q
  refine ⟨_, rfl, a, _, 1, _, rfl, rfl, seqT s1 ha, rfl, _, rfl, x, ap, ps, rfl, dp_same s1 _ _ hp, fun p hfp T2 H2 s2 dT => ?_, fun z => by rw [epc] at z; cases z⟩
  rw [epc] at hfp
  cases hfp
  obtain ⟨aT, k1, k2, k3, eT, hT, d1, d2, d3⟩ := dp_three dT
  cases eT
  rw [dp_str d1] at hT
  obtain ⟨an, xn, rfl, han, hxn⟩ := dp_tup d2
  obtain ⟨ab, xb, rfl, hab, hxb⟩ := dp_tup d3
  have exn := dpA_strs hxn
  subst exn
  refine ⟨T2, _, rfl, hT, rfl, _, _, rfl, _, _, rfl, _, _, rfl, rfl, ?_⟩
  have S2 := s1.trans s2
  refine ⟨_, rfl, _, rfl, an, D, _, _, rfl, han, SqL.of (s2 _ _ hD), by rw [List.length_map, List.length_map, lv, lpc], by rw [List.length_map, lpc]; omega, fun pz ts H3 s3 hpz zps => ?_⟩
  have S3 := S2.trans s3
  refine ⟨_, rfl, ab, xb, rfl, .inl (seqT s3 hab), z1, fun t1 n1 => ⟨?_, fun t2 n2 => ⟨_, rfl, af, xf, rfl, .inl (seqT (S3.trans ((same_upd n1).trans (same_upd n2))) haf), _, rfl, _, rfl, z2, fun t3 n3 => ⟨?_, fun t4 n4 => ⟨z3, fun p np => ?_⟩⟩⟩⟩⟩
  · rw [List.length_append, dpAll_len hxb]
    have e0 : sizeLine = 16777216 := by decide
    show _ + 1 ≤ _
    omega
  · rw [List.length_append, nf]
    have e0 : sizeLine = 16777216 := by decide
    show _ + 1 ≤ _
    omega
  have y1 := same_upd (o := .tup [.str "out"]) n1
  have y2 := same_upd (o := .tup (xb ++ [.ref t1])) n2
  have y3 := same_upd (o := .tup [.str pc.2.1, .ref pz]) n3
  have y4 := same_upd (o := .tup (xf ++ [.ref t3])) n4
  have y5 := same_upd (o := .tup [.ref t2, .ref t4, .bl false]) np
  have w4 := y4.trans y5
  have w3 := y3.trans w4
  have w2 := y2.trans w3
  have X := y1.trans w2
  refine q p (.ref t2) (.ref t4) _ (S3.trans X) upd_same (.tup (SqT.of (w3 _ _ upd_same)) (dpAll_snoc (.tup (SqT.of (w2 _ _ upd_same)) (.cons (.str _) .nil)) (dpAll_same (s3.trans X) _ _ hxb))) ?_
  show Dp K _ _ (.tuple ((fs ++ [(pc.2.1, pc.2.2.1.zip vs)]).map f1D))
  rw [List.map_append]
  exact .tup (SqT.of (y5 _ _ upd_same)) (dpAll_snoc (.tup (SqT.of (w4 _ _ upd_same)) (.cons (.str _) (.cons (.tup (SqT.of (X _ _ hpz)) (dpAll_same X _ _ (zps_dp zps))) .nil))) (dpAll_same (S3.trans X) _ _ hxf))
end
end Fd

set_option Elab.async false
set_option linter.all false
set_option maxRecDepth 100000
set_option maxHeartbeats 2000000
namespace Fd
open PySem PySem.Spec PyProof.Rows L2
theorem find_succ {ps : List Pc} {i : Nat} {p : Pc} {f : Pc → Bool} (e : ps[i]? = some p) : (ps.take (i + 1)).find? f = ((ps.take i).find? f).or (if f p = true then some p else none) := by
  rw [List.take_succ, e, List.find?_append]
  show ((ps.take i).find? f).or (List.find? f [p]) = _
  congr 1
  by_cases h : f p = true
  · rw [List.find?_cons_of_pos h, if_pos h]
  · rw [List.find?_cons_of_neg h, if_neg h]
    rfl
def EnterAt (K : PySem.W.Frag) (H : Hp) (p : Addr) (r : Un) : Prop := match r with
  | .ok (its, fs, _) => ∃ t vf, H p = some (.tup [.ref t, vf, .non]) ∧ Dp K H (.ref t) (.tuple its) ∧ Dp K H vf (frD fs)
  | .error z => ∃ t vf, H p = some (.tup [.ref t, vf, .str z])
section
variable {P : Program} {w : World} {K : PySem.W.Frag} {mg : Str → Option Value} {base : Heap} {f : Addr} {fd : FuncData}
abbrev sEntered : Stmt := top 64
theorem scEntered : FnScope ["_law_deed", "_law_frames", "_law_eyes", "_law_pieces", "_law_values", "_law_look", "_law_left", "_law_fell", "_law_piece"] ["_law_deed", "_law_frames", "_law_eyes", "_law_pieces"] (defScope sEntered) := ⟨rfl, rfl, rfl, by decide +kernel, rfl, by decide +kernel, by decide +kernel⟩
-- ["_law_deed", "_law_frames", "_law_eyes", "_law_pieces", "_law_values", "_law_look", "_law_left", "_law_fell", "_law_piece"]
def spEntered (K : PySem.W.Frag) : Sp := fun vs H Q _ => ∃ (vd vf : V) (e : Addr) (vp : V) (x : Str) (Ls : List Lk) (Y : Ey) (fs : List Fr) (ps : List Pc) (ws : List Str) (x3 : Str), vs = [vd, vf, .ref e, vp] ∧ Ls.length ≤ 2 ∧ Dp K H vd (itD (.do_ x Ls)) ∧ (It.do_ x Ls).ok6 ∧ (It.do_ x Ls).okP ps ∧ (It.do_ x Ls).okW ws ∧ (It.do_ x Ls).okL x3 ∧ Dp K H vf (frD fs) ∧ fs.length ≤ 900 ∧ Dp K H (.ref e) (eyD Y) ∧ EyOk ws Y ∧ (∃ row, Y.lists = [(x3, row)]) ∧ Dp K H vp (pcD ps) ∧
  ∀ p H', Same H H' → EnterAt K H' p (unroll Y fs ps (.do_ x Ls)) → Q (.ref p) H'
theorem ok_entered {k : Nat} (F : Fun K "_law_entered" "_law_entered" sEntered f fd) (GV : FnG P w K mg base CX0 k "_law_valued" ["_law_look", "_law_eyes"] (spValued K 6)) (m_len : mg "len" = none) (m_tuple : mg "tuple" = none) (m_zip : mg "zip" = none) :
    FnOk P w K mg base CX0 (k + 1) f fd ["_law_deed", "_law_frames", "_law_eyes", "_law_pieces"] (spEntered K) := by
  obtain ⟨_, _, G__law_valued, m__law_valued, k__law_valued, b__law_valued⟩ := GV
  have sc := scEntered
  refine F.ok sc (fun vs H Q E h => ?_) (fun cdv A outer s H vs Q E hr h => ?_)
  · obtain ⟨vd, vf, e, vp, x, Ls, Y, fs, ps, ws, x3, rfl, _⟩ := h
    rfl
  obtain ⟨vd, vf, e, vp, x, Ls, Y, fs, ps, ws, x3, rfl, gi, hi, o6, oP, oW, oL, hf, hl, hE, oE, hrow, hp, q⟩ := h
  refine ⟨_, (pss_cons (ps_set (i := 4) sc.nd rfl (.inl rfl) (pe_lst pa_nil))
      (pss_cons (ps_for PassesOwn.never rfl (pi_tup (pe_ix ix_tup (pv 0) pe_int (fun _ _ => rfl))) (pg_name (i := 5) sc.nd rfl (.inl rfl)) (pss_cons (ps_asg (pe_call G__law_valued (hr.mono (by omega)) (by rfl) m__law_valued k__law_valued b__law_valued .nil pass0 (pa_cons (pv 5) (pa_cons (pv 2) pa_nil))) (pg_tup (by rfl) (pgs_cons (pg_name (i := 6) sc.nd rfl (.inl rfl)) (pgs_cons (pg_name (i := 7) sc.nd rfl (.inl rfl)) pgs_nil))))
      (pss_cons (ps_if (pt_cmpR op_notN (pv 7) pe_non (nomark _)) (pss_one (ps_ret (pe_tup (pa_cons (pe_tup pa_nil) (pa_cons (pv 1) (pa_cons (pv 7) pa_nil)))))) pss_nil)
      (pss_one (ps_expr (pe_bm PySem.F.plainAttrs_list PySem.F.slot_list_append PySem.F.type_list_append mt_append (pv 4) (pa_cons (pv 6) pa_nil)))))))
      (pss_cons (ps_if (pt_cmpR op_gt (pe_callB call_len_seq (by rfl) m_len (by decide +kernel) (pa_cons (pv 1) pa_nil)) pe_int (nomark _)) (pss_one (ps_ret (pe_tup (pa_cons (pe_tup pa_nil) (pa_cons (pv 1) (pa_cons pe_str pa_nil)))))) pss_nil)
      (pss_cons (ps_set (i := 8) sc.nd rfl (.inl rfl) (pe_ix ix_list (pe_lc (own := [("_law_piece", 8)]) (by rfl) sc.nd  (pi_tup (pv 3)) (blkOk_by (own := [("_law_piece", 8)]) (N := ["_law_deed", "_law_frames", "_law_eyes", "_law_pieces", "_law_values", "_law_look", "_law_left", "_law_fell", "_law_piece"]) (sc := defScope sEntered) (by decide +kernel)) (fun _ _ _ _ _ => (pg_name (i := 8) sc.nd rfl (.inl rfl))) (fun _ _ _ _ _ => (pts_one (pt_cmpR op_eq (pe_ix (show IxR _ (rIxT K) from ix_tup) (pv 8) pe_int (fun _ _ => rfl)) (pe_ix (show IxR _ (rIxT K) from ix_tup) (pv 0) pe_int (fun _ _ => rfl)) (nomark _)))) (fun _ _ _ _ _ => (pv 8))) pe_int (fun _ _ => rfl)))
      (pss_one (ps_ret (pe_tup (pa_cons (pe_op op_catA (pe_ix ix_tup (pv 8) pe_int (fun _ _ => rfl)) (pe_tup (pa_cons (pe_tup (pa_cons pe_str pa_nil)) pa_nil))) (pa_cons (pe_op op_catA (pv 1) (pe_tup (pa_cons (pe_tup (pa_cons (pe_ix ix_tup (pv 8) pe_int (fun _ _ => rfl)) (pa_cons (pe_tupzip (by rfl) m_tuple (by rfl) m_zip (by rfl) (pa_cons (pe_ix ix_tup (pv 8) pe_int (fun _ _ => rfl)) (pa_cons (pv 4) pa_nil))) pa_nil))) pa_nil))) (pa_cons pe_non pa_nil)))))))))), ?_⟩
  have z0 : 0 ≤ sizeLine := Nat.zero_le _
  have z1 : 1 ≤ sizeLine := by decide
  have z2 : 2 ≤ sizeLine := by decide
  have z3 : 3 ≤ sizeLine := by decide
  obtain ⟨pc, epc, lpc, lbk, obk, lps⟩ := oP
  obtain ⟨a, u, y, x1, rfl, ha, hu, hy, h1⟩ := dp_three (show Dp K H vd (.tuple [.str "do", .str x, .tuple (Ls.map lkD)]) from hi)
  rw [dp_str hu, dp_str hy] at ha
  obtain ⟨al, xl, rfl, hal, hxl⟩ := dp_tup h1
  obtain ⟨ap, xp, rfl, hap, hxp⟩ := dp_tup (show Dp K H vp (.tuple (ps.map p1D)) from hp)
  obtain ⟨af, xf, rfl, haf, hxf⟩ := dp_tup (show Dp K H vf (.tuple (fs.map f1D)) from hf)
  have nl : xl.length = Ls.length := by rw [dpAll_len hxl, List.length_map]
  have np : xp.length = ps.length := by rw [dpAll_len hxp, List.length_map]
  have nf : xf.length = fs.length := by rw [dpAll_len hxf, List.length_map]
  have q : ∀ p H', Same H H' → EnterAt K H' p (thenB (vals Y Ls) fun vs => if 6 ≤ fs.length then .error "deep" else match ps.find? (fun p => decide (p.1 = x)) with
    | some p => .ok (p.2.2.2 ++ [.tuple [.str "out"]], fs ++ [(p.2.1, p.2.2.1.zip vs)], false)
    | none => .error "none") → Q (.ref p) H' := q
  refine ⟨z0, fun D nD => ?_⟩
  have s0 : Same H (upd H D (.lst [])) := same_upd nD
  refine ⟨_, rfl, a, _, 2, _, rfl, rfl, seqT s0 ha, rfl, al, rfl, ⟨_, seqT s0 hal⟩, for_it (walk_tup (K := K) (a := al) (xs := xl))
    (fun i σ H' => Same H H' ∧ ∃ (vs : List Int) (o5 o6 o7 : Option V), vals Y (Ls.take i) = .ok vs ∧ H' D = some (.lst (vs.map V.int)) ∧ σ = [some (.ref a), some (.ref af), some (.ref e), some (.ref ap), some (.ref D), o5, o6, o7, none])
    ⟨s0, [], none, none, none, rfl, upd_same, rfl⟩ (fun i σ H' _ h => seqT h.1 hal) ?_ ?_⟩
  · rintro i v σ _ H1 hi' ⟨s1, vs, o5, o6', o7, hv, hD, rfl⟩ ⟨rfl, ev⟩
    obtain ⟨d, ed, hd⟩ := dpAll_at hxl ev
    rw [List.getElem?_map] at ed
    obtain ⟨L, eL, rfl⟩ := Option.map_eq_some_iff.mp ed
    have mL : L ∈ Ls := List.mem_of_getElem? eL
    refine ⟨_, rfl, _, rfl, v, e, L, Y, ws, x3, rfl, dp_same s1 _ _ hd, oW L mL, oL L mL, o6.2 L mL, dp_same s1 _ _ hE, oE, hrow, fun p1 H2 s2 h2 => ?_⟩
    cases hval : val Y L with
    | error z =>
      rw [hval] at h2
      rw [vals_fell hv eL hval] at q
      exact ⟨p1, _, rfl, .inl (.inl h2), rfl, _, _, rfl, _, _, rfl, rfl, _, rfl, rfl, _, rfl, iteT ⟨z0, fun t nt => ⟨_, rfl, _, rfl, z3, fun p np => q p _ (s1.trans (s2.trans ((same_upd nt).trans (same_upd np)))) ⟨t, _, upd_same⟩⟩⟩⟩
    | ok n =>
      rw [hval] at h2
      have hn := vals_next hv eL
      rw [hval] at hn
      have lv := vals_len hv
      rw [List.length_take] at lv
      refine ⟨p1, _, rfl, .inl (.inl h2), rfl, _, _, rfl, _, _, rfl, rfl, _, rfl, rfl, _, rfl, iteF ?_⟩
      have hD2 := s2 _ _ hD
      refine ⟨_, rfl, .inl ⟨rfl, _, SqL.of hD2⟩, _, rfl, D, _, _, rfl, rfl, hD2, small1000 (by rw [List.length_map]; omega), fun b o h => ?_, vs ++ [n], _, _, _, hn, ?_, rfl⟩
      · rw [upd_ne (fun z => by rw [z, nD] at h; cases h)]
        exact s2 _ _ (s1 _ _ h)
      · rw [upd_same, List.map_append]
        rfl
  rintro σ H1 ⟨s1, vs, o5, o6', o7, hv, hD, rfl⟩
  rw [List.take_of_length_le (by rw [nl]; exact Nat.le_refl _)] at hv
  have lv := vals_len hv
  rw [hv] at q
  have q : ∀ p H', Same H H' → EnterAt K H' p (if 6 ≤ fs.length then .error "deep" else match ps.find? (fun p => decide (p.1 = x)) with
    | some p => .ok (p.2.2.2 ++ [.tuple [.str "out"]], fs ++ [(p.2.1, p.2.2.1.zip vs)], false)
    | none => .error "none") → Q (.ref p) H' := q
  refine ⟨_, rfl, af, xf, rfl, .inr (seqT s1 haf), _, _, rfl, rfl, _, rfl, ite2 (fun c => ?_) (fun c => ?_)⟩
  · have c' : (5 : Int) < (xf.length : Nat) := of_decide_eq_true c
    rw [if_pos (by rw [← nf]; omega)] at q
    exact ⟨z0, fun t nt => ⟨_, rfl, z3, fun p np => q p _ (s1.trans ((same_upd nt).trans (same_upd np))) ⟨t, _, upd_same⟩⟩⟩
  rw [if_neg (fun z => c (decide_eq_true (by show (5 : Int) < (xf.length : Nat); rw [nf]; omega))), epc] at q
  have q : ∀ p H', Same H H' → EnterAt K H' p (.ok (pc.2.2.2 ++ [.tuple [.str "out"]], fs ++ [(pc.2.1, pc.2.2.1.zip vs)], false)) → Q (.ref p) H' := q
  refine ⟨_, rfl, ap, rfl, ⟨_, seqT s1 hap⟩, fun G nG => ?_⟩
  refine lc_it (walk_tup (xs := xp)) (fun i H' => Same H1 H' ∧ ∃ acc : List V, H' G = some (.lst acc) ∧ acc.length ≤ i ∧ match (ps.take i).find? (fun p => decide (p.1 = x)) with
      | none => acc = []
      | some p => ∃ v r, acc = v :: r ∧ Dp K H1 v (p1D p)) ⟨same_upd nG, [], upd_same, Nat.le_refl _, rfl⟩ (fun i H' _ h => seqT (s1.trans h.1) hap) ?_ ?_
  · rintro i v _ H2 hi' ⟨s2, acc, hG, la, hm⟩ ⟨rfl, ev⟩
    obtain ⟨d, ed, hd⟩ := dpAll_at hxp ev
    rw [List.getElem?_map] at ed
    obtain ⟨p, ep, rfl⟩ := Option.map_eq_some_iff.mp ed
    have hd1 := dp_same s1 _ _ hd
    obtain ⟨bb, w1, w2, w3, w4, rfl, hb, k1, k2, k3, k4⟩ := dp_four (show Dp K H1 v (.tuple [.str p.1, .str p.2.1, .tuple (p.2.2.1.map .str), .tuple p.2.2.2]) from hd1)
    rw [dp_str k1] at hb
    have hi2 : i < ps.length := (List.getElem?_eq_some_iff.mp ep).1
    have sz : acc.length < sizeLine := small1000 (by omega)
    have hai := seqT (s1.trans s2) ha
    refine ⟨rfl, _, rfl, bb, _, 0, _, rfl, rfl, seqT s2 hb, at0 _ _, _, rfl, a, _, 1, _, rfl, rfl, hai, rfl, rfl, _, rfl, ?_⟩
    rw [find_succ ep]
    by_cases hx : p.1 = x
    · rw [if_pos (decide_eq_true hx)]
      refine iteB (by rw [hx]; exact decide_eq_true rfl) ⟨_, rfl, acc, hG, sz, fun b o h => ?_, acc ++ [.ref bb], upd_same, by rw [List.length_append]; show acc.length + 1 ≤ i + 1; omega, ?_⟩
      · rw [upd_ne (fun z => by rw [z, nG] at h; cases h)]
        exact s2 _ _ h
      · cases hfi : (ps.take i).find? (fun p => decide (p.1 = x)) with
        | none =>
          rw [hfi] at hm
          have hm : acc = [] := hm
          rw [hm]
          exact ⟨.ref bb, [], rfl, hd1⟩
        | some p' =>
          rw [hfi] at hm
          obtain ⟨v', r', rfl, dv⟩ := hm
          exact ⟨v', r' ++ [.ref bb], rfl, dv⟩
    · rw [if_neg (fun z => hx (of_decide_eq_true z)), Option.or_none]
      exact iteBF (decide_eq_false fun z => hx (V.str.inj z)) ⟨s2, acc, hG, Nat.le_succ_of_le la, hm⟩
  rintro H2 ⟨s2, acc, hG, la, hm⟩
  rw [List.take_of_length_le (by rw [np]; exact Nat.le_refl _), epc] at hm
  obtain ⟨v, r, rfl, dv⟩ := hm
  obtain ⟨bb, w1, w2, w3, w4, rfl, hb, k1, k2, k3, k4⟩ := dp_four (show Dp K H1 v (.tuple [.str pc.1, .str pc.2.1, .tuple (pc.2.2.1.map .str), .tuple pc.2.2.2]) from dv)
  rw [dp_str k1, dp_str k2] at hb
  obtain ⟨an, xn, rfl, han, hxn⟩ := dp_tup k3
  obtain ⟨ab, xb, rfl, hab, hxb⟩ := dp_tup k4
  have exn := dpA_strs hxn
  subst exn
  have hb2 := seqT s2 hb
  refine ⟨G, _, _, _, rfl, rfl, SqL.of hG, at0 _ _, ?_⟩
  dsimp only [gName, List.set]
  refine ⟨_, rfl, bb, _, 3, _, rfl, rfl, hb2, rfl, z1, fun t1 n1 => ⟨z1, fun t2 n2 => ?_⟩⟩
  have y1 := same_upd (o := .tup [.str "out"]) n1
  have y2 := same_upd (o := .tup [.ref t1]) n2
  have Y2 := y1.trans y2
  have S2 := s2.trans Y2
  have dO : Dp K (upd (upd H2 t1 (.tup [.str "out"])) t2 (.tup [.ref t1])) (.ref t1) (.tuple [.str "out"]) := .tup (SqT.of (y2 _ _ upd_same)) (.cons (.str _) .nil)
  refine catA_all (seqT S2 hab) (SqT.of upd_same) (by rw [dpAll_len hxb]; show _ + 1 ≤ 1000; omega) fun p3 H3 s3 hp3 => ?_
  have S3 := S2.trans s3
  refine ⟨_, rfl, _, rfl, bb, _, 1, _, rfl, rfl, seqT S3 hb, rfl, _, rfl, bb, _, 2, _, rfl, rfl, seqT S3 hb, rfl, _, rfl, an, D, _, _, rfl, seqT S3 han, SqL.of ((S3) _ _ hD), by rw [List.length_map, List.length_map, lv, lpc], by rw [List.length_map, lpc]; omega, fun pz ts H4 s4 hpz zps => ?_⟩
  have S4 := S3.trans s4
  refine ⟨z2, fun t5 n5 => ⟨z1, fun t6 n6 => ?_⟩⟩
  have y5 := same_upd (o := .tup [.str pc.2.1, .ref pz]) n5
  have y6 := same_upd (o := .tup [.ref t5]) n6
  have Y6 := y5.trans y6
  have S6 := s1.trans (S4.trans Y6)
  refine catA_all (seqT S6 haf) (SqT.of upd_same) (by rw [nf]; show _ + 1 ≤ 1000; omega) fun p7 H7 s7 hp7 => ⟨z3, fun p np => ?_⟩
  have y8 := same_upd (o := .tup [.ref p3, .ref p7, .non]) np
  have W7 := s7.trans y8
  have W6 := y6.trans W7
  have W4 := s4.trans (Y6.trans W7)
  have W3 := s3.trans W4
  refine q p _ (S6.trans W7) ⟨p3, .ref p7, upd_same, .tup (seqT W4 hp3) (dpAll_snoc (dp_same W3 _ _ dO) (dpAll_same (S3.trans W4) _ _ hxb)), ?_⟩
  show Dp K _ _ (.tuple ((fs ++ [(pc.2.1, pc.2.2.1.zip vs)]).map f1D))
  rw [List.map_append]
  exact .tup (seqT y8 hp7) (dpAll_snoc (.tup (SqT.of (W6 _ _ upd_same)) (.cons (.str _) (.cons (.tup (SqT.of ((Y6.trans W7) _ _ hpz)) (dpAll_same (Y6.trans W7) _ _ (zps_dp zps))) .nil))) (dpAll_same (S6.trans W7) _ _ hxf))
theorem do_fs {Y : Ey} {fs fs' : List Fr} {ps : List Pc} {x : Str} {Ls : List Lk} {its : List PyData} {g : Bool} (oP : (It.do_ x Ls).okP ps) (h : unroll Y fs ps (.do_ x Ls) = .ok (its, fs', g)) : ∃ vs pc, vals Y Ls = .ok vs ∧ fs.length < 6 ∧ ps.find? (fun p => decide (p.1 = x)) = some pc ∧ its = pc.2.2.2 ++ [.tuple [.str "out"]] ∧ fs' = fs ++ [(pc.2.1, pc.2.2.1.zip vs)] ∧ g = false ∧ pc.2.2.1.length = Ls.length ∧ pc.2.2.2.length ≤ 100 ∧ ∀ d ∈ pc.2.2.2, OkD 14 d := by
  obtain ⟨pc, epc, lpc, lbk, obk, lps⟩ := oP
  have h : thenB (vals Y Ls) (fun vs => if 6 ≤ fs.length then (.error "deep" : Un) else match ps.find? (fun p => decide (p.1 = x)) with
    | some p => .ok (p.2.2.2 ++ [.tuple [.str "out"]], fs ++ [(p.2.1, p.2.2.1.zip vs)], false)
    | none => .error "none") = .ok (its, fs', g) := h
  cases ev : vals Y Ls with
  | error z => rw [ev] at h; cases h
  | ok vs =>
    rw [ev, epc] at h
    have h : (if 6 ≤ fs.length then (.error "deep" : Un) else .ok (pc.2.2.2 ++ [.tuple [.str "out"]], fs ++ [(pc.2.1, pc.2.2.1.zip vs)], false)) = .ok (its, fs', g) := h
    by_cases h6 : 6 ≤ fs.length
    · rw [if_pos h6] at h; cases h
    · rw [if_neg h6] at h
      cases h
      exact ⟨vs, pc, rfl, by omega, epc, rfl, rfl, rfl, lpc, lbk, obk⟩
theorem ok_dueD {k : Nat} (F : Fun K "_law_due" "_law_due" sDue f fd) (GG : FnG P w K mg base CX0 k "_law_given" ["_law_deed", "_law_frames", "_law_eyes"] (fun _ _ _ _ => False)) (GS : FnG P w K mg base CX0 k "_law_shut" ["_law_frames"] (spShut K))
    (GE : FnG P w K mg base CX0 k "_law_entered" ["_law_deed", "_law_frames", "_law_eyes", "_law_pieces"] (spEntered K)) (GL : FnG P w K mg base CX0 k "_law_looped" ["_law_deed", "_law_eyes"] (fun _ _ _ _ => False)) : FnOk P w K mg base CX0 (k + 1) f fd ["_law_rest", "_law_frames", "_law_eyes", "_law_pieces"] (spDue K isDo) := by
  obtain ⟨_, _, G__law_given, m__law_given, k__law_given, b__law_given⟩ := GG
  obtain ⟨_, _, G__law_shut, m__law_shut, k__law_shut, b__law_shut⟩ := GS
  obtain ⟨_, _, G__law_entered, m__law_entered, k__law_entered, b__law_entered⟩ := GE
  obtain ⟨_, _, G__law_looped, m__law_looped, k__law_looped, b__law_looped⟩ := GL
  have sc := scDue
  refine F.ok sc (fun vs H Q E h => ?_) (fun cdv A outer s H vs Q E hr h => ?_)
  · obtain ⟨vr, vf, e, vp, i, bs, Y, fs, ps, ws, x3, rfl, _⟩ := h
    rfl
  obtain ⟨vr, vf, e, vp, i, bs, Y, fs, ps, ws, x3, rfl, gi, hR, hb, o6, oP, oW, oL, hf, hl, hE, oE, hrow, hp, h9, q⟩ := h
  refine ⟨_, (pss_cons (ps_asg (pe_tup (pa_cons (pe_ix ix_tup (pv 0) pe_int (fun _ _ => rfl)) (pa_cons (pe_tup pa_nil) (pa_cons pe_bl (pa_cons pe_non pa_nil))))) (pg_tup (by rfl) (pgs_cons (pg_name (i := 4) sc.nd rfl (.inl rfl)) (pgs_cons (pg_name (i := 5) sc.nd rfl (.inl rfl)) (pgs_cons (pg_name (i := 6) sc.nd rfl (.inl rfl)) (pgs_cons (pg_name (i := 7) sc.nd rfl (.inl rfl)) pgs_nil))))))
      (pss_cons (ps_if (pt_cmpR op_in_seq (pe_ix ix_tup (pv 4) pe_int (fun _ _ => rfl)) (pe_tup (pa_cons pe_str (pa_cons pe_str pa_nil))) (by rfl)) (pss_one (ps_asg (pe_call G__law_given (hr.mono (by omega)) (by rfl) m__law_given k__law_given b__law_given .nil pass0 (pa_cons (pv 4) (pa_cons (pv 1) (pa_cons (pv 2) pa_nil)))) (pg_tup (by rfl) (pgs_cons (pg_name (i := 5) sc.nd rfl (.inl rfl)) (pgs_cons (pg_name (i := 6) sc.nd rfl (.inl rfl)) (pgs_cons (pg_name (i := 7) sc.nd rfl (.inl rfl)) pgs_nil)))))) (pss_one (ps_if (pt_cmpR op_eq (pe_ix ix_tup (pv 4) pe_int (fun _ _ => rfl)) pe_str (nomark _)) (pss_one (ps_asg (pe_call G__law_entered (hr.mono (by omega)) (by rfl) m__law_entered k__law_entered b__law_entered .nil pass0 (pa_cons (pv 4) (pa_cons (pv 1) (pa_cons (pv 2) (pa_cons (pv 3) pa_nil))))) (pg_tup (by rfl) (pgs_cons (pg_name (i := 5) sc.nd rfl (.inl rfl)) (pgs_cons (pg_name (i := 1) sc.nd rfl (.inl rfl)) (pgs_cons (pg_name (i := 7) sc.nd rfl (.inl rfl)) pgs_nil)))))) (pss_one (ps_if (pt_cmpR op_eq (pe_ix ix_tup (pv 4) pe_int (fun _ _ => rfl)) pe_str (nomark _)) (pss_one (ps_par (i := 5) (j := 6) (by rfl) sc.nd rfl rfl (by decide) rfl rfl (pa_cons (pe_tup (pa_cons (pe_ix ix_tup (pv 4) pe_int (fun _ _ => rfl)) pa_nil)) (pa_cons (pe_not (pe_call G__law_shut (hr.mono (by omega)) (by rfl) m__law_shut k__law_shut b__law_shut .nil pass0 (pa_cons (pv 1) pa_nil))) pa_nil)) (by rfl))) (pss_one (ps_if (pt_cmpR op_eq (pe_ix ix_tup (pv 4) pe_int (fun _ _ => rfl)) pe_str (nomark _)) (pss_one (ps_set (i := 1) sc.nd rfl (.inl rfl) (pe_slice sl_tupA (pv 1) po_none (po_some (pe_un un_neg pe_int))))) (pss_one (ps_asg (pe_call G__law_looped (hr.mono (by omega)) (by rfl) m__law_looped k__law_looped b__law_looped .nil pass0 (pa_cons (pv 4) (pa_cons (pv 2) pa_nil))) (pg_tup (by rfl) (pgs_cons (pg_name (i := 5) sc.nd rfl (.inl rfl)) (pgs_cons (pg_name (i := 7) sc.nd rfl (.inl rfl)) pgs_nil))))))))))))
      (pss_one (ps_ret (pe_ifExp (pt_cmpR op_notN (pv 7) pe_non (nomark _)) (pe_lst (pa_cons (pv 7) pa_nil)) (pe_tup (pa_cons (pe_op op_catA (pv 5) (pe_slice sl_tupA (pv 0) (po_some pe_int) po_none)) (pa_cons (pv 1) (pa_cons (pv 6) pa_nil))))))))), ?_⟩
  have z0 : 0 ≤ sizeLine := Nat.zero_le _
  have z1 : 1 ≤ sizeLine := by decide
  have z2 : 2 ≤ sizeLine := by decide
  have z3 : 3 ≤ sizeLine := by decide
  have z4 : 4 ≤ sizeLine := by decide
  obtain ⟨x, Ls, rfl⟩ : ∃ x Ls, i = .do_ x Ls := by
    cases i with
    | do_ x Ls => exact ⟨x, Ls, rfl⟩
    | _ => exact gi.elim
  have gi : Ls.length ≤ 2 := gi
  obtain ⟨a, xs, rfl, ha, hxs⟩ := dp_tup hR
  obtain ⟨vi, xr, rfl, hvi, hxr⟩ := dpA_cons hxs
  obtain ⟨ai, xi, rfl, hai, hxi⟩ := dp_tup (show Dp K H vi (.tuple (.str "do" :: (It.do_ x Ls).parts)) from hvi)
  obtain ⟨vw, xp, rfl, hvw, hxp⟩ := dpA_cons hxi
  rw [dp_str hvw] at hai
  refine ⟨_, rfl, a, _, 0, _, rfl, rfl, ha, at0 _ _, z0, fun t0 n0 => ⟨z4, fun T nT => ⟨T, _, rfl, .inl (.inl upd_same), rfl, _, _, rfl, _, _, rfl, _, _, rfl, _, _, rfl, rfl, ?_⟩⟩⟩
  have s1 : Same H _ := (same_upd (o := .tup []) n0).trans (same_upd (o := .tup [.ref ai, .ref t0, .bl false, .non]) nT)
  generalize upd (upd H t0 (.tup [])) T (.tup [.ref ai, .ref t0, .bl false, .non]) = H1 at *
  refine ⟨_, rfl, ai, _, 0, _, rfl, rfl, seqT s1 hai, at0 _ _, z2, fun t1 n1 => ⟨t1, _, rfl, .inr (SqT.of upd_same), rfl, by decide +kernel, _, rfl, iteBF (by decide +kernel) ?_⟩⟩
  have s2 := s1.trans (same_upd (o := .tup [.str "wait", .str "until"]) n1)
  generalize upd H1 t1 (.tup [.str "wait", .str "until"]) = H2 at *
  refine ⟨_, rfl, ai, _, 0, _, rfl, rfl, seqT s2 hai, at0 _ _, rfl, _, rfl, iteB (by decide +kernel) ?_⟩
  refine ⟨_, rfl, _, rfl, _, rfl, _, rfl, .ref ai, vf, e, vp, x, Ls, Y, fs, ps, ws, x3, rfl, gi, dp_same s2 _ _ hvi, o6, oP, oW, oL, dp_same s2 _ _ hf, hl, dp_same s2 _ _ hE, oE, hrow, dp_same s2 _ _ hp, fun p2 H3 s3 h2 => ?_⟩
  have s4 := s2.trans s3
  cases ev : unroll Y fs ps (.do_ x Ls) with
  | error z =>
    rw [ev] at h2 q
    obtain ⟨t, vf', h2⟩ := h2
    exact ⟨p2, _, rfl, .inl (.inl h2), rfl, _, _, rfl, _, _, rfl, _, _, rfl, rfl, _, rfl, rfl, _, rfl, iteT ⟨_, rfl, z1, fun l nl => q _ _ (s4.trans (same_upd nl)) (.lst (SqL.of upd_same) (.cons (.str _) .nil))⟩⟩
  | ok r =>
    obtain ⟨its, fs', g⟩ := r
    obtain ⟨vs', pc, _, _, _, _, _, rfl, _⟩ := do_fs oP ev
    have l9 := h9 _ _ _ ev
    rw [ev] at h2 q
    obtain ⟨t, vf', h2, dt, df⟩ := h2
    obtain ⟨b1, ys, eb, hb1, hys⟩ := dp_tup dt
    cases eb
    refine ⟨p2, _, rfl, .inl (.inl h2), rfl, _, _, rfl, _, _, rfl, _, _, rfl, rfl, _, rfl, rfl, _, rfl, iteF ?_⟩
    refine ⟨_, rfl, _, rfl, 1, rfl, ?_⟩
    dsimp only [tNoPart]
    refine slA_rest (seqT s4 ha) fun pB nB => ?_
    have s5 : Same H3 (upd H3 pB (.tup xr)) := same_upd nB
    refine catA_all (seqT s5 hb1) (SqT.of upd_same) (by rw [dpAll_len hys, dpAll_len hxr]; omega) fun p3 H4 s6 hp3 => ⟨_, rfl, _, rfl, z3, fun p np => ?_⟩
    have x3 := same_upd (o := .tup [.ref p3, vf', .bl false]) np
    have X := s5.trans (s6.trans x3)
    exact q _ _ (s4.trans X) (.tup (SqT.of upd_same) (.cons (.tup (seqT x3 hp3) (dpAll_app (dpAll_same (s4.trans X) _ _ hxr) (dpAll_same X _ _ hys))) (.cons (dp_same X _ _ df) (.cons (.bl false) .nil))))
end
end Fd

set_option Elab.async false
set_option linter.all false
set_option maxRecDepth 100000
set_option maxHeartbeats 2000000
namespace Fd
open PySem PySem.Spec PyProof.Rows L2
section
variable {P : Program} {w : World} {K : PySem.W.Frag} {mg : Str → Option Value} {base : Heap} {f : Addr} {fd : FuncData}
/-! ### looks that fall -/
def Lks (K : PySem.W.Frag) (ws : List Str) (x3 : Str) (H : Hp) (vs : List V) : Prop := ∀ (j : Nat) (v : V), vs[j]? = some v → ∃ L, Dp K H v (lkD L) ∧ LkOk ws L ∧ LkL x3 L ∧ L.deep ≤ 3
theorem lks_nil {K : PySem.W.Frag} {ws : List Str} {x3 : Str} {H : Hp} : Lks K ws x3 H [] := fun j v h => by cases j <;> cases h
theorem lks_cons {K : PySem.W.Frag} {ws : List Str} {x3 : Str} {H : Hp} {v : V} {vs : List V} {L : Lk} (h1 : Dp K H v (lkD L)) (h2 : LkOk ws L) (h3 : LkL x3 L) (h4 : L.deep ≤ 3) (h : Lks K ws x3 H vs) : Lks K ws x3 H (v :: vs) := fun j u e => by
  cases j with
  | zero => cases e; exact ⟨L, h1, h2, h3, h4⟩
  | succ j => exact h j u e
theorem lks_app {K : PySem.W.Frag} {ws : List Str} {x3 : Str} {H : Hp} {vs us : List V} (h1 : Lks K ws x3 H vs) (h2 : Lks K ws x3 H us) : Lks K ws x3 H (vs ++ us) := fun j u e => by
  by_cases hj : j < vs.length
  · rw [List.getElem?_append_left hj] at e
    exact h1 j u e
  · rw [List.getElem?_append_right (by omega)] at e
    exact h2 _ u e
theorem Lks.same {K : PySem.W.Frag} {ws : List Str} {x3 : Str} {H H' : Hp} {vs : List V} (h : Lks K ws x3 H vs) (s : Same H H') : Lks K ws x3 H' vs := fun j u e => by
  obtain ⟨L, d, o⟩ := h j u e
  exact ⟨L, dp_same s _ _ d, o⟩
abbrev sFalling : Stmt := top 68
theorem scFalling : FnScope ["_law_state", "_law_words", "_law_some"] ["_law_state", "_law_words"] (defScope sFalling) := ⟨rfl, rfl, rfl, by decide +kernel, rfl, by decide +kernel, by decide +kernel⟩
def spFalling (K : PySem.W.Frag) : Sp := fun vs H Q _ => ∃ (a c p : Addr) (n : Nat) (ws : List Str) (x3 : Str) (as : List Addr), vs = [.ref a, .ref p] ∧ Dr H a c n ∧ n + 1 ≤ 1000000 ∧ rmL [a, c] H p = some (.lst (ws.map V.str)) ∧ ws.length = 7 ∧ ws[3]? = some x3 ∧ (∀ b ∈ [a, c], b ∈ as) ∧ (∀ b ∈ as, ∃ u, H b = some u) ∧
  ∀ (v : V) (L : Lk) (H' : Hp), ButL [a, c] H H' → Dr H' a c (n + 1) → Dp K (rmL as H') v (lkD L) → LkOk ws L → LkL x3 L → L.deep ≤ 3 → Q v H'
theorem inK {S : List Addr} {H H' : Hp} (h : ∀ b ∈ S, ∃ u, H b = some u) (s : Same H H') : ∀ b ∈ S, ∃ u, H' b = some u := fun b hb => by
  obtain ⟨u, hu⟩ := h b hb
  exact ⟨u, s _ _ hu⟩
theorem ok_falling {k : Nat} (F : Fun K "_law_falling" "_law_falling" sFalling f fd) (GT : FnG P w K mg base CX0 k "_law_take" ["_law_state", "_law_many"] spTake) (m_len : mg "len" = none) : FnOk P w K mg base CX0 (k + 1) f fd ["_law_state", "_law_words"] (spFalling K) := by
  obtain ⟨_, _, G__law_take, m__law_take, k__law_take, b__law_take⟩ := GT
  have sc := scFalling
  refine F.ok sc (fun vs H Q E h => ?_) (fun cdv A outer s H vs Q E hr h => ?_)
  · obtain ⟨a, c, p, n, ws, x3, as, rfl, _⟩ := h
    rfl
  obtain ⟨a, c, p, n, ws, x3, as, rfl, hD, hn, hp, hw, h3, sub, ha, q⟩ := h
  refine ⟨_, (pss_cons (ps_set (i := 2) sc.nd rfl (.inl rfl) (pe_lst (pa_cons (pe_tup (pa_cons pe_str (pa_cons (pe_ix ix_list (pv 1) pe_int (fun _ _ => rfl)) pa_nil))) (pa_cons (pe_tup (pa_cons pe_str (pa_cons (pe_ix ix_list (pv 1) pe_int (fun _ _ => rfl)) (pa_cons (pe_un un_neg pe_int) pa_nil)))) (pa_cons (pe_tup (pa_cons pe_str (pa_cons (pe_ix ix_list (pv 1) pe_int (fun _ _ => rfl)) (pa_cons pe_int pa_nil)))) (pa_cons (pe_tup (pa_cons pe_str (pa_cons pe_int (pa_cons pe_int pa_nil)))) (pa_cons (pe_tup (pa_cons pe_str (pa_cons (pe_tup (pa_cons pe_str pa_nil)) (pa_cons pe_int pa_nil)))) pa_nil)))))))
      (pss_cons (ps_set (i := 2) sc.nd rfl (.inl rfl) (pe_op op_cat (pv 2) (pe_lst (pa_cons (pe_tup (pa_cons pe_str (pa_cons (pe_op op_pow pe_int pe_int) (pa_cons pe_int pa_nil)))) (pa_cons (pe_tup (pa_cons pe_str (pa_cons (pe_op op_pow pe_int pe_int) (pa_cons pe_int pa_nil)))) (pa_cons (pe_tup (pa_cons pe_str (pa_cons (pe_un un_neg (pe_op op_pow pe_int pe_int)) (pa_cons pe_int pa_nil)))) (pa_cons (pe_tup (pa_cons pe_str (pa_cons pe_int (pa_cons (pe_tup (pa_cons pe_str (pa_cons pe_int (pa_cons pe_int pa_nil)))) pa_nil)))) pa_nil)))))))
      (pss_one (ps_ret (pe_ix ix_list (pv 2) (pe_call G__law_take (hr.mono (by omega)) (by rfl) m__law_take k__law_take b__law_take .nil pass0 (pa_cons (pv 0) (pa_cons (pe_callB call_len_seq (by rfl) m_len (by decide +kernel) (pa_cons (pv 2) pa_nil)) pa_nil))) (fun _ _ => rfl)))))), ?_⟩
  have z1 : 1 ≤ sizeLine := by decide
  have z2 : 2 ≤ sizeLine := by decide
  have z3 : 3 ≤ sizeLine := by decide
  have z4 : 4 ≤ sizeLine := by decide
  have z5 : 5 ≤ sizeLine := by decide
  have z9 : 9 ≤ sizeLine := by decide
  have at3 : atI (ws.map V.str) 3 = some (.str x3) := atI_nat (j := 3) (by rw [List.getElem?_map, h3]; rfl)
  have m3 : x3 ∈ ws := List.mem_of_getElem? h3
  obtain ⟨x5, hx5, ex5⟩ := at_words (ws := ws) (i := 5) (by decide) (by rw [hw]; decide)
  have hp0 : H p = some (.lst (ws.map V.str)) := rmL_sub _ _ hp
  refine ⟨_, rfl, p, _, 5, _, rfl, rfl, SqL.of hp0, ex5, z2, fun u1 n1 => ?_⟩
  have x1 := same_upd (o := .tup [.str "name", .str x5]) n1
  refine ⟨_, rfl, p, _, 3, _, rfl, rfl, SqL.of (x1 _ _ hp0), at3, _, rfl, z3, fun u2 n2 => ?_⟩
  have x2 := same_upd (o := .tup [.str "item", .str x3, .int (-1)]) n2
  refine ⟨_, rfl, p, _, 3, _, rfl, rfl, SqL.of (x2 _ _ (x1 _ _ hp0)), at3, z3, fun u3 n3 => ⟨z3, fun u4 n4 => ⟨z1, fun u5 n5 => ⟨z3, fun u6 n6 => ⟨z5, fun l1 nl1 => ?_⟩⟩⟩⟩⟩
  have x3' := same_upd (o := .tup [.str "item", .str x3, .int 8]) n3
  have x4 := same_upd (o := .tup [.str "over", .int 3, .int 0]) n4
  have x5' := same_upd (o := .tup [.str "x"]) n5
  have x6 := same_upd (o := .tup [.str "rest", .ref u5, .int 0]) n6
  have x7 := same_upd (o := .lst [.ref u1, .ref u2, .ref u3, .ref u4, .ref u6]) nl1
  have r1 := rmL_same (as := as) (x2.trans (x3'.trans (x4.trans (x5'.trans (x6.trans x7))))) _ _ (rmL_new (o := .tup [.str "name", .str x5]) ha n1)
  have r2 := rmL_same (as := as) (x3'.trans (x4.trans (x5'.trans (x6.trans x7)))) _ _ (rmL_new (o := .tup [.str "item", .str x3, .int (-1)]) (inK ha x1) n2)
  have r3 := rmL_same (as := as) (x4.trans (x5'.trans (x6.trans x7))) _ _ (rmL_new (o := .tup [.str "item", .str x3, .int 8]) (inK ha (x1.trans x2)) n3)
  have r4 := rmL_same (as := as) (x5'.trans (x6.trans x7)) _ _ (rmL_new (o := .tup [.str "over", .int 3, .int 0]) (inK ha (x1.trans (x2.trans x3'))) n4)
  have r5 := rmL_same (as := as) (x6.trans x7) _ _ (rmL_new (o := .tup [.str "x"]) (inK ha (x1.trans (x2.trans (x3'.trans x4)))) n5)
  have r6 := rmL_same (as := as) x7 _ _ (rmL_new (o := .tup [.str "rest", .ref u5, .int 0]) (inK ha (x1.trans (x2.trans (x3'.trans (x4.trans x5'))))) n6)
  have hl1 := laid_at (.lst [.ref u1, .ref u2, .ref u3, .ref u4, .ref u6]) nl1
  have XX := x1.trans (x2.trans (x3'.trans (x4.trans (x5'.trans (x6.trans x7)))))
  clear x7 x6 x5' x4 x3' x2 x1
  revert r1 r2 r3 r4 r5 r6 hl1 XX
  generalize upd _ l1 _ = H1
  intro r1 r2 r3 r4 r5 r6 hl1 XX
  have k1 : Lks K ws x3 (rmL as H1) [.ref u1, .ref u2, .ref u3, .ref u4, .ref u6] :=
    lks_cons (L := .name x5) (.tup (SqT.of r1) (.cons (.str _) (.cons (.str _) .nil))) hx5 trivial (by show Lk.deep (.name x5) ≤ 3; unfold Lk.deep; decide)
    (lks_cons (L := .item x3 (.num (-1))) (.tup (SqT.of r2) (.cons (.str _) (.cons (.str _) (.cons (.int _) .nil)))) ⟨m3, rfl⟩ ⟨rfl, trivial⟩ (by show (Lk.num (-1)).deep + 1 ≤ 3; unfold Lk.deep; decide)
    (lks_cons (L := .item x3 (.num 8)) (.tup (SqT.of r3) (.cons (.str _) (.cons (.str _) (.cons (.int _) .nil)))) ⟨m3, rfl⟩ ⟨rfl, trivial⟩ (by show (Lk.num 8).deep + 1 ≤ 3; unfold Lk.deep; decide)
    (lks_cons (L := .bin .over (.num 3) (.num 0)) (.tup (SqT.of r4) (.cons (.str _) (.cons (.int _) (.cons (.int _) .nil)))) ⟨rfl, rfl⟩ ⟨trivial, trivial⟩ (by decide)
    (lks_cons (L := .bin .rest (.spot 0) (.num 0)) (.tup (SqT.of r6) (.cons (.str _) (.cons (.tup (SqT.of r5) (.cons (.str _) .nil)) (.cons (.int _) .nil)))) ⟨(by decide : 0 < 4), rfl⟩ ⟨trivial, trivial⟩ (by decide) lks_nil))))
  clear r1 r2 r3 r4 r5 r6
  have D1 := hD.same XX
  have a1 := inK ha XX
  refine ⟨_, rfl, 10, 6, rfl, rfl, ⟨by decide, by decide, by decide⟩, z3, fun t1 n1 => ⟨10, 6, rfl, rfl, ⟨by decide, by decide, by decide⟩, z3, fun t2 n2 => ⟨10, 6, rfl, rfl, ⟨by decide, by decide, by decide⟩, _, rfl, z3, fun t3 n3 => ⟨z3, fun t4 n4 => ⟨z3, fun t5 n5 => ⟨z4, fun l2 nl2 => ?_⟩⟩⟩⟩⟩⟩
  have x1 := same_upd (o := .tup [.str "by", .int (10 ^ (6 : Int).toNat), .int 2]) n1
  have x2 := same_upd (o := .tup [.str "plus", .int (10 ^ (6 : Int).toNat), .int 1]) n2
  have x3' := same_upd (o := .tup [.str "minus", .int (-(10 ^ (6 : Int).toNat)), .int 1]) n3
  have x4 := same_upd (o := .tup [.str "minus", .int 1, .int 1]) n4
  have x6 := same_upd (o := .tup [.str "over", .int 5, .ref t4]) n5
  have x7 := same_upd (o := .lst [.ref t1, .ref t2, .ref t3, .ref t5]) nl2
  have r1 := rmL_same (as := as) (x2.trans (x3'.trans (x4.trans (x6.trans x7)))) _ _ (rmL_new (o := .tup [.str "by", .int (10 ^ (6 : Int).toNat), .int 2]) a1 n1)
  have r2 := rmL_same (as := as) (x3'.trans (x4.trans (x6.trans x7))) _ _ (rmL_new (o := .tup [.str "plus", .int (10 ^ (6 : Int).toNat), .int 1]) (inK a1 x1) n2)
  have r3 := rmL_same (as := as) (x4.trans (x6.trans x7)) _ _ (rmL_new (o := .tup [.str "minus", .int (-(10 ^ (6 : Int).toNat)), .int 1]) (inK a1 (x1.trans x2)) n3)
  have r4 := rmL_same (as := as) (x6.trans x7) _ _ (rmL_new (o := .tup [.str "minus", .int 1, .int 1]) (inK a1 (x1.trans (x2.trans x3'))) n4)
  have r5 := rmL_same (as := as) x7 _ _ (rmL_new (o := .tup [.str "over", .int 5, .ref t4]) (inK a1 (x1.trans (x2.trans (x3'.trans x4)))) n5)
  have hl2 := laid_at (.lst [.ref t1, .ref t2, .ref t3, .ref t5]) nl2
  have X2 := x1.trans (x2.trans (x3'.trans (x4.trans (x6.trans x7))))
  clear x7 x6 x4 x3' x2 x1
  revert r1 r2 r3 r4 r5 hl2 X2
  generalize upd _ l2 _ = H2
  intro r1 r2 r3 r4 r5 hl2 X2
  have k2 : Lks K ws x3 (rmL as H2) [.ref t1, .ref t2, .ref t3, .ref t5] :=
    lks_cons (L := .bin .by_ (.num 1000000) (.num 2)) (.tup (SqT.of r1) (.cons (.str _) (.cons (.int _) (.cons (.int _) .nil)))) ⟨rfl, rfl⟩ ⟨trivial, trivial⟩ (by decide)
    (lks_cons (L := .bin .plus (.num 1000000) (.num 1)) (.tup (SqT.of r2) (.cons (.str _) (.cons (.int _) (.cons (.int _) .nil)))) ⟨rfl, rfl⟩ ⟨trivial, trivial⟩ (by decide)
    (lks_cons (L := .bin .minus (.num (-1000000)) (.num 1)) (.tup (SqT.of r3) (.cons (.str _) (.cons (.int _) (.cons (.int _) .nil)))) ⟨rfl, rfl⟩ ⟨trivial, trivial⟩ (by decide)
    (lks_cons (L := .bin .over (.num 5) (.bin .minus (.num 1) (.num 1))) (.tup (SqT.of r5) (.cons (.str _) (.cons (.int _) (.cons (.tup (SqT.of r4) (.cons (.str _) (.cons (.int _) (.cons (.int _) .nil)))) .nil)))) ⟨rfl, rfl, rfl⟩ ⟨trivial, trivial, trivial⟩ (by decide) lks_nil)))
  clear r1 r2 r3 r4 r5
  refine ⟨l1, l2, _, _, rfl, rfl, X2 _ _ hl1, hl2, z9, fun l3 nl3 => ?_⟩
  have y3 := same_upd (o := .lst ([.ref u1, .ref u2, .ref u3, .ref u4, .ref u6] ++ [.ref t1, .ref t2, .ref t3, .ref t5])) nl3
  have hl3 := laid_at (.lst ([.ref u1, .ref u2, .ref u3, .ref u4, .ref u6] ++ [.ref t1, .ref t2, .ref t3, .ref t5])) nl3
  have k3 := lks_app ((k1.same (rmL_same (as := as) X2)).same (rmL_same (as := as) y3)) (k2.same (rmL_same (as := as) y3))
  have D3 := (D1.same X2).same y3
  have ac3 := (D1.same X2).ne nl3
  have X3 := XX.trans (X2.trans y3)
  revert hl3 k3 D3 X3
  generalize upd _ l3 _ = H3
  intro hl3 k3 D3 X3
  refine ⟨_, rfl, _, rfl, _, rfl, l3, _, rfl, .inl (SqL.of hl3), a, c, n, 9, rfl, D3, by omega, by decide, by decide, fun r H4 r0 r1 s4 D4 => ?_⟩
  obtain ⟨j, rfl⟩ : ∃ j : Nat, r = (j : Int) := ⟨r.toNat, by omega⟩
  obtain ⟨v, hv⟩ : ∃ v, ([V.ref u1, .ref u2, .ref u3, .ref u4, .ref u6] ++ [.ref t1, .ref t2, .ref t3, .ref t5])[j]? = some v := ⟨_, List.getElem?_eq_getElem (show j < 9 by omega)⟩
  obtain ⟨L, dL, oL, gL, eL⟩ := k3 j v hv
  exact ⟨l3, _, _, _, rfl, rfl, SqL.of (s4 _ _ ac3 hl3), atI_nat hv, q _ L _ ((ButL.same X3).trans s4) D4 (dp_same (rmL_but (s4.more sub)) _ _ dL) oL gL eL⟩
end
end Fd

set_option Elab.async false
set_option linter.all false
set_option maxRecDepth 100000
set_option maxHeartbeats 2000000
namespace Fd
open PySem PySem.Spec PyProof.Rows L2
section
variable {P : Program} {w : World} {K : PySem.W.Frag} {mg : Str → Option Value} {base : Heap} {f : Addr} {fd : FuncData}
def cs : Nat → Nat
  | 0 => 2
  | d + 1 => 3 + cost d + cs d
theorem cs_ge : ∀ d, 2 ≤ cs d
  | 0 => Nat.le_refl _
  | d + 1 => by show 2 ≤ 3 + cost d + cs d; omega
abbrev sSpl : Stmt := top 69
theorem scSpl : FnScope ["_law_state", "_law_words", "_law_deep", "_law_way", "_law_bad", "_law_word", "_law_other"] ["_law_state", "_law_words", "_law_deep"] (defScope sSpl) := ⟨rfl, rfl, rfl, by decide +kernel, rfl, by decide +kernel, by decide +kernel⟩
def spSpl (K : PySem.W.Frag) (d : Nat) : Sp := fun vs H Q _ => ∃ (a c p : Addr) (n : Nat) (deep : Int) (ws : List Str) (x3 : Str) (as : List Addr), vs = [.ref a, .ref p, .int deep] ∧ Dr H a c n ∧ n + cs d ≤ 1000000 ∧ 1 ≤ deep ∧ deep ≤ d ∧ rmL [a, c] H p = some (.lst (ws.map V.str)) ∧ ws.length = 7 ∧ ws[3]? = some x3 ∧ (∀ b ∈ [a, c], b ∈ as) ∧ (∀ b ∈ as, ∃ u, H b = some u) ∧
  ∀ (v : V) (L : Lk) (H' : Hp), ButL [a, c] H H' → Dr H' a c (n + cs d) → Dp K (rmL as H') v (lkD L) → LkOk ws L → LkL x3 L → L.deep ≤ max 3 d → Q v H'
theorem ok_spl {k d : Nat} (F : Fun K "_law_spoilt_look" "_law_spoilt_look" sSpl f fd) (GT : FnG P w K mg base CX0 k "_law_take" ["_law_state", "_law_many"] spTake) (GF : FnG P w K mg base CX0 k "_law_falling" ["_law_state", "_law_words"] (spFalling K)) (GL : FnG P w K mg base CX0 k "_law_look_by" ["_law_state", "_law_words", "_law_deep"] (spLook K d))
    (GS : FnG P w K mg base CX0 k "_law_spoilt_look" ["_law_state", "_law_words", "_law_deep"] (spSpl K d)) : FnOk P w K mg base CX0 (k + 1) f fd ["_law_state", "_law_words", "_law_deep"] (spSpl K (d + 1)) := by
  obtain ⟨_, _, G__law_take, m__law_take, k__law_take, b__law_take⟩ := GT
  obtain ⟨_, _, G__law_falling, m__law_falling, k__law_falling, b__law_falling⟩ := GF
  obtain ⟨_, _, G__law_look_by, m__law_look_by, k__law_look_by, b__law_look_by⟩ := GL
  obtain ⟨_, _, G__law_spoilt_look, m__law_spoilt_look, k__law_spoilt_look, b__law_spoilt_look⟩ := GS
  have sc := scSpl
  refine F.ok sc (fun vs H Q E h => ?_) (fun cdv A outer s H vs Q E hr h => ?_)
  · obtain ⟨a, c, p, n, deep, ws, x3, as, rfl, _⟩ := h
    rfl
  obtain ⟨a, c, p, n, deep, ws, x3, as, rfl, hD, hn, d0, d1, hp, hw, h3, sub, ha, q⟩ := h
  refine ⟨_, (pss_cons (ps_par (i := 3) (j := 4) (by rfl) sc.nd rfl rfl (by decide) rfl rfl (pa_cons (pe_call G__law_take (hr.mono (by omega)) (by rfl) m__law_take k__law_take b__law_take .nil pass0 (pa_cons (pv 0) (pa_cons pe_int pa_nil))) (pa_cons (pe_call G__law_falling (hr.mono (by omega)) (by rfl) m__law_falling k__law_falling b__law_falling .nil pass0 (pa_cons (pv 0) (pa_cons (pv 1) pa_nil))) pa_nil)) (by rfl))
      (pss_cons (ps_if (PW.pt (pw_or (pt_cmpR op_eq (pv 3) pe_int (nomark _)) (pw_or1 (pt_cmpR op_lt (pv 2) pe_int (nomark _))))) (pss_one (ps_ret (pv 4))) pss_nil)
      (pss_cons (ps_par (i := 5) (j := 6) (by rfl) sc.nd rfl rfl (by decide) rfl rfl (pa_cons (pe_ix ix_list (pe_lst (pa_cons pe_str (pa_cons pe_str (pa_cons pe_str pa_nil)))) (pe_call G__law_take (hr.mono (by omega)) (by rfl) m__law_take k__law_take b__law_take .nil pass0 (pa_cons (pv 0) (pa_cons pe_int pa_nil))) (fun _ _ => rfl)) (pa_cons (pe_call G__law_look_by (hr.mono (by omega)) (by rfl) m__law_look_by k__law_look_by b__law_look_by .nil pass0 (pa_cons (pv 0) (pa_cons (pv 1) (pa_cons (pe_op op_sub (pv 2) pe_int) pa_nil)))) pa_nil)) (by rfl))
      (pss_cons (ps_set (i := 4) sc.nd rfl (.inl rfl) (pe_call G__law_spoilt_look (hr.mono (by omega)) (by rfl) m__law_spoilt_look k__law_spoilt_look b__law_spoilt_look .nil pass0 (pa_cons (pv 0) (pa_cons (pv 1) (pa_cons (pe_op op_sub (pv 2) pe_int) pa_nil)))))
      (pss_one (ps_ret (pe_ifExp (pt_cmpR op_lt (pv 3) pe_int (nomark _)) (pe_tup (pa_cons (pv 5) (pa_cons (pv 4) (pa_cons (pv 6) pa_nil)))) (pe_tup (pa_cons (pv 5) (pa_cons (pv 6) (pa_cons (pv 4) pa_nil))))))))))), ?_⟩
  have z3 : 3 ≤ sizeLine := by decide
  have ec : cs (d + 1) = 3 + cost d + cs d := rfl
  have g2 := cs_ge d
  have g8 := cost_ge d
  refine ⟨_, rfl, a, c, n, 4, rfl, hD, by omega, by decide, by decide, fun way H1 w0 w1 s1 D1 => ?_⟩
  have hp1 := rmL_but s1 _ _ hp
  refine ⟨_, rfl, _, rfl, a, c, p, n + 1, ws, x3, as, rfl, D1, by omega, hp1, hw, h3, sub, in_as ha s1 D1, fun vb B H2 s2 D2 dB oB gB eB => ⟨_, _, rfl, ?_⟩⟩
  have b2 := s1.trans s2
  have hp2 := rmL_but s2 _ _ hp1
  have base : Q vb H2 := q _ B _ b2 (D2.le (by omega)) dB oB gB (Nat.le_trans eB (Nat.le_max_left ..))
  refine ⟨_, rfl, rfl, _, rfl, ite2 (fun e1 => ?_) (fun e1 => ⟨_, rfl, _, _, rfl, rfl, _, rfl, ite2 (fun e2 => ?_) (fun e2 => ?_)⟩)⟩
  · exact iteT ⟨_, rfl, base⟩
  · exact ⟨_, rfl, base⟩
  have dp4 : 4 ≤ deep := by
    have : ¬ deep < 4 := fun z => e2 (decide_eq_true z)
    omega
  refine ⟨z3, fun l nl => ⟨_, rfl, a, c, n + 2, 3, rfl, D2.same (same_upd nl), by omega, by decide, by decide, fun r H3 r0 r1 s3 D3 => ?_⟩⟩
  have xl := same_upd (o := .lst [.str "plus", .str "minus", .str "over"]) nl
  have hl := s3 _ _ (D2.ne nl) (laid_at (.lst [.str "plus", .str "minus", .str "over"]) nl)
  obtain ⟨j, rfl⟩ : ∃ j : Nat, r = (j : Int) := ⟨r.toNat, by omega⟩
  obtain ⟨o, ho⟩ : ∃ o : BOp, [V.str "plus", .str "minus", .str "over"][j]? = some (.str o.word) := by
    rcases (by omega : j = 0 ∨ j = 1 ∨ j = 2) with rfl | rfl | rfl
    · exact ⟨.plus, rfl⟩
    · exact ⟨.minus, rfl⟩
    · exact ⟨.over, rfl⟩
  have b3 := b2.trans ((ButL.same xl).trans s3)
  have hp3 := rmL_but b3 _ _ hp
  refine ⟨l, _, _, _, rfl, rfl, SqL.of hl, atI_nat ho, _, rfl, _, rfl, _, rfl, _, _, rfl, rfl, a, c, p, n + 3, deep - 1, ws, x3, as, rfl, D3, by omega, by omega, by omega, hp3, hw, h3, sub, in_as ha b3 D3, fun v1 L1 H4 s4 D4 k1 o1 g1 e1' => ⟨_, _, rfl, ?_⟩⟩
  have b4 := b3.trans s4
  refine ⟨_, rfl, _, rfl, _, rfl, _, _, rfl, rfl, a, c, p, n + 3 + cost d, deep - 1, ws, x3, as, rfl, D4, by omega, by omega, by omega, rmL_but b4 _ _ hp, hw, h3, sub, in_as ha b4 D4, fun v2 L2 H5 s5 D5 k2 o2 g2' e2' => ?_⟩
  have b5 := b4.trans s5
  have k15 := dp_same (rmL_but (s5.more sub)) _ _ k1
  have i5 := in_as ha b5 D5
  have dd : max 3 d = d := Nat.max_eq_right (by omega)
  rw [dd] at e2'
  have lim : ∀ A B : Lk, A.deep ≤ d → B.deep ≤ d → (Lk.bin o A B).deep ≤ max 3 (d + 1) := fun A B hA hB => Nat.le_trans (Nat.succ_le_succ (Nat.max_le.mpr ⟨hA, hB⟩)) (Nat.le_max_right ..)
  refine ⟨_, rfl, _, _, rfl, rfl, _, rfl, ite2 (fun e3 => ⟨_, rfl, _, rfl, _, rfl, z3, fun t nt => ?_⟩) (fun e3 => ⟨_, rfl, _, rfl, _, rfl, z3, fun t nt => ?_⟩)⟩
  · have m := rmL_same (as := as) (same_upd (o := .tup [.str o.word, v2, v1]) nt)
    exact q _ (.bin o L2 L1) _ (b5.trans (.same (same_upd nt))) ((D5.same (same_upd nt)).le (by omega)) (.tup (SqT.of (rmL_new i5 nt)) (.cons (.str _) (.cons (dp_same m _ _ k2) (.cons (dp_same m _ _ k15) .nil)))) ⟨o2, o1⟩ ⟨g2', g1⟩ (lim _ _ e2' e1')
  · have m := rmL_same (as := as) (same_upd (o := .tup [.str o.word, v1, v2]) nt)
    exact q _ (.bin o L1 L2) _ (b5.trans (.same (same_upd nt))) ((D5.same (same_upd nt)).le (by omega)) (.tup (SqT.of (rmL_new i5 nt)) (.cons (.str _) (.cons (dp_same m _ _ k15) (.cons (dp_same m _ _ k2) .nil)))) ⟨o1, o2⟩ ⟨g1, g2'⟩ (lim _ _ e1' e2')
end
end Fd

set_option Elab.async false
set_option linter.all false
set_option maxRecDepth 100000
set_option maxHeartbeats 2000000
namespace Fd
open PySem PySem.Spec PyProof.Rows L2
section
variable {P : Program} {w : World} {K : PySem.W.Frag} {mg : Str → Option Value} {base : Heap} {f : Addr} {fd : FuncData}
theorem ok_spls (D : Df K mg "_law_spoilt_look" sSpl ["_law_state", "_law_words", "_law_deep"] f fd) (GT : FnG P w K mg base CX0 4 "_law_take" ["_law_state", "_law_many"] spTake) (GF : FnG P w K mg base CX0 4 "_law_falling" ["_law_state", "_law_words"] (spFalling K))
    (GL : ∀ d, FnG P w K mg base CX0 (d + 3) "_law_look_by" ["_law_state", "_law_words", "_law_deep"] (spLook K d)) : ∀ d, FnG P w K mg base CX0 (d + 4) "_law_spoilt_look" ["_law_state", "_law_words", "_law_deep"] (spSpl K d)
  | 0 => ⟨f, fd, ⟨fun vs H Q E h => by
      obtain ⟨a, c, p, n, deep, ws, x3, as, rfl, _⟩ := h
      rfl, fun A outer s H args us vs Q E _ _ _ _ h => by
      obtain ⟨a, c, p, n, deep, ws, x3, as, _, _, _, h1, h2, _⟩ := h
      omega⟩, D.m, D.F.kp, D.b⟩
  | d + 1 => D.g (ok_spl (k := d + 4) D.F (GT.mono (by omega)) (GF.mono (by omega)) ((GL d).mono (by omega)) (ok_spls D GT GF GL d))
abbrev sSpt : Stmt := top 70
theorem scSpt : FnScope ["_law_state", "_law_words", "_law_bad", "_law_good", "_law_way"] ["_law_state", "_law_words"] (defScope sSpt) := ⟨rfl, rfl, rfl, by decide +kernel, rfl, by decide +kernel, by decide +kernel⟩
def spSpt (K : PySem.W.Frag) : Sp := fun vs H Q _ => ∃ (a c p : Addr) (n : Nat) (ws : List Str) (x3 : Str) (as : List Addr), vs = [.ref a, .ref p] ∧ Dr H a c n ∧ n + (cs 4 + cost 3 + 1) ≤ 1000000 ∧ rmL [a, c] H p = some (.lst (ws.map V.str)) ∧ ws.length = 7 ∧ ws[3]? = some x3 ∧ (∀ b ∈ [a, c], b ∈ as) ∧ (∀ b ∈ as, ∃ u, H b = some u) ∧
  ∀ (v : V) (t : Ts) (H' : Hp), ButL [a, c] H H' → Dr H' a c (n + (cs 4 + cost 3 + 1)) → Dp K (rmL as H') v (tsD t) → TsOk ws t → TsL x3 t → t.deep ≤ 6 → Q v H'
theorem ok_spt {k : Nat} (F : Fun K "_law_spoilt_test" "_law_spoilt_test" sSpt f fd) (GT : FnG P w K mg base CX0 k "_law_take" ["_law_state", "_law_many"] spTake) (GS : FnG P w K mg base CX0 k "_law_spoilt_look" ["_law_state", "_law_words", "_law_deep"] (spSpl K 4))
    (GB : FnG P w K mg base CX0 k "_law_test_by" ["_law_state", "_law_words", "_law_deep"] (spTest K 3)) : FnOk P w K mg base CX0 (k + 1) f fd ["_law_state", "_law_words"] (spSpt K) := by
  obtain ⟨_, _, G__law_take, m__law_take, k__law_take, b__law_take⟩ := GT
  obtain ⟨_, _, G__law_spoilt_look, m__law_spoilt_look, k__law_spoilt_look, b__law_spoilt_look⟩ := GS
  obtain ⟨_, _, G__law_test_by, m__law_test_by, k__law_test_by, b__law_test_by⟩ := GB
  have sc := scSpt
  refine F.ok sc (fun vs H Q E h => ?_) (fun cdv A outer s H vs Q E hr h => ?_)
  · obtain ⟨a, c, p, n, ws, x3, as, rfl, _⟩ := h
    rfl
  obtain ⟨a, c, p, n, ws, x3, as, rfl, hD, hn, hp, hw, h3, sub, ha, q⟩ := h
  refine ⟨_, (pss_cons (ps_par (i := 2) (j := 3) (by rfl) sc.nd rfl rfl (by decide) rfl rfl (pa_cons (pe_tup (pa_cons pe_str (pa_cons pe_int (pa_cons (pe_call G__law_spoilt_look (hr.mono (by omega)) (by rfl) m__law_spoilt_look k__law_spoilt_look b__law_spoilt_look .nil pass0 (pa_cons (pv 0) (pa_cons (pv 1) (pa_cons pe_int pa_nil)))) pa_nil)))) (pa_cons (pe_call G__law_test_by (hr.mono (by omega)) (by rfl) m__law_test_by k__law_test_by b__law_test_by .nil pass0 (pa_cons (pv 0) (pa_cons (pv 1) (pa_cons pe_int pa_nil)))) pa_nil)) (by rfl))
      (pss_cons (ps_set (i := 4) sc.nd rfl (.inl rfl) (pe_call G__law_take (hr.mono (by omega)) (by rfl) m__law_take k__law_take b__law_take .nil pass0 (pa_cons (pv 0) (pa_cons pe_int pa_nil))))
      (pss_cons (ps_if (pt_cmpR op_lt (pv 4) pe_int (nomark _)) (pss_one (ps_ret (pe_tup (pa_cons (pe_ix ix_list (pe_lst (pa_cons pe_str (pa_cons pe_str pa_nil))) (pv 4) (fun _ _ => rfl)) (pa_cons (pv 3) (pa_cons (pv 2) pa_nil)))))) pss_nil)
      (pss_one (ps_ret (pe_ix ix_list (pe_lst (pa_cons (pv 2) (pa_cons (pe_tup (pa_cons pe_str (pa_cons (pv 2) pa_nil))) (pa_cons (pe_tup (pa_cons pe_str (pa_cons (pv 2) (pa_cons (pv 3) pa_nil)))) (pa_cons (pe_tup (pa_cons pe_str (pa_cons (pv 2) (pa_cons (pv 3) pa_nil)))) pa_nil))))) (pe_op op_sub (pv 4) pe_int) (fun _ _ => rfl))))))), ?_⟩
  have z2 : 2 ≤ sizeLine := by decide
  have z3 : 3 ≤ sizeLine := by decide
  have z4 : 4 ≤ sizeLine := by decide
  refine ⟨_, rfl, _, rfl, a, c, p, n, 4, ws, x3, as, rfl, hD, by omega, by decide, by decide, hp, hw, h3, sub, ha, fun v1 L1 H1 s1 D1 k1 o1 g1 e1 => ⟨z3, fun tb nb => ?_⟩⟩
  have xb := same_upd (o := .tup [.str "like", .int 1, v1]) nb
  have b1 := s1.trans (.same xb)
  have D1 := D1.same xb
  have i1 := in_as ha s1 (by assumption)
  have rb := rmL_new (o := .tup [.str "like", .int 1, v1]) i1 nb
  have k1 := dp_same (rmL_same (as := as) xb) _ _ k1
  have dB : Dp K (rmL as (upd H1 tb (.tup [.str "like", .int 1, v1]))) (.ref tb) (tsD (.like (.num 1) L1)) := .tup (SqT.of rb) (.cons (.str _) (.cons (.int _) (.cons k1 .nil)))
  have eB : (Ts.like (.num 1) L1).deep ≤ 5 := Nat.succ_le_succ (Nat.max_le.mpr ⟨by show Lk.deep (.num 1) ≤ 4; unfold Lk.deep; decide, e1⟩)
  clear rb k1 i1
  generalize upd H1 tb (.tup [.str "like", .int 1, v1]) = H1' at *
  refine ⟨_, rfl, _, rfl, a, c, p, _, 3, ws, x3, as, rfl, D1, by omega, by decide, by decide, rmL_but b1 _ _ hp, hw, h3, sub, in_as ha b1 D1, fun v2 T2 H2 s2 D2 k2 o2 g2 e2 => ⟨_, _, rfl, ?_⟩⟩
  have b2 := b1.trans s2
  refine ⟨_, rfl, a, c, _, 6, rfl, D2, by omega, by decide, by decide, fun way H3 w0 w1 s3 D3 => ?_⟩
  have b3 := b2.trans s3
  have i3 := in_as ha b3 D3
  have dB := dp_same (rmL_but ((s2.trans s3).more sub)) _ _ dB
  have k2 := dp_same (rmL_but (s3.more sub)) _ _ k2
  have oB : TsOk ws (.like (.num 1) L1) := ⟨rfl, o1⟩
  have gB : TsL x3 (.like (.num 1) L1) := ⟨trivial, g1⟩
  have fin : ∀ {H' : Hp} {v : V} {t : Ts}, Same H3 H' → Dp K (rmL as H') v (tsD t) → TsOk ws t → TsL x3 t → t.deep ≤ 6 → Q v H' := fun {H' v t} s4 d o g e => q v t H' (b3.trans (.same s4)) ((D3.same s4).le (by omega)) d o g e
  refine ⟨_, rfl, _, _, rfl, rfl, _, rfl, ite2 (fun c1 => ?_) (fun c1 => ?_)⟩
  · have w2 : way < 2 := of_decide_eq_true c1
    obtain ⟨b, hb⟩ : ∃ b : Bool, atI [V.str "both", V.str "any"] way = some (.str (if b = true then "any" else "both")) := by
      rcases (by omega : way = 0 ∨ way = 1) with z | z
      · rw [z]; exact ⟨false, rfl⟩
      · rw [z]; exact ⟨true, rfl⟩
    refine ⟨z2, fun l nl => ⟨_, rfl, l, _, _, _, rfl, rfl, SqL.of upd_same, hb, _, rfl, _, rfl, z3, fun t nt => ?_⟩⟩
    have y1 := same_upd (o := .lst [.str "both", .str "any"]) nl
    have y2 := same_upd (o := .tup [.str (if b = true then "any" else "both"), v2, .ref tb]) nt
    have m := rmL_same (as := as) (y1.trans y2)
    have i4 : ∀ b ∈ as, ∃ u, upd H3 l (.lst [.str "both", .str "any"]) b = some u := inK i3 y1
    have dd : DpAll K (rmL as (upd (upd H3 l (.lst [.str "both", .str "any"])) t (.tup [.str (if b = true then "any" else "both"), v2, .ref tb]))) [.str (if b = true then "any" else "both"), v2, .ref tb] [.str (if b = true then "any" else "both"), tsD T2, tsD (.like (.num 1) L1)] := .cons (.str _) (.cons (dp_same m _ _ k2) (.cons (dp_same m _ _ dB) .nil))
    have d := Dp.tup (SqT.of (rmL_new i4 nt)) dd
    cases b with
    | true => exact fin (y1.trans y2) (t := .any_ T2 (.like (.num 1) L1)) d ⟨o2, oB⟩ ⟨g2, gB⟩ (Nat.succ_le_succ (Nat.max_le.mpr ⟨Nat.le_trans e2 (by decide), eB⟩))
    | false => exact fin (y1.trans y2) (t := .both T2 (.like (.num 1) L1)) d ⟨o2, oB⟩ ⟨g2, gB⟩ (Nat.succ_le_succ (Nat.max_le.mpr ⟨Nat.le_trans e2 (by decide), eB⟩))
  · have w2 : ¬ way < 2 := fun z => c1 (decide_eq_true z)
    refine ⟨_, rfl, _, rfl, z2, fun t1 n1 => ⟨_, rfl, _, rfl, z3, fun t2 n2 => ⟨_, rfl, _, rfl, z3, fun t3 n3 => ⟨z4, fun l nl => ⟨_, rfl, _, _, rfl, rfl, ?_⟩⟩⟩⟩⟩
    have y1 := same_upd (o := .tup [.str "not", .ref tb]) n1
    have y2 := same_upd (o := .tup [.str "both", .ref tb, v2]) n2
    have y3 := same_upd (o := .tup [.str "any", .ref tb, v2]) n3
    have y4 := same_upd (o := .lst [.ref tb, .ref t1, .ref t2, .ref t3]) nl
    have r1 := rmL_same (as := as) (y2.trans (y3.trans y4)) _ _ (rmL_new (o := .tup [.str "not", .ref tb]) i3 n1)
    have r2 := rmL_same (as := as) (y3.trans y4) _ _ (rmL_new (o := .tup [.str "both", .ref tb, v2]) (inK i3 y1) n2)
    have r3 := rmL_same (as := as) y4 _ _ (rmL_new (o := .tup [.str "any", .ref tb, v2]) (inK i3 (y1.trans y2)) n3)
    have hl := laid_at (.lst [.ref tb, .ref t1, .ref t2, .ref t3]) nl
    have Y := y1.trans (y2.trans (y3.trans y4))
    clear y1 y2 y3 y4
    revert r1 r2 r3 hl Y
    generalize upd _ l _ = H4
    intro r1 r2 r3 hl Y
    have m := rmL_same (as := as) Y
    have dB := dp_same m _ _ dB
    have k2 := dp_same m _ _ k2
    have e2 : T2.deep ≤ 5 := Nat.le_trans e2 (by decide)
    rcases (by omega : way - 2 = 0 ∨ way - 2 = 1 ∨ way - 2 = 2 ∨ way - 2 = 3) with z | z | z | z
    · exact ⟨l, _, _, _, rfl, rfl, SqL.of hl, by rw [z]; rfl, fin Y (t := .like (.num 1) L1) dB oB gB (Nat.le_trans eB (by decide))⟩
    · exact ⟨l, _, _, _, rfl, rfl, SqL.of hl, by rw [z]; rfl, fin Y (t := .not_ (.like (.num 1) L1)) (.tup (SqT.of r1) (.cons (.str _) (.cons dB .nil))) oB gB (Nat.succ_le_succ eB)⟩
    · exact ⟨l, _, _, _, rfl, rfl, SqL.of hl, by rw [z]; rfl, fin Y (t := .both (.like (.num 1) L1) T2) (.tup (SqT.of r2) (.cons (.str _) (.cons dB (.cons k2 .nil)))) ⟨oB, o2⟩ ⟨gB, g2⟩ (Nat.succ_le_succ (Nat.max_le.mpr ⟨eB, e2⟩))⟩
    · exact ⟨l, _, _, _, rfl, rfl, SqL.of hl, by rw [z]; rfl, fin Y (t := .any_ (.like (.num 1) L1) T2) (.tup (SqT.of r3) (.cons (.str _) (.cons dB (.cons k2 .nil)))) ⟨oB, o2⟩ ⟨gB, g2⟩ (Nat.succ_le_succ (Nat.max_le.mpr ⟨eB, e2⟩))⟩
end
end Fd

set_option Elab.async false
set_option linter.all false
set_option maxRecDepth 100000
set_option maxHeartbeats 2000000
namespace Fd
open PySem PySem.Spec PyProof.Rows L2
/-- an item that may fall: all but rounds, out and ever -/
def okF : It → Prop
  | .wait L => isGiven (.wait L)
  | .until_ t => isGiven (.until_ t)
  | .if_ t a b => isLoop (.if_ t a b)
  | .times L b => isLoop (.times L b)
  | .while_ t b => isLoop (.while_ t b)
  | .do_ x Ls => isDo (.do_ x Ls)
  | _ => False
theorem okF_or {i : It} (h : okF i) : isGiven i ∨ isLoop i ∨ isDo i := by
  cases i with
  | wait L => exact .inl h
  | until_ t => exact .inl h
  | if_ t a b => exact .inr (.inl h)
  | times L b => exact .inr (.inl h)
  | while_ t b => exact .inr (.inl h)
  | do_ x Ls => exact .inr (.inr h)
  | _ => exact h.elim
section
variable {P : Program} {w : World} {K : PySem.W.Frag} {mg : Str → Option Value} {base : Heap} {CX : CXT} {k : Nat} {f : Addr} {fd : FuncData} {ps : List Str}
theorem FnOk.or {sp1 sp2 : Sp} (h1 : FnOk P w K mg base CX k f fd ps sp1) (h2 : FnOk P w K mg base CX k f fd ps sp2) : FnOk P w K mg base CX k f fd ps (fun vs H Q E => sp1 vs H Q E ∨ sp2 vs H Q E) :=
  ⟨fun vs H Q E h => h.elim (h1.len vs H Q E) (h2.len vs H Q E), fun A outer s H args us vs Q E hr he hb hv hs => hs.elim (h1.run A outer s H args us vs Q E hr he hb hv) (h2.run A outer s H args us vs Q E hr he hb hv)⟩
theorem due_any (h1 : FnOk P w K mg base CX k f fd ps (spDue K isGiven)) (h2 : FnOk P w K mg base CX k f fd ps (spDue K isLoop)) (h3 : FnOk P w K mg base CX k f fd ps (spDue K isDo)) : FnOk P w K mg base CX k f fd ps (spDue K okF) :=
  (FnOk.or h1 (FnOk.or h2 h3)).imp fun vs H Q E h => by
    obtain ⟨vr, vf, e, vp, i, bs, Y, fs, ps, ws, x3, ev, gi, r⟩ := h
    rcases okF_or gi with g | g | g
    · exact .inl ⟨vr, vf, e, vp, i, bs, Y, fs, ps, ws, x3, ev, g, r⟩
    · exact .inr (.inl ⟨vr, vf, e, vp, i, bs, Y, fs, ps, ws, x3, ev, g, r⟩)
    · exact .inr (.inr ⟨vr, vf, e, vp, i, bs, Y, fs, ps, ws, x3, ev, g, r⟩)
/-! ### what is left, in size -/
theorem given_its {Y : Ey} {fs fs' : List Fr} {ps : List Pc} {i : It} {its : List PyData} {g : Bool} (gi : isGiven i) (o6 : i.ok6) (h : unroll Y fs ps i = .ok (its, fs', g)) : its.length ≤ 1 ∧ ∀ d ∈ its, OkD 20 d := by
  cases i with
  | wait L =>
    have h : thenB (val Y L) (fun v => if v < 1 then (.ok ([], fs, false) : Un) else if closed fs = true then .error "closed" else .ok ([.tuple [.str "wait", .int (v - 1)]], fs, true)) = .ok (its, fs', g) := h
    cases ev : val Y L with
    | error z => rw [ev] at h; cases h
    | ok v =>
      rw [ev] at h
      have h : (if v < 1 then (.ok ([], fs, false) : Un) else if closed fs = true then .error "closed" else .ok ([.tuple [.str "wait", .int (v - 1)]], fs, true)) = .ok (its, fs', g) := h
      split at h
      · cases h; exact ⟨Nat.zero_le _, fun d hd => by cases hd⟩
      · split at h
        · cases h
        · cases h
          refine ⟨Nat.le_refl _, fun d hd => ?_⟩
          rw [List.mem_singleton.mp hd]
          exact ⟨(by show 2 ≤ 1000; decide), fun x hx => by
            rcases List.mem_cons.mp hx with z | z
            · rw [z]; trivial
            · rw [List.mem_singleton.mp z]; trivial⟩
  | until_ t =>
    have h : thenB (hold Y t) (fun b => if b = true then (.ok ([], fs, false) : Un) else if closed fs = true then .error "closed" else .ok ([itD (.until_ t)], fs, true)) = .ok (its, fs', g) := h
    cases ev : hold Y t with
    | error z => rw [ev] at h; cases h
    | ok v =>
      rw [ev] at h
      have h : (if v = true then (.ok ([], fs, false) : Un) else if closed fs = true then .error "closed" else .ok ([itD (.until_ t)], fs, true)) = .ok (its, fs', g) := h
      split at h
      · cases h; exact ⟨Nat.zero_le _, fun d hd => by cases hd⟩
      · split at h
        · cases h
        · cases h
          refine ⟨Nat.le_refl _, fun d hd => ?_⟩
          rw [List.mem_singleton.mp hd]
          exact ⟨(by show 2 ≤ 1000; decide), fun x hx => by
            rcases List.mem_cons.mp hx with z | z
            · rw [z]; trivial
            · rw [List.mem_singleton.mp z]; exact okd_le (okd_ts (n := 6) o6) (by decide)⟩
  | _ => exact gi.elim
theorem okF_fs {Y : Ey} {fs fs' : List Fr} {ps : List Pc} {i : It} {its : List PyData} {g : Bool} (gi : okF i) (o6 : i.ok6) (oP : i.okP ps) (h : unroll Y fs ps i = .ok (its, fs', g)) (f2 : ∀ f ∈ fs, f.2.length ≤ 900) (hl : fs.length ≤ 12) : its.length ≤ 900 ∧ (∀ d ∈ its, OkD 20 d) ∧ fs'.length ≤ 13 ∧ ∀ f ∈ fs', f.2.length ≤ 900 := by
  rcases okF_or gi with g1 | g1 | g1
  · have k1 := given_its g1 o6 h
    rw [given_fs g1 h]
    exact ⟨by omega, k1.2, by omega, f2⟩
  · obtain ⟨e1, _, e2, e3⟩ := loop_fs g1 o6 h
    rw [e1]
    exact ⟨by omega, e3, by omega, f2⟩
  · obtain ⟨x, Ls, rfl⟩ : ∃ x Ls, i = .do_ x Ls := by
      cases i with
      | do_ x Ls => exact ⟨x, Ls, rfl⟩
      | _ => exact g1.elim
    have g2 : Ls.length ≤ 2 := g1
    obtain ⟨vs', pc', ev', _, _, e1, e2, _, e3, e4, e5⟩ := do_fs oP h
    rw [e1, e2]
    refine ⟨by rw [List.length_append]; show _ + 1 ≤ 900; omega, fun d hd => ?_, by rw [List.length_append]; show _ + 1 ≤ 13; omega, fun f hf => ?_⟩
    · rcases List.mem_append.mp hd with y | y
      · exact okd_le (e5 d y) (by decide)
      · rw [List.mem_singleton.mp y]; exact ⟨by show 1 ≤ 1000; decide, fun x hx => by rw [List.mem_singleton.mp hx]; trivial⟩
    · rcases List.mem_append.mp hf with y | y
      · exact f2 f y
      · rw [List.mem_singleton.mp y]
        show (pc'.2.2.1.zip vs').length ≤ 900
        rw [List.length_zip]
        omega
end
end Fd

set_option Elab.async false
set_option linter.all false
set_option maxRecDepth 100000
set_option maxHeartbeats 2000000
namespace Fd
open PySem PySem.Spec PyProof.Rows L2
/-- the other errors of the program: no Fell is one of them -/
structure Oths (K : PySem.W.Frag) (mg : Str → Option Value) (C c_BadLine c_BadPlay c_NoOne c_NotOpen c_NoTurn c_Open c_TooMany : Addr) : Prop where
  m_BadLine : mg "BadLine" = some (.ref c_BadLine)
  e_BadLine : PySem.W.exmOne K (.ref C) (.ref c_BadLine) = some false
  k_BadLine : PySem.W.kitOne K (.ref C) (.ref c_BadLine) = some false
  m_BadPlay : mg "BadPlay" = some (.ref c_BadPlay)
  e_BadPlay : PySem.W.exmOne K (.ref C) (.ref c_BadPlay) = some false
  k_BadPlay : PySem.W.kitOne K (.ref C) (.ref c_BadPlay) = some false
  m_NoOne : mg "NoOne" = some (.ref c_NoOne)
  e_NoOne : PySem.W.exmOne K (.ref C) (.ref c_NoOne) = some false
  k_NoOne : PySem.W.kitOne K (.ref C) (.ref c_NoOne) = some false
  m_NotOpen : mg "NotOpen" = some (.ref c_NotOpen)
  e_NotOpen : PySem.W.exmOne K (.ref C) (.ref c_NotOpen) = some false
  k_NotOpen : PySem.W.kitOne K (.ref C) (.ref c_NotOpen) = some false
  m_NoTurn : mg "NoTurn" = some (.ref c_NoTurn)
  e_NoTurn : PySem.W.exmOne K (.ref C) (.ref c_NoTurn) = some false
  k_NoTurn : PySem.W.kitOne K (.ref C) (.ref c_NoTurn) = some false
  m_Open : mg "Open" = some (.ref c_Open)
  e_Open : PySem.W.exmOne K (.ref C) (.ref c_Open) = some false
  k_Open : PySem.W.kitOne K (.ref C) (.ref c_Open) = some false
  m_TooMany : mg "TooMany" = some (.ref c_TooMany)
  e_TooMany : PySem.W.exmOne K (.ref C) (.ref c_TooMany) = some false
  k_TooMany : PySem.W.kitOne K (.ref C) (.ref c_TooMany) = some false
theorem oth_one {K : PySem.W.Frag} {C D : Addr} (s0 : PySem.W.subIn K (.ref C) (.ref C) = some true) (h1 : PySem.W.subIn K (.ref D) (.type "BaseException") = some true) (hd : PySem.W.hasDictIn K D = true) (ht : PySem.W.typeIn K (.ref D) = some (.type "type")) (hs : PySem.W.subIn K (.ref C) (.ref D) = some false) :
    PySem.W.exmOne K (.ref C) (.ref D) = some false ∧ PySem.W.kitOne K (.ref C) (.ref D) = some false := by
  refine ⟨PySem.W.exm_ref h1 hd ht hs, ?_⟩
  have ne : ¬ ((Value.ref C == Value.ref D) = true) := fun z => by
    have e := beq_iff_eq.mp z
    rw [e] at s0
    rw [e, s0] at hs
    cases hs
  obtain ⟨cd, hc, _⟩ := PySem.W.any_some hd
  unfold PySem.W.kitOne
  rw [if_neg ne]
  show (if ((PySem.W.clsIn K D).isSome && PySem.W.typeIn K (.ref D) == some (.type "type")) = true then PySem.W.subIn K (.ref C) (.ref D) else none) = some false
  rw [if_pos (by rw [hc, ht]; rfl), hs]
section
variable {P : Program} {w : World} {K : PySem.W.Frag} {mg : Str → Option Value} {base : Heap} {f C fI c_BadLine c_BadPlay c_NoOne c_NotOpen c_NoTurn c_Open c_TooMany : Addr} {fd : FuncData} {okI : It → Prop}
abbrev sOnly : Stmt := top 71
theorem scOnly : FnScope ["_law_rest", "_law_frames", "_law_eyes", "_law_pieces", "_law_caught", "error", "_law_others"] ["_law_rest", "_law_frames", "_law_eyes", "_law_pieces"] (defScope sOnly) := ⟨rfl, rfl, rfl, by decide +kernel, rfl, by decide +kernel, by decide +kernel⟩
-- ["_law_rest", "_law_frames", "_law_eyes", "_law_pieces", "_law_caught", "error", "_law_others"]
def spOnly (K : PySem.W.Frag) (okI : It → Prop) : Sp := fun vs H Q _ => ∃ (vr vf : V) (e : Addr) (vp : V) (i : It) (bs : List PyData) (Y : Ey) (fs : List Fr) (ps : List Pc) (dr dp : PyData), vs = [vr, vf, .ref e, vp] ∧ okI i ∧ Dp K H vr dr ∧ tupD dr = .tuple (itD i :: bs) ∧ OkD 30 dr ∧ bs.length ≤ 100 ∧ Dp K H vf (frD fs) ∧ tupD (frD fs) = frD fs ∧ OkD 30 (frD fs) ∧ fs.length ≤ 900 ∧ Eyes K H e Y ∧ Dp K H vp dp ∧ tupD dp = pcD ps ∧ OkD 30 dp ∧ i.ok6 ∧ i.okP ps ∧ (∃ ws, i.okW ws) ∧
  (∀ its fs' g, unroll Y fs ps i = .ok (its, fs', g) → its.length ≤ 900) ∧ ∀ H', Same H H' → Q (.bl true) H'
theorem ok_only {k : Nat} (T : PySem.FellX.FellTxt K mg C fI) (EC : ErrC K C) (kr : PySem.W.kitOne K (.ref C) (.type "RuntimeError") = some true) (N : Oths K mg C c_BadLine c_BadPlay c_NoOne c_NotOpen c_NoTurn c_Open c_TooMany) (F : Fun K "_law_only" "_law_only" sOnly f fd) (GU : FnG P w K mg base (L2.CX P w) k "unrolled" ["rest", "frames", "eyes", "pieces"] (spUnr K C okI))
    (m_isinstance : mg "isinstance" = none) (m_RuntimeError : mg "RuntimeError" = none) : FnOk P w K mg base CX0 (k + 1) f fd ["_law_rest", "_law_frames", "_law_eyes", "_law_pieces"] (spOnly K okI) := by
  obtain ⟨_, _, G_unrolled, m_unrolled, k_unrolled, b_unrolled⟩ := GU
  have sc := scOnly
  refine F.ok sc (fun vs H Q E h => ?_) (fun cdv A outer s H vs Q E hr h => ?_)
  · obtain ⟨vr, vf, e, vp, i, bs, Y, fs, ps, dr, dp, rfl, _⟩ := h
    rfl
  obtain ⟨vr, vf, e, vp, i, bs, Y, fs, ps, dr, dp, rfl, oI, hR, tR, kR, hb, hf, tf, kf, hl, hE, hp, tp, kp, o6, oP, oW, h9, q⟩ := h
  refine ⟨_, (pss_cons (ps_set (i := 4) sc.nd rfl (.inl rfl) pe_non)
      (pss_cons (ps_try_keepT (i := 5) (tb := fun W => tDrop (tCallS (spUnr K C okI) (WE W) (tCons (tVar 0) (tCons (tVar 1) (tCons (tVar 2) (tCons (tVar 3) tNil)))))) (ts := fun a cls d => tAsg (tVar 5) (gName 4)) rfl rfl sc.nd rfl rfl ⟨rfl, by decide, .inl N.m_BadLine⟩ ⟨rfl, by decide, .inl N.m_BadPlay⟩ ⟨rfl, by decide, .inl T.gC⟩ ⟨rfl, by decide, .inl N.m_NoOne⟩ ⟨rfl, by decide, .inl N.m_NotOpen⟩ ⟨rfl, by decide, .inl N.m_NoTurn⟩ ⟨rfl, by decide, .inl N.m_Open⟩ ⟨rfl, by decide, .inl N.m_TooMany⟩ (fun W pn xe tk _ => pss_one (ps_expr (by exact (pe_callS G_unrolled (hr.mono (by omega)) (by rfl) m_unrolled k_unrolled b_unrolled (fun σ => passAt tk σ) (by exact (pa_cons (pv 0) (pa_cons (pv 1) (pa_cons (pv 2) (pa_cons (pv 3) pa_nil)))))))) ) (fun a oe cls d pn hz hf => pss_one (ps_set (i := 4) sc.nd rfl (.inl rfl) (by exact (pv 5)))))
      (pss_cons (ps_if (pt_cmpR op_isN (pv 4) pe_non (nomark _)) (pss_one (ps_ret pe_bl)) pss_nil)
      (pss_cons (ps_set (i := 6) sc.nd rfl (.inl rfl) (pe_callB (call_isErrT EC) (by rfl) m_isinstance (by decide +kernel) (pa_cons (pv 4) (pa_cons (pe_tup (pa_cons (pe_glob (v := .ref c_BadLine) (by rfl) N.m_BadLine rfl) (pa_cons (pe_glob (v := .ref c_BadPlay) (by rfl) N.m_BadPlay rfl) (pa_cons (pe_glob (v := .ref c_NoOne) (by rfl) N.m_NoOne rfl) (pa_cons (pe_glob (v := .ref c_NotOpen) (by rfl) N.m_NotOpen rfl) (pa_cons (pe_glob (v := .ref c_NoTurn) (by rfl) N.m_NoTurn rfl) (pa_cons (pe_glob (v := .ref c_Open) (by rfl) N.m_Open rfl) (pa_cons (pe_glob (v := .ref c_TooMany) (by rfl) N.m_TooMany rfl) pa_nil)))))))) pa_nil))))
      (pss_one (ps_ret (pe_and (pe_callB (call_isErrC EC) (by rfl) m_isinstance (by decide +kernel) (pa_cons (pv 4) (pa_cons (pe_glob (v := .ref C) (by rfl) T.gC rfl) pa_nil))) (pe_and (pe_callB (call_isErr EC) (by rfl) m_isinstance (by decide +kernel) (pa_cons (pv 4) (pa_cons (pe_bltn (v := .ty "RuntimeError") (by rfl) m_RuntimeError (by decide +kernel) rfl) pa_nil))) (pe_one (pe_not (pv 6))))))))))), ?_⟩
  have exm : PySem.W.exmAny K (.ref C) [.ref c_BadLine, .ref c_BadPlay, .ref C, .ref c_NoOne, .ref c_NotOpen, .ref c_NoTurn, .ref c_Open, .ref c_TooMany] = some true := by
    simp only [PySem.W.exmAny, N.e_BadLine, N.e_BadPlay, N.e_NoOne, N.e_NotOpen, N.e_NoTurn, N.e_Open, N.e_TooMany, T.te]
    rfl
  have kit : PySem.W.kitAny K (.ref C) [.ref c_BadLine, .ref c_BadPlay, .ref c_NoOne, .ref c_NotOpen, .ref c_NoTurn, .ref c_Open, .ref c_TooMany] = some false := by
    simp only [PySem.W.kitAny, N.k_BadLine, N.k_BadPlay, N.k_NoOne, N.k_NotOpen, N.k_NoTurn, N.k_Open, N.k_TooMany]
  have kC : PySem.W.kitOne K (.ref C) (.ref C) = some true := by
    unfold PySem.W.kitOne
    rw [if_pos (beq_self_eq_true _)]
  refine ⟨_, rfl, _, rfl, _, rfl, _, rfl, vr, vf, e, vp, i, bs, Y, fs, ps, dr, dp, rfl, oI, hR, tR, kR, hb, hf, tf, kf, hl, hE, hp, tp, kp, o6, oP, oW, h9, ?_⟩
  cases ev : unroll Y fs ps i with
  | error z =>
    refine fun H1 s1 d nd => ⟨exm, fun a na => ⟨_, rfl, fun na' => ?_⟩⟩
    have s2 : Same H1 (upd H1 d (.xd [(("word" : Str), .str z)])) := same_upd nd
    have hd := laid_at (.xd [(("word" : Str), .str z)]) nd
    have s3 := same_upd (o := ErrO (.ref C) (some d) a) na
    have hd3 := s3 _ _ hd
    have ha3 := laid_at (ErrO (.ref C) (some d) a) na
    have S3 := s1.trans (s2.trans s3)
    refine ⟨_, rfl, rfl, _, rfl, iteF ?_⟩
    refine ⟨_, rfl, by show 7 ≤ sizeLine; decide, fun tp ntp => ?_⟩
    have s4 := same_upd (o := .tup [.ref c_BadLine, .ref c_BadPlay, .ref c_NoOne, .ref c_NotOpen, .ref c_NoTurn, .ref c_Open, .ref c_TooMany]) ntp
    refine ⟨a, d, tp, _, _, _, false, rfl, upd_same, .cons (.own _) (.cons (.own _) (.cons (.own _) (.cons (.own _) (.cons (.own _) (.cons (.own _) (.cons (.own _) .nil)))))), s4 _ _ ha3, s4 _ _ hd3, kit, ?_⟩
    refine ⟨_, rfl, a, d, _, _, _, true, rfl, .own _, s4 _ _ ha3, s4 _ _ hd3, kC, ?_⟩
    refine ⟨_, rfl, iteT ⟨_, rfl, a, d, _, _, true, rfl, s4 _ _ ha3, s4 _ _ hd3, kr, _, rfl, iteT ⟨_, rfl, _, rfl, ?_⟩⟩⟩
    exact q _ (S3.trans s4)
  | ok r =>
    obtain ⟨its, fs', g⟩ := r
    refine fun p vi vf' H1 s1 h1 h2 h3 => ⟨_, rfl, rfl, _, rfl, iteT (q _ s1)⟩
end
end Fd

set_option Elab.async false
set_option linter.all false
set_option maxRecDepth 100000
set_option maxHeartbeats 4000000
namespace Fd
open PySem PySem.Spec PyProof.Rows L2
/-- items in a list -/
def Its (K : PySem.W.Frag) (ws : List Str) (x3 : Str) (ps : List Pc) (H : Hp) (vs : List V) : Prop := ∀ (j : Nat) (v : V), vs[j]? = some v → ∃ i, Dp K H v (itD i) ∧ okF i ∧ i.ok6 ∧ i.okP ps ∧ i.okW ws ∧ i.okL x3 ∧ Nc 18 60000 (itD i)
section
variable {K : PySem.W.Frag} {ws : List Str} {x3 : Str} {ps : List Pc} {H H' : Hp} {vs us : List V} {v : V} {i : It}
theorem its_nil : Its K ws x3 ps H [] := fun j v h => by cases j <;> cases h
theorem its_cons (h1 : Dp K H v (itD i) ∧ okF i ∧ i.ok6 ∧ i.okP ps ∧ i.okW ws ∧ i.okL x3 ∧ Nc 18 60000 (itD i)) (h : Its K ws x3 ps H vs) : Its K ws x3 ps H (v :: vs) := fun j u e => by
  cases j with
  | zero => cases e; exact ⟨i, h1⟩
  | succ j => exact h j u e
theorem its_app (h1 : Its K ws x3 ps H vs) (h2 : Its K ws x3 ps H us) : Its K ws x3 ps H (vs ++ us) := fun j u e => by
  by_cases hj : j < vs.length
  · rw [List.getElem?_append_left hj] at e
    exact h1 j u e
  · rw [List.getElem?_append_right (by omega)] at e
    exact h2 _ u e
theorem Its.same (h : Its K ws x3 ps H vs) (s : Same H H') : Its K ws x3 ps H' vs := fun j u e => by
  obtain ⟨i, d, o⟩ := h j u e
  exact ⟨i, dp_same s _ _ d, o⟩
end
def pcs1 (x0 x1 x2 : Str) : List Pc := [(x0, "closed", [x1, x2], [.tuple [.str "show"]])]
theorem find_pcs1 {x0 x1 x2 : Str} : (pcs1 x0 x1 x2).find? (fun p => decide (p.1 = x0)) = some ((x0, "closed", [x1, x2], [PyData.tuple [.str "show"]]) : Pc) := List.find?_cons_of_pos (decide_eq_true rfl)
theorem okd_show : OkD 14 (.tuple [.str "show"]) := ⟨by show 1 ≤ 1000; decide, fun x hx => by rw [List.mem_singleton.mp hx]; trivial⟩
theorem okP_do {x0 x1 x2 : Str} {L1 L2 : Lk} : (It.do_ x0 [L1, L2]).okP (pcs1 x0 x1 x2) := ⟨_, find_pcs1, rfl, by show 1 ≤ 100; decide, fun d hd => by rw [List.mem_singleton.mp hd]; exact okd_show, by show 1 ≤ 900; decide⟩
theorem nc_cN {z : Str} (h1 : PyData.leavesShort 13 (.str z) = true) (h2 : z.cps.size ≤ 8) : Nc 8 8 (.str z) := (nc_c h1 h2).le (by decide) (Nat.le_refl _)
theorem nc_pcs1 {x0 x1 x2 : Str} (h0 : IsNm x0) (h1 : IsNm x1) (h2 : IsNm x2) : Nc 20 50000 (pcD (pcs1 x0 x1 x2)) := by
  have nS : Nc 2 9 (.tuple [.str "show"]) := ((NcA.cons (nc_c (x := "show") (by decide +kernel) (by decide +kernel)) (NcA.nil (b := 0))).tup).le (by decide) (by decide)
  have n4 : Nc 8 10 (.tuple [.tuple [.str "show"]]) := ((NcA.cons nS (NcA.nil (b := 0))).tup).le (by decide) (by decide)
  have n3 : Nc 8 18 (.tuple [.str x1, .str x2]) := ((NcA.cons (nc_nm h1) (NcA.cons (nc_nm h2) (NcA.nil (b := 0)))).tup).le (by decide) (by decide)
  have n1 : Nc 9 100 (.tuple [.str x0, .str "closed", .tuple [.str x1, .str x2], .tuple [.tuple [.str "show"]]]) := ((NcA.cons ((nc_nm h0).le (by decide) (Nat.le_refl _)) (NcA.cons (nc_cN (z := "closed") (by decide +kernel) (by decide +kernel)) (NcA.cons n3 (NcA.cons n4 (NcA.nil (b := 0)))))).tup).le (by decide) (by decide)
  exact ((NcA.cons n1 (NcA.nil (b := 0))).tup).le (by decide) (by decide)
theorem nc_hide : Nc 18 9 (.tuple [.str "hide"]) := ((NcA.cons (nc_c (x := "hide") (by decide +kernel) (by decide +kernel)) (NcA.nil (b := 0))).tup).le (by decide) (by decide)
theorem okd_frD {fs : List Fr} (hl : fs.length ≤ 900) (h : ∀ f ∈ fs, f.2.length ≤ 900) : OkD 5 (frD fs) := ⟨by rw [List.length_map]; omega, fun d hd => by
  obtain ⟨f, hf, rfl⟩ := List.mem_map.mp hd
  refine ⟨by show 2 ≤ 1000; decide, fun d hd => ?_⟩
  rcases List.mem_cons.mp hd with z | z
  · rw [z]; trivial
  · rw [List.mem_singleton.mp z]
    refine ⟨by rw [List.length_map]; have := h f hf; omega, fun d hd => ?_⟩
    obtain ⟨p, hp, rfl⟩ := List.mem_map.mp hd
    refine ⟨by show 2 ≤ 1000; decide, fun d hd => ?_⟩
    rcases List.mem_cons.mp hd with z | z
    · rw [z]; trivial
    · rw [List.mem_singleton.mp z]; trivial⟩
section
variable {P : Program} {w : World} {K : PySem.W.Frag} {mg : Str → Option Value} {base : Heap} {f C fI fv : Addr} {fd : FuncData}
abbrev sLaw : Stmt := top 72
theorem scLaw : FnScope ["_law_script", "_law_state", "_law_turn", "_law_words", "_law_again", "_law_eyes", "_law_pieces", "_law_other", "_law_frames", "_law_some", "_law_rest", "_law_look", "_law_test", "_law_block", "_law_many"] ["_law_script"] (defScope sLaw) := ⟨rfl, rfl, rfl, by decide +kernel, rfl, by decide +kernel, by decide +kernel⟩
-- ["_law_script", "_law_state", "_law_turn", "_law_words", "_law_again", "_law_eyes", "_law_pieces", "_law_other", "_law_frames", "_law_some", "_law_rest", "_law_look", "_law_test", "_law_block", "_law_many"]
def spLaw (K : PySem.W.Frag) : Sp := fun vs H Q _ => ∃ (a : Addr) (ns : List Int), vs = [.ref a] ∧ SqL K H a (ns.map V.int) ∧ ns.length ≤ 63 ∧ ∀ H', Q (.bl true) H'
/-- the defs that the law calls -/
structure LawD (P : Program) (w : World) (K : PySem.W.Frag) (mg : Str → Option Value) (base : Heap) (C fv : Addr) (k : Nat) : Prop where
  GB : FnG P w K mg base CX0 k "_law_begin" ["_law_script"] (spBegin K)
  GT : FnG P w K mg base CX0 k "_law_take" ["_law_state", "_law_many"] spTake
  GN : FnG P w K mg base CX0 k "_law_names" ["_law_state", "_law_many"] spNames
  GE : FnG P w K mg base CX0 k "_law_eyes_by" ["_law_state", "_law_words"] (spEyes K)
  GF : FnG P w K mg base CX0 k "_law_frames_by" ["_law_state", "_law_words", "_law_many"] (spFrames K)
  GK : FnG P w K mg base CX0 k "_law_block_by" ["_law_state", "_law_words", "_law_deep"] (spBlock K 1)
  GL : FnG P w K mg base CX0 k "_law_look_by" ["_law_state", "_law_words", "_law_deep"] (spLook K 3)
  GS : FnG P w K mg base CX0 k "_law_spoilt_look" ["_law_state", "_law_words", "_law_deep"] (spSpl K 6)
  GU : FnG P w K mg base CX0 k "_law_spoilt_test" ["_law_state", "_law_words"] (spSpt K)
  GO : FnG P w K mg base CX0 k "_law_only" ["_law_rest", "_law_frames", "_law_eyes", "_law_pieces"] (spOnly K okF)
  GA : ∃ f fd, FnOkG P w K mg base k f fd ["_law_rest", "_law_frames", "_law_eyes", "_law_pieces"] (spAs K okF) ∧ mg "_law_as_due" = some (.ref f) ∧ PySem.W.keepIn K (.ref f) = true ∧ Binds K fd ["_law_rest", "_law_frames", "_law_eyes", "_law_pieces"] []
  mr : mg "range" = none
  ml : mg "len" = none
theorem law_body {k : Nat} (D : LawD P w K mg base C fv k) (cdv : Value) (A : Around) (outer : List Env) (s : Shared) (H : Hp) (vs : List V) (Q : VK) (E : XK) (hA : A.guards = some []) (hr : Room k (A.deeper (envOfC "law" (defScope sLaw) s.heap.objs.size f cdv))) (h : spLaw K vs H Q E) :
    ∃ t, PSs (cxOf CX0 P w K mg base ["_law_script", "_law_state", "_law_turn", "_law_words", "_law_again", "_law_eyes", "_law_pieces", "_law_other", "_law_frames", "_law_some", "_law_rest", "_law_look", "_law_test", "_law_block", "_law_many"] "law" (defScope sLaw) f cdv A outer s H E).nox (defBody sLaw) t ∧ t { nx := fun _ H' => Q .non H', rt := Q } (L2.start ["_law_script", "_law_state", "_law_turn", "_law_words", "_law_again", "_law_eyes", "_law_pieces", "_law_other", "_law_frames", "_law_some", "_law_rest", "_law_look", "_law_test", "_law_block", "_law_many"] vs) H := by
  obtain ⟨⟨_, _, G__law_begin, m__law_begin, k__law_begin, b__law_begin⟩, ⟨_, _, G__law_take, m__law_take, k__law_take, b__law_take⟩, ⟨_, _, G__law_names, m__law_names, k__law_names, b__law_names⟩, ⟨_, _, G__law_eyes_by, m__law_eyes_by, k__law_eyes_by, b__law_eyes_by⟩, ⟨_, _, G__law_frames_by, m__law_frames_by, k__law_frames_by, b__law_frames_by⟩,
    ⟨_, _, G__law_block_by, m__law_block_by, k__law_block_by, b__law_block_by⟩, ⟨_, _, G__law_look_by, m__law_look_by, k__law_look_by, b__law_look_by⟩, ⟨_, _, G__law_spoilt_look, m__law_spoilt_look, k__law_spoilt_look, b__law_spoilt_look⟩, ⟨_, _, G__law_spoilt_test, m__law_spoilt_test, k__law_spoilt_test, b__law_spoilt_test⟩, ⟨_, _, G__law_only, m__law_only, k__law_only, b__law_only⟩, ⟨_, _, G_as, m_as, k_as, b_as⟩, m_range, m_len⟩ := D
  have sc := scLaw
  obtain ⟨a0, ns, rfl, hS, hl, q⟩ := h
  refine ⟨_, (pss_cons (ps_set (i := 1) sc.nd rfl (.inl rfl) (pe_call G__law_begin (hr.mono (by omega)) (by rfl) m__law_begin k__law_begin b__law_begin .nil pass0 (pa_cons (pv 0) pa_nil)))
      (pss_cons (ps_for PassesOwn.never rfl (pi_range1 (by rfl) m_range (pa_cons pe_int pa_nil)) (pg_name (i := 2) sc.nd rfl (.inl rfl)) (pss_cons (ps_set (i := 3) sc.nd rfl (.inl rfl) (pe_call G__law_names (hr.mono (by omega)) (by rfl) m__law_names k__law_names b__law_names .nil pass0 (pa_cons (pv 1) (pa_cons pe_int pa_nil))))
      (pss_cons (ps_par (i := 5) (j := 6) (by rfl) sc.nd rfl rfl (by decide) rfl rfl (pa_cons (pe_call G__law_eyes_by (hr.mono (by omega)) (by rfl) m__law_eyes_by k__law_eyes_by b__law_eyes_by .nil pass0 (pa_cons (pv 1) (pa_cons (pv 3) pa_nil))) (pa_cons (pe_tup (pa_cons (pe_tup (pa_cons (pe_ix ix_list (pv 3) pe_int (fun _ _ => rfl)) (pa_cons pe_str (pa_cons (pe_tup (pa_cons (pe_ix ix_list (pv 3) pe_int (fun _ _ => rfl)) (pa_cons (pe_ix ix_list (pv 3) pe_int (fun _ _ => rfl)) pa_nil))) (pa_cons (pe_tup (pa_cons (pe_tup (pa_cons pe_str pa_nil)) pa_nil)) pa_nil))))) pa_nil)) pa_nil)) (by rfl))
      (pss_one (ps_for PassesOwn.never rfl (pi_range1 (by rfl) m_range (pa_cons pe_int pa_nil)) (pg_name (i := 4) sc.nd rfl (.inl rfl)) (pss_cons (ps_par (i := 11) (j := 12) (by rfl) sc.nd rfl rfl (by decide) rfl rfl (pa_cons (pe_call G__law_spoilt_look (hr.mono (by omega)) (by rfl) m__law_spoilt_look k__law_spoilt_look b__law_spoilt_look .nil pass0 (pa_cons (pv 1) (pa_cons (pv 3) (pa_cons pe_int pa_nil)))) (pa_cons (pe_call G__law_spoilt_test (hr.mono (by omega)) (by rfl) m__law_spoilt_test k__law_spoilt_test b__law_spoilt_test .nil pass0 (pa_cons (pv 1) (pa_cons (pv 3) pa_nil))) pa_nil)) (by rfl))
      (pss_cons (ps_set (i := 7) sc.nd rfl (.inl rfl) (pe_call G__law_look_by (hr.mono (by omega)) (by rfl) m__law_look_by k__law_look_by b__law_look_by .nil pass0 (pa_cons (pv 1) (pa_cons (pv 3) (pa_cons pe_int pa_nil)))))
      (pss_cons (ps_par (i := 13) (j := 14) (by rfl) sc.nd rfl rfl (by decide) rfl rfl (pa_cons (pe_call G__law_block_by (hr.mono (by omega)) (by rfl) m__law_block_by k__law_block_by b__law_block_by .nil pass0 (pa_cons (pv 1) (pa_cons (pv 3) (pa_cons pe_int pa_nil)))) (pa_cons (pe_ix ix_list (pe_lst (pa_cons pe_int (pa_cons pe_int (pa_cons pe_int (pa_cons pe_int pa_nil))))) (pe_call G__law_take (hr.mono (by omega)) (by rfl) m__law_take k__law_take b__law_take .nil pass0 (pa_cons (pv 1) (pa_cons pe_int pa_nil))) (fun _ _ => rfl)) pa_nil)) (by rfl))
      (pss_cons (ps_set (i := 8) sc.nd rfl (.inl rfl) (pe_call G__law_frames_by (hr.mono (by omega)) (by rfl) m__law_frames_by k__law_frames_by b__law_frames_by .nil pass0 (pa_cons (pv 1) (pa_cons (pv 3) (pa_cons (pv 14) pa_nil)))))
      (pss_cons (ps_set (i := 9) sc.nd rfl (.inl rfl) (pe_lst (pa_cons (pe_tup (pa_cons pe_str (pa_cons (pv 11) pa_nil))) (pa_cons (pe_tup (pa_cons pe_str (pa_cons (pv 12) pa_nil))) (pa_cons (pe_tup (pa_cons pe_str (pa_cons (pv 12) (pa_cons (pv 13) (pa_cons (pe_tup pa_nil) pa_nil))))) (pa_cons (pe_tup (pa_cons pe_str (pa_cons (pv 11) (pa_cons (pv 13) pa_nil)))) pa_nil))))))
      (pss_cons (ps_set (i := 9) sc.nd rfl (.inl rfl) (pe_op op_cat (pv 9) (pe_lst (pa_cons (pe_tup (pa_cons pe_str (pa_cons (pv 12) (pa_cons (pv 13) pa_nil)))) (pa_cons (pe_tup (pa_cons pe_str (pa_cons (pe_ix ix_list (pv 3) pe_int (fun _ _ => rfl)) (pa_cons (pe_tup (pa_cons (pv 11) (pa_cons (pv 7) pa_nil))) pa_nil)))) (pa_cons (pe_tup (pa_cons pe_str (pa_cons (pe_ix ix_list (pv 3) pe_int (fun _ _ => rfl)) (pa_cons (pe_tup (pa_cons (pv 7) (pa_cons (pv 11) pa_nil))) pa_nil)))) pa_nil))))))
      (pss_cons (ps_expr (pe_bm PySem.F.plainAttrs_list PySem.F.slot_list_append PySem.F.type_list_append mt_append (pv 9) (pa_cons (pe_tup (pa_cons pe_str (pa_cons pe_int pa_nil))) pa_nil)))
      (pss_cons (ps_set (i := 10) sc.nd rfl (.inl rfl) (pe_tup (pa_cons (pe_ix ix_list (pv 9) (pe_call G__law_take (hr.mono (by omega)) (by rfl) m__law_take k__law_take b__law_take .nil pass0 (pa_cons (pv 1) (pa_cons (pe_callB call_len_seq (by rfl) m_len (by decide +kernel) (pa_cons (pv 9) pa_nil)) pa_nil))) (fun _ _ => rfl)) (pa_cons (pe_tup (pa_cons pe_str pa_nil)) pa_nil))))
      (pss_one (ps_if (PW.pt (pw_or (pt_not (pt_val (pe_callG G_as hA (hr.mono (by omega)) (by rfl) m_as k_as b_as (by exact (pa_cons (pv 10) (pa_cons (pv 8) (pa_cons (pv 5) (pa_cons (pv 6) pa_nil)))))))) (pw_or1 (pt_not (pt_val (pe_call G__law_only (hr.mono (by omega)) (by rfl) m__law_only k__law_only b__law_only .nil pass0 (pa_cons (pv 10) (pa_cons (pv 8) (pa_cons (pv 5) (pa_cons (pv 6) pa_nil)))))))))) (pss_one (ps_ret pe_bl)) pss_nil)))))))))))))))
      (pss_one (ps_ret pe_bl)))), ?_⟩
  have d1 : dc 1 = 322 := by decide
  have e6 : cs 6 = 638 := by decide
  have e4 : cs 4 + cost 3 + 1 = 235 := by decide
  have e3 : cost 3 = 78 := by decide
  have z0 : 0 ≤ sizeLine := Nat.zero_le _
  have z1 : 1 ≤ sizeLine := by decide
  have z2 : 2 ≤ sizeLine := by decide
  have z3 : 3 ≤ sizeLine := by decide
  have z4 : 4 ≤ sizeLine := by decide
  have z7 : 7 ≤ sizeLine := by decide
  refine ⟨_, rfl, a0, ns, rfl, hS, hl, fun a c H1 s1 na D1 => ?_⟩
  refine ⟨4, rfl, by decide, by decide, for_it walk_range
    (fun i σ H' => Dr H' a c (16000 * i) ∧ ∃ o2 o3 o4 o5 o6 o7 o8 o9 o10 o11 o12 o13 o14, σ = [some (.ref a0), some (.ref a), o2, o3, o4, o5, o6, o7, o8, o9, o10, o11, o12, o13, o14]) ⟨D1, none, none, none, none, none, none, none, none, none, none, none, none, none, rfl⟩ (fun _ _ _ _ _ => trivial) ?_ ?_⟩
  · rintro i x σ _ H2 hi ⟨D2, o2, o3, o4, o5, o6, o7, o8, o9, o10, o11, o12, o13, o14, rfl⟩ ⟨rfl, ex⟩
    have hi' : i < 4 := hi
    refine ⟨_, rfl, a, c, _, rfl, D2, by omega, fun p ws H3 s3 D3 hp hw hnm hap => ?_⟩
    obtain ⟨x3, hx3, h3, _⟩ := word3 hw
    refine ⟨_, rfl, _, rfl, a, c, p, _, ws, x3, rfl, D3, by omega, hp, hw, h3, fun ve Y H4 s4 D4 dE oE hrow => ?_⟩
    have hp4 := rmL_but s4 _ _ hp
    obtain ⟨e, xe, rfl, _, _⟩ := dp_tup dE
    obtain ⟨x0, hx0, ex0⟩ := at_words (ws := ws) (i := 0) (by decide) (by rw [hw]; decide)
    obtain ⟨x1, hx1, ex1⟩ := at_words (ws := ws) (i := 1) (by decide) (by rw [hw]; decide)
    obtain ⟨x2, hx2, ex2⟩ := at_words (ws := ws) (i := 2) (by decide) (by rw [hw]; decide)
    have hw4 := SqL.of (K := K) (rmL_sub _ _ hp4)
    refine ⟨_, rfl, p, _, 0, _, rfl, rfl, hw4, ex0, _, rfl, p, _, 1, _, rfl, rfl, hw4, ex1, _, rfl, p, _, 2, _, rfl, rfl, hw4, ex2, z2, fun t1 n1 => ⟨z1, fun t2 n2 => ⟨z1, fun t3 n3 => ⟨z4, fun t4 n4 => ⟨z1, fun ap n5 => ⟨_, _, rfl, ?_⟩⟩⟩⟩⟩⟩
    have y1 := same_upd (o := .tup [.str x1, .str x2]) n1
    have y2 := same_upd (o := .tup [.str "show"]) n2
    have y3 := same_upd (o := .tup [.ref t2]) n3
    have y4 := same_upd (o := .tup [.str x0, .str "closed", .ref t1, .ref t3]) n4
    have y5 := same_upd (o := .tup [.ref t4]) n5
    have r1 := rmL_same (as := [a, c]) (y2.trans (y3.trans (y4.trans y5))) _ _ (rmL_new (o := .tup [.str x1, .str x2]) D4.in_ n1)
    have r2 := rmL_same (as := [a, c]) (y3.trans (y4.trans y5)) _ _ (rmL_new (o := .tup [.str "show"]) (D4.same y1).in_ n2)
    have r3 := rmL_same (as := [a, c]) (y4.trans y5) _ _ (rmL_new (o := .tup [.ref t2]) ((D4.same y1).same y2).in_ n3)
    have r4 := rmL_same (as := [a, c]) y5 _ _ (rmL_new (o := .tup [.str x0, .str "closed", .ref t1, .ref t3]) (((D4.same y1).same y2).same y3).in_ n4)
    have r5 := rmL_new (o := .tup [.ref t4]) ((((D4.same y1).same y2).same y3).same y4).in_ n5
    have YY := y1.trans (y2.trans (y3.trans (y4.trans y5)))
    have D5 := D4.same YY
    have hp5 := rmL_same (as := [a, c]) YY _ _ hp4
    replace dE := dp_same (rmL_same (as := [a, c]) YY) _ _ dE
    clear y1 y2 y3 y4 y5
    revert r1 r2 r3 r4 r5 D5 hp5 dE YY
    generalize upd _ ap _ = H5
    intro r1 r2 r3 r4 r5 YY D5 hp5 dE
    have dP : Dp K (rmL [a, c] H5) (.ref ap) (pcD (pcs1 x0 x1 x2)) := .tup (SqT.of r5) (.cons (.tup (SqT.of r4) (.cons (.str _) (.cons (.str _) (.cons (.tup (SqT.of r1) (.cons (.str _) (.cons (.str _) .nil))) (.cons (.tup (SqT.of r3) (.cons (.tup (SqT.of r2) (.cons (.str _) .nil)) .nil)) .nil))))) .nil)
    have nP := nc_pcs1 (hnm x0 hx0) (hnm x1 hx1) (hnm x2 hx2)
    clear r1 r2 r3 r4 r5
    refine ⟨8, rfl, by decide, by decide, for_it walk_range
      (fun j σ H' => Dr H' a c (16000 * i + 52 + 1980 * j) ∧ rmL [a, c] H' p = some (.lst (ws.map V.str)) ∧ Dp K (rmL [a, c] H') (.ref ap) (pcD (pcs1 x0 x1 x2)) ∧ Dp K (rmL [a, c] H') (.ref e) (eyD Y) ∧ ∃ o2 o4 o7 o8 o9 o10 o11 o12 o13 o14, σ = [some (.ref a0), some (.ref a), o2, some (.ref p), o4, some (.ref e), some (.ref ap), o7, o8, o9, o10, o11, o12, o13, o14])
      ⟨D5.le (by omega), hp5, dP, dE, _, _, _, _, _, _, _, _, _, _, rfl⟩ (fun _ _ _ _ _ => trivial) ?_ ?_⟩
    · clear D2 D3 D4 D5 hp hp4 hp5 dP dE hw4 YY
      rintro j x σ _ H6 hj ⟨D6, hp6, dP, dE, o2, o4, o7, o8, o9, o10, o11, o12, o13, o14, rfl⟩ ⟨rfl, ex⟩
      have hj' : j < 8 := hj
      have sub : ∀ b ∈ [a, c], b ∈ [a, c] := fun b h => h
      refine ⟨_, rfl, _, rfl, a, c, p, _, 6, ws, x3, [a, c], rfl, D6, by omega, by decide, by decide, hp6, hw, h3, sub, D6.in_, fun vl L H7 s7 D7 dL oL gL eL => ?_⟩
      have hp7 := rmL_but s7 _ _ hp6
      refine ⟨_, rfl, _, rfl, a, c, p, _, ws, x3, [a, c], rfl, D7, by omega, hp7, hw, h3, sub, D7.in_, fun vt t H8 s8 D8 dT oT gT eT => ⟨_, _, rfl, ?_⟩⟩
      have hp8 := rmL_but s8 _ _ hp7
      refine ⟨_, rfl, _, rfl, a, c, p, _, 3, ws, x3, [a, c], rfl, D8, by omega, by decide, by decide, hp8, hw, h3, sub, D8.in_, fun vo Lo H9 s9 D9 dO oO gO eO => ?_⟩
      have hp9 := rmL_but s9 _ _ hp8
      show tSeq _ _ _ [some (.ref a0), some (.ref a), o2, some (.ref p), some x, some (.ref e), some (.ref ap), some vo, o8, o9, o10, some vl, some vt, o13, o14] H9
      refine ⟨_, rfl, _, rfl, a, c, p, _, 1, ws, x3, [a, c], rfl, D9, by omega, by decide, by decide, hp9, hw, h3, sub, D9.in_, hnm, fun vb ds H10 s10 D10 dB oB => ?_⟩
      have hp10 := rmL_but s10 _ _ hp9
      refine ⟨z4, fun l nl => ⟨_, rfl, a, c, _, 4, rfl, D10.same (same_upd nl), by omega, by decide, by decide, fun r H11 r0 r1 s11 D11 => ?_⟩⟩
      have xl := same_upd (o := .lst [.int 0, .int 1, .int 3, .int 6]) nl
      have hl11 := s11 _ _ (D10.ne nl) (laid_at (.lst [.int 0, .int 1, .int 3, .int 6]) nl)
      obtain ⟨m, hm, hm6⟩ : ∃ m : Nat, atI [V.int 0, .int 1, .int 3, .int 6] r = some (.int m) ∧ m ≤ 6 := by
        rcases (by omega : r = 0 ∨ r = 1 ∨ r = 2 ∨ r = 3) with rfl | rfl | rfl | rfl
        · exact ⟨0, rfl, by decide⟩
        · exact ⟨1, rfl, by decide⟩
        · exact ⟨3, rfl, by decide⟩
        · exact ⟨6, rfl, by decide⟩
      have s11' := (ButL.same xl (as := [a, c])).trans s11
      have hp11 := rmL_but s11' _ _ hp10
      refine ⟨l, _, _, _, rfl, rfl, SqL.of hl11, hm, _, _, rfl, ?_⟩
      show tSeq _ _ _ [some (.ref a0), some (.ref a), o2, some (.ref p), some x, some (.ref e), some (.ref ap), some vo, o8, o9, o10, some vl, some vt, some vb, some (.int m)] H11
      refine ⟨_, rfl, _, rfl, _, rfl, a, c, p, _, m, ws, rfl, D11, by omega, hm6, hp11, hnm, fun vf fs H12 s12 D12 dF lF oF => ?_⟩
      have hp12 := rmL_but s12 _ _ hp11
      have M11 := (rmL_but s11').trans (rmL_but s12)
      have M10 := (rmL_but s10).trans M11
      have M9 := (rmL_but s9).trans M10
      have M8 := (rmL_but s8).trans M9
      have M7 := (rmL_but s7).trans M8
      replace dP := dp_same M7 _ _ dP
      replace dE := dp_same M7 _ _ dE
      replace dL := dp_same M8 _ _ dL
      replace dT := dp_same M9 _ _ dT
      replace dO := dp_same M10 _ _ dO
      replace dB := dp_same M11 _ _ dB
      clear M7 M8 M9 M10 M11 D6 D7 D8 D9 D10 D11 hp6 hp7 hp8 hp9 hp10 hp11 hl11 nl xl s11' s11 s10 s9 s8 s7 s12
      show tSeq _ _ _ [some (.ref a0), some (.ref a), o2, some (.ref p), some x, some (.ref e), some (.ref ap), some vo, some vf, o9, o10, some vl, some vt, some vb, some (.int m)] H12
      have f12 := rmL_sub (as := [a, c]) (H := H12)
      refine ⟨_, rfl, z2, fun t1 n1 => ⟨_, rfl, z2, fun t2 n2 => ⟨_, rfl, _, rfl, z0, fun t3 n3 => ⟨z4, fun t4 n4 => ⟨_, rfl, _, rfl, z3, fun t5 n5 => ⟨z4, fun l1 nl1 => ?_⟩⟩⟩⟩⟩⟩
      have y1 := same_upd (o := .tup [.str "wait", vl]) n1
      have y2 := same_upd (o := .tup [.str "until", vt]) n2
      have y3 := same_upd (o := .tup []) n3
      have y4 := same_upd (o := .tup [.str "if", vt, vb, .ref t3]) n4
      have y5 := same_upd (o := .tup [.str "times", vl, vb]) n5
      have y6 := same_upd (o := .lst [.ref t1, .ref t2, .ref t4, .ref t5]) nl1
      have E1 := D12.same y1
      have E2 := E1.same y2
      have E3 := E2.same y3
      have E4 := E3.same y4
      have E5 := E4.same y5
      have W5 := y5.trans y6
      have W4 := y4.trans W5
      have W3 := y3.trans W4
      have W2 := y2.trans W3
      have W1 := y1.trans W2
      have r1 := rmL_same (as := [a, c]) W2 _ _ (rmL_new (o := .tup [.str "wait", vl]) D12.in_ n1)
      have r2 := rmL_same (as := [a, c]) W3 _ _ (rmL_new (o := .tup [.str "until", vt]) E1.in_ n2)
      have r3 := rmL_same (as := [a, c]) W4 _ _ (rmL_new (o := .tup []) E2.in_ n3)
      have r4 := rmL_same (as := [a, c]) W5 _ _ (rmL_new (o := .tup [.str "if", vt, vb, .ref t3]) E3.in_ n4)
      have r5 := rmL_same (as := [a, c]) y6 _ _ (rmL_new (o := .tup [.str "times", vl, vb]) E4.in_ n5)
      have hl1 := laid_at (.lst [.ref t1, .ref t2, .ref t4, .ref t5]) nl1
      have D13 := D12.same W1
      have M := rmL_same (as := [a, c]) W1
      replace dP := dp_same M _ _ dP
      replace dE := dp_same M _ _ dE
      replace dL := dp_same M _ _ dL
      replace dT := dp_same M _ _ dT
      replace dO := dp_same M _ _ dO
      replace dB := dp_same M _ _ dB
      replace dF := dp_same M _ _ dF
      have hp13 := M _ _ hp12
      clear M W1 W2 W3 W4 W5 E1 E2 E3 E4 E5 y1 y2 y3 y4 y5 y6 D12 hp12 f12
      revert r1 r2 r3 r4 r5 hl1 D13 dP dE dL dT dO dB dF hp13
      generalize upd _ l1 _ = H13
      intro r1 r2 r3 r4 r5 hl1 D13 dP dE dL dT dO dB dF hp13
      clear n1 n2 n3 n4 n5 nl1
      have bk : BkOk ds := ⟨by have := oB.1; omega, fun d hd => okd_le (oB.2 d hd).o (by decide)⟩
      have bk0 : BkOk [] := ⟨Nat.zero_le _, fun d hd => by cases hd⟩
      have bN : Nc 8 3891 (.tuple ds) := oB.tup.le (by decide) (by decide)
      have tN : Nc 8 2540 (tsD t) := (nc_ts hnm oT eT).le (by decide) (by decide)
      have lN : Nc 8 2540 (lkD L) := (nc_lk hnm oL (Nat.le_trans eL (by decide : max 3 6 ≤ 6))).le (by decide) (by decide)
      have oN : Nc 8 2540 (lkD Lo) := (nc_lk hnm oO (Nat.le_trans eO (by decide : 3 ≤ 6))).le (by decide) (by decide)
      have eL6 : L.deep ≤ 6 := Nat.le_trans eL (by decide)
      have eO6 : Lo.deep ≤ 6 := Nat.le_trans eO (by decide)
      have k1 : Its K ws x3 (pcs1 x0 x1 x2) (rmL [a, c] H13) [.ref t1, .ref t2, .ref t4, .ref t5] :=
        its_cons (i := .wait L) ⟨.tup (SqT.of r1) (.cons (.str _) (.cons dL .nil)), trivial, eL6, trivial, oL, gL, ((NcA.cons (nc_cN (z := "wait") (by decide +kernel) (by decide +kernel)) (NcA.cons lN (NcA.nil (b := 0)))).tup).le (by decide) (by decide)⟩
        (its_cons (i := .until_ t) ⟨.tup (SqT.of r2) (.cons (.str _) (.cons dT .nil)), trivial, eT, trivial, oT, gT, ((NcA.cons (nc_cN (z := "until") (by decide +kernel) (by decide +kernel)) (NcA.cons tN (NcA.nil (b := 0)))).tup).le (by decide) (by decide)⟩
        (its_cons (i := .if_ t ds []) ⟨.tup (SqT.of r4) (.cons (.str _) (.cons dT (.cons dB (.cons (.tup (SqT.of r3) .nil) .nil)))), ⟨bk, bk0⟩, eT, trivial, oT, gT, ((NcA.cons (nc_cN (z := "if") (by decide +kernel) (by decide +kernel)) (NcA.cons tN (NcA.cons bN (NcA.cons ((NcA.nil (a := 7) (b := 0)).tup) (NcA.nil (b := 0)))))).tup).le (by decide) (by decide)⟩
        (its_cons (i := .times L ds) ⟨.tup (SqT.of r5) (.cons (.str _) (.cons dL (.cons dB .nil))), bk, eL6, trivial, oL, gL, ((NcA.cons (nc_cN (z := "times") (by decide +kernel) (by decide +kernel)) (NcA.cons lN (NcA.cons bN (NcA.nil (b := 0))))).tup).le (by decide) (by decide)⟩ its_nil)))
      clear r1 r2 r3 r4 r5
      show tSeq _ _ _ [some (.ref a0), some (.ref a), o2, some (.ref p), some x, some (.ref e), some (.ref ap), some vo, some vf, some (.ref l1), o10, some vl, some vt, some vb, some (.int m)] H13
      have hq : H13 p = some (.lst (ws.map V.str)) := rmL_sub _ _ hp13
      refine ⟨_, rfl, _, rfl, _, rfl, z3, fun t6 n6 => ?_⟩
      have y6 := same_upd (o := .tup [.str "while", vt, vb]) n6
      refine ⟨_, rfl, p, _, 0, _, rfl, rfl, SqL.of (y6 _ _ hq), ex0, _, rfl, _, rfl, z2, fun t7 n7 => ⟨z3, fun t8 n8 => ?_⟩⟩
      have y7 := same_upd (o := .tup [vl, vo]) n7
      have y8 := same_upd (o := .tup [.str "do", .str x0, .ref t7]) n8
      have A8 := y6.trans (y7.trans y8)
      refine ⟨_, rfl, p, _, 0, _, rfl, rfl, SqL.of (A8 _ _ hq), ex0, _, rfl, _, rfl, z2, fun t9 n9 => ⟨z3, fun t10 n10 => ⟨z3, fun l2 nl2 => ?_⟩⟩⟩
      have y9 := same_upd (o := .tup [vo, vl]) n9
      have y10 := same_upd (o := .tup [.str "do", .str x0, .ref t9]) n10
      have y11 := same_upd (o := .lst [.ref t6, .ref t8, .ref t10]) nl2
      have E6 := D13.same y6
      have E7 := E6.same y7
      have E8 := E7.same y8
      have E9 := E8.same y9
      have E10 := E9.same y10
      have W10 := y10.trans y11
      have W9 := y9.trans W10
      have W8 := y8.trans W9
      have W7 := y7.trans W8
      have W6 := y6.trans W7
      have r6 := rmL_same (as := [a, c]) W7 _ _ (rmL_new (o := .tup [.str "while", vt, vb]) D13.in_ n6)
      have r7 := rmL_same (as := [a, c]) W8 _ _ (rmL_new (o := .tup [vl, vo]) E6.in_ n7)
      have r8 := rmL_same (as := [a, c]) W9 _ _ (rmL_new (o := .tup [.str "do", .str x0, .ref t7]) E7.in_ n8)
      have r9 := rmL_same (as := [a, c]) W10 _ _ (rmL_new (o := .tup [vo, vl]) E8.in_ n9)
      have r10 := rmL_same (as := [a, c]) y11 _ _ (rmL_new (o := .tup [.str "do", .str x0, .ref t9]) E9.in_ n10)
      have hl2 := laid_at (.lst [.ref t6, .ref t8, .ref t10]) nl2
      have D14 := D13.same W6
      have M := rmL_same (as := [a, c]) W6
      replace hl1 := W6 _ _ hl1
      replace k1 := k1.same M
      replace dP := dp_same M _ _ dP
      replace dE := dp_same M _ _ dE
      replace dL := dp_same M _ _ dL
      replace dT := dp_same M _ _ dT
      replace dO := dp_same M _ _ dO
      replace dB := dp_same M _ _ dB
      replace dF := dp_same M _ _ dF
      replace hp13 := M _ _ hp13
      clear M W6 W7 W8 W9 W10 E6 E7 E8 E9 E10 y6 y7 y8 y9 y10 y11 A8 hq D13
      revert r6 r7 r8 r9 r10 hl1 hl2 k1 D14 dP dE dL dT dO dB dF hp13
      generalize upd _ l2 _ = H14
      intro r6 r7 r8 r9 r10 hl2 D14 hl1 k1 dP dE dL dT dO dB dF hp14
      clear n6 n7 n8 n9 n10 nl2
      have x0N : Nc 8 8 (.str x0) := (nc_nm (hnm x0 hx0)).le (by decide) (Nat.le_refl _)
      have k2 : Its K ws x3 (pcs1 x0 x1 x2) (rmL [a, c] H14) [.ref t6, .ref t8, .ref t10] :=
        its_cons (i := .while_ t ds) ⟨.tup (SqT.of r6) (.cons (.str _) (.cons dT (.cons dB .nil))), bk, eT, trivial, oT, gT, ((NcA.cons (nc_cN (z := "while") (by decide +kernel) (by decide +kernel)) (NcA.cons tN (NcA.cons bN (NcA.nil (b := 0))))).tup).le (by decide) (by decide)⟩
        (its_cons (i := .do_ x0 [L, Lo]) ⟨.tup (SqT.of r8) (.cons (.str _) (.cons (.str _) (.cons (.tup (SqT.of r7) (.cons dL (.cons dO .nil))) .nil))), (by show 2 ≤ 2; decide), ⟨by show 2 ≤ 10; decide, fun l hl => by
            rcases List.mem_cons.mp hl with z | z
            · rw [z]; exact eL6
            · rw [List.mem_singleton.mp z]; exact eO6⟩, okP_do, fun l hl => by
            rcases List.mem_cons.mp hl with z | z
            · rw [z]; exact oL
            · rw [List.mem_singleton.mp z]; exact oO, fun l hl => by
            rcases List.mem_cons.mp hl with z | z
            · rw [z]; exact gL
            · rw [List.mem_singleton.mp z]; exact gO, ((NcA.cons (nc_cN (z := "do") (by decide +kernel) (by decide +kernel) |>.le (by decide : 8 ≤ 9) (Nat.le_refl _)) (NcA.cons (x0N.le (by decide : 8 ≤ 9) (Nat.le_refl _)) (NcA.cons ((NcA.cons lN (NcA.cons oN (NcA.nil (b := 0)))).tup) (NcA.nil (b := 0))))).tup).le (by decide) (by decide)⟩
        (its_cons (i := .do_ x0 [Lo, L]) ⟨.tup (SqT.of r10) (.cons (.str _) (.cons (.str _) (.cons (.tup (SqT.of r9) (.cons dO (.cons dL .nil))) .nil))), (by show 2 ≤ 2; decide), ⟨by show 2 ≤ 10; decide, fun l hl => by
            rcases List.mem_cons.mp hl with z | z
            · rw [z]; exact eO6
            · rw [List.mem_singleton.mp z]; exact eL6⟩, okP_do, fun l hl => by
            rcases List.mem_cons.mp hl with z | z
            · rw [z]; exact oO
            · rw [List.mem_singleton.mp z]; exact oL, fun l hl => by
            rcases List.mem_cons.mp hl with z | z
            · rw [z]; exact gO
            · rw [List.mem_singleton.mp z]; exact gL, ((NcA.cons (nc_cN (z := "do") (by decide +kernel) (by decide +kernel) |>.le (by decide : 8 ≤ 9) (Nat.le_refl _)) (NcA.cons (x0N.le (by decide : 8 ≤ 9) (Nat.le_refl _)) (NcA.cons ((NcA.cons oN (NcA.cons lN (NcA.nil (b := 0)))).tup) (NcA.nil (b := 0))))).tup).le (by decide) (by decide)⟩ its_nil))
      clear r6 r7 r8 r9 r10
      have k3 := its_app k1 k2
      clear k1 k2
      refine ⟨l1, l2, _, _, rfl, rfl, hl1, hl2, z7, fun l3 nl3 => ?_⟩
      show tSeq _ _ _ [some (.ref a0), some (.ref a), o2, some (.ref p), some x, some (.ref e), some (.ref ap), some vo, some vf, some (.ref l3), o10, some vl, some vt, some vb, some (.int m)] _
      have hl3 := laid_at (.lst ([.ref t1, .ref t2, .ref t4, .ref t5] ++ [.ref t6, .ref t8, .ref t10])) nl3
      refine ⟨_, rfl, .inl ⟨rfl, _, SqL.of hl3⟩, z2, fun t11 n11 => ⟨l3, _, _, rfl, rfl, same_upd n11 _ _ hl3, small1000 (by show 7 ≤ 1000; decide), ?_⟩⟩
      have ne1 : t11 ≠ l3 := fun z => by rw [z, hl3] at n11; cases n11
      have n11' : H14 t11 = none := by rw [← n11, upd_ne ne1]
      have S15 : Same H14 (upd (upd (upd H14 l3 (.lst ([.ref t1, .ref t2, .ref t4, .ref t5] ++ [.ref t6, .ref t8, .ref t10]))) t11 (.tup [.str "wait", .int 5])) l3 (.lst (([.ref t1, .ref t2, .ref t4, .ref t5] ++ [.ref t6, .ref t8, .ref t10]) ++ [.ref t11]))) := fun b o hb => by
        have e1 : b ≠ l3 := fun z => by rw [z, nl3] at hb; cases hb
        have e2 : b ≠ t11 := fun z => by rw [z, n11'] at hb; cases hb
        rw [upd_ne e1, upd_ne e2, upd_ne e1]
        exact hb
      have hl4 : upd (upd (upd H14 l3 (.lst ([.ref t1, .ref t2, .ref t4, .ref t5] ++ [.ref t6, .ref t8, .ref t10]))) t11 (.tup [.str "wait", .int 5])) l3 (.lst (([.ref t1, .ref t2, .ref t4, .ref t5] ++ [.ref t6, .ref t8, .ref t10]) ++ [.ref t11])) l3 = some (.lst (([.ref t1, .ref t2, .ref t4, .ref t5] ++ [.ref t6, .ref t8, .ref t10]) ++ [.ref t11])) := upd_same
      have r11 : rmL [a, c] (upd (upd (upd H14 l3 (.lst ([.ref t1, .ref t2, .ref t4, .ref t5] ++ [.ref t6, .ref t8, .ref t10]))) t11 (.tup [.str "wait", .int 5])) l3 (.lst (([.ref t1, .ref t2, .ref t4, .ref t5] ++ [.ref t6, .ref t8, .ref t10]) ++ [.ref t11]))) t11 = some (.tup [.str "wait", .int 5]) := by
        rw [rmL_at (D14.ne n11'), upd_ne ne1]
        exact upd_same
      have l3n := D14.ne nl3
      have M := rmL_same (as := [a, c]) S15
      have D15 := D14.same S15
      replace k3 := k3.same M
      replace dP := dp_same M _ _ dP
      replace dE := dp_same M _ _ dE
      replace dF := dp_same M _ _ dF
      have hp15 := M _ _ hp14
      clear M S15 ne1 n11' nl3 n11 hl3 dL dT dO dB hp14 D14 hl1 hl2
      revert hl4 r11 D15 k3 dP dE dF hp15
      generalize upd _ l3 _ = H15
      intro hl4 r11 D15 k3 dP dE dF hp15
      have k4 := its_app k3 (its_cons (i := .wait (.num 5)) ⟨.tup (SqT.of r11) (.cons (.str _) (.cons (.int 5) .nil)), trivial, (by decide : Lk.deep (.num 5) ≤ 6), trivial, (by decide : inB 5 = true), trivial, ((NcA.cons (nc_cN (z := "wait") (by decide +kernel) (by decide +kernel)) (NcA.cons ((nc_int (i := 5) (by decide)).le (by decide) (Nat.le_refl _)) (NcA.nil (b := 0)))).tup).le (by decide) (by decide)⟩ its_nil)
      clear k3 r11
      refine ⟨_, rfl, _, rfl, _, rfl, l3, _, rfl, .inl (SqL.of hl4), a, c, _, 8, rfl, D15, by omega, by decide, by decide, fun r H16 r0 r1 s16 D16 => ?_⟩
      obtain ⟨jj, rfl⟩ : ∃ jj : Nat, r = (jj : Int) := ⟨r.toNat, by omega⟩
      obtain ⟨v, hv⟩ : ∃ v, (([V.ref t1, .ref t2, .ref t4, .ref t5] ++ [.ref t6, .ref t8, .ref t10]) ++ [.ref t11])[jj]? = some v := ⟨_, List.getElem?_eq_getElem (show jj < 8 by omega)⟩
      obtain ⟨it, dI, gi, o6', oP, oW, oI, nI⟩ := k4 jj v hv
      have hl16 := s16 _ _ l3n hl4
      refine ⟨l3, _, _, _, rfl, rfl, SqL.of hl16, atI_nat hv, z1, fun t12 n12 => ⟨z2, fun R nR => ?_⟩⟩
      have y12 := same_upd (o := .tup [.str "hide"]) n12
      have y13 := same_upd (o := .tup [v, .ref t12]) nR
      have YY := y12.trans y13
      have rH := rmL_same (as := [a, c]) y13 _ _ (rmL_new (o := .tup [.str "hide"]) D16.in_ n12)
      have rR := rmL_new (o := .tup [v, .ref t12]) (D16.same y12).in_ nR
      have M := (rmL_but s16).trans (rmL_same (as := [a, c]) YY)
      have D17 := D16.same YY
      replace dP := dp_same M _ _ dP
      replace dE := dp_same M _ _ dE
      replace dF := dp_same M _ _ dF
      replace dI := dp_same M _ _ dI
      have hp17 := M _ _ hp15
      clear M YY y12 y13 hp15 D15 D16 hl16 hl4 k4
      revert rH rR D17 dP dE dF dI hp17
      generalize upd _ R _ = H17
      intro rH rR D17 dP dE dF dI hp17
      dsimp only [gName, List.set]
      have dR : Dp K (rmL [a, c] H17) (.ref R) (.tuple (itD it :: [.tuple [.str "hide"]])) := .tup (SqT.of rR) (.cons dI (.cons (.tup (SqT.of rH) (.cons (.str _) .nil)) .nil))
      have nR' : Nc 20 100000 (.tuple (itD it :: [.tuple [.str "hide"]])) := ((NcA.cons nI (NcA.cons nc_hide (NcA.nil (b := 0)))).tup).le (by decide) (by decide)
      have f2 : ∀ f ∈ fs, f.2.length ≤ 900 := fun f hf => by have := (oF f hf).l; omega
      have un : ∀ its fs' g, unroll Y fs (pcs1 x0 x1 x2) it = .ok (its, fs', g) → its.length ≤ 900 ∧ (∀ d ∈ its, OkD 20 d) ∧ fs'.length ≤ 13 ∧ ∀ f ∈ fs', f.2.length ≤ 900 := fun its fs' g h => okF_fs gi o6' oP h f2 (by omega)
      have F17 := rmL_sub (as := [a, c]) (H := H17)
      have nF := nc_fr oF (by omega)
      refine ⟨_, rfl, _, rfl, _, rfl, _, rfl, .ref R, vf, e, .ref ap, it, [.tuple [.str "hide"]], Y, fs, pcs1 x0 x1 x2, ws, x3, rfl, gi, dp_same F17 _ _ dR, nR', by show 1 ≤ 100; decide, o6', oP, oW, oI, dp_same F17 _ _ dF, oF, by omega, dp_same F17 _ _ dE, oE, hnm, hrow, dp_same F17 _ _ dP, nP, fun its fs' g h => (un its fs' g h).1, ?_, fun H18 s18 => ⟨_, rfl, iteF ?_⟩⟩
      · refine okd_un ⟨by show 1 ≤ 100; decide, fun d hd => by rw [List.mem_singleton.mp hd]; exact okd_le nc_hide.o (by decide)⟩ fun its fs' g h => ?_
        obtain ⟨u1, u2, u3, u4⟩ := un its fs' g h
        exact ⟨u1, u2, okd_le (okd_frD (by omega) u4) (by decide)⟩
      have F18 := F17.trans s18
      have M18 := rmL_same (as := [a, c]) s18
      obtain ⟨e', ee, hEy⟩ := ey_sd oE.s4 (sd_same F18 _ _ (sd_dp _ _ dE))
      cases ee
      refine ⟨_, rfl, _, rfl, _, rfl, _, rfl, .ref R, vf, e, .ref ap, it, [.tuple [.str "hide"]], Y, fs, pcs1 x0 x1 x2, _, _, rfl, gi, dp_same F18 _ _ dR, nR'.t, okd_le nR'.o (by decide), by show 1 ≤ 100; decide, dp_same F18 _ _ dF, nF.t, okd_le nF.o (by decide), by omega, hEy, dp_same F18 _ _ dP, nP.t, okd_le nP.o (by decide), o6', oP, ⟨ws, oW⟩, fun its fs' g h => (un its fs' g h).1, fun H19 s19 => ⟨_, rfl, iteF ?_⟩⟩
      have M19 := M18.trans (rmL_same (as := [a, c]) s19)
      exact ⟨((D17.same s18).same s19).le (by omega), M19 _ _ hp17, dp_same M19 _ _ dP, dp_same M19 _ _ dE, _, _, _, _, _, _, _, _, _, _, rfl⟩
    · clear D2 D3 D4 D5 hp hp4 hp5 dP dE
      rintro σ H6 ⟨D6, hp6, dP, dE, o2, o4, o7, o8, o9, o10, o11, o12, o13, o14, rfl⟩
      exact ⟨D6.le (by omega), _, _, _, _, _, _, _, _, _, _, _, _, _, rfl⟩
  · rintro σ H2 ⟨D2, o2, o3, o4, o5, o6, o7, o8, o9, o10, o11, o12, o13, o14, rfl⟩
    exact q _
end
end Fd

set_option Elab.async false
set_option linter.all false
set_option maxRecDepth 100000
set_option maxHeartbeats 4000000
namespace Fd
open PySem PySem.Spec PyProof.Rows L2
section
variable {P : Program} {w : World} {K : PySem.W.Frag} {mg : Str → Option Value} {base : Heap}
/-- the tracked heap at the law's entry: nothing, or the script alone -/
structure Entry (P : Program) (w : World) (K : PySem.W.Frag) (a : Addr) (h : Heap) (H : Hp) : Prop where
  only : Only H
  ok : HOk P w H h
  one : ∀ b, H b ≠ none → b = a
  free : H a ≠ none → K.lookup a = none
theorem Entry.none_of {a b : Addr} {h : Heap} {H : Hp} {o : Obj} (e : Entry P w K a h H) (hb : K.lookup b = some o) : H b = none := by
  cases z : H b with
  | none => rfl
  | some u =>
    have n : H b ≠ none := by rw [z]; exact nofun
    obtain rfl := e.one b n
    rw [e.free n] at hb
    cases hb
theorem Entry.dict {a b : Addr} {h : Heap} {H : Hp} {vs : Array Value} {o : Obj} {es : Array DictEntry} {ep n : Nat} (e : Entry P w K a h H) (ha : h.get? a = some { cls := .type "list", data := .seq vs n }) (hb : h.get? b = some o) (hd : o.data = .dict es ep) : H b = none := by
  cases z : H b with
  | none => rfl
  | some u =>
    obtain rfl := e.one b (by rw [z]; exact nofun)
    rw [ha] at hb
    cases hb
    cases hd
theorem entry_of {a : Addr} {h : Heap} {vs : List Value} {ns : List Int} (KX : K.In h) (ha : h.get? a = some { cls := .type "list", data := .seq vs.toArray }) (hi : IntsAre vs ns) (hl : ns.length ≤ sizeLine) : ∃ H, Entry P w K a h H ∧ SqL K H a (ns.map V.int) := by
  cases hk : K.lookup a with
  | some o =>
    have e := KX a o hk
    rw [ha] at e
    cases e
    exact ⟨fun _ => none, ⟨fun _ => .inl rfl, fun b u z => (nomatch (show (none : Option HO) = some u from z)), fun b z => absurd rfl z, fun z => absurd rfl z⟩,
      .inr ⟨_, vs.toArray, _, hk, rfl, rfl, rfl, by rw [List.size_toArray, hi.length]; exact hl, by simpa using vals_ints hi⟩⟩
  | none =>
    let o : HO := .frz { cls := .type "list", data := .seq vs.toArray } (.lst (ns.map V.int))
    have u1 : upd (fun _ => none) a o a = some o := upd_same
    have un : ∀ {b}, b ≠ a → upd (fun _ => none) a o b = none := fun n => upd_ne n
    refine ⟨upd (fun _ => none) a o, ⟨fun b => ?_, fun b u z => ?_, fun b n => ?_, fun _ => hk⟩, .inl (.inr ⟨_, u1⟩)⟩
    · by_cases e : b = a
      · subst e; exact .inr ⟨_, _, u1⟩
      · exact .inl (un e)
    · by_cases e : b = a
      · subst e
        rw [u1] at z
        cases z
        exact ⟨ha, by rw [List.length_map]; exact hl, vs, _, vals_ints hi, ha⟩
      · rw [un e] at z; cases z
    · exact Classical.byContradiction fun e => n (un e)
theorem law_at {mb : Str → Option Value} {k : Nat} {fa a : Addr} {fd : FuncData} {x : Str} {st : Stmt} {N : List Str} {nm : Str} {s₁ : Shared} {vs : List Value} {ns : List Int} (F : Fun K nm nm st fa fd) (S : FnScope N [x] (defScope st))
    (KX : K.In s₁.heap) (hns : s₁.heap.Ns mainGlobals mg) (hb : s₁.heap.Ns builtinsNs mb) (hbb : ∀ x : Str, x ≠ "__name__" → mb x = bootBuiltins x) (hlim : s₁.heap.NoLimit) (hg : s₁.gens = #[])
    (ha : s₁.heap.get? a = some { cls := .type "list", data := .seq vs.toArray }) (hi : IntsAre vs ns) (hl : ns.length ≤ sizeLine) (hr : Room (k + 1) callerA) (hbind : ∀ (s : Shared) (u : Value), BindsTo s fd ⟨[u], []⟩ [(x, u)])
    (body : ∀ (base : Heap) (cdv : Value) (H : Hp), K.In base → base.Ns mainGlobals mg → SqL K H a (ns.map V.int) → Room k (callerA.deeper (envOfC nm (defScope st) s₁.heap.objs.size fa cdv)) →
      ∃ t, PSs (cxOf CX0 P w K mg base N nm (defScope st) fa cdv callerA [] s₁ H fun _ _ _ => False).nox (defBody st) t ∧ t { nx := fun _ _ => V.non = .bl true, rt := fun v _ => v = .bl true } (L2.start N [.ref a]) H) :
    codeAny (model P w) callerA (.call (.ref fa) ⟨[.ref a], []⟩) (fun r s' => r = .ok (.ret (.bool true)) ∧ OldK s₁.heap s'.heap ∧ s'.os = s₁.os ∧ AllBare s'.gens) s₁ := by
  obtain ⟨H, en, hS⟩ := entry_of (P := P) (w := w) KX ha hi hl
  have kb : K.In (hidT s₁.heap H) := fun b o e => hidT_get (KX b o e) (en.none_of e)
  have nb : ∀ {b : Addr} {m : Str → Option Value}, s₁.heap.Ns b m → (hidT s₁.heap H).Ns b m := fun ⟨o, es, ep, e, d, r⟩ => ⟨o, es, ep, hidT_get e (en.dict ha e d), d, r⟩
  have lim : (hidT s₁.heap H).NoLimit := by
    obtain ⟨mc, h1, h2⟩ := hlim
    exact ⟨mc, nb h1, h2⟩
  have e0 : Env0 P w K mg (hidT s₁.heap H) callerA [] s₁ H := ⟨rfl, ⟨kb, nb hns, ⟨mb, nb hb, hbb⟩, lim⟩, fun b o e => of_hidT e, Nat.le_of_eq (hidT_size _ _), trivial, fun b hb => absurd (show b ∈ ([] : List Addr) from hb) (by simp), en.ok, .of_eq hg⟩
  refine codeAny_mono (enter (vs := [.ref a]) (us := [.ref a]) (Q := fun v _ => v = .bl true) (E := fun _ _ _ => False) F S rfl hr e0 (hbind s₁ (.ref a)) (.cons rfl .nil) fun cdv hr' => body _ cdv H kb (nb hns) hS hr') fun r s' h => ?_
  cases r with
  | error e => exact h.elim
  | ok fl =>
    cases fl with
    | ret u =>
      obtain ⟨v, H', os, bare, un, ok', rv, q⟩ := h
      obtain rfl : v = .bl true := q
      obtain rfl : u = Value.bool true := rv
      refine ⟨rfl, OldK.of_keep fun b o e => ?_, os, bare⟩
      rcases en.only b with z | ⟨ob, xs, z⟩
      · exact un.keep b o e z (fun y => absurd (show b ∈ ([] : List Addr) from y) (by simp)) (by simp)
      · obtain ⟨e1, _⟩ := en.ok b _ z
        obtain ⟨e2, _⟩ := ok' b _ (un.frzs b ob _ z)
        rw [e] at e1
        cases e1
        exact e2
    | next => exact h.elim
    | brk => exact h.elim
    | cont => exact h.elim
end
theorem walk_at {l : PySem.W.OpenLaw} {n : Nat} {q : Program} {loose : List Str} {XP : (Str → Option Value) → Heap → Prop} {YP : World → Heap → Prop} {d : DefRec} {K : Params → PySem.W.Frag} (hn : l.most = some n) (hn2 : n ≤ 63) (hdf : d.params.defaults = [])
    (hY : ∀ (w : World) (h : Heap), YP w h → (K w.params).In h) (hd : d.name = "law")
    (F : ∀ (w : World) (mg : Str → Option Value) (fa : Addr) (h : Heap), (K w.params).In h → h.Ns mainGlobals mg → mg "law" = some (.ref fa) →
      ∃ fd : FuncData, Fun (K w.params) "law" "law" sLaw fa fd ∧ (∀ (s : Shared) (v : Value), BindsTo s fd ⟨[v], []⟩ [("_law_script", v)]) ∧ ∃ C fv : Addr, ∀ base : Heap, (K w.params).In base → base.Ns mainGlobals mg → LawD l.prog w (K w.params) mg base C fv 33) :
    PySem.W.WalkO q loose XP YP l.row.toRowW d [] (fun f vs => PySem.call f vs) := by
  refine Att.attach_call hn hdf fun w s₀ s₁ mg mb fa o pm cd doc a vs ns G Y ho hd' hcd hmg hobj hints hlen hg => ?_
  rw [hd] at hmg
  obtain ⟨fd, hF, hb, C, fv, hL⟩ := F w mg fa _ (hY w _ Y) G.T.g hmg
  exact law_at (k := 33) (x := "_law_script") hF scLaw (hY w _ Y) G.T.g G.T.b G.T.builtins G.T.nolimit hg hobj hints (Nat.le_trans (Nat.le_trans hlen hn2) (by decide)) ⟨rfl, by decide, by decide⟩ hb
    fun base cdv H kb nb hS hr => law_body (hL base kb nb) cdv callerA [] s₁ H [.ref a] (fun v _ => v = .bl true) (fun _ _ _ => False) rfl hr ⟨a, ns, rfl, hS, Nat.le_trans hlen hn2, fun _ => rfl⟩
end Fd

open PySem PySem.W PyProof.Rows
set_option Elab.async false
set_option linter.all false
set_option maxRecDepth 100000
set_option maxHeartbeats 8000000
namespace Fd
open PySem PySem.Spec PyProof.Rows L2
theorem kit_rt {K : PySem.W.Frag} {C : Addr} (h : PySem.W.subIn K (.ref C) (.type "RuntimeError") = some true) : PySem.W.kitOne K (.ref C) (.type "RuntimeError") = some true := by
  unfold PySem.W.kitOne
  rw [if_neg (by intro z; exact nomatch (beq_iff_eq.mp z))]
  show (if PySem.W.kitMeta "RuntimeError" = true then PySem.W.subIn K (.ref C) (.type "RuntimeError") else none) = some true
  rw [if_pos (by decide +kernel), h]
def pick (a b c d e : Addr) : BOp → Addr
  | .plus => a | .minus => b | .by_ => c | .over => d | .rest => e
def pickC (g0 g1 g2 g3 g4 g5 g6 g7 g8 : Addr) (z : Str) : Addr := if z = "wait" then g0 else if z = "until" then g1 else if z = "if" then g2 else if z = "times" then g3 else if z = "while" then g4 else if z = "ever" then g5 else if z = "round" then g6 else if z = "do" then g7 else g8
theorem pickC_wait {g0 g1 g2 g3 g4 g5 g6 g7 g8 : Addr} : pickC g0 g1 g2 g3 g4 g5 g6 g7 g8 "wait" = g0 := by
  unfold pickC
  rw [if_pos rfl]
theorem pickC_until {g0 g1 g2 g3 g4 g5 g6 g7 g8 : Addr} : pickC g0 g1 g2 g3 g4 g5 g6 g7 g8 "until" = g1 := by
  unfold pickC
  rw [if_neg (by decide +kernel), if_pos rfl]
theorem pickC_if {g0 g1 g2 g3 g4 g5 g6 g7 g8 : Addr} : pickC g0 g1 g2 g3 g4 g5 g6 g7 g8 "if" = g2 := by
  unfold pickC
  rw [if_neg (by decide +kernel), if_neg (by decide +kernel), if_pos rfl]
theorem pickC_times {g0 g1 g2 g3 g4 g5 g6 g7 g8 : Addr} : pickC g0 g1 g2 g3 g4 g5 g6 g7 g8 "times" = g3 := by
  unfold pickC
  rw [if_neg (by decide +kernel), if_neg (by decide +kernel), if_neg (by decide +kernel), if_pos rfl]
theorem pickC_while {g0 g1 g2 g3 g4 g5 g6 g7 g8 : Addr} : pickC g0 g1 g2 g3 g4 g5 g6 g7 g8 "while" = g4 := by
  unfold pickC
  rw [if_neg (by decide +kernel), if_neg (by decide +kernel), if_neg (by decide +kernel), if_neg (by decide +kernel), if_pos rfl]
theorem pickC_ever {g0 g1 g2 g3 g4 g5 g6 g7 g8 : Addr} : pickC g0 g1 g2 g3 g4 g5 g6 g7 g8 "ever" = g5 := by
  unfold pickC
  rw [if_neg (by decide +kernel), if_neg (by decide +kernel), if_neg (by decide +kernel), if_neg (by decide +kernel), if_neg (by decide +kernel), if_pos rfl]
theorem pickC_round {g0 g1 g2 g3 g4 g5 g6 g7 g8 : Addr} : pickC g0 g1 g2 g3 g4 g5 g6 g7 g8 "round" = g6 := by
  unfold pickC
  rw [if_neg (by decide +kernel), if_neg (by decide +kernel), if_neg (by decide +kernel), if_neg (by decide +kernel), if_neg (by decide +kernel), if_neg (by decide +kernel), if_pos rfl]
theorem pickC_do {g0 g1 g2 g3 g4 g5 g6 g7 g8 : Addr} : pickC g0 g1 g2 g3 g4 g5 g6 g7 g8 "do" = g7 := by
  unfold pickC
  rw [if_neg (by decide +kernel), if_neg (by decide +kernel), if_neg (by decide +kernel), if_neg (by decide +kernel), if_neg (by decide +kernel), if_neg (by decide +kernel), if_neg (by decide +kernel), if_pos rfl]
theorem pickC_out {g0 g1 g2 g3 g4 g5 g6 g7 g8 : Addr} : pickC g0 g1 g2 g3 g4 g5 g6 g7 g8 "out" = g8 := by
  unfold pickC
  rw [if_neg (by decide +kernel), if_neg (by decide +kernel), if_neg (by decide +kernel), if_neg (by decide +kernel), if_neg (by decide +kernel), if_neg (by decide +kernel), if_neg (by decide +kernel), if_neg (by decide +kernel)]
theorem all_mk {l : PySem.W.OpenLaw} {w : World} {K : PySem.W.Frag} {h : Heap} {mg : Str → Option Value} {fa C fI sp sm f1 f2 f3 f4 f5 f6 f7 f8 f9 f10 f11 f12 f13 f14 f15 f16 f17 f18 f19 f20 f21 f22 f23 f24 f25 f26 f27 f28 f29 f30 f31 f32 f33 f34 f35 f36 f37 f38 f39 f40 f41 f42 f43 f44 f45 f46 f47 f48 f49 f50 c_BadLine c_BadPlay c_NoOne c_NotOpen c_NoTurn c_Open c_TooMany cm g5 g6 g8 : Addr} (X : K.In h) (G : h.Ns mainGlobals mg) (hfa : mg "law" = some (.ref fa))
    {od0 an0 od1 an1 od2 an2 od3 an3 od4 an4 od5 an5 od6 an6 od7 an7 od8 an8 od9 an9 od10 an10 od11 an11 od12 an12 od13 an13 od14 an14 od15 an15 od16 an16 od17 an17 od18 an18 od19 an19 od20 an20 od21 an21 od22 an22 od23 an23 od24 an24 od25 an25 od26 an26 od27 an27 od28 an28 od29 an29 od30 an30 od31 an31 od32 an32 od33 an33 od34 an34 od35 an35 od36 an36 od37 an37 od38 an38 od39 an39 od40 an40 od41 an41 od42 an42 od43 an43 od44 an44 od45 an45 od46 an46 od47 an47 od48 an48 od49 an49 od50 an50 : Option Addr} {sl0 sl1 sl2 sl3 sl4 sl5 sl6 sl7 sl8 sl9 sl10 sl11 sl12 sl13 sl14 sl15 sl16 sl17 sl18 sl19 sl20 sl21 sl22 sl23 sl24 sl25 sl26 sl27 sl28 sl29 sl30 sl31 sl32 sl33 sl34 sl35 sl36 sl37 sl38 sl39 sl40 sl41 sl42 sl43 sl44 sl45 sl46 sl47 sl48 sl49 sl50 slP : Array (Option Value)} {oc0 dc0 pm0 cd0 ct0 oc1 kV1 dc1 pm1 cd1 ct1 oc2 kV2 dc2 pm2 cd2 ct2 oc3 kV3 dc3 pm3 cd3 ct3 oc4 kV4 dc4 pm4 cd4 ct4 oc5 kV5 dc5 pm5 cd5 ct5 oc6 kV6 dc6 pm6 cd6 ct6 oc7 kV7 dc7 pm7 cd7 ct7 oc8 kV8 dc8 pm8 cd8 ct8 oc9 kV9 dc9 pm9 cd9 ct9 oc10 kV10 dc10 pm10 cd10 ct10 oc11 kV11 dc11 pm11 cd11 ct11 oc12 kV12 dc12 pm12 cd12 ct12 oc13 kV13 dc13 pm13 cd13 ct13 oc14 kV14 dc14 pm14 cd14 ct14 oc15 kV15 dc15 pm15 cd15 ct15 oc16 kV16 dc16 pm16 cd16 ct16 oc17 kV17 dc17 pm17 cd17 ct17 oc18 kV18 dc18 pm18 cd18 ct18 oc19 kV19 dc19 pm19 cd19 ct19 oc20 kV20 dc20 pm20 cd20 ct20 oc21 kV21 dc21 pm21 cd21 ct21 oc22 kV22 dc22 pm22 cd22 ct22 oc23 kV23 dc23 pm23 cd23 ct23 oc24 kV24 dc24 pm24 cd24 ct24 oc25 kV25 dc25 pm25 cd25 ct25 oc26 kV26 dc26 pm26 cd26 ct26 oc27 kV27 dc27 pm27 cd27 ct27 oc28 kV28 dc28 pm28 cd28 ct28 oc29 kV29 dc29 pm29 cd29 ct29 oc30 kV30 dc30 pm30 cd30 ct30 oc31 kV31 dc31 pm31 cd31 ct31 oc32 kV32 dc32 pm32 cd32 ct32 oc33 kV33 dc33 pm33 cd33 ct33 oc34 kV34 dc34 pm34 cd34 ct34 oc35 kV35 dc35 pm35 cd35 ct35 oc36 kV36 dc36 pm36 cd36 ct36 oc37 kV37 dc37 pm37 cd37 ct37 oc38 kV38 dc38 pm38 cd38 ct38 oc39 kV39 dc39 pm39 cd39 ct39 oc40 kV40 dc40 pm40 cd40 ct40 oc41 kV41 dc41 pm41 cd41 ct41 oc42 kV42 dc42 pm42 cd42 ct42 oc43 kV43 dc43 pm43 cd43 ct43 oc44 kV44 dc44 pm44 cd44 ct44 oc45 kV45 dc45 pm45 cd45 ct45 oc46 kV46 dc46 pm46 cd46 ct46 oc47 kV47 dc47 pm47 cd47 ct47 oc48 kV48 dc48 pm48 cd48 ct48 oc49 kV49 dc49 pm49 cd49 ct49 oc50 kV50 dc50 pm50 cd50 ct50 : Value}
    {nm q : Str} {N : Addr} {bs : List Value} {sn : List Str} {sub : List Value} {ab : Bool} {col : Option Bool} {dd : Option Addr} {m0 m1 m2 m3 m5 : Option Value} {es esC : Array DictEntry} {nS nP nC : Nat} {its : Array Value} {t1 t2 tI0 : Tok}
    (a1 : PySem.W.nsIn K mainGlobals "is_number" = some (some (.ref f1)))
    (l1 : K.lookup f1 = some ⟨oc1, od1, .func (PySem.W.fnOf "is_number" "is_number" (defArgs sIsNum) (defBody sIsNum) (defScope sIsNum) .none kV1 dc1 pm1 an1 cd1 ct1), sl1⟩)
    (c1 : PySem.W.codeIn K cd1 "is_number" = true)
    (k1 : PySem.W.keepIn K (.ref f1) = true)
    (a2 : PySem.W.nsIn K mainGlobals "is_value" = some (some (.ref f2)))
    (l2 : K.lookup f2 = some ⟨oc2, od2, .func (PySem.W.fnOf "is_value" "is_value" (defArgs sIsVal) (defBody sIsVal) (defScope sIsVal) .none kV2 dc2 pm2 an2 cd2 ct2), sl2⟩)
    (c2 : PySem.W.codeIn K cd2 "is_value" = true)
    (k2 : PySem.W.keepIn K (.ref f2) = true)
    (a3 : PySem.W.nsIn K mainGlobals "plus" = some (some (.ref f3)))
    (l3 : K.lookup f3 = some ⟨oc3, od3, .func (PySem.W.fnOf "plus" "plus" (defArgs sPlus) (defBody sPlus) (defScope sPlus) .none kV3 dc3 pm3 an3 cd3 ct3), sl3⟩)
    (c3 : PySem.W.codeIn K cd3 "plus" = true)
    (k3 : PySem.W.keepIn K (.ref f3) = true)
    (a4 : PySem.W.nsIn K mainGlobals "minus" = some (some (.ref f4)))
    (l4 : K.lookup f4 = some ⟨oc4, od4, .func (PySem.W.fnOf "minus" "minus" (defArgs sMinus) (defBody sMinus) (defScope sMinus) .none kV4 dc4 pm4 an4 cd4 ct4), sl4⟩)
    (c4 : PySem.W.codeIn K cd4 "minus" = true)
    (k4 : PySem.W.keepIn K (.ref f4) = true)
    (a5 : PySem.W.nsIn K mainGlobals "by" = some (some (.ref f5)))
    (l5 : K.lookup f5 = some ⟨oc5, od5, .func (PySem.W.fnOf "by" "by" (defArgs sBy) (defBody sBy) (defScope sBy) .none kV5 dc5 pm5 an5 cd5 ct5), sl5⟩)
    (c5 : PySem.W.codeIn K cd5 "by" = true)
    (k5 : PySem.W.keepIn K (.ref f5) = true)
    (a6 : PySem.W.nsIn K mainGlobals "over" = some (some (.ref f6)))
    (l6 : K.lookup f6 = some ⟨oc6, od6, .func (PySem.W.fnOf "over" "over" (defArgs sOver) (defBody sOver) (defScope sOver) .none kV6 dc6 pm6 an6 cd6 ct6), sl6⟩)
    (c6 : PySem.W.codeIn K cd6 "over" = true)
    (k6 : PySem.W.keepIn K (.ref f6) = true)
    (a7 : PySem.W.nsIn K mainGlobals "rest" = some (some (.ref f7)))
    (l7 : K.lookup f7 = some ⟨oc7, od7, .func (PySem.W.fnOf "rest" "rest" (defArgs sRest) (defBody sRest) (defScope sRest) .none kV7 dc7 pm7 an7 cd7 ct7), sl7⟩)
    (c7 : PySem.W.codeIn K cd7 "rest" = true)
    (k7 : PySem.W.keepIn K (.ref f7) = true)
    (a8 : PySem.W.nsIn K mainGlobals "value_of" = some (some (.ref f8)))
    (l8 : K.lookup f8 = some ⟨oc8, od8, .func (PySem.W.fnOf "value_of" "value_of" (defArgs sVal) (defBody sVal) (defScope sVal) .none kV8 dc8 pm8 an8 cd8 ct8), sl8⟩)
    (c8 : PySem.W.codeIn K cd8 "value_of" = true)
    (k8 : PySem.W.keepIn K (.ref f8) = true)
    (a9 : PySem.W.nsIn K mainGlobals "outcome" = some (some (.ref f9)))
    (l9 : K.lookup f9 = some ⟨oc9, od9, .func (PySem.W.fnOf "outcome" "outcome" (defArgs sOut) (defBody sOut) (defScope sOut) .none kV9 dc9 pm9 an9 cd9 ct9), sl9⟩)
    (c9 : PySem.W.codeIn K cd9 "outcome" = true)
    (k9 : PySem.W.keepIn K (.ref f9) = true)
    (a10 : PySem.W.nsIn K mainGlobals "first_of" = some (some (.ref f10)))
    (l10 : K.lookup f10 = some ⟨oc10, od10, .func (PySem.W.fnOf "first_of" "first_of" (defArgs sFirst) (defBody sFirst) (defScope sFirst) .none kV10 dc10 pm10 an10 cd10 ct10), sl10⟩)
    (c10 : PySem.W.codeIn K cd10 "first_of" = true)
    (k10 : PySem.W.keepIn K (.ref f10) = true)
    (a11 : PySem.W.nsIn K mainGlobals "place_in" = some (some (.ref f11)))
    (l11 : K.lookup f11 = some ⟨oc11, od11, .func (PySem.W.fnOf "place_in" "place_in" (defArgs sPlace) (defBody sPlace) (defScope sPlace) .none kV11 dc11 pm11 an11 cd11 ct11), sl11⟩)
    (c11 : PySem.W.codeIn K cd11 "place_in" = true)
    (k11 : PySem.W.keepIn K (.ref f11) = true)
    (a12 : PySem.W.nsIn K mainGlobals "holds" = some (some (.ref f12)))
    (l12 : K.lookup f12 = some ⟨oc12, od12, .func (PySem.W.fnOf "holds" "holds" (defArgs sHolds) (defBody sHolds) (defScope sHolds) .none kV12 dc12 pm12 an12 cd12 ct12), sl12⟩)
    (c12 : PySem.W.codeIn K cd12 "holds" = true)
    (k12 : PySem.W.keepIn K (.ref f12) = true)
    (a13 : PySem.W.nsIn K mainGlobals "tupled" = some (some (.ref f13)))
    (l13 : K.lookup f13 = some ⟨oc13, od13, .func (PySem.W.fnOf "tupled" "tupled" (defArgs sTupled) (defBody sTupled) (defScope sTupled) .none kV13 dc13 pm13 an13 cd13 ct13), sl13⟩)
    (c13 : PySem.W.codeIn K cd13 "tupled" = true)
    (k13 : PySem.W.keepIn K (.ref f13) = true)
    (a14 : PySem.W.nsIn K mainGlobals "is_closed" = some (some (.ref f14)))
    (l14 : K.lookup f14 = some ⟨oc14, od14, .func (PySem.W.fnOf "is_closed" "is_closed" (defArgs sIsClosed) (defBody sIsClosed) (defScope sIsClosed) .none kV14 dc14 pm14 an14 cd14 ct14), sl14⟩)
    (c14 : PySem.W.codeIn K cd14 "is_closed" = true)
    (k14 : PySem.W.keepIn K (.ref f14) = true)
    (a15 : PySem.W.nsIn K mainGlobals "refuse_closed" = some (some (.ref f15)))
    (l15 : K.lookup f15 = some ⟨oc15, od15, .func (PySem.W.fnOf "refuse_closed" "refuse_closed" (defArgs sRefuse) (defBody sRefuse) (defScope sRefuse) .none kV15 dc15 pm15 an15 cd15 ct15), sl15⟩)
    (c15 : PySem.W.codeIn K cd15 "refuse_closed" = true)
    (k15 : PySem.W.keepIn K (.ref f15) = true)
    (a16 : PySem.W.nsIn K mainGlobals "by_wait" = some (some (.ref f16)))
    (l16 : K.lookup f16 = some ⟨oc16, od16, .func (PySem.W.fnOf "by_wait" "by_wait" (defArgs sByWait) (defBody sByWait) (defScope sByWait) .none kV16 dc16 pm16 an16 cd16 ct16), sl16⟩)
    (c16 : PySem.W.codeIn K cd16 "by_wait" = true)
    (k16 : PySem.W.keepIn K (.ref f16) = true)
    (a17 : PySem.W.nsIn K mainGlobals "by_until" = some (some (.ref f17)))
    (l17 : K.lookup f17 = some ⟨oc17, od17, .func (PySem.W.fnOf "by_until" "by_until" (defArgs sByUntil) (defBody sByUntil) (defScope sByUntil) .none kV17 dc17 pm17 an17 cd17 ct17), sl17⟩)
    (c17 : PySem.W.codeIn K cd17 "by_until" = true)
    (k17 : PySem.W.keepIn K (.ref f17) = true)
    (a18 : PySem.W.nsIn K mainGlobals "by_if" = some (some (.ref f18)))
    (l18 : K.lookup f18 = some ⟨oc18, od18, .func (PySem.W.fnOf "by_if" "by_if" (defArgs sByIf) (defBody sByIf) (defScope sByIf) .none kV18 dc18 pm18 an18 cd18 ct18), sl18⟩)
    (c18 : PySem.W.codeIn K cd18 "by_if" = true)
    (k18 : PySem.W.keepIn K (.ref f18) = true)
    (a19 : PySem.W.nsIn K mainGlobals "by_times" = some (some (.ref f19)))
    (l19 : K.lookup f19 = some ⟨oc19, od19, .func (PySem.W.fnOf "by_times" "by_times" (defArgs sByTimes) (defBody sByTimes) (defScope sByTimes) .none kV19 dc19 pm19 an19 cd19 ct19), sl19⟩)
    (c19 : PySem.W.codeIn K cd19 "by_times" = true)
    (k19 : PySem.W.keepIn K (.ref f19) = true)
    (a20 : PySem.W.nsIn K mainGlobals "by_while" = some (some (.ref f20)))
    (l20 : K.lookup f20 = some ⟨oc20, od20, .func (PySem.W.fnOf "by_while" "by_while" (defArgs sByWhile) (defBody sByWhile) (defScope sByWhile) .none kV20 dc20 pm20 an20 cd20 ct20), sl20⟩)
    (c20 : PySem.W.codeIn K cd20 "by_while" = true)
    (k20 : PySem.W.keepIn K (.ref f20) = true)
    (a21 : PySem.W.nsIn K mainGlobals "by_do" = some (some (.ref f21)))
    (l21 : K.lookup f21 = some ⟨oc21, od21, .func (PySem.W.fnOf "by_do" "by_do" (defArgs sByDo) (defBody sByDo) (defScope sByDo) .none kV21 dc21 pm21 an21 cd21 ct21), sl21⟩)
    (c21 : PySem.W.codeIn K cd21 "by_do" = true)
    (k21 : PySem.W.keepIn K (.ref f21) = true)
    (a22 : PySem.W.nsIn K mainGlobals "piece_called" = some (some (.ref f22)))
    (l22 : K.lookup f22 = some ⟨oc22, od22, .func (PySem.W.fnOf "piece_called" "piece_called" (defArgs sPiece) (defBody sPiece) (defScope sPiece) .none kV22 dc22 pm22 an22 cd22 ct22), sl22⟩)
    (c22 : PySem.W.codeIn K cd22 "piece_called" = true)
    (k22 : PySem.W.keepIn K (.ref f22) = true)
    (a23 : PySem.W.nsIn K mainGlobals "led_on" = some (some (.ref f23)))
    (l23 : K.lookup f23 = some ⟨oc23, od23, .func (PySem.W.fnOf "led_on" "led_on" (defArgs sLed) (defBody sLed) (defScope sLed) .none kV23 dc23 pm23 an23 cd23 ct23), sl23⟩)
    (c23 : PySem.W.codeIn K cd23 "led_on" = true)
    (k23 : PySem.W.keepIn K (.ref f23) = true)
    (a24 : PySem.W.nsIn K mainGlobals "unrolled" = some (some (.ref f24)))
    (l24 : K.lookup f24 = some ⟨oc24, od24, .func (PySem.W.fnOf "unrolled" "unrolled" (defArgs sUnr) (defBody sUnr) (defScope sUnr) .none kV24 dc24 pm24 an24 cd24 ct24), sl24⟩)
    (c24 : PySem.W.codeIn K cd24 "unrolled" = true)
    (k24 : PySem.W.keepIn K (.ref f24) = true)
    (a25 : PySem.W.nsIn K mainGlobals "_law_begin" = some (some (.ref f25)))
    (l25 : K.lookup f25 = some ⟨oc25, od25, .func (PySem.W.fnOf "_law_begin" "_law_begin" (defArgs sBegin) (defBody sBegin) (defScope sBegin) .none kV25 dc25 pm25 an25 cd25 ct25), sl25⟩)
    (c25 : PySem.W.codeIn K cd25 "_law_begin" = true)
    (k25 : PySem.W.keepIn K (.ref f25) = true)
    (a26 : PySem.W.nsIn K mainGlobals "_law_take" = some (some (.ref f26)))
    (l26 : K.lookup f26 = some ⟨oc26, od26, .func (PySem.W.fnOf "_law_take" "_law_take" (defArgs sTake) (defBody sTake) (defScope sTake) .none kV26 dc26 pm26 an26 cd26 ct26), sl26⟩)
    (c26 : PySem.W.codeIn K cd26 "_law_take" = true)
    (k26 : PySem.W.keepIn K (.ref f26) = true)
    (a27 : PySem.W.nsIn K mainGlobals "_law_names" = some (some (.ref f27)))
    (l27 : K.lookup f27 = some ⟨oc27, od27, .func (PySem.W.fnOf "_law_names" "_law_names" (defArgs sNames) (defBody sNames) (defScope sNames) .none kV27 dc27 pm27 an27 cd27 ct27), sl27⟩)
    (c27 : PySem.W.codeIn K cd27 "_law_names" = true)
    (k27 : PySem.W.keepIn K (.ref f27) = true)
    (a28 : PySem.W.nsIn K mainGlobals "_law_same" = some (some (.ref f28)))
    (l28 : K.lookup f28 = some ⟨oc28, od28, .func (PySem.W.fnOf "_law_same" "_law_same" (defArgs sSame) (defBody sSame) (defScope sSame) .none kV28 dc28 pm28 an28 cd28 ct28), sl28⟩)
    (c28 : PySem.W.codeIn K cd28 "_law_same" = true)
    (k28 : PySem.W.keepIn K (.ref f28) = true)
    (a29 : PySem.W.nsIn K mainGlobals "_law_value_by" = some (some (.ref f29)))
    (l29 : K.lookup f29 = some ⟨oc29, od29, .func (PySem.W.fnOf "_law_value_by" "_law_value_by" (defArgs sValue) (defBody sValue) (defScope sValue) .none kV29 dc29 pm29 an29 cd29 ct29), sl29⟩)
    (c29 : PySem.W.codeIn K cd29 "_law_value_by" = true)
    (k29 : PySem.W.keepIn K (.ref f29) = true)
    (a30 : PySem.W.nsIn K mainGlobals "_law_look_by" = some (some (.ref f30)))
    (l30 : K.lookup f30 = some ⟨oc30, od30, .func (PySem.W.fnOf "_law_look_by" "_law_look_by" (defArgs sLook) (defBody sLook) (defScope sLook) .none kV30 dc30 pm30 an30 cd30 ct30), sl30⟩)
    (c30 : PySem.W.codeIn K cd30 "_law_look_by" = true)
    (k30 : PySem.W.keepIn K (.ref f30) = true)
    (a31 : PySem.W.nsIn K mainGlobals "_law_test_by" = some (some (.ref f31)))
    (l31 : K.lookup f31 = some ⟨oc31, od31, .func (PySem.W.fnOf "_law_test_by" "_law_test_by" (defArgs sTest) (defBody sTest) (defScope sTest) .none kV31 dc31 pm31 an31 cd31 ct31), sl31⟩)
    (c31 : PySem.W.codeIn K cd31 "_law_test_by" = true)
    (k31 : PySem.W.keepIn K (.ref f31) = true)
    (a32 : PySem.W.nsIn K mainGlobals "_law_eyes_by" = some (some (.ref f32)))
    (l32 : K.lookup f32 = some ⟨oc32, od32, .func (PySem.W.fnOf "_law_eyes_by" "_law_eyes_by" (defArgs sEyes) (defBody sEyes) (defScope sEyes) .none kV32 dc32 pm32 an32 cd32 ct32), sl32⟩)
    (c32 : PySem.W.codeIn K cd32 "_law_eyes_by" = true)
    (k32 : PySem.W.keepIn K (.ref f32) = true)
    (a33 : PySem.W.nsIn K mainGlobals "_law_reckoned" = some (some (.ref f33)))
    (l33 : K.lookup f33 = some ⟨oc33, od33, .func (PySem.W.fnOf "_law_reckoned" "_law_reckoned" (defArgs sReck) (defBody sReck) (defScope sReck) .none kV33 dc33 pm33 an33 cd33 ct33), sl33⟩)
    (c33 : PySem.W.codeIn K cd33 "_law_reckoned" = true)
    (k33 : PySem.W.keepIn K (.ref f33) = true)
    (a34 : PySem.W.nsIn K mainGlobals "_law_valued" = some (some (.ref f34)))
    (l34 : K.lookup f34 = some ⟨oc34, od34, .func (PySem.W.fnOf "_law_valued" "_law_valued" (defArgs sValued) (defBody sValued) (defScope sValued) .none kV34 dc34 pm34 an34 cd34 ct34), sl34⟩)
    (c34 : PySem.W.codeIn K cd34 "_law_valued" = true)
    (k34 : PySem.W.keepIn K (.ref f34) = true)
    (a35 : PySem.W.nsIn K mainGlobals "_law_held" = some (some (.ref f35)))
    (l35 : K.lookup f35 = some ⟨oc35, od35, .func (PySem.W.fnOf "_law_held" "_law_held" (defArgs sHeld) (defBody sHeld) (defScope sHeld) .none kV35 dc35 pm35 an35 cd35 ct35), sl35⟩)
    (c35 : PySem.W.codeIn K cd35 "_law_held" = true)
    (k35 : PySem.W.keepIn K (.ref f35) = true)
    (a36 : PySem.W.nsIn K mainGlobals "_law_block_by" = some (some (.ref f36)))
    (l36 : K.lookup f36 = some ⟨oc36, od36, .func (PySem.W.fnOf "_law_block_by" "_law_block_by" (defArgs sBlock) (defBody sBlock) (defScope sBlock) .none kV36 dc36 pm36 an36 cd36 ct36), sl36⟩)
    (c36 : PySem.W.codeIn K cd36 "_law_block_by" = true)
    (k36 : PySem.W.keepIn K (.ref f36) = true)
    (a37 : PySem.W.nsIn K mainGlobals "_law_deed_by" = some (some (.ref f37)))
    (l37 : K.lookup f37 = some ⟨oc37, od37, .func (PySem.W.fnOf "_law_deed_by" "_law_deed_by" (defArgs sDeed) (defBody sDeed) (defScope sDeed) .none kV37 dc37 pm37 an37 cd37 ct37), sl37⟩)
    (c37 : PySem.W.codeIn K cd37 "_law_deed_by" = true)
    (k37 : PySem.W.keepIn K (.ref f37) = true)
    (a38 : PySem.W.nsIn K mainGlobals "_law_frames_by" = some (some (.ref f38)))
    (l38 : K.lookup f38 = some ⟨oc38, od38, .func (PySem.W.fnOf "_law_frames_by" "_law_frames_by" (defArgs sFrames) (defBody sFrames) (defScope sFrames) .none kV38 dc38 pm38 an38 cd38 ct38), sl38⟩)
    (c38 : PySem.W.codeIn K cd38 "_law_frames_by" = true)
    (k38 : PySem.W.keepIn K (.ref f38) = true)
    (a39 : PySem.W.nsIn K mainGlobals "_law_shut" = some (some (.ref f39)))
    (l39 : K.lookup f39 = some ⟨oc39, od39, .func (PySem.W.fnOf "_law_shut" "_law_shut" (defArgs sShut) (defBody sShut) (defScope sShut) .none kV39 dc39 pm39 an39 cd39 ct39), sl39⟩)
    (c39 : PySem.W.codeIn K cd39 "_law_shut" = true)
    (k39 : PySem.W.keepIn K (.ref f39) = true)
    (a40 : PySem.W.nsIn K mainGlobals "_law_looped" = some (some (.ref f40)))
    (l40 : K.lookup f40 = some ⟨oc40, od40, .func (PySem.W.fnOf "_law_looped" "_law_looped" (defArgs sLooped) (defBody sLooped) (defScope sLooped) .none kV40 dc40 pm40 an40 cd40 ct40), sl40⟩)
    (c40 : PySem.W.codeIn K cd40 "_law_looped" = true)
    (k40 : PySem.W.keepIn K (.ref f40) = true)
    (a41 : PySem.W.nsIn K mainGlobals "_law_given" = some (some (.ref f41)))
    (l41 : K.lookup f41 = some ⟨oc41, od41, .func (PySem.W.fnOf "_law_given" "_law_given" (defArgs sGiven) (defBody sGiven) (defScope sGiven) .none kV41 dc41 pm41 an41 cd41 ct41), sl41⟩)
    (c41 : PySem.W.codeIn K cd41 "_law_given" = true)
    (k41 : PySem.W.keepIn K (.ref f41) = true)
    (a42 : PySem.W.nsIn K mainGlobals "_law_entered" = some (some (.ref f42)))
    (l42 : K.lookup f42 = some ⟨oc42, od42, .func (PySem.W.fnOf "_law_entered" "_law_entered" (defArgs sEntered) (defBody sEntered) (defScope sEntered) .none kV42 dc42 pm42 an42 cd42 ct42), sl42⟩)
    (c42 : PySem.W.codeIn K cd42 "_law_entered" = true)
    (k42 : PySem.W.keepIn K (.ref f42) = true)
    (a43 : PySem.W.nsIn K mainGlobals "_law_due" = some (some (.ref f43)))
    (l43 : K.lookup f43 = some ⟨oc43, od43, .func (PySem.W.fnOf "_law_due" "_law_due" (defArgs sDue) (defBody sDue) (defScope sDue) .none kV43 dc43 pm43 an43 cd43 ct43), sl43⟩)
    (c43 : PySem.W.codeIn K cd43 "_law_due" = true)
    (k43 : PySem.W.keepIn K (.ref f43) = true)
    (a44 : PySem.W.nsIn K mainGlobals "_law_told" = some (some (.ref f44)))
    (l44 : K.lookup f44 = some ⟨oc44, od44, .func (PySem.W.fnOf "_law_told" "_law_told" (defArgs sTold) (defBody sTold) (defScope sTold) .none kV44 dc44 pm44 an44 cd44 ct44), sl44⟩)
    (c44 : PySem.W.codeIn K cd44 "_law_told" = true)
    (k44 : PySem.W.keepIn K (.ref f44) = true)
    (a45 : PySem.W.nsIn K mainGlobals "_law_as_due" = some (some (.ref f45)))
    (l45 : K.lookup f45 = some ⟨oc45, od45, .func (PySem.W.fnOf "_law_as_due" "_law_as_due" (defArgs sAs) (defBody sAs) (defScope sAs) .none kV45 dc45 pm45 an45 cd45 ct45), sl45⟩)
    (c45 : PySem.W.codeIn K cd45 "_law_as_due" = true)
    (k45 : PySem.W.keepIn K (.ref f45) = true)
    (a46 : PySem.W.nsIn K mainGlobals "_law_falling" = some (some (.ref f46)))
    (l46 : K.lookup f46 = some ⟨oc46, od46, .func (PySem.W.fnOf "_law_falling" "_law_falling" (defArgs sFalling) (defBody sFalling) (defScope sFalling) .none kV46 dc46 pm46 an46 cd46 ct46), sl46⟩)
    (c46 : PySem.W.codeIn K cd46 "_law_falling" = true)
    (k46 : PySem.W.keepIn K (.ref f46) = true)
    (a47 : PySem.W.nsIn K mainGlobals "_law_spoilt_look" = some (some (.ref f47)))
    (l47 : K.lookup f47 = some ⟨oc47, od47, .func (PySem.W.fnOf "_law_spoilt_look" "_law_spoilt_look" (defArgs sSpl) (defBody sSpl) (defScope sSpl) .none kV47 dc47 pm47 an47 cd47 ct47), sl47⟩)
    (c47 : PySem.W.codeIn K cd47 "_law_spoilt_look" = true)
    (k47 : PySem.W.keepIn K (.ref f47) = true)
    (a48 : PySem.W.nsIn K mainGlobals "_law_spoilt_test" = some (some (.ref f48)))
    (l48 : K.lookup f48 = some ⟨oc48, od48, .func (PySem.W.fnOf "_law_spoilt_test" "_law_spoilt_test" (defArgs sSpt) (defBody sSpt) (defScope sSpt) .none kV48 dc48 pm48 an48 cd48 ct48), sl48⟩)
    (c48 : PySem.W.codeIn K cd48 "_law_spoilt_test" = true)
    (k48 : PySem.W.keepIn K (.ref f48) = true)
    (a49 : PySem.W.nsIn K mainGlobals "_law_only" = some (some (.ref f49)))
    (l49 : K.lookup f49 = some ⟨oc49, od49, .func (PySem.W.fnOf "_law_only" "_law_only" (defArgs sOnly) (defBody sOnly) (defScope sOnly) .none kV49 dc49 pm49 an49 cd49 ct49), sl49⟩)
    (c49 : PySem.W.codeIn K cd49 "_law_only" = true)
    (k49 : PySem.W.keepIn K (.ref f49) = true)
    (a50 : PySem.W.nsIn K mainGlobals "law" = some (some (.ref f50)))
    (l50 : K.lookup f50 = some ⟨oc50, od50, .func (PySem.W.fnOf "law" "law" (defArgs sLaw) (defBody sLaw) (defScope sLaw) .none kV50 dc50 pm50 an50 cd50 ct50), sl50⟩)
    (c50 : PySem.W.codeIn K cd50 "law" = true)
    (k50 : PySem.W.keepIn K (.ref f50) = true)
    (z_len : PySem.W.nsIn K mainGlobals "len" = some none)
    (z_int : PySem.W.nsIn K mainGlobals "int" = some none)
    (z_divmod : PySem.W.nsIn K mainGlobals "divmod" = some none)
    (z_list : PySem.W.nsIn K mainGlobals "list" = some none)
    (z_isinstance : PySem.W.nsIn K mainGlobals "isinstance" = some none)
    (z_tuple : PySem.W.nsIn K mainGlobals "tuple" = some none)
    (z_all : PySem.W.nsIn K mainGlobals "all" = some none)
    (z_any : PySem.W.nsIn K mainGlobals "any" = some none)
    (z_zip : PySem.W.nsIn K mainGlobals "zip" = some none)
    (z_str : PySem.W.nsIn K mainGlobals "str" = some none)
    (z_bool : PySem.W.nsIn K mainGlobals "bool" = some none)
    (z_range : PySem.W.nsIn K mainGlobals "range" = some none)
    (z_RuntimeError : PySem.W.nsIn K mainGlobals "RuntimeError" = some none)
    (z_repr : PySem.W.nsIn K mainGlobals "repr" = some none)
    (aLV : PySem.W.nsIn K mainGlobals "LEAST_VALUE" = some (some (.int (-1000000) t1)))
    (aMV : PySem.W.nsIn K mainGlobals "MOST_VALUE" = some (some (.int 1000000 t2)))
    (aN0 : PySem.W.nsIn K mainGlobals "MOST_FRAMES" = some (some (.int 6 tI0)))
    (aP : PySem.W.nsIn K mainGlobals "SPOT_WORDS" = some (some (.ref sp)))
    (lP : K.lookup sp = some ⟨.type "tuple", none, .seq its nP, slP⟩)
    (vP : Vals (spotWords.map V.str) its.toList)
    (gP : its.size ≤ sizeLine)
    (aS : PySem.W.nsIn K mainGlobals "SUMS" = some (some (.ref sm)))
    (lS : K.lookup sm = some ⟨.type "dict", none, .dict es nS, #[]⟩)
    (kS : PySem.W.KeysLit w.params es.toList)
    (n_plus : PySem.W.nsIn K sm "plus" = some (some (.ref f3)))
    (n_minus : PySem.W.nsIn K sm "minus" = some (some (.ref f4)))
    (n_by : PySem.W.nsIn K sm "by" = some (some (.ref f5)))
    (n_over : PySem.W.nsIn K sm "over" = some (some (.ref f6)))
    (n_rest : PySem.W.nsIn K sm "rest" = some (some (.ref f7)))
    (aCt : PySem.W.nsIn K mainGlobals "CONTROLS" = some (some (.ref cm)))
    (lCt : K.lookup cm = some ⟨.type "dict", none, .dict esC nC, #[]⟩)
    (kCt : PySem.W.KeysLit w.params esC.toList)
    (nC0 : PySem.W.nsIn K cm "wait" = some (some (.ref f16)))
    (nC1 : PySem.W.nsIn K cm "until" = some (some (.ref f17)))
    (nC2 : PySem.W.nsIn K cm "if" = some (some (.ref f18)))
    (nC3 : PySem.W.nsIn K cm "times" = some (some (.ref f19)))
    (nC4 : PySem.W.nsIn K cm "while" = some (some (.ref f20)))
    (nC5 : PySem.W.nsIn K cm "ever" = some (some (.ref g5)))
    (nC6 : PySem.W.nsIn K cm "round" = some (some (.ref g6)))
    (nC7 : PySem.W.nsIn K cm "do" = some (some (.ref f21)))
    (nC8 : PySem.W.nsIn K cm "out" = some (some (.ref g8)))
    (aC : PySem.W.nsIn K mainGlobals "Fell" = some (some (.ref C)))
    (xL : K.lookup C = some (excClassObj nm q C N bs [.type "RuntimeError", .type "Exception", .type "BaseException", .type "object"] true sn sub ab col dd m0 m1 m2 m3 m5 "RuntimeError.__new__"))
    (sa : PySem.W.findIn K (.ref C) "__setattr__" = some (some (.builtin "object.__setattr__")))
    (ga : PySem.W.findIn K (.ref C) "__getattribute__" = some (some (.builtin "BaseException.__getattribute__")))
    (gg : PySem.W.findIn K (.ref C) "__getattr__" = some none)
    (nb : PySem.W.findIn K (.ref C) "word" = some none)
    (ac : PySem.W.findIn K (.ref C) "__class__" = some (some (.builtin "object.__class__")))
    (sg : PySem.W.specialIn K (.builtin "object.__class__") "__get__" = some (some (.builtin "getset_descriptor.__get__")))
    (tk : PySem.W.takesIn K (.builtin "object.__class__") = some true)
    (mo : PySem.W.mroIn K C (.type "object") = some true)
    (sr : PySem.W.subIn K (.ref C) (.type "RuntimeError") = some true)
    (aI : PySem.W.findIn K (.ref C) "__init__" = some (some (.ref fI)))
    (tI : PySem.W.typeIn K (.ref fI) = some (.type "function"))
    (lI : K.lookup fI = some ⟨oc0, od0, .func (PySem.W.fnOf "__init__" "Fell.__init__" (PySem.FellX.iA ⟨10, 17, 10, 21⟩ ⟨10, 23, 10, 27⟩) (PySem.FellX.iB ⟨11, 8, 11, 12⟩ ⟨11, 8, 11, 17⟩ ⟨11, 20, 11, 24⟩ ⟨11, 8, 11, 24⟩) PySem.FellX.iS .none .none dc0 pm0 an0 cd0 ct0), sl0⟩)
    (cI : PySem.W.codeIn K cd0 "Fell.__init__" = true)
    (kC : PySem.W.keepIn K (.ref C) = true)
    (eC : PySem.W.subIn K (.ref C) (.type "BaseException") = some true)
    (tC : PySem.W.typeIn K (.ref C) = some (.type "type"))
    (hC : PySem.W.hasDictIn K C = true)
    (sC : PySem.W.subIn K (.ref C) (.ref C) = some true)
    (aO_BadLine : PySem.W.nsIn K mainGlobals "BadLine" = some (some (.ref c_BadLine)))
    (eO_BadLine : PySem.W.subIn K (.ref c_BadLine) (.type "BaseException") = some true)
    (hO_BadLine : PySem.W.hasDictIn K c_BadLine = true)
    (tO_BadLine : PySem.W.typeIn K (.ref c_BadLine) = some (.type "type"))
    (sO_BadLine : PySem.W.subIn K (.ref C) (.ref c_BadLine) = some false)
    (aO_BadPlay : PySem.W.nsIn K mainGlobals "BadPlay" = some (some (.ref c_BadPlay)))
    (eO_BadPlay : PySem.W.subIn K (.ref c_BadPlay) (.type "BaseException") = some true)
    (hO_BadPlay : PySem.W.hasDictIn K c_BadPlay = true)
    (tO_BadPlay : PySem.W.typeIn K (.ref c_BadPlay) = some (.type "type"))
    (sO_BadPlay : PySem.W.subIn K (.ref C) (.ref c_BadPlay) = some false)
    (aO_NoOne : PySem.W.nsIn K mainGlobals "NoOne" = some (some (.ref c_NoOne)))
    (eO_NoOne : PySem.W.subIn K (.ref c_NoOne) (.type "BaseException") = some true)
    (hO_NoOne : PySem.W.hasDictIn K c_NoOne = true)
    (tO_NoOne : PySem.W.typeIn K (.ref c_NoOne) = some (.type "type"))
    (sO_NoOne : PySem.W.subIn K (.ref C) (.ref c_NoOne) = some false)
    (aO_NotOpen : PySem.W.nsIn K mainGlobals "NotOpen" = some (some (.ref c_NotOpen)))
    (eO_NotOpen : PySem.W.subIn K (.ref c_NotOpen) (.type "BaseException") = some true)
    (hO_NotOpen : PySem.W.hasDictIn K c_NotOpen = true)
    (tO_NotOpen : PySem.W.typeIn K (.ref c_NotOpen) = some (.type "type"))
    (sO_NotOpen : PySem.W.subIn K (.ref C) (.ref c_NotOpen) = some false)
    (aO_NoTurn : PySem.W.nsIn K mainGlobals "NoTurn" = some (some (.ref c_NoTurn)))
    (eO_NoTurn : PySem.W.subIn K (.ref c_NoTurn) (.type "BaseException") = some true)
    (hO_NoTurn : PySem.W.hasDictIn K c_NoTurn = true)
    (tO_NoTurn : PySem.W.typeIn K (.ref c_NoTurn) = some (.type "type"))
    (sO_NoTurn : PySem.W.subIn K (.ref C) (.ref c_NoTurn) = some false)
    (aO_Open : PySem.W.nsIn K mainGlobals "Open" = some (some (.ref c_Open)))
    (eO_Open : PySem.W.subIn K (.ref c_Open) (.type "BaseException") = some true)
    (hO_Open : PySem.W.hasDictIn K c_Open = true)
    (tO_Open : PySem.W.typeIn K (.ref c_Open) = some (.type "type"))
    (sO_Open : PySem.W.subIn K (.ref C) (.ref c_Open) = some false)
    (aO_TooMany : PySem.W.nsIn K mainGlobals "TooMany" = some (some (.ref c_TooMany)))
    (eO_TooMany : PySem.W.subIn K (.ref c_TooMany) (.type "BaseException") = some true)
    (hO_TooMany : PySem.W.hasDictIn K c_TooMany = true)
    (tO_TooMany : PySem.W.typeIn K (.ref c_TooMany) = some (.type "type"))
    (sO_TooMany : PySem.W.subIn K (.ref C) (.ref c_TooMany) = some false)
    : ∃ fd : FuncData, Fun K "law" "law" sLaw fa fd ∧ (∀ (s : Shared) (v : Value), BindsTo s fd ⟨[v], []⟩ [("_law_script", v)]) ∧ ∃ C fv : Addr, ∀ base : Heap, K.In base → base.Ns mainGlobals mg → LawD l.prog w K mg base C fv 33 := by
  have e := hfa.symm.trans (PySem.W.mg_of X G a50)
  cases e
  have T : PySem.FellX.FellTxt K mg C fI :=
    { gC := PySem.W.mg_of X G aC, cls := ⟨nm, q, N, bs, _, sn, sub, ab, col, dd, m0, m1, m2, m3, m5, xL, rfl⟩, sa := sa, ga := ga, gg := gg, noN := nb, iC := aI, tC := tI, kC := kC, exC := eC, tyC := tC, hdC := hC,
      te := PySem.W.exm_ref eC hC tC sC, fn := ⟨_, _, _, _, _, _, _, _, _, _, _, _, _, _, lI, cI⟩ }
  have EC : ErrC K C := { ga := ga, gg := gg, exC := eC, hdC := hC, ac := ac, sg := sg, tk := tk, mo := mo }
  have o_BadLine := oth_one sC eO_BadLine hO_BadLine tO_BadLine sO_BadLine
  have o_BadPlay := oth_one sC eO_BadPlay hO_BadPlay tO_BadPlay sO_BadPlay
  have o_NoOne := oth_one sC eO_NoOne hO_NoOne tO_NoOne sO_NoOne
  have o_NotOpen := oth_one sC eO_NotOpen hO_NotOpen tO_NotOpen sO_NotOpen
  have o_NoTurn := oth_one sC eO_NoTurn hO_NoTurn tO_NoTurn sO_NoTurn
  have o_Open := oth_one sC eO_Open hO_Open tO_Open sO_Open
  have o_TooMany := oth_one sC eO_TooMany hO_TooMany tO_TooMany sO_TooMany
  have N : Oths K mg C c_BadLine c_BadPlay c_NoOne c_NotOpen c_NoTurn c_Open c_TooMany := { m_BadLine := PySem.W.mg_of X G aO_BadLine, e_BadLine := o_BadLine.1, k_BadLine := o_BadLine.2, m_BadPlay := PySem.W.mg_of X G aO_BadPlay, e_BadPlay := o_BadPlay.1, k_BadPlay := o_BadPlay.2, m_NoOne := PySem.W.mg_of X G aO_NoOne, e_NoOne := o_NoOne.1, k_NoOne := o_NoOne.2, m_NotOpen := PySem.W.mg_of X G aO_NotOpen, e_NotOpen := o_NotOpen.1, k_NotOpen := o_NotOpen.2, m_NoTurn := PySem.W.mg_of X G aO_NoTurn, e_NoTurn := o_NoTurn.1, k_NoTurn := o_NoTurn.2, m_Open := PySem.W.mg_of X G aO_Open, e_Open := o_Open.1, k_Open := o_Open.2, m_TooMany := PySem.W.mg_of X G aO_TooMany, e_TooMany := o_TooMany.1, k_TooMany := o_TooMany.2 }
  have F_is_number := fun_mk (st := sIsNum) l1 c1 k1
  have D_is_number : Df K mg "is_number" sIsNum ["thing"] f1 _ := ⟨F_is_number, PySem.W.mg_of X G a1, F_is_number.binds fun _ _ _ _ _ _ us hl => match us, hl with | [_], _ => rfl⟩
  have F_is_value := fun_mk (st := sIsVal) l2 c2 k2
  have D_is_value : Df K mg "is_value" sIsVal ["thing"] f2 _ := ⟨F_is_value, PySem.W.mg_of X G a2, F_is_value.binds fun _ _ _ _ _ _ us hl => match us, hl with | [_], _ => rfl⟩
  have F_plus := fun_mk (st := sPlus) l3 c3 k3
  have D_plus : Df K mg "plus" sPlus ["first", "second"] f3 _ := ⟨F_plus, PySem.W.mg_of X G a3, F_plus.binds fun _ _ _ _ _ _ us hl => match us, hl with | [_, _], _ => rfl⟩
  have F_minus := fun_mk (st := sMinus) l4 c4 k4
  have D_minus : Df K mg "minus" sMinus ["first", "second"] f4 _ := ⟨F_minus, PySem.W.mg_of X G a4, F_minus.binds fun _ _ _ _ _ _ us hl => match us, hl with | [_, _], _ => rfl⟩
  have F_by := fun_mk (st := sBy) l5 c5 k5
  have D_by : Df K mg "by" sBy ["first", "second"] f5 _ := ⟨F_by, PySem.W.mg_of X G a5, F_by.binds fun _ _ _ _ _ _ us hl => match us, hl with | [_, _], _ => rfl⟩
  have F_over := fun_mk (st := sOver) l6 c6 k6
  have D_over : Df K mg "over" sOver ["first", "second"] f6 _ := ⟨F_over, PySem.W.mg_of X G a6, F_over.binds fun _ _ _ _ _ _ us hl => match us, hl with | [_, _], _ => rfl⟩
  have F_rest := fun_mk (st := sRest) l7 c7 k7
  have D_rest : Df K mg "rest" sRest ["first", "second"] f7 _ := ⟨F_rest, PySem.W.mg_of X G a7, F_rest.binds fun _ _ _ _ _ _ us hl => match us, hl with | [_, _], _ => rfl⟩
  have F_value_of := fun_mk (st := sVal) l8 c8 k8
  have D_value_of : Df K mg "value_of" sVal ["look", "eyes"] f8 _ := ⟨F_value_of, PySem.W.mg_of X G a8, F_value_of.binds fun _ _ _ _ _ _ us hl => match us, hl with | [_, _], _ => rfl⟩
  have F_outcome := fun_mk (st := sOut) l9 c9 k9
  have D_outcome : Df K mg "outcome" sOut ["look", "eyes"] f9 _ := ⟨F_outcome, PySem.W.mg_of X G a9, F_outcome.binds fun _ _ _ _ _ _ us hl => match us, hl with | [_, _], _ => rfl⟩
  have F_first_of := fun_mk (st := sFirst) l10 c10 k10
  have D_first_of : Df K mg "first_of" sFirst ["pairs", "name"] f10 _ := ⟨F_first_of, PySem.W.mg_of X G a10, F_first_of.binds fun _ _ _ _ _ _ us hl => match us, hl with | [_, _], _ => rfl⟩
  have F_place_in := fun_mk (st := sPlace) l11 c11 k11
  have D_place_in : Df K mg "place_in" sPlace ["row", "place"] f11 _ := ⟨F_place_in, PySem.W.mg_of X G a11, F_place_in.binds fun _ _ _ _ _ _ us hl => match us, hl with | [_, _], _ => rfl⟩
  have F_holds := fun_mk (st := sHolds) l12 c12 k12
  have D_holds : Df K mg "holds" sHolds ["test", "eyes"] f12 _ := ⟨F_holds, PySem.W.mg_of X G a12, F_holds.binds fun _ _ _ _ _ _ us hl => match us, hl with | [_, _], _ => rfl⟩
  have F_tupled := fun_mk (st := sTupled) l13 c13 k13
  have D_tupled : Df K mg "tupled" sTupled ["thing"] f13 _ := ⟨F_tupled, PySem.W.mg_of X G a13, F_tupled.binds fun _ _ _ _ _ _ us hl => match us, hl with | [_], _ => rfl⟩
  have F_is_closed := fun_mk (st := sIsClosed) l14 c14 k14
  have D_is_closed : Df K mg "is_closed" sIsClosed ["frames"] f14 _ := ⟨F_is_closed, PySem.W.mg_of X G a14, F_is_closed.binds fun _ _ _ _ _ _ us hl => match us, hl with | [_], _ => rfl⟩
  have F_refuse_closed := fun_mk (st := sRefuse) l15 c15 k15
  have D_refuse_closed : Df K mg "refuse_closed" sRefuse ["frames"] f15 _ := ⟨F_refuse_closed, PySem.W.mg_of X G a15, F_refuse_closed.binds fun _ _ _ _ _ _ us hl => match us, hl with | [_], _ => rfl⟩
  have F_by_wait := fun_mk (st := sByWait) l16 c16 k16
  have D_by_wait : Df K mg "by_wait" sByWait ["item", "frames", "eyes", "pieces"] f16 _ := ⟨F_by_wait, PySem.W.mg_of X G a16, F_by_wait.binds fun _ _ _ _ _ _ us hl => match us, hl with | [_, _, _, _], _ => rfl⟩
  have F_by_until := fun_mk (st := sByUntil) l17 c17 k17
  have D_by_until : Df K mg "by_until" sByUntil ["item", "frames", "eyes", "pieces"] f17 _ := ⟨F_by_until, PySem.W.mg_of X G a17, F_by_until.binds fun _ _ _ _ _ _ us hl => match us, hl with | [_, _, _, _], _ => rfl⟩
  have F_by_if := fun_mk (st := sByIf) l18 c18 k18
  have D_by_if : Df K mg "by_if" sByIf ["item", "frames", "eyes", "pieces"] f18 _ := ⟨F_by_if, PySem.W.mg_of X G a18, F_by_if.binds fun _ _ _ _ _ _ us hl => match us, hl with | [_, _, _, _], _ => rfl⟩
  have F_by_times := fun_mk (st := sByTimes) l19 c19 k19
  have D_by_times : Df K mg "by_times" sByTimes ["item", "frames", "eyes", "pieces"] f19 _ := ⟨F_by_times, PySem.W.mg_of X G a19, F_by_times.binds fun _ _ _ _ _ _ us hl => match us, hl with | [_, _, _, _], _ => rfl⟩
  have F_by_while := fun_mk (st := sByWhile) l20 c20 k20
  have D_by_while : Df K mg "by_while" sByWhile ["item", "frames", "eyes", "pieces"] f20 _ := ⟨F_by_while, PySem.W.mg_of X G a20, F_by_while.binds fun _ _ _ _ _ _ us hl => match us, hl with | [_, _, _, _], _ => rfl⟩
  have F_by_do := fun_mk (st := sByDo) l21 c21 k21
  have D_by_do : Df K mg "by_do" sByDo ["item", "frames", "eyes", "pieces"] f21 _ := ⟨F_by_do, PySem.W.mg_of X G a21, F_by_do.binds fun _ _ _ _ _ _ us hl => match us, hl with | [_, _, _, _], _ => rfl⟩
  have F_piece_called := fun_mk (st := sPiece) l22 c22 k22
  have D_piece_called : Df K mg "piece_called" sPiece ["wanted", "pieces"] f22 _ := ⟨F_piece_called, PySem.W.mg_of X G a22, F_piece_called.binds fun _ _ _ _ _ _ us hl => match us, hl with | [_, _], _ => rfl⟩
  have F_led_on := fun_mk (st := sLed) l23 c23 k23
  have D_led_on : Df K mg "led_on" sLed ["rest", "frames", "eyes", "pieces"] f23 _ := ⟨F_led_on, PySem.W.mg_of X G a23, F_led_on.binds fun _ _ _ _ _ _ us hl => match us, hl with | [_, _, _, _], _ => rfl⟩
  have F_unrolled := fun_mk (st := sUnr) l24 c24 k24
  have D_unrolled : Df K mg "unrolled" sUnr ["rest", "frames", "eyes", "pieces"] f24 _ := ⟨F_unrolled, PySem.W.mg_of X G a24, F_unrolled.binds fun _ _ _ _ _ _ us hl => match us, hl with | [_, _, _, _], _ => rfl⟩
  have F__law_begin := fun_mk (st := sBegin) l25 c25 k25
  have D__law_begin : Df K mg "_law_begin" sBegin ["_law_script"] f25 _ := ⟨F__law_begin, PySem.W.mg_of X G a25, F__law_begin.binds fun _ _ _ _ _ _ us hl => match us, hl with | [_], _ => rfl⟩
  have F__law_take := fun_mk (st := sTake) l26 c26 k26
  have D__law_take : Df K mg "_law_take" sTake ["_law_state", "_law_many"] f26 _ := ⟨F__law_take, PySem.W.mg_of X G a26, F__law_take.binds fun _ _ _ _ _ _ us hl => match us, hl with | [_, _], _ => rfl⟩
  have F__law_names := fun_mk (st := sNames) l27 c27 k27
  have D__law_names : Df K mg "_law_names" sNames ["_law_state", "_law_many"] f27 _ := ⟨F__law_names, PySem.W.mg_of X G a27, F__law_names.binds fun _ _ _ _ _ _ us hl => match us, hl with | [_, _], _ => rfl⟩
  have F__law_same := fun_mk (st := sSame) l28 c28 k28
  have D__law_same : Df K mg "_law_same" sSame ["_law_found", "_law_due_here"] f28 _ := ⟨F__law_same, PySem.W.mg_of X G a28, F__law_same.binds fun _ _ _ _ _ _ us hl => match us, hl with | [_, _], _ => rfl⟩
  have F__law_value_by := fun_mk (st := sValue) l29 c29 k29
  have D__law_value_by : Df K mg "_law_value_by" sValue ["_law_state"] f29 _ := ⟨F__law_value_by, PySem.W.mg_of X G a29, F__law_value_by.binds fun _ _ _ _ _ _ us hl => match us, hl with | [_], _ => rfl⟩
  have F__law_look_by := fun_mk (st := sLook) l30 c30 k30
  have D__law_look_by : Df K mg "_law_look_by" sLook ["_law_state", "_law_words", "_law_deep"] f30 _ := ⟨F__law_look_by, PySem.W.mg_of X G a30, F__law_look_by.binds fun _ _ _ _ _ _ us hl => match us, hl with | [_, _, _], _ => rfl⟩
  have F__law_test_by := fun_mk (st := sTest) l31 c31 k31
  have D__law_test_by : Df K mg "_law_test_by" sTest ["_law_state", "_law_words", "_law_deep"] f31 _ := ⟨F__law_test_by, PySem.W.mg_of X G a31, F__law_test_by.binds fun _ _ _ _ _ _ us hl => match us, hl with | [_, _, _], _ => rfl⟩
  have F__law_eyes_by := fun_mk (st := sEyes) l32 c32 k32
  have D__law_eyes_by : Df K mg "_law_eyes_by" sEyes ["_law_state", "_law_words"] f32 _ := ⟨F__law_eyes_by, PySem.W.mg_of X G a32, F__law_eyes_by.binds fun _ _ _ _ _ _ us hl => match us, hl with | [_, _], _ => rfl⟩
  have F__law_reckoned := fun_mk (st := sReck) l33 c33 k33
  have D__law_reckoned : Df K mg "_law_reckoned" sReck ["_law_word", "_law_left", "_law_right"] f33 _ := ⟨F__law_reckoned, PySem.W.mg_of X G a33, F__law_reckoned.binds fun _ _ _ _ _ _ us hl => match us, hl with | [_, _, _], _ => rfl⟩
  have F__law_valued := fun_mk (st := sValued) l34 c34 k34
  have D__law_valued : Df K mg "_law_valued" sValued ["_law_look", "_law_eyes"] f34 _ := ⟨F__law_valued, PySem.W.mg_of X G a34, F__law_valued.binds fun _ _ _ _ _ _ us hl => match us, hl with | [_, _], _ => rfl⟩
  have F__law_held := fun_mk (st := sHeld) l35 c35 k35
  have D__law_held : Df K mg "_law_held" sHeld ["_law_test", "_law_eyes"] f35 _ := ⟨F__law_held, PySem.W.mg_of X G a35, F__law_held.binds fun _ _ _ _ _ _ us hl => match us, hl with | [_, _], _ => rfl⟩
  have F__law_block_by := fun_mk (st := sBlock) l36 c36 k36
  have D__law_block_by : Df K mg "_law_block_by" sBlock ["_law_state", "_law_words", "_law_deep"] f36 _ := ⟨F__law_block_by, PySem.W.mg_of X G a36, F__law_block_by.binds fun _ _ _ _ _ _ us hl => match us, hl with | [_, _, _], _ => rfl⟩
  have F__law_deed_by := fun_mk (st := sDeed) l37 c37 k37
  have D__law_deed_by : Df K mg "_law_deed_by" sDeed ["_law_state", "_law_words", "_law_deep"] f37 _ := ⟨F__law_deed_by, PySem.W.mg_of X G a37, F__law_deed_by.binds fun _ _ _ _ _ _ us hl => match us, hl with | [_, _, _], _ => rfl⟩
  have F__law_frames_by := fun_mk (st := sFrames) l38 c38 k38
  have D__law_frames_by : Df K mg "_law_frames_by" sFrames ["_law_state", "_law_words", "_law_many"] f38 _ := ⟨F__law_frames_by, PySem.W.mg_of X G a38, F__law_frames_by.binds fun _ _ _ _ _ _ us hl => match us, hl with | [_, _, _], _ => rfl⟩
  have F__law_shut := fun_mk (st := sShut) l39 c39 k39
  have D__law_shut : Df K mg "_law_shut" sShut ["_law_frames"] f39 _ := ⟨F__law_shut, PySem.W.mg_of X G a39, F__law_shut.binds fun _ _ _ _ _ _ us hl => match us, hl with | [_], _ => rfl⟩
  have F__law_looped := fun_mk (st := sLooped) l40 c40 k40
  have D__law_looped : Df K mg "_law_looped" sLooped ["_law_deed", "_law_eyes"] f40 _ := ⟨F__law_looped, PySem.W.mg_of X G a40, F__law_looped.binds fun _ _ _ _ _ _ us hl => match us, hl with | [_, _], _ => rfl⟩
  have F__law_given := fun_mk (st := sGiven) l41 c41 k41
  have D__law_given : Df K mg "_law_given" sGiven ["_law_deed", "_law_frames", "_law_eyes"] f41 _ := ⟨F__law_given, PySem.W.mg_of X G a41, F__law_given.binds fun _ _ _ _ _ _ us hl => match us, hl with | [_, _, _], _ => rfl⟩
  have F__law_entered := fun_mk (st := sEntered) l42 c42 k42
  have D__law_entered : Df K mg "_law_entered" sEntered ["_law_deed", "_law_frames", "_law_eyes", "_law_pieces"] f42 _ := ⟨F__law_entered, PySem.W.mg_of X G a42, F__law_entered.binds fun _ _ _ _ _ _ us hl => match us, hl with | [_, _, _, _], _ => rfl⟩
  have F__law_due := fun_mk (st := sDue) l43 c43 k43
  have D__law_due : Df K mg "_law_due" sDue ["_law_rest", "_law_frames", "_law_eyes", "_law_pieces"] f43 _ := ⟨F__law_due, PySem.W.mg_of X G a43, F__law_due.binds fun _ _ _ _ _ _ us hl => match us, hl with | [_, _, _, _], _ => rfl⟩
  have F__law_told := fun_mk (st := sTold) l44 c44 k44
  have D__law_told : Df K mg "_law_told" sTold ["_law_rest", "_law_frames", "_law_eyes", "_law_pieces"] f44 _ := ⟨F__law_told, PySem.W.mg_of X G a44, F__law_told.binds fun _ _ _ _ _ _ us hl => match us, hl with | [_, _, _, _], _ => rfl⟩
  have F__law_as_due := fun_mk (st := sAs) l45 c45 k45
  have D__law_as_due : Df K mg "_law_as_due" sAs ["_law_rest", "_law_frames", "_law_eyes", "_law_pieces"] f45 _ := ⟨F__law_as_due, PySem.W.mg_of X G a45, F__law_as_due.binds fun _ _ _ _ _ _ us hl => match us, hl with | [_, _, _, _], _ => rfl⟩
  have F__law_falling := fun_mk (st := sFalling) l46 c46 k46
  have D__law_falling : Df K mg "_law_falling" sFalling ["_law_state", "_law_words"] f46 _ := ⟨F__law_falling, PySem.W.mg_of X G a46, F__law_falling.binds fun _ _ _ _ _ _ us hl => match us, hl with | [_, _], _ => rfl⟩
  have F__law_spoilt_look := fun_mk (st := sSpl) l47 c47 k47
  have D__law_spoilt_look : Df K mg "_law_spoilt_look" sSpl ["_law_state", "_law_words", "_law_deep"] f47 _ := ⟨F__law_spoilt_look, PySem.W.mg_of X G a47, F__law_spoilt_look.binds fun _ _ _ _ _ _ us hl => match us, hl with | [_, _, _], _ => rfl⟩
  have F__law_spoilt_test := fun_mk (st := sSpt) l48 c48 k48
  have D__law_spoilt_test : Df K mg "_law_spoilt_test" sSpt ["_law_state", "_law_words"] f48 _ := ⟨F__law_spoilt_test, PySem.W.mg_of X G a48, F__law_spoilt_test.binds fun _ _ _ _ _ _ us hl => match us, hl with | [_, _], _ => rfl⟩
  have F__law_only := fun_mk (st := sOnly) l49 c49 k49
  have D__law_only : Df K mg "_law_only" sOnly ["_law_rest", "_law_frames", "_law_eyes", "_law_pieces"] f49 _ := ⟨F__law_only, PySem.W.mg_of X G a49, F__law_only.binds fun _ _ _ _ _ _ us hl => match us, hl with | [_, _, _, _], _ => rfl⟩
  have F_law := fun_mk (st := sLaw) l50 c50 k50
  have m_len := PySem.W.mg_none_of X G z_len
  have m_int := PySem.W.mg_none_of X G z_int
  have m_divmod := PySem.W.mg_none_of X G z_divmod
  have m_list := PySem.W.mg_none_of X G z_list
  have m_isinstance := PySem.W.mg_none_of X G z_isinstance
  have m_tuple := PySem.W.mg_none_of X G z_tuple
  have m_all := PySem.W.mg_none_of X G z_all
  have m_any := PySem.W.mg_none_of X G z_any
  have m_zip := PySem.W.mg_none_of X G z_zip
  have m_str := PySem.W.mg_none_of X G z_str
  have m_bool := PySem.W.mg_none_of X G z_bool
  have m_range := PySem.W.mg_none_of X G z_range
  have m_RuntimeError := PySem.W.mg_none_of X G z_RuntimeError
  have m_repr := PySem.W.mg_none_of X G z_repr
  have W : Wr K w mg sp sm (pick f3 f4 f5 f6 f7) := ⟨PySem.W.mg_of X G aP, PySem.W.mg_of X G aS, ⟨its, nP, slP, lP, vP, gP⟩, fun o => by
    cases o
    · exact ⟨es, nS, _, lS, kS, n_plus, rfl⟩
    · exact ⟨es, nS, _, lS, kS, n_minus, rfl⟩
    · exact ⟨es, nS, _, lS, kS, n_by, rfl⟩
    · exact ⟨es, nS, _, lS, kS, n_over, rfl⟩
    · exact ⟨es, nS, _, lS, kS, n_rest, rfl⟩⟩
  have Wct : Wc K w mg cm (pickC f16 f17 f18 f19 f20 g5 g6 f21 g8) := ⟨PySem.W.mg_of X G aCt, fun i => by
    cases i
    · show KDct K w cm "wait" (.ref (pickC f16 f17 f18 f19 f20 g5 g6 f21 g8 "wait")); rw [pickC_wait]; exact ⟨esC, nC, _, lCt, kCt, nC0, rfl⟩
    · show KDct K w cm "until" (.ref (pickC f16 f17 f18 f19 f20 g5 g6 f21 g8 "until")); rw [pickC_until]; exact ⟨esC, nC, _, lCt, kCt, nC1, rfl⟩
    · show KDct K w cm "if" (.ref (pickC f16 f17 f18 f19 f20 g5 g6 f21 g8 "if")); rw [pickC_if]; exact ⟨esC, nC, _, lCt, kCt, nC2, rfl⟩
    · show KDct K w cm "times" (.ref (pickC f16 f17 f18 f19 f20 g5 g6 f21 g8 "times")); rw [pickC_times]; exact ⟨esC, nC, _, lCt, kCt, nC3, rfl⟩
    · show KDct K w cm "while" (.ref (pickC f16 f17 f18 f19 f20 g5 g6 f21 g8 "while")); rw [pickC_while]; exact ⟨esC, nC, _, lCt, kCt, nC4, rfl⟩
    · show KDct K w cm "ever" (.ref (pickC f16 f17 f18 f19 f20 g5 g6 f21 g8 "ever")); rw [pickC_ever]; exact ⟨esC, nC, _, lCt, kCt, nC5, rfl⟩
    · show KDct K w cm "round" (.ref (pickC f16 f17 f18 f19 f20 g5 g6 f21 g8 "round")); rw [pickC_round]; exact ⟨esC, nC, _, lCt, kCt, nC6, rfl⟩
    · show KDct K w cm "do" (.ref (pickC f16 f17 f18 f19 f20 g5 g6 f21 g8 "do")); rw [pickC_do]; exact ⟨esC, nC, _, lCt, kCt, nC7, rfl⟩
    · show KDct K w cm "out" (.ref (pickC f16 f17 f18 f19 f20 g5 g6 f21 g8 "out")); rw [pickC_out]; exact ⟨esC, nC, _, lCt, kCt, nC8, rfl⟩⟩
  refine ⟨PySem.W.fnOf "law" "law" (defArgs sLaw) (defBody sLaw) (defScope sLaw) .none kV50 dc50 pm50 an50 cd50 ct50, F_law, fun s v => .of_eq rfl, C, f12, fun base _ _ => ?_⟩
  have gN : FnG l.prog w K mg base CX0 1 "is_number" ["thing"] (spIsNum K) := D_is_number.g (ok_isNum D_is_number.F m_isinstance m_int m_bool)
  have gI : FnG l.prog w K mg base CX0 2 "is_value" ["thing"] spIsVal := D_is_value.g (ok_isVal D_is_value.F gN (PySem.W.mg_of X G aLV) (PySem.W.mg_of X G aMV))
  have LL : Looks5 l.prog w K mg base C fI sp sm (pick f3 f4 f5 f6 f7) := ⟨T, W, gN.mono (by decide), gI.mono (by decide), (D_first_of.g (ok_first (k := 0) T D_first_of.F)).mono (by decide), (D_place_in.g (ok_place (k := 0) T D_place_in.F m_len)).mono (by decide), fun o => by
    cases o
    · exact ⟨_, _, (ok_plus (k := 2) D_plus.F), D_plus.F.kp, D_plus.b⟩
    · exact ⟨_, _, (ok_minus (k := 2) D_minus.F), D_minus.F.kp, D_minus.b⟩
    · exact ⟨_, _, (ok_by (k := 2) D_by.F), D_by.F.kp, D_by.b⟩
    · exact ⟨_, _, (ok_over (k := 1) T D_over.F), D_over.F.kp, D_over.b⟩
    · exact ⟨_, _, (ok_rest (k := 1) T D_rest.F), D_rest.F.kp, D_rest.b⟩⟩
  have gVs := ok_values LL m_len D_value_of D_outcome
  have gV : GVal l.prog w K mg base C 16 := gVs 6
  have gHo : GHold l.prog w K mg base C 16 := ok_holds T D_holds gVs 6
  have gPc : FnG l.prog w K mg base (L2.CX l.prog w) 2 "piece_called" ["wanted", "pieces"] (spPiece K C) := D_piece_called.g (ok_piece (k := 0) T D_piece_called.F)
  have gIC : FnG l.prog w K mg base CX0 1 "is_closed" ["frames"] (spShut K) := D_is_closed.g (ok_isClosed (k := 0) D_is_closed.F m_any)
  have gRf : GRef l.prog w K mg base C 3 := D_refuse_closed.g (ok_refuse (k := 1) T D_refuse_closed.F gIC)
  have HB : ∀ i, okF i → HeldX l.prog w K mg base 17 ((pickC f16 f17 f18 f19 f20 g5 g6 f21 g8) i.word) (spBy K C i) := fun i gi => by
    cases i with
    | wait L =>
      show HeldX l.prog w K mg base 17 ((pickC f16 f17 f18 f19 f20 g5 g6 f21 g8) "wait") _
      rw [pickC_wait]
      exact ⟨_, _, (ok_byWait (k := 16) D_by_wait.F gV (gRf.mono (by decide))).imp fun vs H Q E h => ⟨L, h⟩, D_by_wait.F.kp, D_by_wait.b⟩
    | until_ t =>
      show HeldX l.prog w K mg base 17 ((pickC f16 f17 f18 f19 f20 g5 g6 f21 g8) "until") _
      rw [pickC_until]
      exact ⟨_, _, (ok_byUntil (k := 16) D_by_until.F gHo (gRf.mono (by decide))).imp fun vs H Q E h => ⟨t, h⟩, D_by_until.F.kp, D_by_until.b⟩
    | if_ t b1 b2 =>
      show HeldX l.prog w K mg base 17 ((pickC f16 f17 f18 f19 f20 g5 g6 f21 g8) "if") _
      rw [pickC_if]
      exact ⟨_, _, (ok_byIf (k := 16) D_by_if.F gHo).imp fun vs H Q E h => ⟨t, b1, b2, h⟩, D_by_if.F.kp, D_by_if.b⟩
    | times L b =>
      show HeldX l.prog w K mg base 17 ((pickC f16 f17 f18 f19 f20 g5 g6 f21 g8) "times") _
      rw [pickC_times]
      exact ⟨_, _, (ok_byTimes (k := 16) D_by_times.F gV).imp fun vs H Q E h => ⟨L, b, gi, h⟩, D_by_times.F.kp, D_by_times.b⟩
    | while_ t b =>
      show HeldX l.prog w K mg base 17 ((pickC f16 f17 f18 f19 f20 g5 g6 f21 g8) "while") _
      rw [pickC_while]
      exact ⟨_, _, (ok_byWhile (k := 16) D_by_while.F gHo).imp fun vs H Q E h => ⟨t, b, gi, h⟩, D_by_while.F.kp, D_by_while.b⟩
    | do_ x Ls =>
      show HeldX l.prog w K mg base 17 ((pickC f16 f17 f18 f19 f20 g5 g6 f21 g8) "do") _
      rw [pickC_do]
      exact ⟨_, _, (ok_byDo (k := 15) T D_by_do.F gV (gPc.mono (by decide)) (PySem.W.mg_of X G aN0) m_len m_tuple m_zip).imp fun vs H Q E h => ⟨x, Ls, gi, h⟩, D_by_do.F.kp, D_by_do.b⟩
    | _ => exact gi.elim
  have gTu : FnG l.prog w K mg base CX0 30 "tupled" ["thing"] (spTupled K 30) := ok_tupleds D_tupled m_isinstance m_list m_tuple 30
  have gLd : FnG l.prog w K mg base (L2.CX l.prog w) 18 "led_on" ["rest", "frames", "eyes", "pieces"] (spLed K C okF) := D_led_on.g (ok_led D_led_on.F Wct HB)
  have gU : FnG l.prog w K mg base (L2.CX l.prog w) 31 "unrolled" ["rest", "frames", "eyes", "pieces"] (spUnr K C okF) := D_unrolled.g (ok_unr (k := 30) D_unrolled.F gTu (gLd.mono (by decide)))
  have gT : FnG l.prog w K mg base CX0 1 "_law_take" ["_law_state", "_law_many"] spTake := D__law_take.g (ok_take D__law_take.F m_divmod m_len)
  have gB : FnG l.prog w K mg base CX0 1 "_law_begin" ["_law_script"] (spBegin K) := D__law_begin.g (ok_begin (k := 0) D__law_begin.F m_list)
  have gNm : FnG l.prog w K mg base CX0 2 "_law_names" ["_law_state", "_law_many"] spNames := D__law_names.g (ok_names D__law_names.F gT m_len m_range)
  have gA : FnG l.prog w K mg base CX0 2 "_law_value_by" ["_law_state"] spValue := D__law_value_by.g (ok_value D__law_value_by.F gT)
  have gS : FnG l.prog w K mg base CX0 22 "_law_same" ["_law_found", "_law_due_here"] (spSame K 22) := D__law_same.g (ok_same D__law_same.F ⟨m_isinstance, m_list, m_tuple, m_len, m_all, m_zip, m_str, m_int, m_bool⟩ D__law_same.m D__law_same.b 22)
  have gLs := ok_looks D__law_look_by (gT.mono (by decide)) (gA.mono (by decide))
  have gTs := ok_tests D__law_test_by (gT.mono (by decide)) gLs
  have gE : FnG l.prog w K mg base CX0 3 "_law_eyes_by" ["_law_state", "_law_words"] (spEyes K) := D__law_eyes_by.g (ok_eyes (k := 2) D__law_eyes_by.F (gT.mono (by decide)) gA m_range m_tuple)
  have gFr : FnG l.prog w K mg base CX0 3 "_law_frames_by" ["_law_state", "_law_words", "_law_many"] (spFrames K) := D__law_frames_by.g (ok_frames (k := 2) D__law_frames_by.F (gT.mono (by decide)) gA m_range m_tuple)
  have gDd := ok_deeds D__law_deed_by D__law_block_by (gT.mono (by decide)) ((gLs 2).mono (by decide)) ((gLs 3).mono (by decide)) ((gTs 3).mono (by decide)) m_range m_tuple 1
  have gBk : FnG l.prog w K mg base CX0 12 "_law_block_by" ["_law_state", "_law_words", "_law_deep"] (spBlock K 1) := D__law_block_by.g (ok_block (k := 11) D__law_block_by.F (gT.mono (by decide)) (gDd.mono (by decide)) m_range m_tuple)
  have gR : FnG l.prog w K mg base CX0 1 "_law_reckoned" ["_law_word", "_law_left", "_law_right"] spReck := D__law_reckoned.g (ok_reck (k := 0) D__law_reckoned.F)
  have gVd := ok_valueds D__law_valued (gR.mono (by decide)) m_len m_isinstance m_int
  have gH : FnG l.prog w K mg base CX0 9 "_law_held" ["_law_test", "_law_eyes"] (spHeld K 6) := ok_helds D__law_held gVd 6
  have gSh : FnG l.prog w K mg base CX0 1 "_law_shut" ["_law_frames"] (spShut K) := D__law_shut.g (ok_shut (k := 0) D__law_shut.F)
  have gEn : FnG l.prog w K mg base CX0 10 "_law_entered" ["_law_deed", "_law_frames", "_law_eyes", "_law_pieces"] (spEntered K) := D__law_entered.g (ok_entered (k := 9) D__law_entered.F (gVd 6) m_len m_tuple m_zip)
  have gGv : FnG l.prog w K mg base CX0 10 "_law_given" ["_law_deed", "_law_frames", "_law_eyes"] (spGiven K) := D__law_given.g (ok_given (k := 9) D__law_given.F (gVd 6) gH (gSh.mono (by decide)))
  have gLo : FnG l.prog w K mg base CX0 10 "_law_looped" ["_law_deed", "_law_eyes"] (spLooped K) := D__law_looped.g (ok_looped (k := 9) D__law_looped.F (gVd 6) gH)
  have gD : FnG l.prog w K mg base CX0 11 "_law_due" ["_law_rest", "_law_frames", "_law_eyes", "_law_pieces"] (spDue K okF) := D__law_due.g (due_any (ok_due (k := 10) D__law_due.F gGv (gSh.mono (by decide)) ((no_fn D__law_entered).mono (by decide)) ((no_fn D__law_looped).mono (by decide))) (ok_dueL (k := 10) D__law_due.F ((no_fn D__law_given).mono (by decide)) (gSh.mono (by decide)) ((no_fn D__law_entered).mono (by decide)) gLo) (ok_dueD (k := 10) D__law_due.F ((no_fn D__law_given).mono (by decide)) (gSh.mono (by decide)) gEn ((no_fn D__law_looped).mono (by decide))))
  have gO : FnG l.prog w K mg base CX0 32 "_law_told" ["_law_rest", "_law_frames", "_law_eyes", "_law_pieces"] (spToldU K okF) := D__law_told.g (ok_toldU (k := 31) T EC (kit_rt sr) D__law_told.F gU m_isinstance m_RuntimeError)
  have gFa : FnG l.prog w K mg base CX0 3 "_law_falling" ["_law_state", "_law_words"] (spFalling K) := D__law_falling.g (ok_falling (k := 2) D__law_falling.F (gT.mono (by decide)) m_len)
  have gSs := ok_spls D__law_spoilt_look (gT.mono (by decide)) (gFa.mono (by decide)) gLs
  have gSt : FnG l.prog w K mg base CX0 11 "_law_spoilt_test" ["_law_state", "_law_words"] (spSpt K) := D__law_spoilt_test.g (ok_spt (k := 10) D__law_spoilt_test.F (gT.mono (by decide)) ((gSs 4).mono (by decide)) ((gTs 3).mono (by decide)))
  have gOn : FnG l.prog w K mg base CX0 32 "_law_only" ["_law_rest", "_law_frames", "_law_eyes", "_law_pieces"] (spOnly K okF) := D__law_only.g (ok_only (k := 31) T EC (kit_rt sr) N D__law_only.F gU m_isinstance m_RuntimeError)
  exact ⟨gB.mono (by decide), gT.mono (by decide), gNm.mono (by decide), gE.mono (by decide), gFr.mono (by decide), gBk.mono (by decide), (gLs 3).mono (by decide), (gSs 6).mono (by decide), gSt.mono (by decide), gOn.mono (by decide), ⟨_, _, ok_as (k := 32) D__law_as_due.F (gD.mono (by decide)) gO (gS.mono (by decide)) m_repr, D__law_as_due.m, D__law_as_due.F.kp, D__law_as_due.b⟩, m_range, m_len⟩
end Fd
open PySem PySem.W PyProof.Rows
set_option maxRecDepth 100000 in
set_option maxHeartbeats 0 in
theorem PySem.Challenge.cw_figuredeeds_k28_rests_that_fall_holds : PySem.Challenge.rw_figuredeeds_k28_rests_that_fall.Holds := by
  w_on; o_law; k_head; (case hw => w_witness2)
  k_fill
  refine Fd.walk_at (l := PySem.Challenge.rw_figuredeeds_k28_rests_that_fall) (n := 63) rfl (by decide) rfl (fun w h Y => PySem.W.kIn_of Y) rfl ?F
  case F =>
    intro w mg fa h KX G hmg
    refine' Fd.all_mk KX G hmg ?a1 ?l1 ?c1 ?k1 ?a2 ?l2 ?c2 ?k2 ?a3 ?l3 ?c3 ?k3 ?a4 ?l4 ?c4 ?k4 ?a5 ?l5 ?c5 ?k5 ?a6 ?l6 ?c6 ?k6 ?a7 ?l7 ?c7 ?k7 ?a8 ?l8 ?c8 ?k8 ?a9 ?l9 ?c9 ?k9 ?a10 ?l10 ?c10 ?k10 ?a11 ?l11 ?c11 ?k11 ?a12 ?l12 ?c12 ?k12 ?a13 ?l13 ?c13 ?k13 ?a14 ?l14 ?c14 ?k14 ?a15 ?l15 ?c15 ?k15 ?a16 ?l16 ?c16 ?k16 ?a17 ?l17 ?c17 ?k17 ?a18 ?l18 ?c18 ?k18 ?a19 ?l19 ?c19 ?k19 ?a20 ?l20 ?c20 ?k20 ?a21 ?l21 ?c21 ?k21 ?a22 ?l22 ?c22 ?k22 ?a23 ?l23 ?c23 ?k23 ?a24 ?l24 ?c24 ?k24 ?a25 ?l25 ?c25 ?k25 ?a26 ?l26 ?c26 ?k26 ?a27 ?l27 ?c27 ?k27 ?a28 ?l28 ?c28 ?k28 ?a29 ?l29 ?c29 ?k29 ?a30 ?l30 ?c30 ?k30 ?a31 ?l31 ?c31 ?k31 ?a32 ?l32 ?c32 ?k32 ?a33 ?l33 ?c33 ?k33 ?a34 ?l34 ?c34 ?k34 ?a35 ?l35 ?c35 ?k35 ?a36 ?l36 ?c36 ?k36 ?a37 ?l37 ?c37 ?k37 ?a38 ?l38 ?c38 ?k38 ?a39 ?l39 ?c39 ?k39 ?a40 ?l40 ?c40 ?k40 ?a41 ?l41 ?c41 ?k41 ?a42 ?l42 ?c42 ?k42 ?a43 ?l43 ?c43 ?k43 ?a44 ?l44 ?c44 ?k44 ?a45 ?l45 ?c45 ?k45 ?a46 ?l46 ?c46 ?k46 ?a47 ?l47 ?c47 ?k47 ?a48 ?l48 ?c48 ?k48 ?a49 ?l49 ?c49 ?k49 ?a50 ?l50 ?c50 ?k50 ?z_len ?z_int ?z_divmod ?z_list ?z_isinstance ?z_tuple ?z_all ?z_any ?z_zip ?z_str ?z_bool ?z_range ?z_RuntimeError ?z_repr ?aLV ?aMV ?aN0 ?aP ?lP ?vP ?gP ?aS ?lS ?kS ?n_plus ?n_minus ?n_by ?n_over ?n_rest ?aCt ?lCt ?kCt ?nC0 ?nC1 ?nC2 ?nC3 ?nC4 ?nC5 ?nC6 ?nC7 ?nC8 ?aC ?xL ?sa ?ga ?gg ?nb ?ac ?sg ?tk ?mo ?sr ?aI ?tI ?lI ?cI ?kC ?eC ?tC ?hC ?sC ?aO_BadLine ?eO_BadLine ?hO_BadLine ?tO_BadLine ?sO_BadLine ?aO_BadPlay ?eO_BadPlay ?hO_BadPlay ?tO_BadPlay ?sO_BadPlay ?aO_NoOne ?eO_NoOne ?hO_NoOne ?tO_NoOne ?sO_NoOne ?aO_NotOpen ?eO_NotOpen ?hO_NotOpen ?tO_NotOpen ?sO_NotOpen ?aO_NoTurn ?eO_NoTurn ?hO_NoTurn ?tO_NoTurn ?sO_NoTurn ?aO_Open ?eO_Open ?hO_Open ?tO_Open ?sO_Open ?aO_TooMany ?eO_TooMany ?hO_TooMany ?tO_TooMany ?sO_TooMany
    (case a1 => k_is)
    (case l1 => k_is)
    (case c1 => k_is)
    (case k1 => k_is)
    (case a2 => k_is)
    (case l2 => k_is)
    (case c2 => k_is)
    (case k2 => k_is)
    (case a3 => k_is)
    (case l3 => k_is)
    (case c3 => k_is)
    (case k3 => k_is)
    (case a4 => k_is)
    (case l4 => k_is)
    (case c4 => k_is)
    (case k4 => k_is)
    (case a5 => k_is)
    (case l5 => k_is)
    (case c5 => k_is)
    (case k5 => k_is)
    (case a6 => k_is)
    (case l6 => k_is)
    (case c6 => k_is)
    (case k6 => k_is)
    (case a7 => k_is)
    (case l7 => k_is)
    (case c7 => k_is)
    (case k7 => k_is)
    (case a8 => k_is)
    (case l8 => k_is)
    (case c8 => k_is)
    (case k8 => k_is)
    (case a9 => k_is)
    (case l9 => k_is)
    (case c9 => k_is)
    (case k9 => k_is)
    (case a10 => k_is)
    (case l10 => k_is)
    (case c10 => k_is)
    (case k10 => k_is)
    (case a11 => k_is)
    (case l11 => k_is)
    (case c11 => k_is)
    (case k11 => k_is)
    (case a12 => k_is)
    (case l12 => k_is)
    (case c12 => k_is)
    (case k12 => k_is)
    (case a13 => k_is)
    (case l13 => k_is)
    (case c13 => k_is)
    (case k13 => k_is)
    (case a14 => k_is)
    (case l14 => k_is)
    (case c14 => k_is)
    (case k14 => k_is)
    (case a15 => k_is)
    (case l15 => k_is)
    (case c15 => k_is)
    (case k15 => k_is)
    (case a16 => k_is)
    (case l16 => k_is)
    (case c16 => k_is)
    (case k16 => k_is)
    (case a17 => k_is)
    (case l17 => k_is)
    (case c17 => k_is)
    (case k17 => k_is)
    (case a18 => k_is)
    (case l18 => k_is)
    (case c18 => k_is)
    (case k18 => k_is)
    (case a19 => k_is)
    (case l19 => k_is)
    (case c19 => k_is)
    (case k19 => k_is)
    (case a20 => k_is)
    (case l20 => k_is)
    (case c20 => k_is)
    (case k20 => k_is)
    (case a21 => k_is)
    (case l21 => k_is)
    (case c21 => k_is)
    (case k21 => k_is)
    (case a22 => k_is)
    (case l22 => k_is)
    (case c22 => k_is)
    (case k22 => k_is)
    (case a23 => k_is)
    (case l23 => k_is)
    (case c23 => k_is)
    (case k23 => k_is)
    (case a24 => k_is)
    (case l24 => k_is)
    (case c24 => k_is)
    (case k24 => k_is)
    (case a25 => k_is)
    (case l25 => k_is)
    (case c25 => k_is)
    (case k25 => k_is)
    (case a26 => k_is)
    (case l26 => k_is)
    (case c26 => k_is)
    (case k26 => k_is)
    (case a27 => k_is)
    (case l27 => k_is)
    (case c27 => k_is)
    (case k27 => k_is)
    (case a28 => k_is)
    (case l28 => k_is)
    (case c28 => k_is)
    (case k28 => k_is)
    (case a29 => k_is)
    (case l29 => k_is)
    (case c29 => k_is)
    (case k29 => k_is)
    (case a30 => k_is)
    (case l30 => k_is)
    (case c30 => k_is)
    (case k30 => k_is)
    (case a31 => k_is)
    (case l31 => k_is)
    (case c31 => k_is)
    (case k31 => k_is)
    (case a32 => k_is)
    (case l32 => k_is)
    (case c32 => k_is)
    (case k32 => k_is)
    (case a33 => k_is)
    (case l33 => k_is)
    (case c33 => k_is)
    (case k33 => k_is)
    (case a34 => k_is)
    (case l34 => k_is)
    (case c34 => k_is)
    (case k34 => k_is)
    (case a35 => k_is)
    (case l35 => k_is)
    (case c35 => k_is)
    (case k35 => k_is)
    (case a36 => k_is)
    (case l36 => k_is)
    (case c36 => k_is)
    (case k36 => k_is)
    (case a37 => k_is)
    (case l37 => k_is)
    (case c37 => k_is)
    (case k37 => k_is)
    (case a38 => k_is)
    (case l38 => k_is)
    (case c38 => k_is)
    (case k38 => k_is)
    (case a39 => k_is)
    (case l39 => k_is)
    (case c39 => k_is)
    (case k39 => k_is)
    (case a40 => k_is)
    (case l40 => k_is)
    (case c40 => k_is)
    (case k40 => k_is)
    (case a41 => k_is)
    (case l41 => k_is)
    (case c41 => k_is)
    (case k41 => k_is)
    (case a42 => k_is)
    (case l42 => k_is)
    (case c42 => k_is)
    (case k42 => k_is)
    (case a43 => k_is)
    (case l43 => k_is)
    (case c43 => k_is)
    (case k43 => k_is)
    (case a44 => k_is)
    (case l44 => k_is)
    (case c44 => k_is)
    (case k44 => k_is)
    (case a45 => k_is)
    (case l45 => k_is)
    (case c45 => k_is)
    (case k45 => k_is)
    (case a46 => k_is)
    (case l46 => k_is)
    (case c46 => k_is)
    (case k46 => k_is)
    (case a47 => k_is)
    (case l47 => k_is)
    (case c47 => k_is)
    (case k47 => k_is)
    (case a48 => k_is)
    (case l48 => k_is)
    (case c48 => k_is)
    (case k48 => k_is)
    (case a49 => k_is)
    (case l49 => k_is)
    (case c49 => k_is)
    (case k49 => k_is)
    (case a50 => k_is)
    (case l50 => k_is)
    (case c50 => k_is)
    (case k50 => k_is)
    (case z_len => k_is)
    (case z_int => k_is)
    (case z_divmod => k_is)
    (case z_list => k_is)
    (case z_isinstance => k_is)
    (case z_tuple => k_is)
    (case z_all => k_is)
    (case z_any => k_is)
    (case z_zip => k_is)
    (case z_str => k_is)
    (case z_bool => k_is)
    (case z_range => k_is)
    (case z_RuntimeError => k_is)
    (case z_repr => k_is)
    (case aLV => k_is)
    (case aMV => k_is)
    (case aN0 => k_is)
    (case aP => k_is)
    (case lP => k_is)
    (case vP => exact .cons ⟨_, rfl⟩ (.cons ⟨_, rfl⟩ (.cons ⟨_, rfl⟩ (.cons ⟨_, rfl⟩ .nil))))
    (case gP => decide)
    (case aS => k_is)
    (case lS => k_is)
    (case kS => exact ⟨⟨_, _, rfl, rfl⟩, ⟨_, _, rfl, rfl⟩, ⟨_, _, rfl, rfl⟩, ⟨_, _, rfl, rfl⟩, ⟨_, _, rfl, rfl⟩, trivial⟩)
    (case n_plus => k_is)
    (case n_minus => k_is)
    (case n_by => k_is)
    (case n_over => k_is)
    (case n_rest => k_is)
    (case aCt => k_is)
    (case lCt => k_is)
    (case kCt => exact ⟨⟨_, _, rfl, rfl⟩, ⟨_, _, rfl, rfl⟩, ⟨_, _, rfl, rfl⟩, ⟨_, _, rfl, rfl⟩, ⟨_, _, rfl, rfl⟩, ⟨_, _, rfl, rfl⟩, ⟨_, _, rfl, rfl⟩, ⟨_, _, rfl, rfl⟩, ⟨_, _, rfl, rfl⟩, trivial⟩)
    (case nC0 => k_is)
    (case nC1 => k_is)
    (case nC2 => k_is)
    (case nC3 => k_is)
    (case nC4 => k_is)
    (case nC5 => k_is)
    (case nC6 => k_is)
    (case nC7 => k_is)
    (case nC8 => k_is)
    (case aC => k_is)
    (case xL => k_is)
    (case sa => k_is)
    (case ga => k_is)
    (case gg => k_is)
    (case nb => k_is)
    (case ac => k_is)
    (case sg => k_is)
    (case tk => k_is)
    (case mo => k_is)
    (case sr => k_is)
    (case aI => k_is)
    (case tI => k_is)
    (case lI => k_is)
    (case cI => k_is)
    (case kC => k_is)
    (case eC => k_is)
    (case tC => k_is)
    (case hC => k_is)
    (case sC => first | rfl | k_is)
    (case aO_BadLine => k_is)
    (case eO_BadLine => k_is)
    (case hO_BadLine => k_is)
    (case tO_BadLine => k_is)
    (case sO_BadLine => first | rfl | k_is)
    (case aO_BadPlay => k_is)
    (case eO_BadPlay => k_is)
    (case hO_BadPlay => k_is)
    (case tO_BadPlay => k_is)
    (case sO_BadPlay => first | rfl | k_is)
    (case aO_NoOne => k_is)
    (case eO_NoOne => k_is)
    (case hO_NoOne => k_is)
    (case tO_NoOne => k_is)
    (case sO_NoOne => first | rfl | k_is)
    (case aO_NotOpen => k_is)
    (case eO_NotOpen => k_is)
    (case hO_NotOpen => k_is)
    (case tO_NotOpen => k_is)
    (case sO_NotOpen => first | rfl | k_is)
    (case aO_NoTurn => k_is)
    (case eO_NoTurn => k_is)
    (case hO_NoTurn => k_is)
    (case tO_NoTurn => k_is)
    (case sO_NoTurn => first | rfl | k_is)
    (case aO_Open => k_is)
    (case eO_Open => k_is)
    (case hO_Open => k_is)
    (case tO_Open => k_is)
    (case sO_Open => first | rfl | k_is)
    (case aO_TooMany => k_is)
    (case eO_TooMany => k_is)
    (case hO_TooMany => k_is)
    (case tO_TooMany => k_is)
    (case sO_TooMany => first | rfl | k_is)

