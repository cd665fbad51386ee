import PyProof.Rows.All
import Wide.All
import OpenK.AllK
import Wide.FinOn
import PyProof.EqAt
import PyProof.EqKinds
import PyProof.TupleCall
import KE.KExcInit
import KE.KExcIs
import HandS.ForMost
import HandS.ForExc
import HandS.IsInst
import HandS.ExcValue
import HandS.ExcField
import HandS.Walk
import HandS.Wide
import HandS.Zip
import HandS.Codes
import HandS.Head0
import HandS.Head1
import HandS.Head2
import KE.KDictDisplayH
import HandS.Dict
import HandS.List
import HandS.Strs
import HandS.More
import HandS.Style
import HandS.TupAny
import KE.GoesMore
import PyProof.Rows.IntBool
import PyProof.CallStr
import PyProof.Rows.StrIntSpec
import PyProof.ReprLen
import PyProof.ReprRoads
import PyProof.Rows.ReprShort
import PyProof.Rows.NestShow
import HandS.ExcOwn
import HandS.TupLe
import HandS.Ends
import HandS.HeadHook1
import HandS.ExcIs
import HandS.Words
import PySem.Challenge.RW_figuredeeds_k08_what_blocks_are
set_option Elab.async false
set_option linter.all false
set_option maxRecDepth 100000
set_option maxHeartbeats 2000000
namespace PySem
namespace FellX
open PySem.W PySem.Calls PyProof.Rows PySem.HandSPX Builtin Builtin.ObjectAttr
abbrev rtTail : List Value := [.type "RuntimeError", .type "Exception", .type "BaseException", .type "object"]
/-- a first field of a fresh error whose class stands straight under RuntimeError -/
theorem rt_osa {prog : Program} {w : World} {A : Around} {R : Result → Shared → Prop} {hp : Heap} {gs : Array GenState} {dr : Drawn} {n : Nat} {os : OsState}
    {K : W.Frag} {f : Str} {tk : Tok} {v : Value} {x C : Addr} {fv : Array Value} {cd : ClassData} (X : K.In hp)
    (hx : hp.get? x = some { cls := .ref C, data := .fields fv }) (hcd : W.clsIn K C = some cd) (hm : cd.mro = .ref C :: rtTail) (hh : cd.hasDict = true)
    (ha : W.findIn K (.ref C) f = some none)
    (hq : ∀ h' tk' dx, (∀ b o, b ≠ x → hp.get? b = some o → h'.get? b = some o) → hp.objs.size ≤ dx → dx ≠ x →
      h'.get? x = some { cls := .ref C, dict := some dx, data := .fields fv } → h'.Ns1 dx (fun y => if y = f then some v else none) →
      R (.ok (.ret .none)) ⟨h', gs, dr, tk', os⟩) :
    codeAny (model prog w) A (.call (.builtin "object.__setattr__") ⟨[.ref x, .str f tk, v], []⟩) R ⟨hp, gs, dr, n, os⟩ := by
  have J : W.InstAt hp x { cls := .ref C, data := .fields fv } C none := ⟨hx, rfl, rfl, trivial⟩
  have S := F.store_object
  have hob : cd.mro.contains (.type "object") = true := by
    rw [hm, List.contains_cons, show rtTail.contains (.type "object") = true by decide +kernel, Bool.or_true]
  have xs : x ≠ hp.objs.size := Nat.ne_of_lt (Heap.lt_size hx)
  have su : W.Looks (model prog w) hp (isInstance (.ref x) (.type "object")) true := J.type.andThen
    (W.looks_mroIn X (by unfold W.mroIn; rw [hcd, Option.bind_some, if_neg (by rw [hm]; intro z; cases z), hob]))
  refine codeAny_call_builtin S.slot.plain S.entry
    (@W.check_slot (model prog w) _ _ ⟨hp, gs, dr, n, os⟩ "object.__setattr__" "object" "__setattr__" (.ref x) [.str f tk, v] [] _ S.kind S.split su
      (S.args (.ref x) (.str f tk) v) ?_)
  have lm : W.Looks (model prog w) hp (mroOf (.ref C)) cd.mro := (W.looks_clsIn X hcd).andThen .now
  have lt : W.Looks (model prog w) hp (storeTaker? none) none := .now
  have lc : W.Looks (model prog w) hp (classData C) cd := W.looks_clsIn X hcd
  rw [W.osa_eq, refuse_eq]
  refine wpAny_bind (wpAny_bind (J.type.at (wpAny_bind (lm.at ?_))))
  rw [hm, refuseLoop_ref, show refuseLoop (Value.ref x) "__setattr__" rtTail = pure () from F.store_RuntimeError.passes _]
  refine wpAny_pure (wpAny_bind (J.type.at (wpAny_bind
    ((W.looks_findIn X ha).at (wpAny_bind (lt.at ?_))))))
  show wpAny _ _ (storeInOwnDict (.ref x) (.ref C) (.str f tk) f v false) _ _ _
  obtain ⟨_, _, mro, _, _, hd, _, _, _, _, _⟩ := cd
  dsimp only at hh
  subst hh
  unfold storeInOwnDict ownDictForStores
  repeat (first
    | with_reducible refine store_in_new ?_ ?_
    | with_reducible refine wpAny_loadPart_at hx ?_
    | with_reducible refine lc.at ?_
    | wp_step)
  · exact ⟨_, #[], _, (Heap.get?_update_ne _ _ _ _ xs.symm).trans (Heap.get?_push_at rfl rfl), rfl,
      fun e he => absurd he (by simp), fun _ => rfl⟩
  · intro h' tk' hn' hs
    have hx' : (hp.push { cls := .type "dict", data := .dict #[] }).get? x = some { cls := .ref C, data := .fields fv } :=
      Heap.get?_push_of_some _ hx
    refine hq h' tk' hp.objs.size (fun b o nb e => ?_) (Nat.le_refl _) xs.symm ?_ hn'
    · exact (hs.2 b (Nat.ne_of_lt (Heap.lt_size e))).trans
        ((Heap.get?_update_ne _ _ _ _ nb).trans (Heap.get?_push_of_some _ e))
    · exact (hs.2 x xs).trans (Heap.get?_update_self _ hx' rfl)
end FellX
end PySem
namespace PySem
namespace FellX
open PySem.W PySem.Calls PyProof.Rows PySem.HandSPX
/-! ### the text of __init__ -/
def iA (p1 p2 : Pos) : Arguments := { posonlyargs := [], args := [{ arg := "self", annotation := none, pos := p1 }, { arg := "word", annotation := none, pos := p2 }], vararg := none, kwonlyargs := [], kw_defaults := [], kwarg := none, defaults := [] }
def iB (q1 q2 q3 q4 : Pos) : List Stmt := [.Assign [.Attribute (.Name "self" q1) "word" q2] (.Name "word" q3) q4]
def iS : Scope := { kind := .function, names := [(PySem.Str.ofString "self", .local), (PySem.Str.ofString "word", .local)], isGenerator := false, isCoroutine := false, more := [] }
/-- what the written part says of Fell, at C, and of its __init__, at fI -/
structure FellTxt (K : Frag) (mg : Str → Option Value) (C fI : Addr) : Prop where
  gC : mg "Fell" = some (.ref C)
  cls : ∃ nm q N bs bm sn sub ab col dd k0 k1 k2 k3 k5, K.lookup C = some (excClassObj nm q C N bs bm true sn sub ab col dd k0 k1 k2 k3 k5 "RuntimeError.__new__") ∧ bm = rtTail
  sa : findIn K (.ref C) "__setattr__" = some (some (.builtin "object.__setattr__"))
  ga : findIn K (.ref C) "__getattribute__" = some (some (.builtin "BaseException.__getattribute__"))
  gg : findIn K (.ref C) "__getattr__" = some none
  noN : findIn K (.ref C) "word" = some none
  iC : findIn K (.ref C) "__init__" = some (some (.ref fI))
  tC : typeIn K (.ref fI) = some (.type "function")
  kC : keepIn K (.ref C) = true
  exC : subIn K (.ref C) (.type "BaseException") = some true
  tyC : typeIn K (.ref C) = some (.type "type")
  hdC : hasDictIn K C = true
  te : exmOne K (.ref C) (.ref C) = some true
  fn : ∃ (oc : Value) (od : Option Addr) (doc pm : Value) (an : Option Addr) (cdv ct : Value) (osl : Array (Option Value)) (p1 p2 q1 q2 q3 q4 : Pos),
    K.lookup fI = some ⟨oc, od, .func (fnOf "__init__" "Fell.__init__" (iA p1 p2) (iB q1 q2 q3 q4) iS .none .none doc pm an cdv ct), osl⟩ ∧ codeIn K cdv "Fell.__init__" = true
theorem one_size (v : Value) : [v].length ≤ sizeLine := by
  rw [sizeLine_eq]
  exact (by decide : 1 ≤ 16777216)
theorem kept_but {K : Frag} {h h' : Heap} {x : Addr} (X : K.In h) (hx : K.lookup x = none) (k : ∀ b o, b ≠ x → h.get? b = some o → h'.get? b = some o) : K.In h' := fun a o e =>
  k a o (fun z => by rw [z, hx] at e; cases e) (X a o e)
theorem ldC {M : Model} {s : Shared} {name : Str} {scope : Scope} {L a : Addr} {cd : Value} {m : Str → Option Value} {x : Str} {pos : Pos} {v : Value} {Q : Value → Shared → Prop} {A : Around} {E : Value → Shared → Prop} (hn : s.heap.Ns L m) (hv : m x = some v) (h : Q v s)
    (hk : scope.kind = .function := by rfl) (hl : (envOfC name scope L a cd).kindOf x = some .local := by rfl) (hd : (x == ("__debug__" : Str)) = false := by decide) :
    wpAny M A (eval (.Name x pos) (envOfC name scope L a cd)) Q E s := wpAny_Name (wpAny_loadName_local hk hl hn hv h) hd
/-- what __init__ leaves of a fresh exception at x -/
structure InitEnd (h h' : Heap) (x C dx t1 : Addr) (v : Value) : Prop where
  keep : ∀ b o, b ≠ x → h.get? b = some o → h'.get? b = some o
  obj : h'.get? x = some { cls := .ref C, dict := some dx, data := .fields #[.ref t1, .none, .none, .none, .bool false, .none] }
  dbig : h.objs.size ≤ dx
  dne : dx ≠ x
  ns : h'.Ns1 dx (fun y => if y = "word" then some v else none)
/-- a made Fell -/
structure OwnMade (h h' : Heap) (e C d : Addr) (v : Value) : Prop where
  keep : ∀ b o, h.get? b = some o → h'.get? b = some o
  new : h.objs.size ≤ e
  obj : ∃ oe vs, h'.get? e = some oe ∧ oe.cls = .ref C ∧ oe.dict = some d ∧ oe.data = .fields vs ∧ vs[1]? = some .none
  dbig : h.objs.size ≤ d
  dne : d ≠ e
  ns : h'.Ns1 d (fun y => if y = "word" then some v else none)
section
variable {prog : Program} {w : World} {A : Around} {E : Value → Shared → Prop} {R : Result → Shared → Prop} {s : Shared} {K : Frag} {mg : Str → Option Value} {C fI : Addr}
theorem fell_init (T : FellTxt K mg C fI) {x t0 : Addr} {v : Value} (X : K.In s.heap) (hlim : s.heap.NoLimit) (hx : s.heap.get? x = some (excO C t0)) (hnx : K.lookup x = none) (hroom : A.depth < recursionLimit)
    (hq : ∀ h' tk dx, InitEnd s.heap h' x C dx t0 v → R (.ok (.ret .none)) { s with heap := h', toks := tk }) :
    codeAny (model prog w) A (.call (.ref fI) ⟨[.ref x, v], []⟩) R s := by
  obtain ⟨oc, od, doc, pm, an, cdv, ct, osl, p1, p2, q1, q2, q3, q4, ho, hcd⟩ := T.fn
  obtain ⟨nm, q, N, bs, bm, sn, sub, ab, col, dd, k0, k1, k2, k3, k5, hC, hbm⟩ := T.cls
  have hcl : clsIn K C = some { name := nm, bases := bs, mro := .ref C :: bm, ns := N, qualname := q, hasDict := true, slotNames := sn, subclasses := sub, abstract := ab, collection := col, hasDel := false } := by unfold clsIn; rw [hC] <;> rfl
  refine Att.call_fn (binds := [("self", .ref x), ("word", v)]) X hlim ho hcd hroom (BindsTo.of_eq (by first | rfl | with_unfolding_all rfl)) (by first | rfl | decide | with_unfolding_all rfl) (fun s₁ IC => ?_) rfl rfl rfl
  obtain ⟨h₁, tk₁, rfl⟩ := IC.toInCall.same
  have k : ∀ b o, s.heap.get? b = some o → h₁.get? b = some o := IC.toInCall.keep
  have hn := IC.toInCall.ns
  have hxL : s.heap.objs.size ≠ x := Nat.ne_of_gt (Heap.lt_size hx)
  have X₁ : K.In h₁ := X.keeps k
  have hx₁ := k _ _ hx
  -- self.by = by
  show wpAny _ _ (execs _ _) _ _ _
  refine wpAny_execs_cons (plainObj_wpAny_Assign_Attribute ?_)
  refine ldC (v := v) hn (by first | rfl | with_unfolding_all rfl | kernel_rfl) (ldC (v := .ref x) hn (by first | rfl | with_unfolding_all rfl | kernel_rfl) ?_)
  refine set_plain X₁ (ox := excO C t0) (od := none) ⟨hx₁, rfl, rfl, trivial⟩ T.sa ?_
  refine rt_osa X₁ hx₁ hcl (show (Value.ref C :: bm) = .ref C :: rtTail by rw [hbm]) rfl T.noN (fun h₃ tk₃ dx k₃ dn dne hx₃ hn₃ => ?_)
  show wpAny _ _ (execs _ _) _ _ _
  have z : s.heap.objs.size < h₁.objs.size := hn.lt
  exact wpAny_execs_nil (hq h₃ tk₃ dx ⟨fun b o hb e => k₃ b o hb (k b o e), hx₃, Nat.le_of_lt (Nat.lt_of_lt_of_le z dn), dne, hn₃⟩)
theorem fell_made (T : FellTxt K mg C fI) {v : Value} (X : K.In s.heap) (hlim : s.heap.NoLimit) (hroom : A.depth + 1 < recursionLimit)
    (hq : ∀ h' tk e d, OwnMade s.heap h' e C d v → R (.ok (.ret (.ref e))) { s with heap := h', toks := tk }) :
    codeAny (model prog w) A (.call (.ref C) ⟨[v], []⟩) R s := by
  obtain ⟨nm, q, N, bs, bm, sn, sub, ab, col, dd, k0, k1, k2, k3, k5, hC, hbm⟩ := T.cls
  obtain ⟨hp, g, dr, tk, os⟩ := s
  have k : ∀ b o, hp.get? b = some o → ((hp.push (kdv_tup [v])).push (excO C hp.objs.size)).get? b = some o := fun b o e => Heap.get?_push_of_some _ (Heap.get?_push_of_some _ e)
  have hget : ((hp.push (kdv_tup [v])).push (excO C hp.objs.size)).get? (hp.objs.size + 1) = some (excO C hp.objs.size) := by heap_get
  have hnx : K.lookup (hp.objs.size + 1) = none := by
    cases e : K.lookup (hp.objs.size + 1) with
    | none => rfl
    | some o =>
      have z : hp.get? (hp.objs.size + 1) = some o := X _ _ e
      exact absurd (Nat.lt_of_succ_lt (Heap.lt_size z)) (Nat.lt_irrefl _)
  refine call_own F.excBase_RuntimeError (fun X => by rw [hbm]) (X _ _ hC) (looks_findIn X T.iC) (fun self => bind_fn X self T.tC) (one_size v) ?_
  refine fell_init (s := ⟨(hp.push (kdv_tup [v])).push (excO C hp.objs.size), g, dr, tk, os⟩) T (X.keeps k) (hlim.keeps k) hget hnx ?_ fun h' tk' dx ⟨k', hx, dn, dne, hns⟩ => ?_
  · show A.depth + 1 < recursionLimit
    exact hroom
  · have old : ∀ b o, hp.get? b = some o → h'.get? b = some o := fun b o e => k' b o (Nat.ne_of_lt (Nat.lt_succ_of_lt (Heap.lt_size e))) (k b o e)
    have z : hp.objs.size + 1 + 1 ≤ dx := by
      first
        | (simpa only [Heap.size_push] using dn)
        | exact dn
        | (have q := dn; rw [Heap.size_push, Heap.size_push] at q; exact q)
    exact ⟨rfl, hq h' tk' (hp.objs.size + 1) dx ⟨old, Nat.le_succ _, ⟨_, _, hx, rfl, rfl, rfl, rfl⟩, Nat.le_trans (Nat.le_trans (Nat.le_succ _) (Nat.le_succ _)) z, dne, hns⟩⟩
end
end FellX
end PySem
namespace L2
open PySem PySem.Spec PyProof.Rows
theorem relO_fell {v : V} {v' : Value} (r : RelV v v') (f : Str) : RelO (List.lookup f [(("word" : Str), v)]) (if f = "word" then some v' else none) := by
  by_cases hw : f = "word"
  · subst hw
    rw [if_pos rfl]
    have q : List.lookup ("word" : Str) [(("word" : Str), v)] = some v := by simp [List.lookup]
    rw [q]
    exact r
  · rw [if_neg hw]
    have qw : (f == ("word" : Str)) = false := by simpa using hw
    have q2 : List.lookup f [(("word" : Str), v)] = none := by simp [List.lookup, qw]
    rw [q2]
    trivial
section
variable {X : Cx} {C fI : Addr}
/-- Fell(e) -/
def tMkFell (C : Addr) (ta : TA) : St → Hp → XK → Prop := fun σ H Q => ta σ H fun vs H1 => ∃ v, vs = [v] ∧ ∀ d, H1 d = none → Q (.ref C) (some d) (upd H1 d (.xd [(("word" : Str), v)]))
theorem pmk_fell {a : Expr} {ta : TA} {p pos : Pos} {k : Nat} (T : PySem.FellX.FellTxt X.K X.mg C fI) (hr : Room k X.A) (ha : PA X [a] ta) (hg : Gl X "Fell" := by rfl)
    (he : starEach (a :: []) X.env = (false, eval a X.env) :: starEach [] X.env := by rfl) (hpl : (backTo pos (starEach [] X.env)).any (·.1) = false := by rfl) :
    PMk X (.Call (.Name "Fell" p) [a] [] pos) (tMkFell C ta) := by
  intro pins s σ H Q I h
  refine wpAny_Call_Name_kw (ld_glob I hg T.gC ?_)
  refine PySem.W.callWith_K (h₀ := X.base) I.ok.mod.kin T.kC (thn (ha.run pos pins s σ H _ I h) fun us s1 hh => ?_) he hpl
  obtain ⟨vs, H1, I1, r1, v, ev, q1⟩ := hh
  subst ev
  refine ⟨I1.kIn, ?_⟩
  cases r1 with
  | cons rv rn =>
    rename_i v' us'
    cases rn
    show wpAny _ _ (call (.ref C) [v']) _ _ _
    have hlim := I1.nolimit
    obtain ⟨hp, g, dr, tk, os⟩ := s1
    refine wpAny_call (PySem.FellX.fell_made T I1.kIn hlim (by have := hr.dp; omega) fun h' tk' e d M => ?_)
    show MkP X pins σ Q (.ref e) ⟨h', g, dr, tk', os⟩
    obtain ⟨oe, fv, hoe, hc, hd, hdat, h1⟩ := M.obj
    have hns := M.ns
    obtain ⟨G', g1, g2⟩ := restrict h' fun b => decide (b ≠ e)
    have gk : ∀ b, b ≠ e → G'.get? b = h'.get? b := fun b hb => g1 b (decide_eq_true hb)
    have ge : G'.get? e = none := g2 e (by simp)
    have old : ∀ b o, hp.get? b = some o → G'.get? b = some o := fun b o q => (gk b (Nat.ne_of_lt (Nat.lt_of_lt_of_le (Heap.lt_size q) M.new))).trans (M.keep b o q)
    have ob : ObjOk X.prog X.w (upd H1 d (.xd [(("word" : Str), v)])) G' d (.xd [(("word" : Str), v)]) :=
      ⟨_, hns.at (fun o q => (gk d M.dne).trans q), fun f => relO_fell rv f⟩
    have J : Inv X pins σ (upd H1 d (.xd [(("word" : Str), v)])) ⟨G', g, dr, tk', os⟩ := I1.laid (t' := tk') old M.dbig ob
    refine ⟨e, oe, fv, ⟨G', g, dr, tk', os⟩, _, .ref C, some d, rfl, J, fun b o q => ?_, ge, hoe, ⟨hc, hd⟩, hdat, h1, ?_, rfl, I1.bare, raises_own T.exC T.tyC, q1 d (I1.hok.fresh M.dbig)⟩
    · by_cases hb : b = e
      · have q' : G'.get? b = some o := q
        rw [hb, ge] at q'; cases q'
      · exact (gk b hb).symm.trans q
    · rw [upd_ne (Ne.symm M.dne)]
      exact I1.hok.fresh M.new
/-- raise Fell(e) -/
def tRaiseFell (C : Addr) (W : WX) (ta : TA) : TS := fun _ σ H => tMkFell C ta σ H fun cls d H' => W cls d σ H'
theorem ps_raiseFell {a : Expr} {ta : TA} {W : WX} {p pos pos2 : Pos} {k : Nat} (hc : X.calm = true) (T : PySem.FellX.FellTxt X.K X.mg C fI) (hr : Room k X.A) (tk : Takes X W) (ha : PA X [a] ta) (hg : Gl X "Fell" := by rfl)
    (he : starEach (a :: []) X.env = (false, eval a X.env) :: starEach [] X.env := by rfl) (hpl : (backTo pos (starEach [] X.env)).any (·.1) = false := by rfl) :
    PS X (.Raise (some (.Call (.Name "Fell" p) [a] [] pos)) none pos2) (tRaiseFell C W ta) := ps_raise hc tk (pmk_fell T hr ha hg he hpl)
/-- low.by, low the exception that the suite holds (at a; its class cls, its dict d) -/
def tWord (C : Addr) (a : Addr) (cls : Value) (d : Option Addr) (te : TE) : TE := fun σ H Q => te σ H fun x H1 => x = .ref a ∧ cls = .ref C ∧ ∃ (dd : Addr) (v : V), d = some dd ∧ H1 dd = some (.xd [(("word" : Str), v)]) ∧ Q v H1
theorem pe_word {a : Addr} {oe : Obj} {cls : Value} {d : Option Addr} {pn : List (Addr × Obj)} {e : Expr} {te : TE} {pos : Pos} (T : PySem.FellX.FellTxt X.K X.mg C fI) (hz : Zc cls d oe) (hf : ∃ vs, oe.data = .fields vs) (he : PE (X.suite a ((a, oe) :: pn)) e te)
    (hb : attributeBase e "word" X.env (eval e X.env) = eval e X.env := by rfl) :
    PE (X.suite a ((a, oe) :: pn)) (.Attribute e "word" pos) (tWord C a cls d te) := by
  refine ⟨fun pins s σ H Q I h => ?_⟩
  refine attr_of hb (thn (he.run pins s σ H _ I h) fun u s1 hh => ?_)
  obtain ⟨x, H1, I1, rx, ex, ec, dd, v, ed, ea, q⟩ := hh
  subst ex
  obtain rfl : u = Value.ref a := rx
  subst ec
  subst ed
  obtain ⟨ha, _⟩ := I1.pin (a, oe) (List.mem_append_left _ List.mem_cons_self)
  obtain ⟨vs, hd⟩ := hf
  have hx : ObjOk X.prog X.w H1 s1.heap dd (.xd [(("word" : Str), v)]) := I1.hok dd _ ea
  obtain ⟨mA, hns, hr⟩ := hx
  obtain ⟨od, ho, hl⟩ := lookIn_ns hns
  have l : List.lookup ("word" : Str) [(("word" : Str), v)] = some v := by simp [List.lookup]
  obtain ⟨u, hu, ru⟩ := RelO.some_of (v := v) (o := mA "word") (by rw [← l]; exact hr "word")
  have J : PySem.W.InstAt s1.heap a oe C (some od) := ⟨ha, hz.1, by unfold PySem.W.notCls; rw [hd] <;> rfl, by rw [hz.2]; exact ho⟩
  exact HandSPX.exc_get I1.kIn J T.ga T.gg T.exC (PySem.W.findObj_own T.hdC T.noN rfl (by rw [hl, hu])) (handed_of ru) ⟨v, H1, I1.tok _, ru, q⟩
end
end L2


set_option Elab.async false
set_option linter.all false
set_option maxRecDepth 100000
set_option maxHeartbeats 2000000
/-! A try whose suite keeps the error by another name: behind it the error is tracked, its class and its fields are read. -/
namespace L2
open PySem PySem.Spec PyProof.Rows
/-- a caught error at a: its class, its own dict -/
def ErrO (cls : Value) (d : Option Addr) (a : Addr) : HO :=
  .ext fun h => ∃ (oe : Obj) (vs : Array Value), h.get? a = some oe ∧ Zc cls d oe ∧ oe.data = .fields vs
theorem errO_at {P : Program} {w : World} {H : Hp} {h : Heap} {a : Addr} {cls : Value} {d : Option Addr}
    (hk : HOk P w H h) (e : H a = some (ErrO cls d a)) : ∃ (oe : Obj) (vs : Array Value), h.get? a = some oe ∧ Zc cls d oe ∧ oe.data = .fields vs :=
  (show ObjOk P w H h a (ErrO cls d a) from hk a _ e).1
section
variable {X : Cx} {pins : List (Addr × Obj)} {σ : St} {H : Hp} {s : Shared}
/-- what was pinned is tracked from here on -/
theorem Inv.track {a : Addr} {oe : Obj} {cls : Value} {d : Option Addr} (I : Inv X ((a, oe) :: pins) σ H s) (hz : Zc cls d oe) (hf : ∃ vs, oe.data = .fields vs)
    (h0 : ∀ o, X.s_0.heap.get? a = some o → a ∉ X.ex → False) (hp : ∀ p ∈ X.pn ++ pins, p.1 ≠ a) : Inv X pins σ (upd H a (ErrO cls d a)) s := by
  have mem : (a, oe) ∈ X.pn ++ (a, oe) :: pins := List.mem_append_right _ List.mem_cons_self
  obtain ⟨ga, na, nl, nf, nc⟩ := I.pin _ mem
  dsimp only at ga na nl nf nc
  obtain ⟨vs, hv⟩ := hf
  have ne : ∀ {b : Addr} {o : HO}, H b = some o → b ≠ a := fun q => ne_of_none q na
  refine ⟨I.ok, I.os, I.bare, ⟨I.base.keep, I.base.slot, fun b o e n hx => ?_, I.base.there, fun b xs q => ?_, fun b o u q => ?_, fun b ps q => ?_⟩,
    I.loc, I.cell, ?_, fun x c e => ?_, fun p hm => ?_, ?_, I.len⟩
  · by_cases hb : b = a
    · subst hb
      exact (h0 o e hx).elim
    · rw [upd_ne hb]
      exact I.base.free b o e n hx
  · have q' := I.base.tups b xs q
    rw [upd_ne (ne q')]
    exact q'
  · have q' := I.base.frzs b o u q
    rw [upd_ne (ne q')]
    exact q'
  · obtain ⟨more, q'⟩ := I.base.tbls b ps q
    exact ⟨more, by rw [upd_ne (ne q')]; exact q'⟩
  · rw [upd_ne nl.symm]
    exact I.free
  · have nca : c ≠ a := fun z => by
      obtain ⟨v, o, go, hd⟩ := I.cell x c e
      rw [z, ga] at go
      cases go
      exact nc _ hd
    rw [upd_ne nca]
    exact I.freeC x c e
  · have hm' : p ∈ X.pn ++ (a, oe) :: pins := by
      rcases List.mem_append.mp hm with z | z
      · exact List.mem_append_left _ z
      · exact List.mem_append_right _ (List.mem_cons_of_mem _ z)
    obtain ⟨g1, n1, r1⟩ := I.pin p hm'
    exact ⟨g1, by rw [upd_ne (hp p hm)]; exact n1, r1⟩
  · exact I.hok.laidN (fun _ _ q => q) na ⟨⟨oe, vs, ga, hz, hv⟩, ⟨oe, ga⟩, fun _ _ ⟨o, v, q, r⟩ k => ⟨o, v, k o q, r⟩⟩
end
/-- what «except x as n» wishes of an error of the body, the error being tracked behind the suite -/
def wKeep (K : PySem.W.Frag) (c : Value) (i : Nat) (ts : Addr → Value → Option Addr → TS) (Wout : WX) (D : Ends) : WX := fun cls d σ H =>
  ∃ b, PySem.W.exmOne K cls c = some b ∧ (b = false → Wout cls d σ H) ∧ (b = true → ∀ a, H a = none →
    ts a cls d ({ nx := fun σ' H' => H' a = none → D.nx (σ'.set i none) (upd H' a (ErrO cls d a)), rt := fun _ _ => False, bk := fun _ _ => False, ct := fun _ _ => False } : Ends) (σ.set i (some (.ref a))) H)
section
variable {X : Cx} {x n : Str} {c : Value} {i : Nat} {body suite : List Stmt} {b₀ : Stmt} {np pos pos' : Pos} {tb : WX → TS} {ts : Addr → Value → Option Addr → TS} {Wout : WX}
theorem ps_try_keep (hs : X.stack = X.env :: X.outer) (hf : X.env.frame = some X.env.locals) (hN : X.N.Nodup) (hi : X.N[i]? = some n)
    (hln : X.env.kindOf n = some .local) (hc : Names X x c) (tk : Takes X Wout)
    (hb : ∀ (W : WX) (pn : List (Addr × Obj)) (xe : Value → Shared → Prop), Takes (X.tr pn xe) W →
      PassesOwn (model X.prog X.w) X.A X.env xe → PSs (X.tr pn xe) body (tb W))
    (hsu : ∀ (a : Addr) (oe : Obj) (cls : Value) (d : Option Addr) (pn : List (Addr × Obj)), Zc cls d oe → (∃ vs, oe.data = .fields vs) →
      PSs (X.suite a ((a, oe) :: pn)) (b₀ :: suite) (ts a cls d)) :
    PS X (.Try body [.ExceptHandler (some (.Name x np)) (some n) (b₀ :: suite) pos'] [] [] pos) (fun D σ H => tb (wKeep X.K c i ts Wout D) D σ H) := by
  refine ⟨fun pins s σ H D I h => ?_⟩
  have fr : X.A.frames = some (X.env :: X.outer) := by rw [I.ok.frames, hs]
  refine wpAny_Try_except ?_
  refine wpAny_mono ((hb (wKeep X.K c i ts Wout D) (X.pn ++ pins)
    (fun e s₁ => wpAny (model X.prog X.w) X.A (noteFrame e X.env) (fun _ s₂ =>
      wpAny (model X.prog X.w) X.A (setFlight e none) (fun _ s₃ =>
        wpAny (model X.prog X.w) X.A (handleBy e X.env [.ExceptHandler (some (.Name x np)) (some n) (b₀ :: suite) pos'])
          (SP X pins D) X.xe s₃) X.xe s₂) X.xe s₁)
    (fun u s' xx => ?_) PassesOwn.looking).run [] s σ H D (I.toTry _) h) (fun f s1 end1 => ?_) (fun e s1 he => he)
  · obtain ⟨a, B, sI, pi', σ1, H1, cls, d, rfl, I1', nb, up, sky, na, os, ag, b, hb1, hno, hyes⟩ := xx
    have I1 : Inv X pins σ1 H1 sI := I1'.ofTry I.ok
    have sk : Sky B (X.env :: X.outer) a (Zc cls d) X.env.locals s'.heap := by rw [← hs]; exact sky
    show wpAny (model X.prog X.w) X.A (noteFrame (.ref a) X.env) _ _ _
    refine Sky.land Zc.steady fr hf sk fun h3 fl up3 => ?_
    have I3 : Inv X pins σ1 H1 { s' with heap := h3 } := I1.landed nb fl.1 (up.trans up3) os ag
    obtain ⟨o3, v3, g3, z3, d3⟩ := fl.there
    have nfr : a ∉ frs (X.env :: X.outer) := fun hm => by
      obtain ⟨_, o', e', hnf⟩ := fl.2.2.1.mem hm
      rw [g3] at e'
      cases e'
      exact hnf _ d3
    have nL : a ≠ X.env.locals := fun z => nfr (List.mem_filterMap.mpr ⟨X.env, List.mem_cons_self, by rw [hf, z]⟩)
    have nF : a ∉ X.fs := fun hm => by
      obtain ⟨e, he, q⟩ := List.mem_filterMap.mp hm
      exact nfr (List.mem_filterMap.mpr ⟨e, List.mem_cons_of_mem _ he, q⟩)
    have nB : B.get? a = none := by
      rcases sky with z | z | z
      · exact z.2.1
      · exact z.2.1
      · exact z.2.1
    have gone : ∀ {b : Addr} {o : Obj}, sI.heap.get? b = some o → b ∉ frs X.stack → b ≠ a := fun {b o} q hb z => by
      have q' := nb b o q hb
      rw [z, nB] at q'
      cases q'
    have h0 : ∀ o, X.s_0.heap.get? a = some o → a ∉ X.ex → False := fun o q hx => by
      obtain ⟨o', q'⟩ := I1.base.there a o q hx
      exact gone q' (by rw [hs]; exact nfr) rfl
    have hp : ∀ p ∈ X.pn ++ pins, p.1 ≠ a := fun p hm => by
      obtain ⟨g, _, nl, nf, _⟩ := I1.pin p hm
      refine gone g fun hq => ?_
      rcases List.mem_cons.mp (I1.stkSub _ hq) with z | z
      · exact nl z
      · exact nf z
    have S3 := I3.suite g3 d3 na nL nF
    refine wpAny_handleBy_cons (codeAny_handlers_test ?_) (by intro q; cases q)
    have LT : PySem.W.Looks (model X.prog X.w) h3 (typeOf (.ref a)) cls := fun _ _ _ _ k q =>
      wpAny_typeOf_ref (k _ _ g3) (by rw [z3.1]; exact q)
    have LM := PySem.W.exm_one (M := model X.prog X.w) I3.kIn LT hb1
    have nameIs : ∀ {Q : Value → Shared → Prop} {E : Value → Shared → Prop}, Q c { s' with heap := h3 } →
        wpAny (model X.prog X.w) (X.A.mark (some (.ref a))) (eval (.Name x np) X.env) Q E { s' with heap := h3 } := fun {Q E} q => by
      obtain ⟨hg, hdbg, hm | ⟨hm, hv, hnn⟩⟩ := hc
      · exact ld_glob (X := X.suite a ((a, o3) :: (X.pn ++ pins))) S3 hg hm q hdbg
      · exact ld_blt (X := X.suite a ((a, o3) :: (X.pn ++ pins))) S3 hg hm hv q hnn hdbg
    refine nameIs (LM.here ?_)
    cases b with
    | true =>
      refine codeAny_handlers_suite_as ?_
      refine HandSPX.lands_againZ fl fun h4 fl4 up4 => ?_
      have I4 : Inv X pins σ1 H1 { s' with heap := h4 } := I1.landed nb fl4.1 ((up.trans up3).trans up4) os ag
      obtain ⟨o4, v4, g4, z4, d4⟩ := fl4.there
      have S4 := I4.suite g4 d4 na nL nF
      refine store_ok (X := X.suite a ((a, o4) :: (X.pn ++ pins))) (v := .ref a) S4 hN hi (.inl hln) rfl (fun s5 S5 => ?_) (.inr hln)
      refine wpAny_mono ((hsu a o4 cls d (X.pn ++ pins) z4 ⟨_, d4⟩).run [] s5 _ H1 _ S5 (hyes rfl a na)) (fun f s6 e6 => ?_) (fun _ _ z => False.elim z)
      cases f with
      | next =>
        obtain ⟨σ6, H6, S6, q6⟩ := e6
        have K6 : Inv X ((a, o4) :: pins) σ6 H6 s6 := ⟨I.ok, S6.os, S6.bare, S6.base, S6.loc, S6.cell, S6.free, S6.freeC, fun p hm => S6.pin p (by
          rw [List.append_nil]
          rcases List.mem_append.mp hm with z | z
          · exact List.mem_cons_of_mem _ (List.mem_append_left _ z)
          · rcases List.mem_cons.mp z with z | z
            · rw [z]; exact List.mem_cons_self
            · exact List.mem_cons_of_mem _ (List.mem_append_right _ z)), S6.hok, S6.len⟩
        have n6 : H6 a = none := (S6.pin (a, o4) (List.mem_append_left _ List.mem_cons_self)).2.1
        exact gone_ok K6 hN hi hln fun s7 K7 => ⟨_, _, K7.track z4 ⟨_, d4⟩ h0 hp, q6 n6⟩
      | brk => obtain ⟨_, _, _, q6⟩ := e6; exact q6.elim
      | cont => obtain ⟨_, _, _, q6⟩ := e6; exact q6.elim
      | ret u => obtain ⟨_, _, _, _, _, q6⟩ := e6; exact q6.elim
    | false =>
      show wpAny _ X.A (handleBy (.ref a) X.env []) _ _ _
      refine wpAny_handleBy_nil ?_
      obtain ⟨k1, k2, k3, oe, vs, T, oT, ts', he, hz, hd, h1, hr⟩ := id fl
      unfold PySem.passOn
      refine wpAny_bind (wpAny_field he hd h1 ?_)
      rw [if_neg (show ¬ ((Value.ref T == Value.none) = true) from by simp)]
      have fin : wpAny (model X.prog X.w) X.A (setFlight (.ref a) X.env.frame) (fun _ s4 =>
          wpAny (model X.prog X.w) X.A (throw (.ref a) : Sem Flow) (SP X pins D) X.xe s4) X.xe { s' with heap := h3 } := by
        rw [hf]
        refine HandSPX.setFlight_upZ fl fun h4 hh4 up4 => wpAny_throw (tk _ _ ?_)
        exact ⟨a, B, sI, pins, σ1, H1, cls, d, rfl, I1, nb, (up.trans up3).trans up4,
          .inr (.inr (by rw [hs]; exact hh4)), na, os, ag, hno rfl⟩
      first
        | exact wpAny_bind (wpAny_pure (wpAny_bind fin))
        | exact wpAny_bind fin
  · cases f with
    | next => obtain ⟨σ', H', J', q⟩ := end1; exact wpAny_execs_nil ⟨σ', H', J'.ofTry I.ok, q⟩
    | brk => obtain ⟨σ', H', J', q⟩ := end1; exact ⟨σ', H', J'.ofTry I.ok, q⟩
    | cont => obtain ⟨σ', H', J', q⟩ := end1; exact ⟨σ', H', J'.ofTry I.ok, q⟩
    | ret u => obtain ⟨v, σ', H', J', r, q⟩ := end1; exact ⟨v, σ', H', J'.ofTry I.ok, r, q⟩
end
/-! ### what a tracked error tells -/
/-- what its class says -/
structure ErrC (K : PySem.W.Frag) (C : Addr) : Prop extends XfC K C where
  ac : PySem.W.findIn K (.ref C) "__class__" = some (some (.builtin "object.__class__"))
  sg : PySem.W.specialIn K (.builtin "object.__class__") "__get__" = some (some (.builtin "getset_descriptor.__get__"))
  tk : PySem.W.takesIn K (.builtin "object.__class__") = some true
  mo : PySem.W.mroIn K C (.type "object") = some true
section
variable {X : Cx} {pins : List (Addr × Obj)} {σ : St} {H : Hp} {s : Shared} {C a d : Addr} {fs : List (Str × V)}
theorem errO_inst (I : Inv X pins σ H s) (ea : H a = some (ErrO (.ref C) (some d) a)) (ed : H d = some (.xd fs)) :
    ∃ (oe : Obj) (od : Obj), PySem.W.InstAt s.heap a oe C (some od) ∧ ∃ mA : Str → Option Value, (∀ n, PySem.W.lookIn n od = some (mA n)) ∧ ∀ f, RelO (fs.lookup f) (mA f) := by
  obtain ⟨oe, vs, g, hz, hv⟩ := errO_at I.hok ea
  obtain ⟨mA, hns, hr⟩ := (show ObjOk X.prog X.w H s.heap d (.xd fs) from I.hok d _ ed)
  obtain ⟨od, ho, hl⟩ := lookIn_ns hns
  exact ⟨oe, od, ⟨g, hz.1, by unfold PySem.W.notCls; rw [hv] <;> rfl, by rw [hz.2]; exact ho⟩, mA, hl, hr⟩
/-- e.f of a tracked error -/
def tErrF (C : Addr) (f : Str) (te : TE) : TE := fun σ H Q => te σ H fun x H1 => ∃ (a d : Addr) (fs : List (Str × V)) (v : V),
  x = .ref a ∧ H1 a = some (ErrO (.ref C) (some d) a) ∧ H1 d = some (.xd fs) ∧ fs.lookup f = some v ∧ Q v H1
theorem pe_errF {e : Expr} {te : TE} {pos : Pos} {n : Str} (T : ErrC X.K C) (hno : PySem.W.findIn X.K (.ref C) n = some none) (he : PE X e te)
    (hb : attributeBase e n X.env (eval e X.env) = eval e X.env := by rfl) : PE X (.Attribute e n pos) (tErrF C n te) := by
  refine ⟨fun pins s σ H Q I h => attr_of hb (thn (he.run pins s σ H _ I h) fun u s1 hh => ?_)⟩
  obtain ⟨x, H1, I1, rx, a, d, fs, v, rfl, ea, ed, l, q⟩ := hh
  obtain rfl : u = Value.ref a := rx
  obtain ⟨oe, od, J, mA, hl, hr⟩ := errO_inst I1 ea ed
  obtain ⟨u, hu, ru⟩ := RelO.some_of (v := v) (o := mA n) (by rw [← l]; exact hr n)
  exact HandSPX.exc_get I1.kIn J T.ga T.gg T.exC (PySem.W.findObj_own T.hdC hno rfl (by rw [hl, hu])) (handed_of ru) ⟨v, H1, I1.tok _, ru, q⟩
/-- isinstance(e, T) of a tracked error, T a built-in class -/
def rIsErr (K : PySem.W.Frag) (C : Addr) : List V → Hp → VK → Prop := fun xs H Q => ∃ (a d : Addr) (fs : List (Str × V)) (n : String) (b : Bool),
  xs = [.ref a, .ty n] ∧ H a = some (ErrO (.ref C) (some d) a) ∧ H d = some (.xd fs) ∧ PySem.W.kitOne K (.ref C) (.type n) = some b ∧ Q (.bl b) H
theorem call_isErr (T : ErrC X.K C) : CallR X (.builtin "isinstance") (rIsErr X.K C) := by
  intro pins s σ H xs us Q I r h
  obtain ⟨a, d, fs, n, b, rfl, ea, ed, e, q⟩ := h
  obtain ⟨u1, u2, rfl, r1, r2⟩ := vals2 r
  cases (show u1 = Value.ref a from r1)
  cases (show u2 = Value.type n from r2)
  obtain ⟨oe, od, J, _⟩ := errO_inst I ea ed
  have hcl : (PySem.W.clsIn X.K C).isSome = true := by
    obtain ⟨cd, hc, _⟩ := PySem.W.any_some T.hdC
    rw [hc]
    rfl
  exact PySem.W.kia_one (PySem.W.kitx_exc hcl T.ga T.gg T.exC T.ac T.sg T.tk T.mo) I.kIn J e (fun z => nomatch z) fun tk => ⟨.bl b, H, I.tok tk, rfl, q⟩
end
end L2

set_option Elab.async false
set_option linter.all false
set_option maxRecDepth 100000
set_option maxHeartbeats 2000000
namespace Fd
open PySem PySem.Spec PyProof.Rows L2
def top (i : Nat) : Stmt := PySem.Challenge.pw_figuredeeds_k08_what_blocks_are.main.body.getD i (.Pass ⟨0, 0, 0, 0⟩)
/-! ### defs by their names -/
structure Df (K : PySem.W.Frag) (mg : Str → Option Value) (x : Str) (st : Stmt) (ps : List Str) (f : Addr) (fd : FuncData) : Prop where
  F : Fun K x x st f fd
  m : mg x = some (.ref f)
  b : Binds K fd ps []
/-- the def that the module's name x holds keeps sp -/
def FnG (P : Program) (w : World) (K : PySem.W.Frag) (mg : Str → Option Value) (base : Heap) (CX : CXT) (k : Nat) (x : Str) (ps : List Str) (sp : Sp) : Prop :=
  ∃ f fd, FnOk P w K mg base CX k f fd ps sp ∧ mg x = some (.ref f) ∧ PySem.W.keepIn K (.ref f) = true ∧ Binds K fd ps []
theorem Df.g {P : Program} {w : World} {K : PySem.W.Frag} {mg : Str → Option Value} {base : Heap} {CX : CXT} {k : Nat} {x : Str} {st : Stmt} {ps : List Str} {f : Addr} {fd : FuncData} {sp : Sp}
    (D : Df K mg x st ps f fd) (G : FnOk P w K mg base CX k f fd ps sp) : FnG P w K mg base CX k x ps sp := ⟨f, fd, G, D.m, D.F.kp, D.b⟩
/-! ### heaps -/
/-- all that was tracked stands, but for what is at a -/
def But (a : Addr) (H H' : Hp) : Prop := ∀ b o, b ≠ a → H b = some o → H' b = some o
theorem But.refl (a : Addr) (H : Hp) : But a H H := fun _ _ _ h => h
theorem But.trans {a : Addr} {H H1 H2 : Hp} (x : But a H H1) (y : But a H1 H2) : But a H H2 := fun b o n h => y b o n (x b o n h)
theorem But.of {a : Addr} {H H' : Hp} (s : Same H H') : But a H H' := fun b o _ h => s b o h
theorem But.upd {a : Addr} {H : Hp} {o : HO} : But a H (upd H a o) := fun b u n h => by rw [upd_ne n]; exact h
theorem same_upd {H : Hp} {p : Addr} {o : HO} (h : H p = none) : Same H (upd H p o) := fun b x e => by
  rw [upd_ne (ne_of_none e h)]
  exact e
theorem But.get {a b : Addr} {H H' : Hp} {o u : HO} (s : But a H H') (ha : H a = some u) (hb : H b = some o) (d : o ≠ u) : H' b = some o := s b o (ne_of hb ha d) hb
/-- an if whose both ways come to a value of which R holds, the heap as it was -/
theorem ifE {c : Prop} [Decidable c] {ta tb : TE} {σ : L2.St} {H : Hp} {Q : VK} (R : V → Prop) (h1 : c → ∃ v, R v ∧ ∀ Q' : VK, Q' v H → ta σ H Q') (h2 : ¬ c → ∃ v, R v ∧ ∀ Q' : VK, Q' v H → tb σ H Q')
    (h : ∀ v, R v → Q v H) : if c then ta σ H Q else tb σ H Q := by
  by_cases hc : c
  · rw [if_pos hc]
    obtain ⟨v, r, k⟩ := h1 hc
    exact k Q (h v r)
  · rw [if_neg hc]
    obtain ⟨v, r, k⟩ := h2 hc
    exact k Q (h v r)
theorem ixN_is {n j : Nat} (h : j < n) : ixN n (j : Int) = some j := by
  unfold ixN
  rw [if_pos (by omega), if_pos (by omega), Int.toNat_natCast]
theorem cut_to (xs : List V) (m : Nat) : cutV xs none (some (m : Int)) = xs.take m := by
  unfold cutV
  rw [HT.sIx_none, HT.sIx_nat, List.drop_zero, Nat.sub_zero]
  by_cases h : m ≤ xs.length
  · rw [Nat.min_eq_left h]
  · rw [Nat.min_eq_right (by omega), List.take_of_length_le (Nat.le_refl _), List.take_of_length_le (by omega)]
theorem cut_mid (xs : List V) (m n : Nat) : cutV xs (some (m : Int)) (some (n : Int)) = (xs.drop m).take (min n xs.length - min m xs.length) := by
  unfold cutV
  rw [HT.sIx_nat, HT.sIx_nat]
  by_cases h : m ≤ xs.length
  · rw [Nat.min_eq_left h]
  · rw [Nat.min_eq_right (by omega : xs.length ≤ m), List.drop_eq_nil_of_le (Nat.le_refl _), List.drop_eq_nil_of_le (by omega)]
theorem dpAll_ints {K : PySem.W.Frag} {H : Hp} : ∀ ms : List Int, DpAll K H (ms.map V.int) (ms.map PyData.int)
  | [] => .nil
  | m :: r => .cons (.int m) (dpAll_ints r)
theorem lay_ints : ∀ ms : List Int, PyData.canLayAll0 (ms.map PyData.int) = true
  | [] => rfl
  | m :: r => by show (true && PyData.canLayAll0 (r.map PyData.int)) = true; rw [lay_ints r]; rfl
theorem deep_ints : ∀ ms : List Int, PyData.depthAll (ms.map PyData.int) = 0
  | [] => rfl
  | m :: r => by show max 0 (PyData.depthAll (r.map PyData.int)) = 0; rw [deep_ints r]; rfl
theorem shaped_ints (ms : List Int) : SeqAt.shaped (.list (ms.map PyData.int)) = true := by
  unfold SeqAt.shaped
  rw [show (PyData.list (ms.map PyData.int)).canLay0 = PyData.canLayAll0 (ms.map PyData.int) from rfl, lay_ints,
    show (PyData.list (ms.map PyData.int)).depth = PyData.depthAll (ms.map PyData.int) + 1 from rfl, deep_ints]
  rfl
/-! ### the heap without some -/
def rmL (as : List Addr) (H : Hp) : Hp := fun b => if b ∈ as then none else H b
theorem rmL_at {as : List Addr} {b : Addr} {H : Hp} (h : b ∉ as) : rmL as H b = H b := if_neg h
theorem rmL_in {as : List Addr} {b : Addr} {H : Hp} (h : b ∈ as) : rmL as H b = none := if_pos h
theorem rmL_less {as bs : List Addr} {H : Hp} (h : ∀ b ∈ as, b ∈ bs) : Same (rmL bs H) (rmL as H) := fun b o q => by
  by_cases e : b ∈ bs
  · rw [rmL_in e] at q; cases q
  · rw [rmL_at e] at q
    rw [rmL_at (fun z => e (h b z))]
    exact q
theorem rmL_upd {as : List Addr} {D : Addr} {o : HO} {H : Hp} (h : D ∈ as) : rmL as (upd H D o) = rmL as H := funext fun b => by
  by_cases e : b ∈ as
  · rw [rmL_in e, rmL_in e]
  · rw [rmL_at e, rmL_at e, upd_ne (fun z => e (by rw [z]; exact h))]
/-- all that was tracked stands, but for some -/
def ButL (as : List Addr) (H H' : Hp) : Prop := ∀ b o, b ∉ as → H b = some o → H' b = some o
theorem ButL.trans {as : List Addr} {H H1 H2 : Hp} (x : ButL as H H1) (y : ButL as H1 H2) : ButL as H H2 := fun b o n h => y b o n (x b o n h)
theorem ButL.of {a : Addr} {as : List Addr} {H H' : Hp} (s : But a H H') (h : a ∈ as) : ButL as H H' := fun b o n q => s b o (fun z => n (by rw [z]; exact h)) q
theorem ButL.same {as : List Addr} {H H' : Hp} (s : Same H H') : ButL as H H' := fun b o _ q => s b o q
theorem ButL.more {as bs : List Addr} {H H' : Hp} (s : ButL as H H') (h : ∀ b ∈ as, b ∈ bs) : ButL bs H H' := fun b o n q => s b o (fun z => n (h b z)) q
theorem ButL.one {a : Addr} {H H' : Hp} (s : ButL [a] H H') : But a H H' := fun b o n q => s b o (fun z => n (List.mem_singleton.mp z)) q
theorem rmL_but {as : List Addr} {H H' : Hp} (s : ButL as H H') : Same (rmL as H) (rmL as H') := fun b o q => by
  by_cases e : b ∈ as
  · rw [rmL_in e] at q; cases q
  · rw [rmL_at e] at q ⊢
    exact s b o e q

/-! ### the drawer: its cells and its turn, drawn from at most n times -/
def Dr (H : Hp) (a c : Addr) (n : Nat) : Prop := ∃ (t : Int) (ns : List Int), H a = some (.dK [(Sum.inr "cells", .ref c), (Sum.inr "turn", .int t)]) ∧ H c = some (.lst (ns.map V.int)) ∧ ns ≠ [] ∧ ns.length ≤ 63 ∧ 0 ≤ t ∧ t ≤ n
theorem Dr.same {H H' : Hp} {a c : Addr} {n : Nat} (b : Dr H a c n) (s : Same H H') : Dr H' a c n := by
  obtain ⟨t, ns, h1, h2, r⟩ := b
  exact ⟨t, ns, s _ _ h1, s _ _ h2, r⟩
theorem Dr.le {H : Hp} {a c : Addr} {n m : Nat} (b : Dr H a c n) (h : n ≤ m) : Dr H a c m := by
  obtain ⟨t, ns, h1, h2, h3, h4, h5, h6⟩ := b
  exact ⟨t, ns, h1, h2, h3, h4, h5, by omega⟩
theorem Dr.in_ {H : Hp} {a c : Addr} {n : Nat} (b : Dr H a c n) : ∀ d ∈ [a, c], ∃ u, H d = some u := fun d hd => by
  obtain ⟨t, ns, h1, h2, _⟩ := b
  rcases List.mem_cons.mp hd with z | z
  · rw [z]; exact ⟨_, h1⟩
  · rw [List.mem_singleton.mp z]; exact ⟨_, h2⟩
theorem Dr.ne {H : Hp} {a c d : Addr} {n : Nat} (b : Dr H a c n) (h : H d = none) : d ∉ [a, c] := fun z => by
  obtain ⟨u, hu⟩ := b.in_ d z
  rw [h] at hu
  cases hu
section
variable {P : Program} {w : World} {K : PySem.W.Frag} {mg : Str → Option Value} {base : Heap} {f : Addr} {fd : FuncData}
/-! ### _law_begin -/
abbrev sBegin : Stmt := top 27
theorem scBegin : FnScope ["_law_script", "_law_handed"] ["_law_script"] (defScope sBegin) := ⟨rfl, rfl, rfl, by decide +kernel, rfl, by decide +kernel, by decide +kernel⟩
def spBegin (K : PySem.W.Frag) : Sp := fun vs H Q _ => ∃ (a : Addr) (ns : List Int), vs = [.ref a] ∧ SqL K H a (ns.map V.int) ∧ ns.length ≤ 63 ∧ ∀ p c H', Same H H' → H p = none → Dr H' p c 0 → Q (.ref p) H'
theorem ok_begin {k : Nat} (F : Fun K "_law_begin" "_law_begin" sBegin f fd) (m_list : mg "list" = none) : FnOk P w K mg base CX0 (k + 1) f fd ["_law_script"] (spBegin K) := by
  have sc := scBegin
  refine F.ok sc (fun vs H Q E h => ?_) (fun cdv A outer s H vs Q E hr h => ?_)
  · obtain ⟨a, ns, rfl, _⟩ := h
    rfl
  obtain ⟨a, ns, rfl, hS, hl, q⟩ := h
  refine ⟨_, (pss_cons (ps_set (i := 1) sc.nd rfl (.inl rfl) (pe_callTy call_list_of (by rfl) m_list (by decide +kernel) (pa_cons (pe_slice sl_list (pv 0) po_none (po_some pe_int)) pa_nil)))
      (pss_cons (ps_if (pt_cmpR (op_eqD hr.units) (pv 1) (pe_lst pa_nil) (nomark _)) (pss_one (ps_set (i := 1) sc.nd rfl (.inl rfl) (pe_lst (pa_cons pe_int pa_nil)))) pss_nil)
      (pss_one (ps_ret (pe_disp (pps_cons pe_str (pv 1) (pps_cons pe_str pe_int pps_nil)) rfl rfl (by decide) (by decide)))))), ?_⟩
  refine ⟨_, rfl, 63, rfl, a, _, rfl, hS, fun c nc => ?_⟩
  rw [show cutV (ns.map V.int) none (some 63) = ns.map V.int from (cut_to _ 63).trans (List.take_of_length_le (by rw [List.length_map]; exact hl))]
  refine ⟨c, _, rfl, .inl (SqL.of upd_same), fun p np => ?_⟩
  have s1 : Same H (upd H c (.lst (ns.map V.int))) := same_upd nc
  have s2 := s1.trans (same_upd (o := .lst (ns.map V.int)) np)
  refine ⟨_, rfl, by show 0 ≤ sizeLine; decide, fun t nt => ?_⟩
  have ht := same_upd (o := .lst []) nt
  have hp := ht _ _ (upd_same (a := p) (o := .lst (ns.map V.int)))
  have s3 := s2.trans ht
  refine ⟨.list (ns.map PyData.int), .list [], .lst (SqL.of hp) (dpAll_ints ns), .lst (SqL.of upd_same) .nil, shaped_ints ns, by decide, _, rfl, ?_⟩
  generalize upd (upd (upd H c (.lst (ns.map V.int))) p (.lst (ns.map V.int))) t (.lst []) = H3 at *
  have fin : ∀ (c' : Addr) (ms : List Int) (H4 : Hp), Same H3 H4 → H4 c' = some (.lst (ms.map V.int)) → ms ≠ [] → ms.length ≤ 63 → ∀ d, H4 d = none → upd H4 d (.dK []) d = some (.dK []) ∧ ∃ kvs : List (L2.Key × V), [(V.str "cells", V.ref c'), (V.str "turn", V.int 0)] = kvs.map (fun kv => (kV kv.1, kv.2)) ∧ kvs.length ≤ 15 ∧ Q (.ref d) (upd (upd H4 d (.dK [])) d (.dK (mergeK [] kvs))) := fun c' ms H4 s4 hc mn ml d nd => by
    refine ⟨upd_same, [(Sum.inr "cells", .ref c'), (Sum.inr "turn", .int 0)], rfl, (show 2 ≤ 15 by decide), ?_⟩
    have e : upd (upd H4 d (.dK [])) d (.dK (mergeK [] [(Sum.inr "cells", V.ref c'), (Sum.inr "turn", .int 0)])) = upd H4 d (.dK (mergeK [] [(Sum.inr "cells", V.ref c'), (Sum.inr "turn", .int 0)])) := funext fun x => by
      by_cases z : x = d
      · rw [z, upd_same, upd_same]
      · rw [upd_ne z, upd_ne z, upd_ne z]
    rw [e]
    refine q d c' _ ((s3.trans s4).trans (same_upd nd)) ((s3.trans s4).free nd) ⟨0, ms, ?_, same_upd nd _ _ hc, mn, ml, Int.le_refl _, Int.le_refl _⟩
    rw [upd_same]
    rfl
  cases ns with
  | nil =>
    refine iteT ⟨by show 1 ≤ sizeLine; decide, fun u nu => ?_⟩
    intro d nd
    exact ⟨_, rfl, fin u [17] _ (same_upd nu) upd_same (by simp) (by decide) d nd⟩
  | cons x r =>
    refine iteF ?_
    intro d nd
    exact ⟨_, rfl, fin p (x :: r) _ (Same.refl _) hp (by simp) hl d nd⟩
/-! ### _law_take -/
abbrev sTake : Stmt := top 28
theorem scTake : FnScope ["_law_state", "_law_below", "_law_turn", "_law_place", "_law_cell", "_law_digit", "_law_near", "_law_mixed"] ["_law_state", "_law_below"] (defScope sTake) := ⟨rfl, rfl, rfl, by decide +kernel, rfl, by decide +kernel, by decide +kernel⟩
def spTake : Sp := fun vs H Q _ => ∃ (a c : Addr) (n : Nat) (m : Int), vs = [.ref a, .int m] ∧ Dr H a c n ∧ n ≤ 1000000 ∧ 0 < m ∧ m ≤ 100000 ∧
  ∀ r H', 0 ≤ r → r < m → ButL [a, c] H H' → Dr H' a c (n + 1) → Q (.int r) H'
theorem ok_take {k : Nat} (F : Fun K "_law_take" "_law_take" sTake f fd) (m_divmod : mg "divmod" = none) (m_len : mg "len" = none) : FnOk P w K mg base CX0 (k + 1) f fd ["_law_state", "_law_below"] spTake := by
  have sc := scTake
  refine F.ok sc (fun vs H Q E h => ?_) (fun cdv A outer s H vs Q E hr h => ?_)
  · obtain ⟨a, c, n, m, rfl, _⟩ := h
    rfl
  obtain ⟨a, c, n, m, rfl, hD, hn, m0, m1, q⟩ := h
  refine ⟨_, (pss_cons (ps_set (i := 2) sc.nd rfl (.inl rfl) (pe_op op_add (pe_dget (hu_of hr) (pv 0) pe_str (fun _ _ => rfl)) pe_int))
      (pss_cons (ps_dput (hu_of hr) (pv 0) pe_str (pv 2) rfl)
      (pss_cons (ps_set (i := 3) sc.nd rfl (.inl rfl) (pe_op op_mod (pv 2) (pe_callB call_len_seq (by rfl) m_len (by decide +kernel) (pa_cons (pe_dget (hu_of hr) (pv 0) pe_str (fun _ _ => rfl)) pa_nil))))
      (pss_cons (ps_set (i := 4) sc.nd rfl (.inl rfl) (pe_ix ix_list (pe_dget (hu_of hr) (pv 0) pe_str (fun _ _ => rfl)) (pv 3) (fun _ _ => rfl)))
      (pss_cons (ps_if (pt_cmpR op_ge (pv 4) (pe_op op_pow pe_int pe_int) (nomark _)) (pss_cons (ps_asg (pe_callB call_divmod (by rfl) m_divmod (by decide +kernel) (pa_cons (pv 4) (pa_cons (pv 1) pa_nil))) (pg_tup (by rfl) (pgs_cons (pg_sub (pe_dget (hu_of hr) (pv 0) pe_str (fun _ _ => rfl)) (pv 3) set_list) (pgs_cons (pg_name (i := 5) sc.nd rfl (.inl rfl)) pgs_nil))))
      (pss_one (ps_ret (pv 5)))) pss_nil)
      (pss_cons (ps_set (i := 6) sc.nd rfl (.inl rfl) (pe_op op_add (pe_op op_mod (pv 4) pe_int) (pe_op op_mul (pe_op op_mod (pe_op op_fdivW (pv 4) pe_int) pe_int) pe_int)))
      (pss_cons (ps_set (i := 7) sc.nd rfl (.inl rfl) (pe_op op_mod (pe_op op_mul (pe_op op_add (pe_op op_add (pv 6) (pe_op op_mul (pe_op op_mul (pv 2) (pv 2)) pe_int)) pe_int) pe_int) pe_int))
      (pss_cons (ps_set (i := 7) sc.nd rfl (.inl rfl) (pe_op op_mod (pe_op op_mul (pv 7) (pv 7)) pe_int))
      (pss_one (ps_ret (pe_op op_mod (pe_op op_fdivW (pe_op op_mod (pe_op op_mul (pe_op op_add (pv 7) (pe_op op_mul (pv 2) pe_int)) pe_int) pe_int) pe_int) (pv 1)))))))))))), ?_⟩
  obtain ⟨t, ns, ha, hc, n0, n63, t0, tn⟩ := hD
  have ca : c ≠ a := fun z => by rw [z, ha] at hc; cases hc
  refine ⟨_, rfl, a, .int t, rfl, DGet.k (k := Sum.inr "turn") ha, t, 1, rfl, rfl, ?_⟩
  refine ⟨_, rfl, _, rfl, a, _, rfl, DPut.k (k := Sum.inr "turn") ha (by show 2 < sizeLine; decide), ?_⟩
  have ha1 : upd H a (.dK (putK [(Sum.inr "cells", .ref c), (Sum.inr "turn", .int t)] (Sum.inr "turn") (.int (t + 1)))) a = some (.dK [(Sum.inr "cells", .ref c), (Sum.inr "turn", .int (t + 1))]) := upd_same
  have hc1 : upd H a (.dK (putK [(Sum.inr "cells", .ref c), (Sum.inr "turn", .int t)] (Sum.inr "turn") (.int (t + 1)))) c = some (.lst (ns.map V.int)) := by rw [upd_ne ca]; exact hc
  have b1 : ButL [a, c] H (upd H a (.dK (putK [(Sum.inr "cells", .ref c), (Sum.inr "turn", .int t)] (Sum.inr "turn") (.int (t + 1))))) := fun b o nb h => by rw [upd_ne (fun z => nb (by rw [z]; exact List.mem_cons_self ..))]; exact h
  generalize upd H a (.dK (putK [(Sum.inr "cells", .ref c), (Sum.inr "turn", .int t)] (Sum.inr "turn") (.int (t + 1)))) = H1 at *
  have nl : 0 < ns.length := List.length_pos_iff.mpr n0
  have N0 : (0 : Int) < ((ns.map V.int).length : Nat) := by rw [List.length_map]; omega
  obtain ⟨j, hj, ej⟩ : ∃ j : Nat, j < ns.length ∧ (t + 1) % ((ns.map V.int).length : Nat) = (j : Int) := by
    have h1 := Int.emod_lt_of_pos (t + 1) N0
    have h2 := Int.emod_nonneg (t + 1) (show (((ns.map V.int).length : Nat) : Int) ≠ 0 by omega)
    refine ⟨((t + 1) % ((ns.map V.int).length : Nat)).toNat, ?_, by omega⟩
    rw [List.length_map] at h1 ⊢
    omega
  refine ⟨_, rfl, _, rfl, a, .ref c, rfl, DGet.k (k := Sum.inr "cells") ha1, c, _, rfl, .inl (SqL.of hc1), _, _, rfl, rfl, N0, ?_⟩
  dsimp only
  rw [ej]
  have at1 : atI (ns.map V.int) (j : Int) = some (.int ns[j]) := atI_nat (by rw [List.getElem?_map, List.getElem?_eq_getElem hj]; rfl)
  refine ⟨_, rfl, a, .ref c, rfl, DGet.k (k := Sum.inr "cells") ha1, _, rfl, c, _, _, _, rfl, rfl, SqL.of hc1, at1, ?_⟩
  generalize ns[j] = cell
  refine ⟨_, rfl, 10, 18, rfl, rfl, ⟨by decide, by decide, by decide⟩, _, _, rfl, rfl, _, rfl, ite2 (fun g => ?_) (fun g => ?_)⟩
  · refine ⟨_, rfl, _, rfl, cell, m, rfl, ⟨m0, by omega⟩, fun p np => ?_⟩
    have e1 := same_upd (o := .tup [.int (cell / m), .int (cell % m)]) np
    refine ⟨p, _, rfl, .inl (.inl upd_same), rfl, _, _, rfl, _, rfl, a, .ref c, rfl, DGet.k (k := Sum.inr "cells") (e1 _ _ ha1), _, rfl, c, _, _, j, rfl, rfl, e1 _ _ hc1, ixN_is (by rw [List.length_map]; exact hj), _, _, rfl, rfl, _, rfl, ?_⟩
    refine q _ _ (Int.emod_nonneg _ (by omega)) (Int.emod_lt_of_pos _ m0) (fun b o nb h => ?_) ⟨t + 1, ns.set j (cell / m), ?_, ?_, ?_, ?_, by omega, by omega⟩
    · rw [upd_ne (fun z => nb (by rw [z]; exact List.mem_cons_of_mem _ (List.mem_singleton.mpr rfl)))]
      exact e1 _ _ (b1 _ _ nb h)
    · rw [upd_ne ca.symm]
      exact e1 _ _ ha1
    · rw [upd_same, List.map_set]
    · intro z
      have := congrArg List.length z
      rw [List.length_set, List.length_nil] at this
      omega
    · rw [List.length_set]; exact n63
  · refine ⟨_, rfl, cell, 2147483629, rfl, rfl, (show (0 : Int) < 2147483629 by decide), _, rfl, cell, 2147483629, rfl, rfl, wide_div (b := 31) (by decide) (by decide) (by decide) (by decide), _, 40009, rfl, rfl, (show (0 : Int) < 40009 by decide), _, 977, rfl, rfl, .inr ⟨by decide, by decide⟩, _, _, rfl, rfl, ?_⟩
    dsimp only
    generalize cell % 2147483629 + cell / 2147483629 % 40009 * 977 = x1
    refine ⟨_, rfl, _, rfl, _, rfl, t + 1, t + 1, rfl, rfl, .inl ⟨by omega, by omega⟩, _, 6007, rfl, rfl, .inr ⟨by decide, by decide⟩, _, _, rfl, rfl, _, 29, rfl, rfl, _, 48271, rfl, rfl, .inr ⟨by decide, by decide⟩, _, 2147483647, rfl, rfl, (show (0 : Int) < 2147483647 by decide), ?_⟩
    dsimp only
    generalize h2 : (x1 + (t + 1) * (t + 1) * 6007 + 29) * 48271 % 2147483647 = x2
    have p0 : 0 ≤ x2 := by rw [← h2]; exact Int.emod_nonneg _ (by decide)
    have p1 : x2 < 2147483647 := by rw [← h2]; exact Int.emod_lt_of_pos _ (by decide)
    refine ⟨_, rfl, _, rfl, x2, x2, rfl, rfl, .inl ⟨by omega, by omega⟩, _, 2147483579, rfl, rfl, (show (0 : Int) < 2147483579 by decide), ?_⟩
    dsimp only
    generalize x2 * x2 % 2147483579 = x3
    refine ⟨_, rfl, _, rfl, t + 1, 103049, rfl, rfl, .inr ⟨by decide, by decide⟩, _, _, rfl, rfl, _, 69621, rfl, rfl, .inr ⟨by decide, by decide⟩, _, 2147483629, rfl, rfl, (show (0 : Int) < 2147483629 by decide), _, 64, rfl, rfl, wide_div (b := 7) (by decide) (by decide) (by decide) (by decide), _, rfl, _, m, rfl, rfl, m0, ?_⟩
    exact q _ _ (Int.emod_nonneg _ (by omega)) (Int.emod_lt_of_pos _ m0) b1 ⟨t + 1, ns, ha1, hc1, n0, n63, by omega, by omega⟩
end
end Fd

set_option Elab.async false
set_option linter.all false
set_option maxRecDepth 100000
set_option maxHeartbeats 2000000
/-! A module's top with one expression in its midst that the kernel can't run (it leans on the world's hashes): real steps ahead of it and behind it, the expression by wp. -/
namespace Fw
open PySem PySem.W PySem.Calls PyProof.Rows
/-! ### real steps -/
section
variable {tb : String → Option Builtin} {p : Program} {w : World} {n₀ : Nat} {ann : Option Value}
theorem go_one {s s' : Shared} {t t' : Thread} (h1 : through t = false) (h2 : stepOk n₀ ann t = true) (h3 : step (denote tb) p w s t = .go s' t') {m : Nat} {r : Shared × Thread} (h : topGo tb p w n₀ ann m s' t' = some r) : topGo tb p w n₀ ann (m + 1) s t = some r := by
  unfold topGo
  rw [h1, h2, h3]
  exact h
/-- one step of a topGo, looked at -/
theorem go_out {s : Shared} {t : Thread} {m : Nat} {r : Shared × Thread} (h : topGo tb p w n₀ ann (m + 1) s t = some r) : through t = false ∧ stepOk n₀ ann t = true ∧ ∃ s' t', step (denote tb) p w s t = .go s' t' ∧ topGo tb p w n₀ ann m s' t' = some r := by
  unfold topGo at h
  cases h1 : through t with
  | true => rw [h1] at h; exact nomatch h
  | false =>
    cases h2 : stepOk n₀ ann t with
    | false => rw [h1, h2] at h; exact nomatch h
    | true =>
      rw [h1, h2] at h
      cases h3 : step (denote tb) p w s t with
      | halt o x => rw [h3] at h; exact nomatch h
      | go s' t' => rw [h3] at h; exact ⟨rfl, rfl, s', t', rfl, h⟩
theorem go_trans : ∀ {n m : Nat} {s s1 : Shared} {t t1 : Thread} {r : Shared × Thread}, topGo tb p w n₀ ann n s t = some (s1, t1) → topGo tb p w n₀ ann m s1 t1 = some r → ∃ k, topGo tb p w n₀ ann k s t = some r
  | 0, m, s, s1, t, t1, r, h, q => by
    cases (show some (s, t) = some (s1, t1) from h)
    exact ⟨m, q⟩
  | n + 1, m, s, s1, t, t1, r, h, q => by
    obtain ⟨h1, h2, s', t', h3, h4⟩ := go_out h
    obtain ⟨k, hk⟩ := go_trans h4 q
    exact ⟨k + 1, go_one h1 h2 h3 hk⟩
/-- what real steps of the top leave alone -/
theorem go_keeps : ∀ {n : Nat} {s s' : Shared} {t t' : Thread}, topGo tb p w n₀ ann n s t = some (s', t') → s'.heap.life = s.heap.life ∧ s'.os = s.os ∧
    ∀ b o, b < n₀ → b ≠ mainNs → b ≠ cStatics → ann ≠ some (.ref b) → s.heap.get? b = some o → s'.heap.get? b = some o
  | 0, s, s', t, t', h => by
    cases (show some (s, t) = some (s', t') from h)
    exact ⟨rfl, rfl, fun _ _ _ _ _ _ e => e⟩
  | n + 1, s, s', t, t', h => by
    obtain ⟨h1, h2, s1, t1, h3, h4⟩ := go_out h
    obtain ⟨l, os, fr⟩ := go_keeps h4
    obtain ⟨hc, hk⟩ := Bool.and_eq_true_iff.mp h2
    refine ⟨l.trans (step_life (denote tb) p w s s1 t t1 h3), os.trans (step_os_same h3 (by revert hk; cases t.cur <;> simp)), fun b o q1 q2 q3 q4 q5 => fr b o q1 q2 q3 q4 ?_⟩
    have e := step_heap (denote tb) p w s s1 t t1 h3
    cases hcur : t.cur with
    | update a _ f _ =>
      rw [hcur] at e hk
      rw [e]
      have ne : b ≠ a := fun z => by
        subst z
        simp only [Bool.or_eq_true, Nat.ble_eq, beq_iff_eq] at hk
        rcases hk with ((z | z) | z) | z
        · omega
        · exact q2 z
        · exact q3 z
        · exact q4 z
      rw [Heap.get?_update_ne _ _ _ _ ne]
      exact q5
    | alloc x _ =>
      rw [hcur] at e
      rw [e]
      exact Heap.get?_push_of_some x q5
    | _ =>
      rw [hcur] at e
      rw [e]
      exact q5
section
variable {α : Type} {B : List Frame} {K' : α → Sem Fin} {H' : Value → Sem Fin} {gd : Bool → Bool} {lv : List Value → List Value} {res : α → Flow}
/-- a piece that comes to its end: the same steps with what stands behind it -/
theorem seg_goes (hB : splitAtGen B = none) : ∀ (n : Nat) {s s' : Shared} {t t' : Thread} {f : Flow} {c' : Code} {p' : Pos}, Rel2 (fun a => .pure (.done (res a))) K' deadEnd H' gd lv B t t' →
    segRun tb p w n₀ ann B.length n s t = some (f, s', c', p') → ∃ a m, res a = f ∧ topGo tb p w n₀ ann m s t' = some (s', ⟨K' a, c', p', B⟩)
  | 0, _, _, _, _, _, _, _, _, h => nomatch (show (none : Option (Flow × Shared × Code × Pos)) = some _ from h)
  | n + 1, s, s', t, t', f, c', p', R, h => by
    obtain ⟨cur, code, pos, st⟩ := t
    obtain ⟨cur', code', pos', st'⟩ := t'
    obtain ⟨ec, ep, R⟩ := R
    dsimp only at ec ep R
    subst ec ep
    replace h : (match endAt B.length ⟨cur, code, pos, st⟩ with
      | some g => some (g, s, code, pos)
      | none => match stepOk n₀ ann ⟨cur, code, pos, st⟩ with
        | false => none
        | true => match step (denote tb) p w s ⟨cur, code, pos, st⟩ with
          | .go s' t' => segRun tb p w n₀ ann B.length n s' t'
          | .halt _ _ => none) = some (f, s', c', p') := h
    cases he : endAt B.length ⟨cur, code, pos, st⟩ with
    | some g =>
      rw [he] at h
      cases h
      rcases R with ⟨u1, u2, x, u3, u4⟩ | ⟨u1, F⟩
      · have v1 := u1.symm
        have v2 := u2.symm
        subst v1 v2 u3 u4
        cases x with
        | pure a =>
          have z : some (res a) = some f := by
            rw [← he]
            simp only [endAt, Sem.wrap, beq_self_eq_true]
          exact ⟨a, 0, Option.some.inj z, rfl⟩
        | _ => exact absurd he (by simp [endAt, Sem.wrap])
      · have e : (st.length == B.length) = false := beq_eq_false_iff_ne.mpr (Nat.ne_of_gt F.longer.1)
        simp only [endAt, e] at he
        exact nomatch he
    | none =>
      rw [he] at h
      cases hk : stepOk n₀ ann ⟨cur, code, pos, st⟩ with
      | false => rw [hk] at h; exact nomatch h
      | true =>
        rw [hk] at h
        cases hs : step (denote tb) p w s ⟨cur, code, pos, st⟩ with
        | halt o x => rw [hs] at h; exact nomatch h
        | go s2 t2 =>
          rw [hs] at h
          have h : segRun tb p w n₀ ann B.length n s2 t2 = some (f, s', c', p') := h
          rcases R with ⟨u1, u2, x, u3, u4⟩ | ⟨u1, F⟩
          · have v1 := u1.symm
            have v2 := u2.symm
            subst v1 v2 u3 u4
            have np : ∀ a, x ≠ .pure a := fun a z => by
              subst z
              simp [endAt, Sem.wrap] at he
            have nr : ∀ e, x ≠ .raise e := fun e z => by
              subst z
              obtain ⟨x1, x2, x3, x4, x5⟩ := s
              simp only [Sem.wrap, step] at hs
              exact nomatch hs
            obtain ⟨k1, k2⟩ := okOuter (K' := K') (H' := H') np nr hk
            obtain ⟨t3, k3, R3⟩ := step_outer (K' := K') (H' := H') hB np hs
            obtain ⟨a, m, ea, hm⟩ := seg_goes hB n R3 h
            exact ⟨a, m + 1, ea, go_one k2 k1 k3 hm⟩
          · subst u1
            obtain ⟨k1, k2⟩ := okInner hB F hk
            obtain ⟨t3, k3, R3⟩ := step_inner hB F hs
            obtain ⟨a, m, ea, hm⟩ := seg_goes hB n R3 h
            exact ⟨a, m + 1, ea, go_one k2 k1 k3 hm⟩
end
end
theorem clean0 : leftWithCleanup (#[] : Array GenState) = false := by simp [leftWithCleanup]
theorem step_halt_done {den : Code → Sem Fin} {p : Program} {w : World} {s S : Shared} {t : Thread} {f : Flow} (h : step den p w s t = .halt (.done f) S) : through t = true := by
  obtain ⟨heap, gens, drawn, toks, os⟩ := s
  obtain ⟨cur, code, pos, stack⟩ := t
  cases cur <;> simp only [step, finish] at h <;> (repeat' split at h) <;> simp_all [through]
/-! ### a run that ends -/
section
variable {p : Program} {w : World} {n₀ : Nat} {ann : Option Value}
/-- the run from here ends, at S, each thread on the way calm -/
def Halts (p : Program) (w : World) (s : Shared) (t : Thread) (S : Shared) : Prop :=
  ∃ n f, runN (denote table) p w n s t = .halted (.done f) S ∧ ∀ k s1 t1, runN (denote table) p w k s t = .running s1 t1 → t1.calm = true
theorem halts_step {s s' S : Shared} {t t' : Thread} (hc : t.calm = true) (hs : step (denote table) p w s t = .go s' t') (h : Halts p w s' t' S) : Halts p w s t S := by
  obtain ⟨n, f, h1, h2⟩ := h
  refine ⟨n + 1, f, by simp only [runN, hs]; exact h1, fun k s1 t1 q => ?_⟩
  cases k with
  | zero => cases (show Run.running s t = .running s1 t1 from q); exact hc
  | succ k =>
    simp only [runN, hs] at q
    exact h2 k s1 t1 q
theorem halts_go : ∀ {m : Nat} {s s' S : Shared} {t t' : Thread}, topGo table p w n₀ ann m s t = some (s', t') → Halts p w s' t' S → Halts p w s t S
  | 0, s, s', S, t, t', h, q => by
    cases (show some (s, t) = some (s', t') from h)
    exact q
  | m + 1, s, s', S, t, t', h, q => by
    obtain ⟨h1, h2, s1, t1, h3, h4⟩ := go_out h
    exact halts_step (Bool.and_eq_true_iff.mp h2).1 h3 (halts_go h4 q)
theorem halts_through {s : Shared} {t : Thread} (h : through t = true) (hg : s.gens = #[]) : Halts p w s t s := by
  obtain ⟨cur, code, pos, st⟩ := t
  obtain ⟨h1, h2⟩ := Bool.and_eq_true_iff.mp h
  have h1 : st = [] := List.isEmpty_iff.mp h1
  subst h1
  cases cur with
  | pure fin =>
    cases fin with
    | done f =>
      obtain ⟨hp, gs, d, tk, os⟩ := s
      have hg : gs = #[] := hg
      subst hg
      have e : step (denote table) p w ⟨hp, #[], d, tk, os⟩ ⟨.pure (.done f), code, pos, []⟩ = .halt (.done f) ⟨hp, #[], d, tk, os⟩ := by
        show finish (.done f) ⟨hp, #[], d, tk, os⟩ = _
        unfold finish
        rw [if_neg (by rw [clean0]; exact Bool.false_ne_true)]
      refine ⟨1, f, by simp only [runN, e], fun k s1 t1 q => ?_⟩
      cases k with
      | zero =>
        cases (show Run.running _ _ = .running s1 t1 from q)
        rfl
      | succ k =>
        simp only [runN, e] at q
        exact nomatch q
    | again c => exact nomatch h2
  | _ => exact nomatch h2
theorem halts_top : ∀ {N : Nat} {s S : Shared} {t : Thread}, topRun table p w n₀ ann N s t = some S → S.gens = #[] → Halts p w s t S
  | 0, _, _, _, h, _ => nomatch (show (none : Option Shared) = some _ from h)
  | N + 1, s, S, t, h, hg => by
    unfold topRun at h
    cases h1 : through t with
    | true =>
      rw [h1] at h
      cases (show some s = some S from h)
      exact halts_through h1 hg
    | false =>
      cases h2 : stepOk n₀ ann t with
      | false => rw [h1, h2] at h; exact nomatch h
      | true =>
        rw [h1, h2] at h
        cases h3 : step (denote table) p w s t with
        | halt o x => rw [h3] at h; exact nomatch h
        | go s' t' =>
          rw [h3] at h
          exact halts_step (Bool.and_eq_true_iff.mp h2).1 h3 (halts_top h hg)
theorem forget_bare {s S : Shared} (h : s.forget = S.forget) (hg : S.gens = #[]) : s = S := by
  obtain ⟨hp, gs, d, tk, os⟩ := s
  obtain ⟨hp', gs', d', tk', os'⟩ := S
  have hg : gs' = #[] := hg
  subst hg
  have h : (⟨hp, gs.map GenState.forget, d, tk, os⟩ : Shared) = ⟨hp', #[], d', tk', os'⟩ := by
    have z : (⟨hp, gs.map GenState.forget, d, tk, os⟩ : Shared) = ⟨hp', (#[] : Array GenState).map GenState.forget, d', tk', os'⟩ := h
    rw [z, Array.map_empty]
  injection h with h1 h2 h3 h4 h5
  have hz : gs = #[] := by
    have := congrArg Array.size h2
    simp only [Array.size_map] at this
    exact Array.eq_empty_of_size_eq_zero this
  subst h1 h3 h4 h5 hz
  rfl
theorem halts_runs {s S : Shared} {cur : Sem Fin} {c : Code} {pos : Pos} {st : List Frame} (h : Halts p w s ⟨cur, c, pos, st⟩ S) (hg : S.gens = #[]) : ∃ f, Runs (model p w) ⟨c, none, none, [], none⟩ pos cur st s (.ret (.ok f)) S := by
  obtain ⟨n, f, h1, h2⟩ := h
  obtain ⟨s', h3, h4⟩ := runN_calm_runNI (denote table) p w h1 h2
  have e := forget_bare (s := s') (S := S) (by first | exact h4 | exact h4.symm) hg
  subst e
  exact ⟨f, (halts_iff (M := model p w) (r := .ok f)).mp ⟨n, h3⟩ |>.1⟩
theorem runs_halts {s S : Shared} {cur : Sem Fin} {c : Code} {pos : Pos} {st : List Frame} {f : Flow} (h : Runs (model p w) ⟨c, none, none, [], none⟩ pos cur st s (.ret (.ok f)) S) (hg : S.gens = #[]) : Halts p w s ⟨cur, c, pos, st⟩ S := by
  have hl : leftWithCleanup S.gens = false := by rw [hg]; exact clean0
  obtain ⟨n, hn⟩ := (halts_iff (M := model p w) (r := .ok f)).mpr ⟨h, hl⟩
  obtain ⟨s'', h1, h2, h3⟩ := runNI_real (denote table) p w (show runNI (denote table) p w n s ⟨cur, c, pos, st⟩ = .halted (.done f) S from hn) rfl
  have e := forget_bare h2 hg
  subst e
  exact ⟨n, f, h1, h3⟩
/-- an expression by wp, with what stands behind it -/
theorem halts_mid {α : Type} {m : Sem α} {K : α → Sem Fin} {H : Value → Sem Fin} {gd : Bool → Bool} {lv : List Value → List Value} {s S : Shared} {c : Code} {pos : Pos} {B : List Frame} {Q : α → Pos → Shared → Prop} (hg : S.gens = #[])
    (hw : Sem.wp (model p w) ((⟨c, none, none, [], none⟩ : Ctx).over B) m Q (fun _ _ _ => False) pos s) (hk : ∀ a p' s', Q a p' s' → Halts p w s' ⟨K a, c, p', B⟩ S) : Halts p w s ⟨m.wrap K H gd lv, c, pos, B⟩ S := by
  obtain ⟨e, s'', hr, f, he, hS⟩ := runs_wrap_of_wp (M := model p w) (Γ := ⟨c, none, none, [], none⟩) (fs := B) (Φ := fun e s'' => ∃ f, e = .ret (.ok f) ∧ s'' = S) K H gd lv m hw
    (fun a p' s' q => by
      obtain ⟨f, r⟩ := halts_runs (hk a p' s' q) hg
      exact ⟨_, _, r, f, rfl, rfl⟩) (fun _ _ _ q => q.elim)
  subst he hS
  exact runs_halts hr hg
/-- the end, seen by the scheduler -/
theorem halts_sched {s S : Shared} {t : Thread} (h : Halts p w s t S) (hr : s.asleep) : ∃ n t', schedN (denote table) p w n (.single s t) = .running (.single S t') ∧ through t' = true := by
  obtain ⟨n, f, h1, h2⟩ := h
  have last : ∀ (n : Nat) (s : Shared) (t : Thread), runN (denote table) p w n s t = .halted (.done f) S → ∃ k s' t', runN (denote table) p w k s t = .running s' t' ∧ step (denote table) p w s' t' = .halt (.done f) S := by
    intro n
    induction n with
    | zero => intro s t h; exact nomatch h
    | succ n ih =>
      intro s t h
      cases hs : step (denote table) p w s t with
      | go s' t' =>
        simp only [runN, hs] at h
        obtain ⟨k, s1, t1, q1, q2⟩ := ih s' t' h
        exact ⟨k + 1, s1, t1, by simp only [runN, hs]; exact q1, q2⟩
      | halt o s' =>
        simp only [runN, hs] at h
        cases h
        exact ⟨0, s, t, rfl, hs⟩
  obtain ⟨k, s', t', q1, q2⟩ := last n s t h1
  have e := step_halt_same (denote table) p w s' S t' _ q2
  subst e
  refine ⟨k, t', ?_, ?_⟩
  · have goes : ∀ (k j : Nat) (s : Shared) (t : Thread) (s1 : Shared) (t1 : Thread), j < k → (∃ s2 t2, runN (denote table) p w k s t = .running s2 t2) → runN (denote table) p w j s t = .running s1 t1 → ∃ s3 t3, step (denote table) p w s1 t1 = .go s3 t3 := by
      intro k
      induction k with
      | zero => intro j s t s1 t1 hj; omega
      | succ k ih =>
        intro j s t s1 t1 hj ⟨s2, t2, r⟩ q
        cases hs : step (denote table) p w s t with
        | halt o x => simp only [runN, hs] at r; exact nomatch r
        | go s' t' =>
          cases j with
          | zero =>
            cases (show Run.running s t = .running s1 t1 from q)
            exact ⟨s', t', hs⟩
          | succ j =>
            simp only [runN, hs] at r q
            exact ih j s' t' s1 t1 (by omega) ⟨s2, t2, r⟩ q
    rw [schedN_prefix (denote table) p w k s t hr fun j s1 t1 hj r => ⟨h2 j s1 t1 r, fun z => by
      obtain ⟨s3, t3, q3⟩ := goes k j s t s1 t1 hj ⟨_, _, q1⟩ r
      rw [q3] at z
      exact nomatch z⟩, q1]
    rfl
  · exact step_halt_done q2
end
end Fw

set_option Elab.async false
set_option linter.all false
set_option maxRecDepth 100000
set_option maxHeartbeats 2000000
/-! An open row from its top, world by world: the top's end is told for each world by itself, no bound of steps is asked. -/
namespace Fw
open PySem PySem.W PySem.Calls PyProof.Rows HandSHeadRun
/-- the top's end at a world -/
structure TopEnd (p q : Program) (loose : List Str) (Xt : Shared → Bool) {α : Type} (Yf : Shared → α) (Ya : World → α) (w : World) (s₀ s₁ : Shared) : Prop where
  run : Halts p w s₀ (topStub p) s₁
  ns : s₀.heap.isNs mainGlobals = true
  g0 : s₀.gens = #[]
  g1 : s₁.gens = #[]
  life : s₁.heap.life = s₀.heap.life
  os : s₁.os = s₀.os
  keeps : ∀ b o, b < s₀.heap.objs.size → b ≠ mainNs → b ≠ cStatics → s₀.heap.nsMap mainGlobals "__annotations__" ≠ some (.ref b) → s₀.heap.get? b = some o → s₁.heap.get? b = some o
  looks : looksF p s₀.heap s₁ = true
  seen : openSeen q loose (importedModules p.main.body) Xt true s₁ = openGood q loose
  obs : Yf s₁ = Ya w
def TopsE (p q : Program) (loose : List Str) (Xt : Shared → Bool) {α : Type} (Yf : Shared → α) (Ya : World → α) : Prop :=
  ∀ w : World, ∃ (N : Nat) (s₀ s₁ : Shared), fencedOpening table p w N = some s₀ ∧ TopEnd p q loose Xt Yf Ya w s₀ s₁
section
variable {p q : Program} {loose : List Str} {Xt : Shared → Bool} {XP : (Str → Option Value) → Heap → Prop} {α : Type} {Yf : Shared → α} {Ya : World → α}
/-- what stands behind the top -/
structure Stands (p q : Program) (loose : List Str) (XP : (Str → Option Value) → Heap → Prop) (w : World) (a b : Shared) : Prop where
  ran : TopRan p w a b
  sleeps : b.asleep
  bare : b.gens = #[]
  ns : b.heap.isNs mainGlobals = true
  gr : Ground q loose [] XP w b (b.heap.nsMap mainGlobals) (b.heap.nsMap builtinsNs) b.heap
theorem stands (T : TopsE p q loose Xt Yf Ya) (hX : ∀ s, Xt s = true → XP (s.heap.nsMap mainGlobals) s.heap) (hch : chainsOk q = true) (w : World) :
    (∃ s, AfterRun (opening p) w s) ∧ ∀ s, AfterRun (opening p) w s → ∃ a, fenceModules? p s = some a ∧ a.gens = #[] ∧ ∃ b, Stands p q loose XP w a b ∧ Yf b = Ya w := by
  obtain ⟨N, a, b, hf, E⟩ := T w
  obtain ⟨s, hi, hfe⟩ := Option.bind_eq_some_iff.mp hf
  have A := AfterImport.of_importEnds hi
  refine ⟨⟨s, A⟩, fun s' hs' => ?_⟩
  have es : s' = s := AfterImport.unique hs' A
  subst es
  have za : a.asleep := Shared.asleep_of_life (fence_lifeW hfe) A.life
  have lk : (staticsOk (importedModules p.main.body) a.heap b.heap && namesBound p b.heap && gensDone b && laidKept a.heap b.heap) = true := E.looks
  obtain ⟨lk, k4⟩ := Bool.and_eq_true_iff.mp lk
  obtain ⟨lk, k3⟩ := Bool.and_eq_true_iff.mp lk
  obtain ⟨k1, k2⟩ := Bool.and_eq_true_iff.mp lk
  obtain ⟨G, _, hns, c1, c2, c3, c4⟩ := ground_of_open (w := w) hX hch E.seen
  refine ⟨a, hfe, E.g0, b, ⟨⟨halts_sched E.run za, E.life, Shared.rest_eq E.os, fun x o hx nx => ?_, c1, statics_of_ok k1, c2, c3, c4, gens_of_done k3, names_of_bound k2, laid_of_kept k4⟩, Shared.asleep_of_life E.life za, E.g1, hns, G⟩, E.obs⟩
  exact E.keeps x o (Heap.lt_size hx) (fun z => nx (.inl z)) (fun z => nx (.inr (.inl z))) (fun z => nx (.inr (.inr ((Pin.globalOf_eq E.ns _).trans z)))) hx
end
/-- the row, from its top's ends and the walk of its call -/
theorem holdsE {r : OpenRow} {q : Program} {loose : List Str} {Xt : Shared → Bool} {XP : (Str → Option Value) → Heap → Prop} {H : Hook} {d : DefRec} {kwd : List (Str × Expr)}
    (T : TopsE r.prog q loose Xt H.obs H.val) (hX : ∀ s, Xt s = true → XP (s.heap.nsMap mainGlobals) s.heap) (hXk : ∀ mg h h', XP mg h → (∀ b o, h.get? b = some o → h'.get? b = some o) → XP mg h')
    (hdef : defOf q r.name = some (d, kwd)) (hp : r.prog.theDef r.name = some (d.params, d.body, d.scope)) (hk : kwWritten? d.params.kwonlyargs d.params.kw_defaults = some kwd) (hRf : ∀ s, Xt s = true → RecFacts r.records s.heap)
    (hwr : (!r.writes || r.records.isEmpty) = true) (k1 : r.wellSaid = true) (ok : (chainsOk q && opensWell r.prog && (frees r.toRowW && r.within.isEmpty)) = true) (hb : r.prog.bare) (hw : r.toRowW.promised)
    (call : WalkO q loose XP H.says r.toRowW d kwd fun f vs => PySem.call f vs) : r.Holds := by
  obtain ⟨ok12, ok34⟩ := Bool.and_eq_true_iff.mp ok
  obtain ⟨hch, opens⟩ := Bool.and_eq_true_iff.mp ok12
  obtain ⟨ok3, ok4⟩ := Bool.and_eq_true_iff.mp ok34
  obtain ⟨hsame, hu, ha, hap, hm⟩ := frees_parts ok3
  refine ⟨k1, hw, ⟨hb, opens, by show r.toRowW.makers.map _ = []; rw [hm]; rfl⟩, hw.witness, fun w => ⟨(stands T hX hch w).1, fun s' hs' => ?_⟩⟩
  obtain ⟨a, hf, ga, b, S, y⟩ := (stands (XP := fun mg h => XP mg h ∧ RecFacts r.toRowW.records h) T (fun s hs => ⟨hX s hs, hRf s hs⟩) hch w).2 s' hs'
  have G2 := S.gr
  have RF := G2.X.2
  have G1 : Ground q loose [] XP w b (b.heap.nsMap mainGlobals) (b.heap.nsMap builtinsNs) b.heap :=
    ⟨G2.T, G2.B, G2.D, G2.TE, G2.TD, G2.W, G2.X.1, G2.cls, G2.has, G2.apart, G2.once, G2.K⟩
  refine ⟨a, hf, ga, b, S.ran, fun n hn => ?_, RF.1, RF.2.1, ?_⟩
  · have en : n = r.name := by
      split at hn <;> simp_all
    subst en
    exact pinned_of_view S.ns G1 hdef hp hk
  have G := RF.ground (R := r.toRowW.records) G1
  refine ClaimW.callFrom_of_specG (c := r.toRowW.claim) S.sleeps S.bare fun args hpre hlay ord hord => ?_
  obtain ⟨⟨vs, s₁⟩, laid⟩ := Option.isSome_iff_exists.mp (layAllW_isSome (P := w.params) (ord := ord) G.has args r.toRowW.args b (pre_splitW hpre).1)
  have keeps := layAllW_keeps _ _ _ laid
  have rest := layAllW_rest _ _ _ laid
  obtain ⟨as, hrd, hin, hold⟩ := reads_layAllW hord _ _ _ laid hlay s₁.heap (fun _ _ e => e)
  have L : Laid r.toRowW.records w b s₁ args vs as := ⟨⟨ord, hord, laid⟩, hrd, hin, hold, keeps, rest.1.trans S.bare, rest.2.2.1⟩
  have Gk := G.keeps hXk keeps
  obtain ⟨fa, o, pm, cd, doc, dV, kV, h1, h2, h3, h4, h5⟩ := Gk.fn hdef
  have W := call w b s₁ _ _ Gk (H.keeps _ _ _ (H.of w b y) keeps) fa o pm cd doc dV kV h2 h3 h4 h5 (defOf_name hdef ▸ h1) L.gens args vs as hpre hlay L.reads L.well (L.low G.low)
  have idf := ident_freeW hu ha hap
  have wi : r.toRowW.claim.within = [] := List.isEmpty_iff.mp ok4
  refine ⟨vs, s₁, laid, wpAny_bind (wpAny_nsGet Gk.T.g ?_)⟩
  rw [h1]
  refine wpAny_bind (wpAny_mono W (fun v s' g => ?_) fun e s' g => ?_)
  · have z := g.laid (c := r.toRowW.claim) hsame wi idf L
    exact wpAny_pure ⟨_, rfl, z.1, z.2.1, z.2.2, fun qq => ⟨namesKept_of S.ran S.ns r.keeps keeps g.2.1.old, noTable hwr qq⟩⟩
  · have z := g.laid (c := r.toRowW.claim) hsame wi idf L
    exact ⟨z.1, z.2.1, z.2.2, fun qq => ⟨namesKept_of S.ran S.ns r.keeps keeps g.2.1.old, noTable hwr qq⟩⟩
end Fw

set_option Elab.async false
set_option linter.all false
set_option maxRecDepth 100000
set_option maxHeartbeats 2000000
/-! A display of 18 pairs whose keys are tuples of two texts, whose values are tuples of texts: what it leaves, object by object. -/
namespace Fw
open PySem PySem.W PySem.Calls PyProof.Rows
abbrev PK : Type := Str × Str × List Str
def key (p : PK) : List Str := [p.1, p.2.1]
def toksV : Nat → List Str → List Value
  | _, [] => []
  | t, x :: r => .str x t :: toksV (t + 1) r
/-- a tuple of texts, their tokens from t on -/
def tO (t : Nat) (zs : List Str) : Obj := { cls := .type "tuple", data := .seq (toksV t zs).toArray }
def dO (es : List DictEntry) : Obj := { cls := .type "dict", data := .dict es.toArray es.length }
def lo : Nat → List PK → List Obj
  | _, [] => []
  | t, p :: r => tO t (key p) :: tO (t + 2) p.2.2 :: lo (t + p.2.2.length + 5) r
def lt : Nat → List PK → Nat
  | t, [] => t
  | t, p :: r => lt (t + p.2.2.length + 5) r
def lx : Nat → List PK → List (List Str × Addr × Value)
  | _, [] => []
  | a, p :: r => (key p, a, .ref (a + 1)) :: lx (a + 2) r
theorem lo_app : ∀ (a b : List PK) (t : Nat), lo t (a ++ b) = lo t a ++ lo (lt t a) b
  | [], _, _ => rfl
  | p :: a, b, t => by
    show _ :: _ :: lo _ (a ++ b) = _
    rw [lo_app a b]
    rfl
theorem lt_app : ∀ (a b : List PK) (t : Nat), lt t (a ++ b) = lt (lt t a) b
  | [], _, _ => rfl
  | p :: a, b, t => lt_app a b _
theorem lo_len : ∀ (a : List PK) (t : Nat), (lo t a).length = 2 * a.length
  | [], _ => rfl
  | p :: a, t => by
    show (lo _ a).length + 1 + 1 = 2 * (a.length + 1)
    rw [lo_len a]
    omega
theorem lx_app : ∀ (a b : List PK) (i : Nat), lx i (a ++ b) = lx i a ++ lx (i + 2 * a.length) b
  | [], _, _ => rfl
  | p :: a, b, i => by
    show _ :: lx (i + 2) (a ++ b) = _
    rw [lx_app a b, show i + 2 + 2 * a.length = i + 2 * (p :: a).length by rw [List.length_cons]; omega]
    rfl
theorem lx_keys : ∀ (a : List PK) (i : Nat), (lx i a).map (·.1) = a.map key
  | [], _ => rfl
  | p :: a, i => by
    show _ :: (lx _ a).map _ = _
    rw [lx_keys a]
    rfl
theorem lx_len : ∀ (a : List PK) (i : Nat), (lx i a).length = a.length
  | [], _ => rfl
  | p :: a, i => congrArg (· + 1) (lx_len a _)
/-! ### a heap with objects behind -/
def ext (h : Heap) (l : List Obj) : Heap := ⟨h.objs ++ l.toArray, h.life⟩
theorem ext_nil (h : Heap) : ext h [] = h := by
  obtain ⟨o, l⟩ := h
  show (⟨o ++ ([] : List Obj).toArray, l⟩ : Heap) = ⟨o, l⟩
  rw [show o ++ ([] : List Obj).toArray = o by simp]
theorem ext_push (h : Heap) (l : List Obj) (o : Obj) : (ext h l).push o = ext h (l ++ [o]) := by
  show (⟨(h.objs ++ l.toArray).push o, h.life⟩ : Heap) = ⟨h.objs ++ (l ++ [o]).toArray, h.life⟩
  rw [show (h.objs ++ l.toArray).push o = h.objs ++ (l ++ [o]).toArray by simp]
theorem ext_size (h : Heap) (l : List Obj) : (ext h l).objs.size = h.objs.size + l.length := by
  show (h.objs ++ l.toArray).size = _
  simp
theorem ext_get {h : Heap} {l : List Obj} {i : Nat} {o : Obj} (e : l[i]? = some o) (ho : ∀ c d s, o ≠ ⟨c, d, .freed, s⟩) : (ext h l).get? (h.objs.size + i) = some o := by
  have g : (h.objs ++ l.toArray)[h.objs.size + i]? = some o := by
    rw [Array.getElem?_append_right (by omega), show h.objs.size + i - h.objs.size = i by omega]
    simpa using e
  unfold Heap.get? ext
  rw [g]
  obtain ⟨c, d, dt, s⟩ := o
  cases dt <;> first | rfl | exact absurd rfl (ho c d s)
theorem ext_upd (h : Heap) (o : Obj) (l : List Obj) (f : Obj → Obj) : (ext h (o :: l)).update h.objs.size f = ext h (f o :: l) := by
  show (⟨(h.objs ++ (o :: l).toArray).modify h.objs.size f, h.life⟩ : Heap) = ⟨h.objs ++ (f o :: l).toArray, h.life⟩
  congr 1
  apply Array.ext_getElem?
  intro i
  rw [Array.getElem?_modify]
  by_cases e : h.objs.size = i
  · subst e
    rw [if_pos rfl, Array.getElem?_append_right (Nat.le_refl _), Array.getElem?_append_right (Nat.le_refl _)]
    simp
  · rw [if_neg e]
    by_cases q : i < h.objs.size
    · rw [Array.getElem?_append_left q, Array.getElem?_append_left q]
    · rw [Array.getElem?_append_right (by omega), Array.getElem?_append_right (by omega)]
      obtain ⟨k, hk⟩ : ∃ k, i - h.objs.size = k + 1 := ⟨i - h.objs.size - 1, by omega⟩
      rw [hk]
      simp
section
variable {prog : Program} {w : World} {A : Around} {E : Value → Shared → Prop} {env : Env}
theorem items_of : ∀ (zs : List Str) (t : Nat), ItemsAre (strKind prog w) zs (toksV t zs)
  | [], _ => .nil
  | x :: r, t => .cons (by show Value.isStrOf x (.str x t) = true; simp [Value.isStrOf]) (items_of r (t + 1))
theorem tO_key {h : Heap} {l : List Obj} {i t : Nat} {zs : List Str} (e : l[i]? = some (tO t zs)) : IsTupleKey (strKind prog w) (ext h l) zs (h.objs.size + i) :=
  ⟨_, _, _, ext_get e (fun c d s z => by injection z with _ _ z _; exact nomatch z), rfl, rfl, by simpa using items_of zs t⟩
theorem lx_is {h : Heap} {l : List Obj} : ∀ (L : List PK) (t i : Nat), (∀ j o, (lo t L)[j]? = some o → l[i + j]? = some o) → ∀ x ∈ lx (h.objs.size + i) L, IsTupleKey (strKind prog w) (ext h l) x.1 x.2.1
  | [], _, _, _, x, hx => nomatch hx
  | p :: r, t, i, hl, x, hx => by
    rcases List.mem_cons.mp hx with z | z
    · subst z
      exact tO_key (hl 0 _ rfl)
    · refine lx_is r (t + p.2.2.length + 5) (i + 2) (fun j o e => ?_) x z
      rw [show i + 2 + j = i + (j + 2) by omega]
      exact hl (j + 2) o e
/-- texts, written -/
inductive CS : List Expr → List Str → Prop where
  | nil : CS [] []
  | cons {x : Str} {k : Nat} {pos : Pos} {es : List Expr} {zs : List Str} : CS es zs → CS (.Constant (.str x) k pos :: es) (x :: zs)
theorem wp_items {pos : Pos} : ∀ {es : List Expr} {zs : List Str} {s : Shared} {Q : List Value → Shared → Prop}, CS es zs → Q (toksV s.toks zs) { s with toks := s.toks + zs.length } → wpAny (model prog w) A (spliced (backTo pos (starEach es env))) Q E s
  | _, _, s, Q, .nil, h => wpAny_items_nil h
  | _, _, s, Q, .cons (zs := zs) c, h => wpAny_items_cons (wpAny_Constant_str (wp_items c (by
      show Q (_ :: toksV (s.toks + 1) zs) { s with toks := s.toks + 1 + zs.length }
      rw [show s.toks + 1 + zs.length = s.toks + (zs.length + 1) by omega]
      exact h)))
theorem toksV_len : ∀ (zs : List Str) (t : Nat), (toksV t zs).length = zs.length
  | [], _ => rfl
  | x :: r, t => congrArg (· + 1) (toksV_len r _)
theorem wp_tuple {es : List Expr} {zs : List Str} {k : Nat} {pos : Pos} {s : Shared} {Q : Value → Shared → Prop} (c : CS es zs) (hz : zs.length ≤ 100) (h : Q (.ref s.heap.objs.size) { s with heap := s.heap.push (tO s.toks zs), toks := s.toks + zs.length }) :
    wpAny (model prog w) A (eval (.Tuple es k pos) env) Q E s :=
  wpAny_Tuple (wp_items c ⟨by rw [toksV_len]; exact Nat.le_trans hz (by decide), h⟩)
/-- the pairs, as they are evaluated -/
inductive PairsAre (env : Env) (pos : Pos) : List (Sem Value × Sem Value) → List PK → Prop where
  | nil : PairsAre env pos [] []
  | cons {ke ve : List Expr} {kk vk : Nat} {kp vp : Pos} {p : PK} {ps : List (Sem Value × Sem Value)} {r : List PK} : CS ke (key p) → CS ve p.2.2 → p.2.2.length ≤ 100 → PairsAre env pos ps r →
    PairsAre env pos ((eval (.Tuple ke kk kp) env, (do let x ← eval (.Tuple ve vk vp) env; standAt pos; pure x)) :: ps) (p :: r)
/-- the state behind some of the pairs: the dict first, then keys and values -/
def mid (w : World) (prog : Program) (s : Shared) (L : List PK) : Shared := { s with heap := ext s.heap (dO ((lx (s.heap.objs.size + 1) L).map (entryOfKey (tupleKind (strKind prog w)))) :: lo s.toks L), toks := lt s.toks L }
/-- d[k] = v of a new key: the entry is the last -/
theorem wp_new {s : Shared} {L : List PK} {p : PK} {h : Heap} {t : Nat} {Q : Unit → Shared → Prop} (hu : A.units < cLine) (hs : s.heap = ext h (dO ((lx (h.objs.size + 1) L).map (entryOfKey (tupleKind (strKind prog w)))) :: lo t (L ++ [p])))
    (hn : ((L ++ [p]).map key).Nodup) (hz : L.length ≤ 1000) (q : Q () { s with heap := ext h (dO ((lx (h.objs.size + 1) (L ++ [p])).map (entryOfKey (tupleKind (strKind prog w)))) :: lo t (L ++ [p])), toks := s.toks + 3 }) :
    wpAny (model prog w) A (dictSet h.objs.size (.ref (h.objs.size + 1 + 2 * L.length)) (.ref (h.objs.size + 1 + 2 * L.length + 1))) Q E s := by
  obtain ⟨hp, g, d, tk, os⟩ := s
  have hs : hp = _ := hs
  have is : ∀ x ∈ lx (h.objs.size + 1) (L ++ [p]), IsTupleKey (strKind prog w) hp x.1 x.2.1 := by
    rw [hs]
    exact lx_is (L ++ [p]) t 1 fun j o e => by rw [show 1 + j = j + 1 by omega]; exact e
  have mine : IsTupleKey (strKind prog w) hp (key p) (h.objs.size + 1 + 2 * L.length) := is (key p, _, _) (by
    rw [lx_app]
    exact List.mem_append_right _ (List.mem_cons_self ..))
  have hd : hp.get? h.objs.size = some (dO ((lx (h.objs.size + 1) L).map (entryOfKey (tupleKind (strKind prog w))))) := by
    rw [hs]
    exact ext_get (h := h) (i := 0) rfl (fun c d s z => by injection z with _ _ z _; exact nomatch z)
  have nk : ∀ (j : Nat) (x : Addr × Value), (lx (h.objs.size + 1) L)[j]? ≠ some (key p, x) := fun j x z => by
    rw [List.map_append, List.nodup_append] at hn
    have m1 : key p ∈ L.map key := by
      rw [← lx_keys L (h.objs.size + 1)]
      exact List.mem_map.mpr ⟨_, List.mem_of_getElem? z, rfl⟩
    exact hn.2.2 _ m1 _ (List.mem_singleton.mpr rfl) rfl
  unfold dictSet
  try with_reducible refine wpAny_holding ?_
  refine wpAny_bind ((tupleKind (strKind prog w)).pyHash hu mine ?_)
  unfold dictSetHashed
  try with_reducible refine wpAny_holding ?_
  refine wpAny_bind (wpAny_dictFind_heap (knd := tupleKind (strKind prog w)) (s := ⟨hp, g, d, tk + 3, os⟩) hu mine hd rfl (by simp) (fun x hx => is x (by rw [lx_app]; exact List.mem_append_left _ hx)) (by
    rw [lx_keys]
    rw [List.map_append, List.nodup_append] at hn
    exact hn.1) (fun _ => ?_) fun j x z => absurd z (nk j x))
  refine wpAny_bind (wpAny_rule (wpAny_updateDictKeys (s := ⟨hp, g, d, tk + 3, os⟩) hd rfl ?_ (by
    rw [List.size_toArray, List.length_map, lx_len]
    exact Nat.le_trans hz (by decide))))
  have e : hp.update h.objs.size (Obj.mapDictKeys fun es => es.push ⟨(tupleKind (strKind prog w)).hash (key p), .ref (h.objs.size + 1 + 2 * L.length), .ref (h.objs.size + 1 + 2 * L.length + 1)⟩) = ext h (dO ((lx (h.objs.size + 1) (L ++ [p])).map (entryOfKey (tupleKind (strKind prog w)))) :: lo t (L ++ [p])) := by
    rw [hs, ext_upd]
    congr 2
    rw [lx_app, List.map_append]
    show (⟨_, _, _, _⟩ : Obj) = ⟨_, _, _, _⟩
    simp [dO, Obj.mapDictKeys, lx, entryOfKey]
  rw [e]
  exact q
/-- pair by pair -/
theorem wp_long {pos : Pos} {s : Shared} (hu : A.units < cLine) : ∀ (rest done : List PK) (pairs : List (Sem Value × Sem Value)) (Q : PUnit → Shared → Prop), PairsAre env pos pairs rest → ((done ++ rest).map key).Nodup → (done ++ rest).length ≤ 1000 → Q PUnit.unit (mid w prog s (done ++ rest)) →
    wpAny (model prog w) A (forIn pairs PUnit.unit fun (x : Sem Value × Sem Value) (_ : PUnit) => (do let kv ← x.1; let vv ← holding [kv] x.2; holding [kv, vv] (dictSet s.heap.objs.size kv vv); pure (ForInStep.yield PUnit.unit) : Sem (ForInStep PUnit))) Q E (mid w prog s done)
  | _, done, _, Q, .nil, _, _, q => by
    rw [List.append_nil] at q
    rw [List.forIn_nil]
    exact wpAny_pure q
  | _, done, _, Q, .cons (ke := ke) (ve := ve) (kk := kk) (vk := vk) (kp := kp) (vp := vp) (p := p) (ps := ps) (r := r) c1 c2 c3 c4, hn, hl, q => by
    rw [List.forIn_cons]
    dsimp only
    have ed : done ++ p :: r = (done ++ [p]) ++ r := by simp
    rw [ed] at hn hl q
    have hl' : (done ++ [p]).length ≤ 1000 := Nat.le_trans (by rw [List.length_append (as := done ++ [p])]; exact Nat.le_add_right _ _) hl
    have hn' : ((done ++ [p]).map key).Nodup := by
      rw [List.map_append] at hn
      exact (List.nodup_append.mp hn).1
    refine wpAny_bind (wpAny_bind (wp_tuple (k := kk) (pos := kp) c1 (by show 2 ≤ 100; decide) (wpAny_bind (wpAny_holding (wpAny_bind (wp_tuple (k := vk) (pos := vp) c2 c3 (wpAny_bind (wpAny_standAt (wpAny_pure ?_)))))))))
    have es : s.heap.objs.size + 1 + 2 * done.length = (mid w prog s done).heap.objs.size := by
      show _ = (ext s.heap _).objs.size
      rw [ext_size, List.length_cons, lo_len]
      omega
    have e2 : ∀ o, ((mid w prog s done).heap.push o).objs.size = s.heap.objs.size + 1 + 2 * done.length + 1 := fun o => by
      rw [Heap.size_push, es]
    have e1 : (ext s.heap (dO ((lx (s.heap.objs.size + 1) done).map (entryOfKey (tupleKind (strKind prog w)))) :: lo s.toks done)).objs.size = s.heap.objs.size + 1 + 2 * done.length := es.symm
    have eo : lo s.toks (done ++ [p]) = lo s.toks done ++ [tO (lt s.toks done) (key p)] ++ [tO (lt s.toks done + 2) p.2.2] := by
      rw [lo_app]
      simp [lo]
    have et : lt s.toks (done ++ [p]) = lt s.toks done + p.2.2.length + 5 := by
      rw [lt_app]
      rfl
    refine wpAny_bind (wpAny_holding ?_)
    show wpAny _ _ (dictSet s.heap.objs.size (.ref (mid w prog s done).heap.objs.size) (.ref ((mid w prog s done).heap.push _).objs.size)) _ _ _
    rw [e2, ← es]
    refine wp_new (t := s.toks) (p := p) hu ?_ hn' (by rw [List.length_append] at hl'; omega) (wpAny_pure ?_)
    · show ((ext s.heap _).push _).push _ = _
      rw [ext_push, ext_push, eo]
      rfl
    · refine (congrArg (fun x => wpAny (model prog w) A _ Q E x) ?_).mp (wp_long hu r (done ++ [p]) ps Q c4 hn hl q)
      show mid w prog s (done ++ [p]) = _
      unfold mid
      rw [et]
      show Shared.mk _ _ _ _ _ = Shared.mk _ _ _ _ _
      congr 1
      show lt s.toks done + p.2.2.length + 5 = lt s.toks done + 2 + p.2.2.length + 3
      omega
end
end Fw

set_option Elab.async false
set_option linter.all false
set_option maxRecDepth 100000
set_option maxHeartbeats 2000000
/-! d.get((a, b)) of a dict that the module's top laid, keyed by tuples of texts, whose values are tuples of texts -/
namespace Fw
open PySem PySem.Spec PyProof.Rows L2
structure Parts (prog : Program) (w : World) (K : PySem.W.Frag) (d : Addr) (g : List Str → Option (List Str)) : Prop where
  is : ∃ (xs : List (List Str × Addr × Value)) (o : Obj) (ep : Nat), K.lookup d = some o ∧ o.ExactDict ∧ o.data = .dict (xs.map (entryOfKey (tupleKind (strKind prog w)))).toArray ep ∧
    (∀ x ∈ xs, ∃ t, K.lookup x.2.1 = some (tO t x.1)) ∧ (xs.map (·.1)).Nodup ∧
    ∀ k, (valueAt (pairsH xs) k = none ∧ g k = none) ∨ ∃ b t zs, valueAt (pairsH xs) k = some (.ref b) ∧ g k = some zs ∧ K.lookup b = some (tO t zs) ∧ zs.length ≤ sizeLine
  hd : (d == sysModules) = false
theorem vals_toks : ∀ (zs : List Str) (t : Nat), Vals (zs.map V.str) (toksV t zs)
  | [], _ => .nil
  | z :: r, t => .cons ⟨t, rfl⟩ (vals_toks r (t + 1))
theorem tO_sqT {K : PySem.W.Frag} {H : Hp} {b : Addr} {t : Nat} {zs : List Str} (h : K.lookup b = some (tO t zs)) (hz : zs.length ≤ sizeLine) : SqT K H b (zs.map V.str) :=
  .inr ⟨_, (toksV t zs).toArray, _, h, rfl, rfl, by rw [List.size_toArray, toksV_len]; exact hz, vals_toks zs t⟩
def tPG (K : PySem.W.Frag) (d : Addr) (g : List Str → Option (List Str)) (to : TE) (t : TA) : TE := fun σ H Q => to σ H fun x H1 => x = .ref d ∧ t σ H1 fun ys H2 =>
  ∃ p k1 k2, ys = [.ref p] ∧ H2 p = some (.tup [.str k1, .str k2]) ∧ (g [k1, k2] = none → Q .non H2) ∧ ∀ b zs, g [k1, k2] = some zs → SqT K H2 b (zs.map V.str) → Q (.ref b) H2
variable {X : Cx}
theorem pe_pget {d : Addr} {g : List Str → Option (List Str)} {o e : Expr} {to : TE} {t : TA} {apos cpos : Pos} (hp : Parts X.prog X.w X.K d g) (hu : X.A.units + 1 < cLine) (ho : PE X o to) (ha : PA X [e] t)
    (hbase : attributeBase o "get" X.env (eval o X.env) = eval o X.env := by rfl)
    (hfew : ((backTo cpos (starEach [e] X.env)).all (fun x => !x.1) && (backToKw cpos (keywordEach [] X.env)).all (fun x => x.1.isSome)
      && decide ([e].length + ([] : List Keyword).length + (if ([] : List Keyword).isEmpty then 0 else 1) < 30)) = true := by rfl)
    (hline : (apos.endLine == cpos.line) = true := by rfl) (hs : starEach [e] X.env = (false, eval e X.env) :: starEach [] X.env := by rfl) (hplain : (backTo cpos (starEach [] X.env)).any (·.1) = false := by rfl) :
    PE X (.Call (.Attribute o "get" apos) [e] [] cpos) (tPG X.K d g to t) := by
  refine ⟨fun pins s σ H Q I h => ?_⟩
  obtain ⟨⟨xs, ob, ep, hk, hex, hdt, hks, hnd, hv⟩, hsm⟩ := hp
  refine wpAny_Call_method_late hbase hfew hline rfl (thn (ho.run pins s σ H _ I h) fun v s1 ⟨x, H1, I1, r1, ex, q1⟩ => ?_)
  subst ex
  cases (show v = Value.ref d from r1)
  refine ⟨"dict", "dict.get", PySem.F.plainAttrs_dict, PySem.F.slot_dict_get, PySem.F.type_dict_get, ⟨ob, I1.kIn d ob hk, hex.1⟩, fun a z => ?_, ?_⟩
  · cases z
    exact ⟨ob, I1.kIn _ ob hk, hex.2.1⟩
  have hA := ha.run cpos pins s1 σ H1 _ I1 q1
  rw [hs] at hA ⊢
  refine Calls.callWith_builtin (by show (false || (backTo cpos (starEach [] X.env)).any (·.1)) = false; rw [hplain] <;> rfl) (Calls.evalArgs_plain ?_)
  refine thn hA fun us s2 hh => ?_
  obtain ⟨vs, H2, I2, r2, p, k1, k2, rfl, hp2, qn, qs⟩ := hh
  obtain ⟨u, rfl, ru⟩ := Vals.one r2
  cases (show u = Value.ref p from ru)
  obtain ⟨its, rv, ⟨o', e', c', n', d'⟩, _⟩ := I2.tuple (SqT.of (K := X.K) hp2)
  obtain ⟨u1, u2, rfl, ⟨t1, rfl⟩, ⟨t2, rfl⟩⟩ := Vals.two rv
  have key : IsTupleKey (strKind X.prog X.w) s2.heap [k1, k2] p := ⟨o', _, n', e', c', d', by
    exact .cons (by show Value.isStrOf k1 (.str k1 t1) = true; simp [Value.isStrOf]) (.cons (by show Value.isStrOf k2 (.str k2 t2) = true; simp [Value.isStrOf]) .nil)⟩
  have dk : s2.heap.DictKeyed (tupleKind (strKind X.prog X.w)) d (pairsH xs) := Heap.DictKeyed.ofEntries xs (I2.kIn d ob hk) hex hdt rfl (fun x hx => by
    obtain ⟨t, ht⟩ := hks x hx
    exact ⟨_, _, _, I2.kIn _ _ ht, rfl, rfl, by simpa using items_of x.1 t⟩) hnd
  refine get_keyed (tupleKind_room_in1 hu) key hsm dk ?_
  rcases hv [k1, k2] with ⟨z1, z2⟩ | ⟨b, t, zs, z1, z2, z3, z4⟩
  · rw [z1]
    exact ⟨.non, H2, I2.tok _, rfl, qn z2⟩
  · rw [z1]
    exact ⟨.ref b, H2, I2.tok _, rfl, qs b zs z2 (tO_sqT z3 z4)⟩
end Fw

set_option Elab.async false
set_option linter.all false
set_option maxRecDepth 100000
set_option maxHeartbeats 2000000
namespace Fw
open PySem PySem.W PySem.Calls PyProof.Rows
theorem ext_ext (h : Heap) (a b : List Obj) : ext (ext h a) b = ext h (a ++ b) := by
  show (⟨(h.objs ++ a.toArray) ++ b.toArray, h.life⟩ : Heap) = ⟨h.objs ++ (a ++ b).toArray, h.life⟩
  congr 1
  simp
section
variable {prog : Program} {w : World} {A : Around} {E : Value → Shared → Prop} {env : Env}
theorem pairs_len {pos : Pos} : ∀ {ps : List (Sem Value × Sem Value)} {L : List PK}, PairsAre env pos ps L → ps.length = L.length
  | _, _, .nil => rfl
  | _, _, .cons _ _ _ r => congrArg (· + 1) (pairs_len r)
theorem wp_sub_long {pos : Pos} {s : Shared} {ps : List (Sem Value × Sem Value)} {L : List PK} {Q : Addr → Shared → Prop} (hu : A.units < cLine) (c : PairsAre env pos ps L) (h15 : 15 < ps.length) (hn : (L.map key).Nodup) (hl : L.length ≤ 1000) (q : Q s.heap.objs.size (mid w prog s L)) :
    wpAny (model prog w) A (subDict ps) Q E s := by
  unfold subDict
  refine wpAny_bind (wpAny_alloc ?_)
  refine wpAny_bind (wpAny_holding ?_)
  rw [if_neg (by omega)]
  refine wpAny_bind (wpAny_rule ?_)
  have e : (Shared.mk (s.heap.push { cls := .type "dict", data := .dict #[] }) s.gens s.drawn s.toks s.os) = mid w prog s [] := by
    have z : s.heap.push { cls := .type "dict", data := .dict #[] } = ext s.heap [dO []] := by
      have z := ext_push s.heap [] { cls := .type "dict", data := .dict #[] }
      rw [ext_nil] at z
      exact z
    show Shared.mk _ _ _ _ _ = Shared.mk (ext s.heap [dO []]) _ _ _ _
    rw [z]
    rfl
  rw [e]
  exact wpAny_bind (wp_long (E := E) hu L [] ps _ c hn hl (wpAny_pure (wpAny_pure q)))
theorem wp_sub_one {pos : Pos} {s : Shared} {ps : List (Sem Value × Sem Value)} {p : PK} {Q : Addr → Shared → Prop} (hu : A.units < cLine) (c : PairsAre env pos ps [p]) (q : Q s.heap.objs.size (mid w prog s [p])) :
    wpAny (model prog w) A (subDict ps) Q E s := by
  cases c with
  | cons c1 c2 c3 c4 =>
    rename_i ke ve kk vk kp vp ps
    cases c4
    unfold subDict
    refine wpAny_bind (wpAny_alloc ?_)
    refine wpAny_bind (wpAny_holding ?_)
    rw [if_pos (by show 1 ≤ 15; decide)]
    unfold evalPairs
    refine wpAny_bind (wpAny_bind (wp_tuple (k := kk) (pos := kp) c1 (by show 2 ≤ 100; decide) (wpAny_bind (wpAny_holding (wpAny_bind (wp_tuple (k := vk) (pos := vp) c2 c3 (wpAny_bind (wpAny_standAt (wpAny_pure ?_)))))))))
    unfold evalPairs
    refine wpAny_bind (wpAny_holding (wpAny_pure (wpAny_pure ?_)))
    refine wpAny_holding ?_
    rw [List.forIn_cons]
    dsimp only
    have e1 : (s.heap.push { cls := .type "dict", data := .dict #[] }).objs.size = s.heap.objs.size + 1 + 2 * ([] : List PK).length := by rw [Heap.size_push]; rfl
    have e2 : ∀ o, ((s.heap.push { cls := .type "dict", data := .dict #[] }).push o).objs.size = s.heap.objs.size + 1 + 2 * ([] : List PK).length + 1 := fun o => by rw [Heap.size_push, Heap.size_push]; rfl
    rw [e1, e2]
    refine wpAny_bind (wpAny_bind (wpAny_bind (wp_new (t := s.toks) (p := p) (L := []) hu ?_ (by simp) (Nat.zero_le _) (wpAny_pure ?_))))
    · show ((s.heap.push _).push _).push _ = _
      conv => lhs; rw [← ext_nil s.heap]
      rw [ext_push, ext_push, ext_push]
      rfl
    · dsimp only
      rw [List.forIn_nil]
      refine wpAny_pure (wpAny_pure (wpAny_pure ?_))
      refine (congrArg (fun x => Q s.heap.objs.size x) ?_).mp q
      unfold mid
      show Shared.mk _ _ _ _ _ = Shared.mk _ _ _ _ _
      congr 1
      show s.toks + p.2.2.length + 5 = s.toks + 2 + p.2.2.length + 3
      omega
/-- the state behind the whole display -/
def fin (w : World) (prog : Program) (s : Shared) (L : List PK) (p : PK) : Shared :=
  let m := s.heap.objs.size
  let a := m + 1 + 2 * L.length
  let k := tupleKind (strKind prog w)
  { s with heap := ext s.heap (dO ((lx (m + 1) L ++ lx (a + 1) [p]).map (entryOfKey k)) :: (lo s.toks L ++ dO ((lx (a + 1) [p]).map (entryOfKey k)) :: lo (lt s.toks L) [p])), toks := lt s.toks (L ++ [p]) }
theorem wp_merge {s : Shared} {L : List PK} {p : PK} {Q : Unit → Shared → Prop} (hu : A.units < cLine) (hn : ((L ++ [p]).map key).Nodup) (hl : L.length ≤ 1000) (h0 : L ≠ []) (hm : sysModules < s.heap.objs.size) (q : Q () (fin w prog s L p)) :
    wpAny (model prog w) A (mergeMapping s.heap.objs.size (.ref (s.heap.objs.size + 1 + 2 * L.length)) false) Q E (mid w prog (mid w prog s L) [p]) := by
  have ea : (ext s.heap (dO ((lx (s.heap.objs.size + 1) L).map (entryOfKey (tupleKind (strKind prog w)))) :: lo s.toks L)).objs.size = s.heap.objs.size + 1 + 2 * L.length := by
    rw [ext_size, List.length_cons, lo_len]
    omega
  have eS : mid w prog (mid w prog s L) [p] = { s with heap := ext s.heap (dO ((lx (s.heap.objs.size + 1) L).map (entryOfKey (tupleKind (strKind prog w)))) :: (lo s.toks L ++ dO ((lx (s.heap.objs.size + 1 + 2 * L.length + 1) [p]).map (entryOfKey (tupleKind (strKind prog w)))) :: lo (lt s.toks L) [p])), toks := lt s.toks (L ++ [p]) } := by
    unfold mid
    dsimp only
    rw [ea, ext_ext, lt_app]
    rfl
  rw [eS]
  generalize hH : ext s.heap (dO ((lx (s.heap.objs.size + 1) L).map (entryOfKey (tupleKind (strKind prog w)))) :: (lo s.toks L ++ dO ((lx (s.heap.objs.size + 1 + 2 * L.length + 1) [p]).map (entryOfKey (tupleKind (strKind prog w)))) :: lo (lt s.toks L) [p])) = H
  have nf : ∀ es c d sl, dO es ≠ ⟨c, d, .freed, sl⟩ := fun es c d sl z => by injection z with _ _ z _; exact nomatch z
  have gd : H.get? s.heap.objs.size = some (dO ((lx (s.heap.objs.size + 1) L).map (entryOfKey (tupleKind (strKind prog w))))) := by
    rw [← hH]
    exact ext_get (h := s.heap) (i := 0) rfl (nf _)
  have gs : H.get? (s.heap.objs.size + 1 + 2 * L.length) = some (dO ((lx (s.heap.objs.size + 1 + 2 * L.length + 1) [p]).map (entryOfKey (tupleKind (strKind prog w))))) := by
    rw [← hH, show s.heap.objs.size + 1 + 2 * L.length = s.heap.objs.size + (1 + 2 * L.length) by omega]
    refine ext_get (h := s.heap) (i := 1 + 2 * L.length) ?_ (nf _)
    rw [show 1 + 2 * L.length = 2 * L.length + 1 by omega, List.getElem?_cons_succ, List.getElem?_append_right (by rw [lo_len]; exact Nat.le_refl _), lo_len, Nat.sub_self]
    rfl
  have is1 : ∀ x ∈ lx (s.heap.objs.size + 1) L, IsTupleKey (strKind prog w) H x.1 x.2.1 := by
    rw [← hH]
    refine lx_is L s.toks 1 fun j o e => ?_
    rw [show 1 + j = j + 1 by omega, List.getElem?_cons_succ, List.getElem?_append_left (by
      have := (List.getElem?_eq_some_iff.mp e).1
      exact this)]
    exact e
  have is2 : IsTupleKey (strKind prog w) H (key p) (s.heap.objs.size + 1 + 2 * L.length + 1) := by
    rw [← hH, show s.heap.objs.size + 1 + 2 * L.length + 1 = s.heap.objs.size + (2 * L.length + 2) by omega]
    refine tO_key (t := lt s.toks L) ?_
    rw [show 2 * L.length + 2 = (2 * L.length + 1) + 1 by omega, List.getElem?_cons_succ, List.getElem?_append_right (by rw [lo_len]; omega), lo_len, show 2 * L.length + 1 - 2 * L.length = 1 by omega]
    rfl
  have nk : ∀ (j : Nat) (x : Addr × Value), (lx (s.heap.objs.size + 1) L)[j]? ≠ some (key p, x) := fun j x z => by
    rw [List.map_append, List.nodup_append] at hn
    have m1 : key p ∈ L.map key := by
      rw [← lx_keys L (s.heap.objs.size + 1)]
      exact List.mem_map.mpr ⟨_, List.mem_of_getElem? z, rfl⟩
    exact hn.2.2 _ m1 _ (List.mem_singleton.mpr rfl) rfl
  have hT : (Shared.mk H s.gens s.drawn (lt s.toks (L ++ [p])) s.os).TypeIs (.ref (s.heap.objs.size + 1 + 2 * L.length)) "dict" := ⟨_, gs, rfl⟩
  unfold mergeMapping
  refine wpAny_bind (wpAny_isInstance hT isSubtype_dict_dict ?_)
  rw [if_pos rfl]
  refine wpAny_bind (wpAny_specialOf hT F.slot_dict_iter.lookup ?_)
  rw [show ((some (Value.builtin "dict.__iter__") : Option Value) == some (Value.builtin "dict.__iter__")) = true from beq_self_eq_true _]
  refine wpAny_bind (wpAny_pure ?_)
  dsimp only
  rw [if_neg (by
    rw [beq_iff_eq]
    intro z
    have y := hm
    rw [← z] at y
    exact absurd y (Nat.not_lt.mpr (by omega)))]
  refine wpAny_bind (wpAny_dictEntries gd rfl ?_)
  rw [if_neg (by
    intro z
    have : ((lx (s.heap.objs.size + 1) L).map (entryOfKey (tupleKind (strKind prog w)))) = [] := by simpa using z
    rw [List.map_eq_nil_iff] at this
    have := congrArg List.length this
    rw [lx_len] at this
    exact h0 (List.eq_nil_of_length_eq_zero this))]
  refine wpAny_bind (wpAny_dictEntries gs rfl ?_)
  refine wpAny_bind (wpAny_dictEpoch gs rfl ?_)
  show wpAny _ _ (forIn (List.range 1) PUnit.unit _ >>= _) _ _ _
  rw [show List.range 1 = [0] from rfl, List.forIn_cons]
  refine wpAny_bind (wpAny_bind (wpAny_bind (wpAny_dictEntries gs rfl ?_)))
  show wpAny _ _ (do
    holding [Value.ref (s.heap.objs.size + 1 + 2 * L.length + 1), Value.ref (s.heap.objs.size + 1 + 2 * L.length + 1 + 1)] (dictPut s.heap.objs.size ((tupleKind (strKind prog w)).hash (key p)) (Value.ref (s.heap.objs.size + 1 + 2 * L.length + 1)) (Value.ref (s.heap.objs.size + 1 + 2 * L.length + 1 + 1)))
    let x ← dictEpoch (s.heap.objs.size + 1 + 2 * L.length)
    if (x != 1) = true then do
        let _ ← (unsupported "dict.changed-during-merge" : Sem PUnit)
        pure (ForInStep.yield PUnit.unit)
      else pure (ForInStep.yield PUnit.unit) : Sem (ForInStep PUnit)) _ _ _
  refine wpAny_bind (wpAny_holding ?_)
  unfold dictPut
  refine wpAny_bind (wpAny_dictFind_heap (knd := tupleKind (strKind prog w)) hu is2 gd rfl (by simp) is1 (by
    rw [lx_keys]
    rw [List.map_append, List.nodup_append] at hn
    exact hn.1) (fun _ => ?_) fun j x z => absurd z (nk j x))
  refine wpAny_updateDictKeys gd rfl ?_ (by
    rw [List.size_toArray, List.length_map, lx_len]
    exact Nat.le_trans hl (by decide))
  have eH : H.update s.heap.objs.size (Obj.mapDictKeys fun es => es.push ⟨(tupleKind (strKind prog w)).hash (key p), .ref (s.heap.objs.size + 1 + 2 * L.length + 1), .ref (s.heap.objs.size + 1 + 2 * L.length + 1 + 1)⟩) = (fin w prog s L p).heap := by
    rw [← hH, ext_upd]
    show ext s.heap _ = ext s.heap _
    congr 2
    rw [List.map_append]
    show (⟨_, _, _, _⟩ : Obj) = ⟨_, _, _, _⟩
    simp [dO, Obj.mapDictKeys, lx, entryOfKey]
  rw [eH]
  have e9 : s.heap.objs.size + 1 + 2 * L.length = s.heap.objs.size + (2 * L.length + 1) := by omega
  have gs' : (fin w prog s L p).heap.get? (s.heap.objs.size + 1 + 2 * L.length) = some (dO ((lx (s.heap.objs.size + 1 + 2 * L.length + 1) [p]).map (entryOfKey (tupleKind (strKind prog w))))) := by
    refine (congrArg (fun a => (fin w prog s L p).heap.get? a) e9).trans (ext_get (h := s.heap) (i := 2 * L.length + 1) ?_ (nf _))
    rw [List.getElem?_cons_succ, List.getElem?_append_right (by rw [lo_len]; exact Nat.le_refl _), lo_len, Nat.sub_self]
    rfl
  refine wpAny_bind (wpAny_dictEpoch gs' rfl ?_)
  rw [if_neg (by show ¬ ((1 : Nat) != 1) = true; decide)]
  refine wpAny_pure ?_
  dsimp only
  rw [List.forIn_nil]
  exact wpAny_pure (wpAny_pure q)
end
end Fw

set_option Elab.async false
set_option linter.all false
set_option maxRecDepth 100000
set_option maxHeartbeats 2000000
namespace Fw
open PySem PySem.W PySem.Calls PyProof.Rows
abbrev PS : Type := Sem Value × Sem Value
theorem gather (f : (Option (Sem Value) × Sem Value) → (Option Addr × List PS) → Sem (ForInStep (Option Addr × List PS))) (hf : ∀ (p : PS) (run : List PS), run.length + 1 < 17 → f (some p.1, p.2) (none, run) = pure (.yield (none, run ++ [p]))) (rest : List PS) :
    ∀ (a run : List PS), run.length + a.length < 17 → forIn ((a ++ rest).map fun p => (some p.1, p.2)) ((none : Option Addr), run) f = forIn (rest.map fun p => (some p.1, p.2)) ((none : Option Addr), run ++ a) f
  | [], run, _ => by rw [List.append_nil]; rfl
  | p :: a, run, h => by
    rw [List.length_cons] at h
    rw [List.cons_append, List.map_cons, List.forIn_cons, hf p run (by omega), pure_bind]
    dsimp only
    rw [gather f hf rest a (run ++ [p]) (by rw [List.length_append]; show run.length + 1 + a.length < 17; omega), List.append_assoc]
    rfl
section
variable {prog : Program} {w : World} {A : Around} {E : Value → Shared → Prop} {env : Env}
theorem wp_display {pos : Pos} {s : Shared} {a : List PS} {b c : PS} {L : List PK} {p : PK} {Q : Value → Shared → Prop} (hu : A.units < cLine) (ha : a.length = 16) (c1 : PairsAre env pos (a ++ [b]) L) (c2 : PairsAre env pos [c] [p]) (hn : ((L ++ [p]).map key).Nodup) (hm : sysModules < s.heap.objs.size)
    (q : Q (.ref s.heap.objs.size) (fin w prog s L p)) : wpAny (model prog w) A (dictDisplay ((a ++ [b, c]).map fun p => (some p.1, p.2))) Q E s := by
  have hL : L.length = 17 := by
    rw [← pairs_len c1, List.length_append, ha]
    rfl
  have hn1 : (L.map key).Nodup := by
    rw [List.map_append] at hn
    exact (List.nodup_append.mp hn).1
  unfold dictDisplay
  dsimp only
  rw [gather _ (fun p run h => by
    have hne : ((run ++ [(p.1, p.2)]).length == 17) = false := by simp; omega
    simp only [hne, Bool.false_eq_true, if_false]) [b, c] a [] (by rw [ha]; decide)]
  rw [List.nil_append, List.map_cons, List.forIn_cons]
  have e17 : ((a ++ [(b.1, b.2)]).length == 17) = true := by rw [List.length_append, ha]; rfl
  have ne : (a ++ [(b.1, b.2)]).isEmpty = false := by cases a <;> rfl
  simp only [e17, if_true, ne, Bool.false_eq_true, if_false]
  refine wpAny_bind (wpAny_bind (wpAny_bind (wpAny_bind (wp_sub_long (w := w) (prog := prog) hu c1 (by rw [List.length_append, ha]; show 15 < 17; decide) hn1 (by rw [hL]; decide) ?_))))
  refine wpAny_pure (wpAny_pure ?_)
  dsimp only
  rw [List.map_cons, List.map_nil, List.forIn_cons]
  simp only [List.nil_append, List.length_singleton, show ((1 : Nat) == 17) = false from rfl, Bool.false_eq_true, if_false]
  refine wpAny_bind (wpAny_pure ?_)
  dsimp only
  rw [List.forIn_nil]
  refine wpAny_pure ?_
  simp only [List.isEmpty_cons, Bool.false_eq_true, if_false]
  refine wpAny_bind (wpAny_bind (wpAny_holding (wp_sub_one (w := w) (prog := prog) hu c2 ?_)))
  have es : (mid w prog s L).heap.objs.size = s.heap.objs.size + 1 + 2 * L.length := by
    show (ext s.heap _).objs.size = _
    rw [ext_size, List.length_cons, lo_len]
    omega
  rw [es]
  refine wpAny_bind (wpAny_onRaise (wpAny_holding (wp_merge hu hn (by rw [hL]; decide) (fun z => by rw [z] at hL; exact nomatch hL) hm ?_)))
  exact wpAny_pure (wpAny_pure q)
end
end Fw

set_option Elab.async false
set_option linter.all false
set_option maxRecDepth 100000
set_option maxHeartbeats 2000000
/-! A display of at most 15 pairs whose keys are texts: what it leaves, object by object. -/
namespace Fw
open PySem PySem.W PySem.Calls PyProof.Rows
abbrev SV : Type := Str × Value
section
variable {prog : Program} {w : World} {A : Around} {E : Value → Shared → Prop} {env : Env}
def sEs (w : World) (prog : Program) : Nat → List SV → List DictEntry
  | _, [] => []
  | t, p :: r => ⟨(strKind prog w).hash p.1, .str p.1 t, p.2⟩ :: sEs w prog (t + 1) r
def kvs : Nat → List SV → List (Value × Value)
  | _, [] => []
  | t, p :: r => (.str p.1 t, p.2) :: kvs (t + 1) r
theorem sEs_app : ∀ (a b : List SV) (t : Nat), sEs w prog t (a ++ b) = sEs w prog t a ++ sEs w prog (t + a.length) b
  | [], _, _ => rfl
  | p :: a, b, t => by
    show _ :: sEs w prog (t + 1) (a ++ b) = _
    rw [sEs_app a b, show t + 1 + a.length = t + (p :: a).length by rw [List.length_cons]; omega]
    rfl
theorem sEs_len : ∀ (a : List SV) (t : Nat), (sEs w prog t a).length = a.length
  | [], _ => rfl
  | p :: a, t => congrArg (· + 1) (sEs_len a _)
theorem sEs_mem : ∀ {a : List SV} {t : Nat} {e : DictEntry}, e ∈ sEs w prog t a → ∃ p ∈ a, ∃ t', e = ⟨(strKind prog w).hash p.1, .str p.1 t', p.2⟩
  | [], _, _, h => nomatch h
  | p :: a, t, e, h => by
    rcases List.mem_cons.mp h with z | z
    · exact ⟨p, List.mem_cons_self .., t, z⟩
    · obtain ⟨q, hq, r⟩ := sEs_mem z
      exact ⟨q, List.mem_cons_of_mem _ hq, r⟩
/-- the state with the dict laid behind h -/
def midS (w : World) (prog : Program) (s : Shared) (t k : Nat) (L : List SV) : Shared := { s with heap := ext s.heap [dO (sEs w prog t L)], toks := k }
theorem wp_setS {s : Shared} {t k : Nat} {L : List SV} {x : Str} {v : Value} {Q : Unit → Shared → Prop} (hn : x ∉ L.map (·.1)) (hz : L.length ≤ 1000)
    (q : Q () (midS w prog s t (k + 1) (L ++ [(x, v)]))) : wpAny (model prog w) A (dictSet s.heap.objs.size (.str x (t + L.length)) v) Q E (midS w prog s t k L) := by
  have is : (strKind prog w).is x (.str x (t + L.length)) = true := by show Value.isStrOf x (.str x (t + L.length)) = true; simp [Value.isStrOf]
  have hd : (midS w prog s t (k + 1) L).heap.get? s.heap.objs.size = some (dO (sEs w prog t L)) := ext_get (h := s.heap) (i := 0) rfl (fun c d s z => by injection z with _ _ z _; exact nomatch z)
  unfold dictSet
  try with_reducible refine wpAny_holding ?_
  refine wpAny_bind ((strKind prog w).pyHash is ?_)
  unfold dictSetHashed
  try with_reducible refine wpAny_holding ?_
  refine wpAny_bind (wpAny_dictFind_of (knd := strKind prog w) (s := midS w prog s t (k + 1) L) is hd rfl (fun e he => ?_) ?_)
  · obtain ⟨p, _, t', rfl⟩ := sEs_mem (List.mem_toArray.mp he)
    exact ⟨p.1, by show Value.isStrOf p.1 (.str p.1 t') = true; simp [Value.isStrOf], rfl⟩
  have no : (sEs w prog t L).toArray.findIdx? (fun e => (strKind prog w).is x e.key) = none := by
    rw [List.findIdx?_toArray, List.findIdx?_eq_none_iff]
    intro e he
    obtain ⟨p, hp, t', rfl⟩ := sEs_mem he
    show Value.isStrOf x (.str p.1 t') = false
    cases hh : Value.isStrOf x (.str p.1 t') with
    | false => rfl
    | true =>
      obtain ⟨u, hu⟩ := Value.isStrOf_shape hh
      injection hu with hx _
      exact absurd (List.mem_map.mpr ⟨p, hp, hx⟩) hn
  rw [no]
  refine wpAny_bind (wpAny_rule (wpAny_updateDictKeys (s := midS w prog s t (k + 1) L) hd rfl ?_ (by
    rw [List.size_toArray, sEs_len]
    exact Nat.le_trans hz (by decide))))
  have e : (ext s.heap [dO (sEs w prog t L)]).update s.heap.objs.size (Obj.mapDictKeys fun es => es.push ⟨(strKind prog w).hash x, .str x (t + L.length), v⟩) = ext s.heap [dO (sEs w prog t (L ++ [(x, v)]))] := by
    rw [ext_upd]
    congr 2
    rw [sEs_app]
    show (⟨_, _, _, _⟩ : Obj) = ⟨_, _, _, _⟩
    simp [dO, Obj.mapDictKeys, sEs]
  show Q () { s with heap := (ext s.heap [dO (sEs w prog t L)]).update s.heap.objs.size _, toks := k + 1 }
  rw [e]
  exact q
theorem wp_storeS {s : Shared} {t : Nat} : ∀ (rest done : List SV) (k : Nat) (Q : PUnit → Shared → Prop), ((done ++ rest).map (·.1)).Nodup → (done ++ rest).length ≤ 1000 → Q PUnit.unit (midS w prog s t (k + rest.length) (done ++ rest)) →
    wpAny (model prog w) A (forIn (kvs (t + done.length) rest) PUnit.unit fun (x : Value × Value) (_ : PUnit) => (do dictSet s.heap.objs.size x.1 x.2; pure (ForInStep.yield PUnit.unit) : Sem (ForInStep PUnit))) Q E (midS w prog s t k done)
  | [], done, k, Q, _, _, q => by
    rw [List.append_nil] at q
    show wpAny _ _ (forIn [] PUnit.unit _) _ _ _
    rw [List.forIn_nil]
    exact wpAny_pure q
  | p :: r, done, k, Q, hn, hl, q => by
    have ed : done ++ p :: r = (done ++ [p]) ++ r := by simp
    rw [ed] at hn hl q
    show wpAny _ _ (forIn ((Value.str p.1 (t + done.length), p.2) :: kvs (t + done.length + 1) r) PUnit.unit _) _ _ _
    rw [List.forIn_cons]
    dsimp only
    have hn' : p.1 ∉ done.map (·.1) := fun z => by
      rw [List.map_append, List.map_append] at hn
      exact (List.nodup_append.mp (List.nodup_append.mp hn).1).2.2 _ z _ (List.mem_singleton.mpr rfl) rfl
    have hl' : done.length ≤ 1000 := by
      rw [List.length_append, List.length_append] at hl
      omega
    refine wpAny_bind (wpAny_bind (wp_setS hn' hl' (wpAny_pure ?_)))
    dsimp only
    have := wp_storeS (s := s) (t := t) r (done ++ [p]) (k + 1) Q hn hl (by
      rw [show k + 1 + r.length = k + (p :: r).length by rw [List.length_cons]; omega]
      exact q)
    rw [show t + (done ++ [p]).length = t + done.length + 1 by rw [List.length_append]; rfl] at this
    exact this
/-- pairs, written: a text, and what comes to a value wherever the objects of s stand -/
inductive PairsS (prog : Program) (w : World) (A : Around) (E : Value → Shared → Prop) (env : Env) (s : Shared) : List (Sem Value × Sem Value) → List SV → Prop where
  | nil : PairsS prog w A E env s [] []
  | cons {x : Str} {k : Nat} {kp : Pos} {m : Sem Value} {v : Value} {ps : List (Sem Value × Sem Value)} {r : List SV} :
      (∀ (s' : Shared) (Q : Value → Shared → Prop), (∀ b o, s.heap.get? b = some o → s'.heap.get? b = some o) → Q v s' → wpAny (model prog w) A m Q E s') → PairsS prog w A E env s ps r →
      PairsS prog w A E env s ((eval (.Constant (.str x) k kp) env, m) :: ps) ((x, v) :: r)
theorem pairsS_len {s : Shared} : ∀ {ps : List (Sem Value × Sem Value)} {L : List SV}, PairsS prog w A E env s ps L → ps.length = L.length
  | _, _, .nil => rfl
  | _, _, .cons _ r => congrArg (· + 1) (pairsS_len r)
theorem wp_pairsS {s s' : Shared} : ∀ {ps : List (Sem Value × Sem Value)} {L : List SV} {k : Nat} {Q : List (Value × Value) → Shared → Prop}, PairsS prog w A E env s ps L → (∀ b o, s.heap.get? b = some o → s'.heap.get? b = some o) →
    Q (kvs k L) { s' with toks := k + L.length } → wpAny (model prog w) A (evalPairs ps) Q E { s' with toks := k }
  | _, _, k, Q, .nil, _, q => by
    unfold evalPairs
    exact wpAny_pure q
  | _, _, k, Q, .cons (r := r) h c, hk, q => by
    unfold evalPairs
    refine wpAny_bind (wpAny_Constant_str (wpAny_bind (wpAny_holding (h _ _ hk (wpAny_bind (wpAny_holding ?_))))))
    refine wp_pairsS (k := k + 1) c hk (wpAny_pure ?_)
    rw [show k + 1 + r.length = k + (r.length + 1) by omega]
    exact q
theorem wp_subS {s : Shared} {ps : List (Sem Value × Sem Value)} {L : List SV} {Q : Addr → Shared → Prop} (c : PairsS prog w A E env s ps L) (h15 : ps.length ≤ 15) (hn : (L.map (·.1)).Nodup) (q : Q s.heap.objs.size (midS w prog s s.toks (s.toks + 2 * L.length) L)) :
    wpAny (model prog w) A (subDict ps) Q E s := by
  have ll := pairsS_len c
  unfold subDict
  refine wpAny_bind (wpAny_alloc ?_)
  refine wpAny_bind (wpAny_holding ?_)
  rw [if_pos h15]
  have e : ∀ k, ({ s with heap := s.heap.push { cls := .type "dict", data := .dict #[] }, toks := k } : Shared) = midS w prog s s.toks k [] := fun k => by
    have z : s.heap.push { cls := .type "dict", data := .dict #[] } = ext s.heap [dO []] := by
      have z := ext_push s.heap [] { cls := .type "dict", data := .dict #[] }
      rw [ext_nil] at z
      exact z
    show Shared.mk _ _ _ _ _ = Shared.mk (ext s.heap [dO []]) _ _ _ _
    rw [z]
  refine wpAny_bind (wp_pairsS (s := s) (s' := { s with heap := s.heap.push { cls := .type "dict", data := .dict #[] } }) (k := s.toks) c (fun b o z => Heap.get?_push_of_some _ z) ?_)
  refine wpAny_holding ?_
  show wpAny _ _ _ _ _ ({ s with heap := s.heap.push { cls := .type "dict", data := .dict #[] }, toks := s.toks + L.length } : Shared)
  rw [e]
  refine wpAny_bind (wp_storeS (s := s) (t := s.toks) L [] (s.toks + L.length) _ hn (by show L.length ≤ 1000; omega) (wpAny_pure (wpAny_pure ?_)))
  rw [show s.toks + L.length + L.length = s.toks + 2 * L.length by omega]
  exact q
theorem wp_displayS {pos : Pos} {s : Shared} {keys : List (Option Expr)} {values : List Expr} {ps : List (Sem Value × Sem Value)} {L : List SV} {Q : Value → Shared → Prop}
    (hshape : (evalEachOpt keys env).zip ((evalEach values env).map fun v => do let x ← v; standAt pos; pure x) = ps.map fun p => (some p.1, p.2)) (c : PairsS prog w A E env s ps L) (h0 : ps ≠ []) (h15 : ps.length ≤ 15) (hn : (L.map (·.1)).Nodup)
    (q : Q (.ref s.heap.objs.size) (midS w prog s s.toks (s.toks + 2 * L.length) L)) : wpAny (model prog w) A (eval (.Dict keys values pos) env) Q E s := by
  rw [arm_eval_Dict, hshape, dictDisplay_pairs ps h0 (by omega)]
  exact wpAny_bind (wpAny_standAt (wpAny_bind (wp_subS c h15 hn (wpAny_pure q))))
end
end Fw

set_option Elab.async false
set_option linter.all false
set_option maxRecDepth 100000
set_option maxHeartbeats 2000000
/-! A display of more than 17 and at most 32 pairs, keys texts, values tuples of texts: what it leaves, object by object. -/
namespace Fw
open PySem PySem.W PySem.Calls PyProof.Rows
abbrev SP : Type := Str × List Str
abbrev E3 : Type := Str × Nat × Value
section
variable {prog : Program} {w : World} {A : Around} {E : Value → Shared → Prop} {env : Env}
/-- c: tokens behind a pair -/
def ta (c : Nat) : Nat → List SP → List Obj
  | _, [] => []
  | t, p :: r => tO (t + 1) p.2 :: ta c (t + p.2.length + c) r
def tk (c : Nat) : Nat → List SP → Nat
  | t, [] => t
  | t, p :: r => tk c (t + p.2.length + c) r
def te (c : Nat) : Nat → Nat → List SP → List E3
  | _, _, [] => []
  | a, t, p :: r => (p.1, t, .ref a) :: te c (a + 1) (t + p.2.length + c) r
theorem ta_app (c : Nat) : ∀ (a b : List SP) (t : Nat), ta c t (a ++ b) = ta c t a ++ ta c (tk c t a) b
  | [], _, _ => rfl
  | p :: a, b, t => by
    show _ :: ta c _ (a ++ b) = _
    rw [ta_app c a b]
    rfl
theorem tk_app (c : Nat) : ∀ (a b : List SP) (t : Nat), tk c t (a ++ b) = tk c (tk c t a) b
  | [], _, _ => rfl
  | p :: a, b, t => tk_app c a b _
theorem ta_len (c : Nat) : ∀ (a : List SP) (t : Nat), (ta c t a).length = a.length
  | [], _ => rfl
  | p :: a, t => congrArg (· + 1) (ta_len c a _)
theorem te_app (c : Nat) : ∀ (a b : List SP) (i t : Nat), te c i t (a ++ b) = te c i t a ++ te c (i + a.length) (tk c t a) b
  | [], _, _, _ => rfl
  | p :: a, b, i, t => by
    show _ :: te c (i + 1) _ (a ++ b) = _
    rw [te_app c a b, show i + 1 + a.length = i + (p :: a).length by rw [List.length_cons]; omega]
    rfl
theorem te_keys (c : Nat) : ∀ (a : List SP) (i t : Nat), (te c i t a).map (·.1) = a.map (·.1)
  | [], _, _ => rfl
  | p :: a, i, t => by
    show _ :: (te c _ _ a).map _ = _
    rw [te_keys c a]
    rfl
theorem te_len (c : Nat) : ∀ (a : List SP) (i t : Nat), (te c i t a).length = a.length
  | [], _, _ => rfl
  | p :: a, i, t => congrArg (· + 1) (te_len c a _ _)
def ent (w : World) (prog : Program) (x : E3) : DictEntry := ⟨(strKind prog w).hash x.1, .str x.1 x.2.1, x.2.2⟩
def dE (w : World) (prog : Program) (l : List E3) : Obj := dO (l.map (ent w prog))
theorem nf_dE (l : List E3) : ∀ c d sl, dE w prog l ≠ ⟨c, d, .freed, sl⟩ := fun c d sl z => by injection z with _ _ z _; exact nomatch z
theorem dE_push (l : List E3) (x : E3) : Obj.mapDictKeys (fun es => es.push (ent w prog x)) (dE w prog l) = dE w prog (l ++ [x]) := by
  show (⟨_, _, _, _⟩ : Obj) = ⟨_, _, _, _⟩
  simp [dE, dO, Obj.mapDictKeys]
theorem wp_findE {hp : Heap} {d : Addr} {g dr tks os} {l : List E3} {x : Str} {t : Nat} {Q : Option Nat → Shared → Prop} (hd : hp.get? d = some (dE w prog l)) (hn : x ∉ l.map (·.1)) (q : Q none ⟨hp, g, dr, tks, os⟩) :
    wpAny (model prog w) A (dictFind d (.str x t) ((strKind prog w).hash x)) Q E ⟨hp, g, dr, tks, os⟩ := by
  have is : (strKind prog w).is x (.str x t) = true := by show Value.isStrOf x (.str x t) = true; simp [Value.isStrOf]
  refine wpAny_dictFind_of (knd := strKind prog w) is hd rfl (fun e he => ?_) ?_
  · obtain ⟨y, hy, rfl⟩ := List.mem_map.mp (List.mem_toArray.mp he)
    exact ⟨y.1, by show Value.isStrOf y.1 (.str y.1 y.2.1) = true; simp [Value.isStrOf], rfl⟩
  have no : (l.map (ent w prog)).toArray.findIdx? (fun e => (strKind prog w).is x e.key) = none := by
    rw [List.findIdx?_toArray, List.findIdx?_eq_none_iff]
    intro e he
    obtain ⟨y, hy, rfl⟩ := List.mem_map.mp he
    show Value.isStrOf x (.str y.1 y.2.1) = false
    cases hh : Value.isStrOf x (.str y.1 y.2.1) with
    | false => rfl
    | true =>
      obtain ⟨u, hu⟩ := Value.isStrOf_shape hh
      injection hu with hx _
      exact absurd (List.mem_map.mpr ⟨y, hy, hx⟩) hn
  rw [no]
  exact q
theorem wp_setE {h hp : Heap} {g dr tks os} {l : List E3} {rest : List Obj} {x : Str} {t : Nat} {v : Value} {Q : Unit → Shared → Prop} (hs : hp = ext h (dE w prog l :: rest)) (hn : x ∉ l.map (·.1)) (hz : l.length ≤ 1000)
    (q : Q () ⟨ext h (dE w prog (l ++ [(x, t, v)]) :: rest), g, dr, tks + 1, os⟩) : wpAny (model prog w) A (dictSet h.objs.size (.str x t) v) Q E ⟨hp, g, dr, tks, os⟩ := by
  subst hs
  have is : (strKind prog w).is x (.str x t) = true := by show Value.isStrOf x (.str x t) = true; simp [Value.isStrOf]
  have hd : (ext h (dE w prog l :: rest)).get? h.objs.size = some (dE w prog l) := ext_get (h := h) (i := 0) rfl (nf_dE l)
  unfold dictSet
  try with_reducible refine wpAny_holding ?_
  refine wpAny_bind ((strKind prog w).pyHash is ?_)
  unfold dictSetHashed
  try with_reducible refine wpAny_holding ?_
  refine wpAny_bind (wp_findE hd hn ?_)
  refine wpAny_bind (wpAny_rule (wpAny_updateDictKeys hd rfl ?_ (by
    rw [List.size_toArray, List.length_map]
    exact Nat.le_trans hz (by decide))))
  rw [ext_upd]
  show Q () ⟨ext h (Obj.mapDictKeys (fun es => es.push (ent w prog (x, t, v))) (dE w prog l) :: rest), g, dr, tks + 1, os⟩
  rw [dE_push]
  exact q
/-- the pairs, as they are evaluated -/
inductive PairsT (env : Env) (pos : Pos) : List (Sem Value × Sem Value) → List SP → Prop where
  | nil : PairsT env pos [] []
  | cons {ve : List Expr} {x : Str} {kk vk : Nat} {kp vp : Pos} {zs : List Str} {ps : List (Sem Value × Sem Value)} {r : List SP} : CS ve zs → zs.length ≤ 100 → PairsT env pos ps r →
    PairsT env pos ((eval (.Constant (.str x) kk kp) env, (do let x ← eval (.Tuple ve vk vp) env; standAt pos; pure x)) :: ps) ((x, zs) :: r)
theorem pairsT_len {pos : Pos} : ∀ {ps : List (Sem Value × Sem Value)} {L : List SP}, PairsT env pos ps L → ps.length = L.length
  | _, _, .nil => rfl
  | _, _, .cons _ _ r => congrArg (· + 1) (pairsT_len r)
/-- behind some of the pairs -/
def midT (w : World) (prog : Program) (s : Shared) (L : List SP) : Shared := { s with heap := ext s.heap (dE w prog (te 2 (s.heap.objs.size + 1) s.toks L) :: ta 2 s.toks L), toks := tk 2 s.toks L }
theorem wp_longT {pos : Pos} {s : Shared} : ∀ (rest done : List SP) (pairs : List (Sem Value × Sem Value)) (Q : PUnit → Shared → Prop), PairsT env pos pairs rest → ((done ++ rest).map (·.1)).Nodup → (done ++ rest).length ≤ 1000 → Q PUnit.unit (midT w prog s (done ++ rest)) →
    wpAny (model prog w) A (forIn pairs PUnit.unit fun (x : Sem Value × Sem Value) (_ : PUnit) => (do let kv ← x.1; let vv ← holding [kv] x.2; holding [kv, vv] (dictSet s.heap.objs.size kv vv); pure (ForInStep.yield PUnit.unit) : Sem (ForInStep PUnit))) Q E (midT w prog s done)
  | _, done, _, Q, .nil, _, _, q => by
    rw [List.append_nil] at q
    rw [List.forIn_nil]
    exact wpAny_pure q
  | _, done, _, Q, .cons (ve := ve) (x := x) (kk := kk) (vk := vk) (kp := kp) (vp := vp) (zs := zs) (ps := ps) (r := r) c2 c3 c4, hn, hl, q => by
    rw [List.forIn_cons]
    dsimp only
    have ed : done ++ (x, zs) :: r = (done ++ [(x, zs)]) ++ r := by simp
    rw [ed] at hn hl q
    have hl' : (done ++ [(x, zs)]).length ≤ 1000 := Nat.le_trans (by rw [List.length_append (as := done ++ [(x, zs)])]; exact Nat.le_add_right _ _) hl
    have hn' : x ∉ (te 2 (s.heap.objs.size + 1) s.toks done).map (·.1) := fun z => by
      rw [te_keys] at z
      rw [List.map_append, List.map_append] at hn
      exact (List.nodup_append.mp (List.nodup_append.mp hn).1).2.2 _ z _ (List.mem_singleton.mpr rfl) rfl
    refine wpAny_bind (wpAny_bind (wpAny_Constant_str (wpAny_bind (wpAny_holding (wpAny_bind (wp_tuple (k := vk) (pos := vp) c2 c3 (wpAny_bind (wpAny_standAt (wpAny_pure ?_)))))))))
    have es : (ext s.heap (dE w prog (te 2 (s.heap.objs.size + 1) s.toks done) :: ta 2 s.toks done)).objs.size = s.heap.objs.size + 1 + done.length := by
      rw [ext_size, List.length_cons, ta_len]
      omega
    refine wpAny_bind (wpAny_holding ?_)
    show wpAny _ _ (dictSet s.heap.objs.size (.str x (tk 2 s.toks done)) (.ref (ext s.heap (dE w prog (te 2 (s.heap.objs.size + 1) s.toks done) :: ta 2 s.toks done)).objs.size)) _ _ _
    rw [es]
    refine wp_setE (h := s.heap) (rest := ta 2 s.toks (done ++ [(x, zs)])) ?_ hn' (by rw [te_len]; rw [List.length_append] at hl'; omega) (wpAny_pure ?_)
    · show (ext s.heap _).push _ = _
      rw [ext_push, ta_app]
      rfl
    · refine (congrArg (fun y => wpAny (model prog w) A _ Q E y) ?_).mp (wp_longT r (done ++ [(x, zs)]) ps Q c4 hn hl q)
      unfold midT
      rw [te_app, tk_app]
      show Shared.mk _ _ _ _ _ = Shared.mk _ _ _ _ _
      congr 1
      show tk 2 s.toks done + zs.length + 2 = tk 2 s.toks done + 1 + zs.length + 1
      omega
theorem wp_sub_longT {pos : Pos} {s : Shared} {ps : List (Sem Value × Sem Value)} {L : List SP} {Q : Addr → Shared → Prop} (c : PairsT env pos ps L) (h15 : 15 < ps.length) (hn : (L.map (·.1)).Nodup) (hl : L.length ≤ 1000) (q : Q s.heap.objs.size (midT w prog s L)) :
    wpAny (model prog w) A (subDict ps) Q E s := by
  unfold subDict
  refine wpAny_bind (wpAny_alloc ?_)
  refine wpAny_bind (wpAny_holding ?_)
  rw [if_neg (by omega)]
  refine wpAny_bind (wpAny_rule ?_)
  have e : (Shared.mk (s.heap.push { cls := .type "dict", data := .dict #[] }) s.gens s.drawn s.toks s.os) = midT w prog s [] := by
    have z : s.heap.push { cls := .type "dict", data := .dict #[] } = ext s.heap [dO []] := by
      have z := ext_push s.heap [] { cls := .type "dict", data := .dict #[] }
      rw [ext_nil] at z
      exact z
    show Shared.mk _ _ _ _ _ = Shared.mk (ext s.heap [dO []]) _ _ _ _
    rw [z]
    rfl
  rw [e]
  exact wpAny_bind (wp_longT (E := E) L [] ps _ c hn hl (wpAny_pure (wpAny_pure q)))
/-- keys and values of a short run -/
def kvT (l : List E3) : List (Value × Value) := l.map fun x => (.str x.1 x.2.1, x.2.2)
theorem wp_pairsT {pos : Pos} {h : Heap} {l : List Obj} {g dr os} : ∀ {ps : List (Sem Value × Sem Value)} {L : List SP} (done : List SP) (t : Nat) {Q : List (Value × Value) → Shared → Prop}, PairsT env pos ps L →
    Q (kvT (te 1 (h.objs.size + l.length + done.length) (tk 1 t done) L)) ⟨ext h (l ++ ta 1 t (done ++ L)), g, dr, tk 1 t (done ++ L), os⟩ → wpAny (model prog w) A (evalPairs ps) Q E ⟨ext h (l ++ ta 1 t done), g, dr, tk 1 t done, os⟩
  | _, _, done, t, Q, .nil, q => by
    unfold evalPairs
    rw [List.append_nil] at q
    exact wpAny_pure q
  | _, _, done, t, Q, .cons (ve := ve) (x := x) (kk := kk) (vk := vk) (kp := kp) (vp := vp) (zs := zs) (ps := ps) (r := r) c2 c3 c4, q => by
    unfold evalPairs
    refine wpAny_bind (wpAny_Constant_str (wpAny_bind (wpAny_holding (wpAny_bind (wp_tuple (k := vk) (pos := vp) c2 c3 (wpAny_bind (wpAny_standAt (wpAny_pure ?_))))))))
    refine wpAny_bind (wpAny_holding ?_)
    have ed : done ++ (x, zs) :: r = (done ++ [(x, zs)]) ++ r := by simp
    have e1 : (ext h (l ++ ta 1 t done)).objs.size = h.objs.size + l.length + done.length := by
      rw [ext_size, List.length_append, ta_len]
      omega
    have eS : (⟨(ext h (l ++ ta 1 t done)).push (tO (tk 1 t done + 1) zs), g, dr, tk 1 t done + 1 + zs.length, os⟩ : Shared) = ⟨ext h (l ++ ta 1 t (done ++ [(x, zs)])), g, dr, tk 1 t (done ++ [(x, zs)]), os⟩ := by
      rw [ext_push, ta_app, tk_app, List.append_assoc]
      show Shared.mk _ _ _ _ _ = Shared.mk _ _ _ _ _
      congr 1
      show tk 1 t done + 1 + zs.length = tk 1 t done + zs.length + 1
      omega
    show wpAny _ _ _ _ _ (⟨(ext h (l ++ ta 1 t done)).push (tO (tk 1 t done + 1) zs), g, dr, tk 1 t done + 1 + zs.length, os⟩ : Shared)
    rw [eS]
    refine wp_pairsT (done ++ [(x, zs)]) t c4 (wpAny_pure ?_)
    rw [ed] at q
    show Q ((Value.str x (tk 1 t done), Value.ref (ext h (l ++ ta 1 t done)).objs.size) :: _) _
    rw [e1, tk_app, show h.objs.size + l.length + (done ++ [(x, zs)]).length = h.objs.size + l.length + done.length + 1 by rw [List.length_append]; rfl]
    exact q
theorem wp_storeT {h : Heap} {g dr os} {vals : List Obj} : ∀ (rest done : List E3) (k : Nat) (Q : PUnit → Shared → Prop), ((done ++ rest).map (·.1)).Nodup → (done ++ rest).length ≤ 1000 → Q PUnit.unit ⟨ext h (dE w prog (done ++ rest) :: vals), g, dr, k + rest.length, os⟩ →
    wpAny (model prog w) A (forIn (kvT rest) PUnit.unit fun (x : Value × Value) (_ : PUnit) => (do dictSet h.objs.size x.1 x.2; pure (ForInStep.yield PUnit.unit) : Sem (ForInStep PUnit))) Q E ⟨ext h (dE w prog done :: vals), g, dr, k, os⟩
  | [], done, k, Q, _, _, q => by
    rw [List.append_nil] at q
    show wpAny _ _ (forIn [] PUnit.unit _) _ _ _
    rw [List.forIn_nil]
    exact wpAny_pure q
  | p :: r, done, k, Q, hn, hl, q => by
    have ed : done ++ p :: r = (done ++ [p]) ++ r := by simp
    rw [ed] at hn hl q
    show wpAny _ _ (forIn ((Value.str p.1 p.2.1, p.2.2) :: kvT r) PUnit.unit _) _ _ _
    rw [List.forIn_cons]
    dsimp only
    have hn' : p.1 ∉ done.map (·.1) := fun z => by
      rw [List.map_append, List.map_append] at hn
      exact (List.nodup_append.mp (List.nodup_append.mp hn).1).2.2 _ z _ (List.mem_singleton.mpr rfl) rfl
    have hl' : done.length ≤ 1000 := by
      rw [List.length_append, List.length_append] at hl
      omega
    refine wpAny_bind (wpAny_bind (wp_setE (h := h) rfl hn' hl' (wpAny_pure ?_)))
    dsimp only
    exact wp_storeT r (done ++ [p]) (k + 1) Q hn hl (by
      rw [show k + 1 + r.length = k + (p :: r).length by rw [List.length_cons]; omega]
      exact q)
/-- a short run: the dict, then its values -/
def midU (w : World) (prog : Program) (s : Shared) (L : List SP) : Shared := { s with heap := ext s.heap (dE w prog (te 1 (s.heap.objs.size + 1) s.toks L) :: ta 1 s.toks L), toks := tk 1 s.toks L + L.length }
theorem wp_sub_shortT {pos : Pos} {s : Shared} {ps : List (Sem Value × Sem Value)} {L : List SP} {Q : Addr → Shared → Prop} (c : PairsT env pos ps L) (h15 : ps.length ≤ 15) (hn : (L.map (·.1)).Nodup) (q : Q s.heap.objs.size (midU w prog s L)) :
    wpAny (model prog w) A (subDict ps) Q E s := by
  have ll := pairsT_len c
  obtain ⟨hp, g, dr, t, os⟩ := s
  unfold subDict
  refine wpAny_bind (wpAny_alloc ?_)
  refine wpAny_bind (wpAny_holding ?_)
  rw [if_pos h15]
  have e : (⟨hp.push { cls := .type "dict", data := .dict #[] }, g, dr, t, os⟩ : Shared) = ⟨ext hp ([dE w prog []] ++ ta 1 t []), g, dr, tk 1 t [], os⟩ := by
    have z : hp.push { cls := .type "dict", data := .dict #[] } = ext hp [dO []] := by
      have z := ext_push hp [] { cls := .type "dict", data := .dict #[] }
      rw [ext_nil] at z
      exact z
    show Shared.mk _ _ _ _ _ = Shared.mk (ext hp [dO []]) _ _ _ _
    rw [z]
    rfl
  show wpAny _ _ _ _ _ (⟨hp.push { cls := .type "dict", data := .dict #[] }, g, dr, t, os⟩ : Shared)
  rw [e]
  refine wpAny_bind (wp_pairsT [] t c ?_)
  refine wpAny_holding ?_
  have q' : Q hp.objs.size ⟨ext hp (dE w prog (te 1 (hp.objs.size + 1) t L) :: ta 1 t L), g, dr, tk 1 t L + L.length, os⟩ := q
  refine wpAny_bind (wp_storeT (h := hp) (vals := ta 1 t L) (te 1 (hp.objs.size + 1) t L) [] (tk 1 t L) _ (by rw [List.nil_append, te_keys]; exact hn) (by rw [List.nil_append, te_len]; omega) (wpAny_pure (wpAny_pure ?_)))
  rw [List.nil_append, te_len]
  exact q'
/-- behind the whole display -/
def objsT (w : World) (prog : Program) (m t : Nat) (L M : List SP) : List Obj :=
  dE w prog (te 2 (m + 1) t L ++ te 1 (m + 1 + L.length + 1) (tk 2 t L) M) :: (ta 2 t L ++ dE w prog (te 1 (m + 1 + L.length + 1) (tk 2 t L) M) :: ta 1 (tk 2 t L) M)
def finT (w : World) (prog : Program) (s : Shared) (L M : List SP) : Shared := { s with heap := ext s.heap (objsT w prog s.heap.objs.size s.toks L M), toks := tk 1 (tk 2 s.toks L) M + M.length }
theorem wp_loopT {h : Heap} {g dr tks os} {vals tail : List Obj} {all : List E3} {a : Addr} (ha : a = h.objs.size + (vals.length + 1)) : ∀ (n : Nat) (done : List E3) (e2 : List E3) (pre : Nat) (Q : PUnit → Shared → Prop), n = e2.length → pre + n = all.length → all.drop pre = e2 → ((done ++ e2).map (·.1)).Nodup → (done ++ e2).length ≤ 1000 →
    Q PUnit.unit ⟨ext h (dE w prog (done ++ e2) :: (vals ++ dE w prog all :: tail)), g, dr, tks, os⟩ →
    wpAny (model prog w) A (forIn ((List.range all.length).drop pre) PUnit.unit fun (i : Nat) (_ : PUnit) => (do
      let __do_lift ← dictEntries a
      match __do_lift[i]? with
        | some e => do
          holding [e.key, e.val] (do
            dictPut h.objs.size e.hash e.key e.val)
          let __do_lift ← dictEpoch a
          if (__do_lift != all.length) = true then do
              let _ ← (unsupported "dict.changed-during-merge" : Sem PUnit)
              pure (ForInStep.yield PUnit.unit)
            else pure (ForInStep.yield PUnit.unit)
        | x => unsupported "dict.changed-during-merge" : Sem (ForInStep PUnit))) Q E ⟨ext h (dE w prog done :: (vals ++ dE w prog all :: tail)), g, dr, tks, os⟩
  | 0, done, [], pre, Q, _, hp, _, _, _, q => by
    rw [List.drop_eq_nil_of_le (by rw [List.length_range]; omega), List.forIn_nil]
    rw [List.append_nil] at q
    exact wpAny_pure q
  | n + 1, done, [], pre, Q, h0, _, _, _, _, _ => nomatch h0
  | 0, done, _ :: _, pre, Q, h0, _, _, _, _, _ => nomatch h0
  | n + 1, done, p :: r, pre, Q, h0, hp, hd, hn, hl, q => by
    have ed : done ++ p :: r = (done ++ [p]) ++ r := by simp
    rw [ed] at hn hl q
    have lt : pre < all.length := by omega
    have ep : all[pre]? = some p := by
      have : (all.drop pre)[0]? = some p := by rw [hd]; rfl
      rw [List.getElem?_drop] at this
      exact this
    have hr : (List.range all.length).drop pre = pre :: (List.range all.length).drop (pre + 1) := by
      rw [List.drop_eq_getElem_cons (by rw [List.length_range]; exact lt), List.getElem_range]
    have hn' : p.1 ∉ done.map (·.1) := fun z => by
      rw [List.map_append, List.map_append] at hn
      exact (List.nodup_append.mp (List.nodup_append.mp hn).1).2.2 _ z _ (List.mem_singleton.mpr rfl) rfl
    have hl' : done.length ≤ 1000 := by
      rw [List.length_append, List.length_append] at hl
      omega
    have g1 : ∀ x : Obj, (ext h (x :: (vals ++ dE w prog all :: tail))).get? a = some (dE w prog all) := fun x => by
      rw [ha]
      refine ext_get (h := h) (i := vals.length + 1) ?_ (nf_dE all)
      rw [List.getElem?_cons_succ, List.getElem?_append_right (Nat.le_refl _), Nat.sub_self]
      rfl
    have g0 : (ext h (dE w prog done :: (vals ++ dE w prog all :: tail))).get? h.objs.size = some (dE w prog done) := ext_get (h := h) (i := 0) rfl (nf_dE done)
    rw [hr, List.forIn_cons]
    refine wpAny_bind (wpAny_bind (wpAny_dictEntries (g1 _) rfl ?_))
    have ei : ((all.map (ent w prog)).toArray)[pre]? = some (ent w prog p) := by
      rw [List.getElem?_toArray, List.getElem?_map, ep]
      rfl
    rw [ei]
    dsimp only
    refine wpAny_bind (wpAny_holding ?_)
    unfold dictPut
    refine wpAny_bind (wp_findE g0 hn' ?_)
    refine wpAny_updateDictKeys g0 rfl ?_ (by
      rw [List.size_toArray, List.length_map]
      exact Nat.le_trans hl' (by decide))
    rw [ext_upd]
    show wpAny _ _ _ _ _ (⟨ext h (Obj.mapDictKeys (fun es => es.push (ent w prog p)) (dE w prog done) :: (vals ++ dE w prog all :: tail)), g, dr, tks, os⟩ : Shared)
    rw [dE_push]
    refine wpAny_bind (wpAny_dictEpoch (g1 _) rfl ?_)
    rw [if_neg (by
      show ¬ (((all.map (ent w prog)).length != all.length) = true)
      rw [List.length_map, bne_self_eq_false]
      exact Bool.false_ne_true)]
    refine wpAny_pure ?_
    exact wp_loopT ha n (done ++ [p]) r (pre + 1) Q (by simpa using h0) (by omega) (by rw [← List.drop_drop, hd]; rfl) hn hl q
end
end Fw

set_option Elab.async false
set_option linter.all false
set_option maxRecDepth 100000
set_option maxHeartbeats 2000000
namespace Fw
open PySem PySem.W PySem.Calls PyProof.Rows
section
variable {prog : Program} {w : World} {A : Around} {E : Value → Shared → Prop} {env : Env}
theorem wp_mergeT {s : Shared} {L M : List SP} {Q : Unit → Shared → Prop} (hn : ((L ++ M).map (·.1)).Nodup) (hl : (L ++ M).length ≤ 1000) (h0 : L ≠ []) (hm : sysModules < s.heap.objs.size) (q : Q () (finT w prog s L M)) :
    wpAny (model prog w) A (mergeMapping s.heap.objs.size (.ref (s.heap.objs.size + 1 + L.length)) false) Q E (midU w prog (midT w prog s L) M) := by
  obtain ⟨hp, g, dr, t, os⟩ := s
  have ea : (ext hp (dE w prog (te 2 (hp.objs.size + 1) t L) :: ta 2 t L)).objs.size = hp.objs.size + 1 + L.length := by
    rw [ext_size, List.length_cons, ta_len]
    omega
  generalize h1 : te 2 (hp.objs.size + 1) t L = e1 at *
  have k1 : e1.map (·.1) = L.map (·.1) := by rw [← h1, te_keys]
  have l1 : e1.length = L.length := by rw [← h1, te_len]
  generalize h2 : te 1 (hp.objs.size + 1 + L.length + 1) (tk 2 t L) M = e2 at *
  have k2 : e2.map (·.1) = M.map (·.1) := by rw [← h2, te_keys]
  have l2 : e2.length = M.length := by rw [← h2, te_len]
  have eS : midU w prog (midT w prog ⟨hp, g, dr, t, os⟩ L) M = ⟨ext hp (dE w prog e1 :: (ta 2 t L ++ dE w prog e2 :: ta 1 (tk 2 t L) M)), g, dr, tk 1 (tk 2 t L) M + M.length, os⟩ := by
    unfold midU midT
    dsimp only
    rw [h1, ea, ext_ext, h2]
    rfl
  have eF : finT w prog ⟨hp, g, dr, t, os⟩ L M = ⟨ext hp (dE w prog (e1 ++ e2) :: (ta 2 t L ++ dE w prog e2 :: ta 1 (tk 2 t L) M)), g, dr, tk 1 (tk 2 t L) M + M.length, os⟩ := by
    unfold finT objsT
    dsimp only
    rw [h1, h2]
  rw [eS]
  rw [eF] at q
  generalize tk 1 (tk 2 t L) M + M.length = tks at *
  have ha : hp.objs.size + 1 + L.length = hp.objs.size + ((ta 2 t L).length + 1) := by rw [ta_len]; omega
  have lv : (ta 2 t L).length = L.length := ta_len 2 L t
  generalize ta 2 t L = vals at *
  generalize ta 1 (tk 2 t L) M = tail at *
  have gd : (ext hp (dE w prog e1 :: (vals ++ dE w prog e2 :: tail))).get? hp.objs.size = some (dE w prog e1) := ext_get (h := hp) (i := 0) rfl (nf_dE e1)
  have gs : (ext hp (dE w prog e1 :: (vals ++ dE w prog e2 :: tail))).get? (hp.objs.size + 1 + L.length) = some (dE w prog e2) := by
    rw [ha]
    refine ext_get (h := hp) (i := vals.length + 1) ?_ (nf_dE e2)
    rw [List.getElem?_cons_succ, List.getElem?_append_right (Nat.le_refl _), Nat.sub_self]
    rfl
  have hT : (Shared.mk (ext hp (dE w prog e1 :: (vals ++ dE w prog e2 :: tail))) g dr tks os).TypeIs (.ref (hp.objs.size + 1 + L.length)) "dict" := ⟨_, gs, rfl⟩
  unfold mergeMapping
  refine wpAny_bind (wpAny_isInstance hT isSubtype_dict_dict ?_)
  rw [if_pos rfl]
  refine wpAny_bind (wpAny_specialOf hT F.slot_dict_iter.lookup ?_)
  rw [show ((some (Value.builtin "dict.__iter__") : Option Value) == some (Value.builtin "dict.__iter__")) = true from beq_self_eq_true _]
  refine wpAny_bind (wpAny_pure ?_)
  dsimp only
  rw [if_neg (by
    rw [beq_iff_eq]
    intro z
    have y : sysModules < hp.objs.size := hm
    rw [← z] at y
    exact absurd y (Nat.not_lt.mpr (by omega)))]
  refine wpAny_bind (wpAny_dictEntries gd rfl ?_)
  rw [if_neg (by
    intro z
    have : e1.map (ent w prog) = [] := by simpa using z
    rw [List.map_eq_nil_iff] at this
    rw [this] at l1
    exact h0 (List.eq_nil_of_length_eq_zero l1.symm))]
  refine wpAny_bind (wpAny_dictEntries gs rfl ?_)
  refine wpAny_bind (wpAny_dictEpoch gs rfl ?_)
  have es : ((e2.map (ent w prog)).toArray).size = e2.length := by rw [List.size_toArray, List.length_map]
  have ee : (e2.map (ent w prog)).length = e2.length := List.length_map ..
  show wpAny _ _ (forIn (List.range ((e2.map (ent w prog)).toArray).size) PUnit.unit _ >>= _) _ _ _
  rw [es]
  have hn2 : ((e1 ++ e2).map (·.1)).Nodup := by
    rw [List.map_append, k1, k2, ← List.map_append]
    exact hn
  have hl2 : (e1 ++ e2).length ≤ 1000 := by
    rw [List.length_append, l1, l2, ← List.length_append]
    exact hl
  have lp := wp_loopT (prog := prog) (w := w) (A := A) (E := E) (h := hp) (g := g) (dr := dr) (tks := tks) (os := os) (vals := vals) (tail := tail) (all := e2) ha e2.length e1 e2 0 (fun u s => wpAny (model prog w) A (pure ()) Q E s) rfl (Nat.zero_add _) rfl hn2 hl2 (wpAny_pure q)
  rw [List.drop_zero] at lp
  simp only [ee, Bool.false_eq_true, if_false] at *
  exact wpAny_bind lp
theorem gatherN (f : (Option (Sem Value) × Sem Value) → (Option Addr × List PS) → Sem (ForInStep (Option Addr × List PS))) (d : Option Addr) (hf : ∀ (p : PS) (run : List PS), run.length + 1 < 17 → f (some p.1, p.2) (d, run) = pure (.yield (d, run ++ [p]))) (rest : List PS) :
    ∀ (a run : List PS), run.length + a.length < 17 → forIn ((a ++ rest).map fun p => (some p.1, p.2)) (d, run) f = forIn (rest.map fun p => (some p.1, p.2)) (d, run ++ a) f
  | [], run, _ => by rw [List.append_nil]; rfl
  | p :: a, run, h => by
    rw [List.length_cons] at h
    rw [List.cons_append, List.map_cons, List.forIn_cons, hf p run (by omega), pure_bind]
    dsimp only
    rw [gatherN f d hf rest a (run ++ [p]) (by rw [List.length_append]; show run.length + 1 + a.length < 17; omega), List.append_assoc]
    rfl
theorem wp_displayT {pos : Pos} {s : Shared} {a c : List PS} {b : PS} {L M : List SP} {Q : Value → Shared → Prop} (ha : a.length = 16) (hc0 : c ≠ []) (hc : c.length ≤ 15) (c1 : PairsT env pos (a ++ [b]) L) (c2 : PairsT env pos c M) (hn : ((L ++ M).map (·.1)).Nodup) (hm : sysModules < s.heap.objs.size)
    (q : Q (.ref s.heap.objs.size) (finT w prog s L M)) : wpAny (model prog w) A (dictDisplay ((a ++ b :: c).map fun p => (some p.1, p.2))) Q E s := by
  have hL : L.length = 17 := by
    rw [← pairsT_len c1, List.length_append, ha]
    rfl
  have hM : M.length ≤ 15 := by rw [← pairsT_len c2]; exact hc
  have hn1 : (L.map (·.1)).Nodup := by
    rw [List.map_append] at hn
    exact (List.nodup_append.mp hn).1
  have hn2 : (M.map (·.1)).Nodup := by
    rw [List.map_append] at hn
    exact (List.nodup_append.mp hn).2.1
  unfold dictDisplay
  dsimp only
  rw [gatherN _ none (fun p run h => by
    have hne : ((run ++ [(p.1, p.2)]).length == 17) = false := by simp; omega
    simp only [hne, Bool.false_eq_true, if_false]) (b :: c) a [] (by rw [ha]; decide)]
  rw [List.nil_append, List.map_cons, List.forIn_cons]
  have e17 : ((a ++ [(b.1, b.2)]).length == 17) = true := by rw [List.length_append, ha]; rfl
  have ne : (a ++ [(b.1, b.2)]).isEmpty = false := by cases a <;> rfl
  simp only [e17, if_true, ne, Bool.false_eq_true, if_false]
  refine wpAny_bind (wpAny_bind (wpAny_bind (wpAny_bind (wp_sub_longT (w := w) (prog := prog) c1 (by rw [List.length_append, ha]; show 15 < 17; decide) hn1 (by rw [hL]; decide) ?_))))
  refine wpAny_pure (wpAny_pure ?_)
  dsimp only
  rw [← List.append_nil c, gatherN _ (some s.heap.objs.size) (fun p run h => by
    have hne : ((run ++ [(p.1, p.2)]).length == 17) = false := by simp; omega
    simp only [hne, Bool.false_eq_true, if_false]) [] c [] (by show 0 + c.length < 17; omega)]
  rw [List.nil_append, List.map_nil, List.forIn_nil]
  refine wpAny_pure ?_
  have hce : c.isEmpty = false := by cases c with | nil => exact absurd rfl hc0 | cons _ _ => rfl
  simp only [hce, Bool.false_eq_true, if_false]
  refine wpAny_bind (wpAny_bind (wpAny_holding (wp_sub_shortT (w := w) (prog := prog) c2 hc hn2 ?_)))
  have es : (midT w prog s L).heap.objs.size = s.heap.objs.size + 1 + L.length := by
    show (ext s.heap _).objs.size = _
    rw [ext_size, List.length_cons, ta_len]
    omega
  rw [es]
  refine wpAny_bind (wpAny_onRaise (wpAny_holding (wp_mergeT hn (by rw [List.length_append, hL]; omega) (fun z => by rw [z] at hL; exact nomatch hL) hm ?_)))
  exact wpAny_pure (wpAny_pure q)
end
end Fw

set_option Elab.async false
set_option linter.all false
set_option maxRecDepth 100000
set_option maxHeartbeats 2000000
/-! d.get(x) of a dict that the module's top laid, keyed by texts, whose values are tuples of texts -/
namespace Fw
open PySem PySem.Spec PyProof.Rows L2
def e2 (l : List E3) : List (Str × Value) := l.map fun e => (e.1, e.2.2)
structure Deeds (prog : Program) (w : World) (K : PySem.W.Frag) (d : Addr) (g : Str → Option (List Str)) : Prop where
  is : ∃ l : List E3, K.lookup d = some (dE w prog l) ∧ (l.map (·.1)).Nodup ∧
    ∀ k, (valueAt (e2 l) k = none ∧ g k = none) ∨ ∃ b t zs, valueAt (e2 l) k = some (.ref b) ∧ g k = some zs ∧ K.lookup b = some (tO t zs) ∧ zs.length ≤ sizeLine
  hd : (d == sysModules) = false
theorem pairs_ent {prog : Program} {w : World} : ∀ l : List E3, Pairs (strKind prog w) (l.map (ent w prog)) (e2 l)
  | [] => .nil
  | x :: r => .cons (by show Value.isStrOf x.1 (.str x.1 x.2.1) = true; simp [Value.isStrOf]) rfl (pairs_ent r)
theorem dict_ent {prog : Program} {w : World} {h : Heap} {d : Addr} {l : List E3} (e : h.get? d = some (dE w prog l)) (n : (l.map (·.1)).Nodup) : h.DictOf (strKind prog w) d (e2 l) :=
  ⟨_, _, _, e, ⟨rfl, rfl, rfl⟩, rfl, fun e he => by
    obtain ⟨y, _, rfl⟩ := List.mem_map.mp (List.mem_toArray.mp he)
    exact ⟨y.1, by show Value.isStrOf y.1 (.str y.1 y.2.1) = true; simp [Value.isStrOf], rfl⟩, pairs_ent l, by
    show ((l.map _).map _).Nodup
    rw [List.map_map]
    exact n⟩
def tDG (K : PySem.W.Frag) (d : Addr) (g : Str → Option (List Str)) (to : TE) (t : TA) : TE := fun σ H Q => to σ H fun x H1 => x = .ref d ∧ t σ H1 fun ys H2 =>
  ∃ k, ys = [.str k] ∧ (g k = none → Q .non H2) ∧ ∀ b zs, g k = some zs → SqT K H2 b (zs.map V.str) → Q (.ref b) H2
variable {X : Cx}
theorem pe_dgetT {d : Addr} {g : Str → Option (List Str)} {o e : Expr} {to : TE} {t : TA} {apos cpos : Pos} (hp : Deeds X.prog X.w X.K d g) (ho : PE X o to) (ha : PA X [e] t)
    (hbase : attributeBase o "get" X.env (eval o X.env) = eval o X.env := by rfl)
    (hfew : ((backTo cpos (starEach [e] X.env)).all (fun x => !x.1) && (backToKw cpos (keywordEach [] X.env)).all (fun x => x.1.isSome)
      && decide ([e].length + ([] : List Keyword).length + (if ([] : List Keyword).isEmpty then 0 else 1) < 30)) = true := by rfl)
    (hline : (apos.endLine == cpos.line) = true := by rfl) (hs : starEach [e] X.env = (false, eval e X.env) :: starEach [] X.env := by rfl) (hplain : (backTo cpos (starEach [] X.env)).any (·.1) = false := by rfl) :
    PE X (.Call (.Attribute o "get" apos) [e] [] cpos) (tDG X.K d g to t) := by
  refine ⟨fun pins s σ H Q I h => ?_⟩
  obtain ⟨⟨l, hk, hnd, hv⟩, hsm⟩ := hp
  refine wpAny_Call_method_late hbase hfew hline rfl (thn (ho.run pins s σ H _ I h) fun v s1 ⟨x, H1, I1, r1, ex, q1⟩ => ?_)
  subst ex
  cases (show v = Value.ref d from r1)
  refine ⟨"dict", "dict.get", PySem.F.plainAttrs_dict, PySem.F.slot_dict_get, PySem.F.type_dict_get, ⟨_, I1.kIn d _ hk, rfl⟩, fun a z => ?_, ?_⟩
  · cases z
    exact ⟨_, I1.kIn _ _ hk, rfl⟩
  have hA := ha.run cpos pins s1 σ H1 _ I1 q1
  rw [hs] at hA ⊢
  refine Calls.callWith_builtin (by show (false || (backTo cpos (starEach [] X.env)).any (·.1)) = false; rw [hplain] <;> rfl) (Calls.evalArgs_plain ?_)
  refine thn hA fun us s2 hh => ?_
  obtain ⟨vs, H2, I2, r2, k, rfl, qn, qs⟩ := hh
  obtain ⟨u, rfl, ⟨tt, rfl⟩⟩ := Vals.one r2
  have dk := dict_ent (prog := X.prog) (w := X.w) (I2.kIn d _ hk) hnd
  refine call_meetsIn PySem.F.slot_dict_get dk.typeIs PySem.F.entry_dict_get (PySem.F.args_dict_get_2 _ _) (meets_dict_get (strKind X.prog X.w) d (by show Value.isStrOf k (.str k tt) = true; simp [Value.isStrOf]) hsm) ⟨_, dk.mapOf, ?_⟩
  rcases hv k with ⟨z1, z2⟩ | ⟨b, t, zs, z1, z2, z3, z4⟩
  · rw [z1]
    exact ⟨.non, H2, I2.tok _, rfl, qn z2⟩
  · rw [z1]
    exact ⟨.ref b, H2, I2.tok _, rfl, qs b zs z2 (tO_sqT z3 z4)⟩
/-! ### from the objects -/
theorem ta_at {c : Nat} : ∀ {L : List SP} {t j : Nat} {q : SP}, L[j]? = some q → ∃ t', (ta c t L)[j]? = some (tO t' q.2)
  | [], _, _, _, h => by simp at h
  | p :: r, t, 0, q, h => by cases (Option.some.inj h); exact ⟨_, rfl⟩
  | p :: r, t, j + 1, q, h => ta_at (L := r) (j := j) h
theorem find_te {c : Nat} (x : Str) : ∀ (L : List SP) (a t : Nat), ((e2 (te c a t L)).find? (fun kv => kv.1 = x) = none ∧ L.find? (fun p => decide (p.1 = x)) = none) ∨
    ∃ j q, L[j]? = some q ∧ (e2 (te c a t L)).find? (fun kv => kv.1 = x) = some (q.1, .ref (a + j)) ∧ L.find? (fun p => decide (p.1 = x)) = some q
  | [], _, _ => .inl ⟨rfl, rfl⟩
  | p :: r, a, t => by
    show (((p.1, Value.ref a) :: e2 (te c (a + 1) (t + p.2.length + c) r)).find? _ = none ∧ _) ∨ ∃ j q, _ ∧ ((p.1, Value.ref a) :: e2 (te c (a + 1) (t + p.2.length + c) r)).find? _ = _ ∧ _
    rw [List.find?_cons, List.find?_cons]
    by_cases h : p.1 = x
    · simp only [h, decide_true]
      exact .inr ⟨0, p, rfl, by rw [h]; rfl, rfl⟩
    · simp only [h, decide_false]
      rcases find_te x r (a + 1) (t + p.2.length + c) with ⟨h1, h2⟩ | ⟨j, q, h1, h2, h3⟩
      · exact .inl ⟨h1, h2⟩
      · exact .inr ⟨j + 1, q, h1, by rw [show a + (j + 1) = a + 1 + j by omega]; exact h2, h3⟩
theorem deeds_of {prog : Program} {w : World} {K : PySem.W.Frag} {m t : Nat} {L M : List SP} (h : ∀ i o, (objsT w prog m t L M)[i]? = some o → K.lookup (m + i) = some o) (hm : (m == sysModules) = false) (nd : ((L ++ M).map (·.1)).Nodup)
    (hl : ∀ x ∈ L ++ M, x.2.length ≤ sizeLine) : Deeds prog w K m (fun k => ((L ++ M).find? fun q => decide (q.1 = k)).map (·.2)) := by
  have inL : ∀ {j : Nat} {o : Obj}, (ta 2 t L)[j]? = some o → K.lookup (m + 1 + j) = some o := fun {j o} e => by
    have hj : j < (ta 2 t L).length := (List.getElem?_eq_some_iff.mp e).1
    have := h (j + 1) o (by
      show ((ta 2 t L) ++ _)[j]? = some o
      rw [List.getElem?_append_left hj]
      exact e)
    rw [show m + 1 + j = m + (j + 1) by omega]
    exact this
  have inM : ∀ {j : Nat} {o : Obj}, (ta 1 (tk 2 t L) M)[j]? = some o → K.lookup (m + 1 + L.length + 1 + j) = some o := fun {j o} e => by
    have := h (L.length + 1 + j + 1) o (by
      show ((ta 2 t L) ++ _)[L.length + 1 + j]? = some o
      rw [List.getElem?_append_right (by rw [ta_len]; omega), ta_len, show L.length + 1 + j - L.length = j + 1 by omega]
      exact e)
    rw [show m + 1 + L.length + 1 + j = m + (L.length + 1 + j + 1) by omega]
    exact this
  refine ⟨⟨te 2 (m + 1) t L ++ te 1 (m + 1 + L.length + 1) (tk 2 t L) M, h 0 _ rfl, ?_, fun k => ?_⟩, hm⟩
  · rw [List.map_append, te_keys, te_keys, ← List.map_append]
    exact nd
  · have e1 : e2 (te 2 (m + 1) t L ++ te 1 (m + 1 + L.length + 1) (tk 2 t L) M) = e2 (te 2 (m + 1) t L) ++ e2 (te 1 (m + 1 + L.length + 1) (tk 2 t L) M) := List.map_append
    unfold valueAt
    rw [e1, List.find?_append, List.find?_append]
    rcases find_te (c := 2) k L (m + 1) t with ⟨h1, h2⟩ | ⟨j, q, h1, h2, h3⟩
    · rw [h1, h2]
      rcases find_te (c := 1) k M (m + 1 + L.length + 1) (tk 2 t L) with ⟨h3, h4⟩ | ⟨j, q, h3, h4, h5⟩
      · rw [h3, h4]
        exact .inl ⟨rfl, rfl⟩
      · rw [h4, h5]
        obtain ⟨t', h6⟩ := ta_at (c := 1) (t := tk 2 t L) h3
        exact .inr ⟨_, t', _, rfl, rfl, inM h6, hl q (List.mem_append.mpr (.inr (List.mem_of_getElem? h3)))⟩
    · rw [h2, h3]
      obtain ⟨t', ht'⟩ := ta_at (c := 2) (t := t) h1
      exact .inr ⟨_, t', _, rfl, rfl, inL ht', hl q (List.mem_append.mpr (.inl (List.mem_of_getElem? h1)))⟩
end Fw

set_option Elab.async false
set_option linter.all false
set_option maxRecDepth 100000
set_option maxHeartbeats 2000000
namespace Fd
open PySem PySem.Spec PyProof.Rows L2 RZ
theorem seqT {K : PySem.W.Frag} {H H' : Hp} {a : Addr} {xs : List V} (e : Same H H') (h : SqT K H a xs) : SqT K H' a xs := by
  rcases h with (h | ⟨o, h⟩) | h
  · exact .inl (.inl (e _ _ h))
  · exact .inl (.inr ⟨o, e _ _ h⟩)
  · exact .inr h
mutual
theorem dp_same {K : PySem.W.Frag} {H H' : Hp} (s : Same H H') : ∀ (d : PyData) (v : V), Dp K H v d → Dp K H' v d
  | .none, _, h => by cases h; exact .non
  | .bool b, _, h => by cases h; exact .bl b
  | .int i, _, h => by cases h; exact .int i
  | .str x, _, h => by cases h; exact .str x
  | .list ds, _, h => by cases h with | lst q r => exact .lst (s.seq q) (dpAll_same s ds _ r)
  | .tuple ds, _, h => by cases h with | tup q r => exact .tup (seqT s q) (dpAll_same s ds _ r)
  | .dict _, _, h => by cases h
theorem dpAll_same {K : PySem.W.Frag} {H H' : Hp} (s : Same H H') : ∀ (ds : List PyData) (vs : List V), DpAll K H vs ds → DpAll K H' vs ds
  | [], _, h => by cases h; exact .nil
  | d :: ds, _, h => by cases h with | cons q r => exact .cons (dp_same s d _ q) (dpAll_same s ds _ r)
end
theorem dpAll_len {K : PySem.W.Frag} {H : Hp} : ∀ {ds : List PyData} {vs : List V}, DpAll K H vs ds → vs.length = ds.length
  | [], _, h => by cases h; rfl
  | d :: ds, _, h => by cases h with | cons q r => rw [List.length_cons, List.length_cons, dpAll_len r]
theorem dpAll_at {K : PySem.W.Frag} {H : Hp} : ∀ {ds : List PyData} {vs : List V} {i : Nat} {v : V}, DpAll K H vs ds → vs[i]? = some v → ∃ d, ds[i]? = some d ∧ Dp K H v d
  | [], _, i, v, h, e => by cases h; simp at e
  | d :: ds, _, 0, v, h, e => by cases h with | cons q r => cases (Option.some.inj e); exact ⟨d, rfl, q⟩
  | d :: ds, _, i + 1, v, h, e => by cases h with | cons q r => exact dpAll_at (i := i) r e
/-- data without dicts, less than n deep, lists of at most 1000 -/
def OkD : Nat → PyData → Prop
  | 0, _ => False
  | _ + 1, .none => True
  | _ + 1, .bool _ => True
  | _ + 1, .int _ => True
  | _ + 1, .str _ => True
  | n + 1, .list ds => ds.length ≤ 1000 ∧ ∀ d ∈ ds, OkD n d
  | n + 1, .tuple ds => ds.length ≤ 1000 ∧ ∀ d ∈ ds, OkD n d
  | _ + 1, .dict _ => False
theorem qd {Q : VK} {H : Hp} {x : V} (h : Q (.bl true) H) : Q (.bl (decide (x = x))) H := by
  rw [decide_eq_true rfl]
  exact h
theorem all_rep : ∀ n : Nat, (List.replicate n true).all id = true
  | 0 => rfl
  | n + 1 => by rw [List.replicate_succ, List.all_cons, all_rep n]; rfl
theorem ty_lst {K : PySem.W.Frag} {H : Hp} {a : Addr} {xs : List V} (h : SqL K H a xs) : TyX K H (.ref a) (.type "list") := by
  rcases h with (h | ⟨o, h⟩) | ⟨o, _, _, h, c, _⟩
  · exact .base (.lst h)
  · exact .base (.frz h)
  · exact .kList h c
theorem ty_tup {K : PySem.W.Frag} {H : Hp} {a : Addr} {xs : List V} (h : SqT K H a xs) : TyX K H (.ref a) (.type "tuple") := by
  rcases h with (h | ⟨o, h⟩) | ⟨o, _, _, h, c, _⟩
  · exact .base (.tup h)
  · exact .fTuple h
  · exact .kTuple h c
theorem kitLT {K : PySem.W.Frag} {t : String} {b1 b2 : Bool} (h1 : kitB t "list" = some b1) (h2 : kitB t "tuple" = some b2) : PySem.W.kitAny K (.type t) [.type "list", .type "tuple"] = some (b1 || b2) := by
  cases b1 with
  | true => exact kitAny_cons (kit_ty h1) (fun z => nomatch z) (fun _ => rfl)
  | false =>
    refine kitAny_cons (kit_ty h1) (fun _ => ?_) (fun z => nomatch z)
    cases b2 with
    | true => exact kitAny_cons (kit_ty h2) (fun z => nomatch z) (fun _ => rfl)
    | false => exact kitAny_cons (kit_ty h2) (fun _ => rfl) (fun z => nomatch z)
theorem walk_zipT {K : PySem.W.Frag} {a b : Addr} {xs ys : List V} {n : Nat} (hn : n = min xs.length ys.length) : Walk (ItzT K a b) n (fun H => SqT K H a xs ∧ SqT K H b ys) (YPair (fun i => xs[i]?) (fun i => ys[i]?)) := by
  subst hn
  refine ⟨fun i _ hi q => ⟨xs, ys, xs[i]'(by omega), ys[i]'(by omega), q.1, q.2, List.getElem?_eq_getElem _, List.getElem?_eq_getElem _⟩, fun _ q => ⟨xs, ys, q.1, q.2, by omega⟩, fun i H v H' _ q y => ?_⟩
  obtain ⟨T, x, z, g1, g2, g3, g4, g5⟩ := y
  exact ⟨T, x, z, g1, g2, g3, g4 xs q.1, g5 ys q.2⟩
def IsNm (z : Str) : Prop := 1 ≤ z.cps.size ∧ z.cps.size ≤ 8 ∧ ∀ c ∈ z.cps.toList, 97 ≤ c ∧ c ≤ 122
theorem ifT {c : Prop} [Decidable c] {A B : Prop} (hc : c) (h : A) : if decide c = true then A else B := by
  rw [if_pos (decide_eq_true hc)]
  exact h
theorem ifF {c : Prop} [Decidable c] {A B : Prop} (hc : ¬ c) (h : B) : if decide c = true then A else B := by
  rw [decide_eq_false hc, if_neg Bool.false_ne_true]
  exact h
theorem iteB {b : Bool} {A B : Prop} (h : b = true) (a : A) : if b = true then A else B := by subst h; exact iteT a
theorem iteBF {b : Bool} {A B : Prop} (h : b = false) (a : B) : if b = true then A else B := by subst h; exact iteF a
theorem neS {a b : Str} (h : a ≠ b) : ¬ (V.str a = V.str b) := fun z => h (V.str.inj z)
def inB (i : Int) : Bool := decide (-1000000 ≤ i) && decide (i ≤ 1000000)
inductive BOp where
  | plus | minus | by_ | over | rest
def BOp.word : BOp → Str
  | .plus => "plus" | .minus => "minus" | .by_ => "by" | .over => "over" | .rest => "rest"
inductive Lk where
  | num (i : Int) | name (x : Str) | many (x : Str) | item (x : Str) (a : Lk) | spot (k : Nat) | bin (o : BOp) (a b : Lk)
def Lk.deep : Lk → Nat
  | .item _ a => a.deep + 1
  | .bin _ a b => max a.deep b.deep + 1
  | _ => 1
def spotWords : List Str := ["x", "y", "way", "number"]
inductive Ts where
  | like (a b : Lk) | less (a b : Lk) | not_ (t : Ts) | both (t u : Ts) | any_ (t u : Ts) | meets (x : Str)
def Ts.deep : Ts → Nat
  | .like a b => max a.deep b.deep + 1
  | .less a b => max a.deep b.deep + 1
  | .not_ t => t.deep + 1
  | .both t u => max t.deep u.deep + 1
  | .any_ t u => max t.deep u.deep + 1
  | .meets _ => 1
theorem FnG.mono {P : Program} {w : World} {K : PySem.W.Frag} {mg : Str → Option Value} {base : Heap} {CX : CXT} {j k : Nat} {x : Str} {ps : List Str} {sp : Sp} (G : FnG P w K mg base CX j x ps sp) (h : j ≤ k) : FnG P w K mg base CX k x ps sp := by
  obtain ⟨f, fd, F, r⟩ := G
  exact ⟨f, fd, F.mono h, r⟩
end Fd

set_option Elab.async false
set_option linter.all false
set_option maxRecDepth 100000
set_option maxHeartbeats 2000000
namespace Fd
open PySem PySem.Spec PyProof.Rows L2
/-! ### the kinds of plain data -/
def tyN : PyData → String
  | .none => "NoneType" | .bool _ => "bool" | .int _ => "int" | .str _ => "str" | .list _ => "list" | .tuple _ => "tuple" | .dict _ => "dict"
theorem ty_of {K : PySem.W.Frag} {H : Hp} {v : V} {d : PyData} (h : Dp K H v d) : TyX K H v (.type (tyN d)) := by
  cases h with
  | non => exact .base .non
  | bl b => exact .base (.bl b)
  | int i => exact .base (.int i)
  | str x => exact .base (.str x)
  | lst h _ => exact ty_lst h
  | tup h _ => exact ty_tup h
def isI : PyData → Bool | .int _ => true | .bool _ => true | _ => false
def isB : PyData → Bool | .bool _ => true | _ => false
def isS : PyData → Bool | .str _ => true | _ => false
def isT : PyData → Bool | .tuple _ => true | _ => false
def isNum : PyData → Bool | .int _ => true | _ => false
theorem kI : ∀ d, kitB (tyN d) "int" = some (isI d)
  | .none => (by decide +kernel : kitB "NoneType" "int" = some false) | .bool _ => (by decide +kernel : kitB "bool" "int" = some true) | .int _ => (by decide +kernel : kitB "int" "int" = some true) | .str _ => (by decide +kernel : kitB "str" "int" = some false)
  | .list _ => (by decide +kernel : kitB "list" "int" = some false) | .tuple _ => (by decide +kernel : kitB "tuple" "int" = some false) | .dict _ => (by decide +kernel : kitB "dict" "int" = some false)
theorem kB : ∀ d, kitB (tyN d) "bool" = some (isB d)
  | .none => (by decide +kernel : kitB "NoneType" "bool" = some false) | .bool _ => (by decide +kernel : kitB "bool" "bool" = some true) | .int _ => (by decide +kernel : kitB "int" "bool" = some false) | .str _ => (by decide +kernel : kitB "str" "bool" = some false)
  | .list _ => (by decide +kernel : kitB "list" "bool" = some false) | .tuple _ => (by decide +kernel : kitB "tuple" "bool" = some false) | .dict _ => (by decide +kernel : kitB "dict" "bool" = some false)
theorem kS : ∀ d, kitB (tyN d) "str" = some (isS d)
  | .none => (by decide +kernel : kitB "NoneType" "str" = some false) | .bool _ => (by decide +kernel : kitB "bool" "str" = some false) | .int _ => (by decide +kernel : kitB "int" "str" = some false) | .str _ => (by decide +kernel : kitB "str" "str" = some true)
  | .list _ => (by decide +kernel : kitB "list" "str" = some false) | .tuple _ => (by decide +kernel : kitB "tuple" "str" = some false) | .dict _ => (by decide +kernel : kitB "dict" "str" = some false)
theorem kT : ∀ d, kitB (tyN d) "tuple" = some (isT d)
  | .none => (by decide +kernel : kitB "NoneType" "tuple" = some false) | .bool _ => (by decide +kernel : kitB "bool" "tuple" = some false) | .int _ => (by decide +kernel : kitB "int" "tuple" = some false) | .str _ => (by decide +kernel : kitB "str" "tuple" = some false)
  | .list _ => (by decide +kernel : kitB "list" "tuple" = some false) | .tuple _ => (by decide +kernel : kitB "tuple" "tuple" = some true) | .dict _ => (by decide +kernel : kitB "dict" "tuple" = some false)
theorem isi_of {K : PySem.W.Frag} {H : Hp} {v : V} {d : PyData} {c : String} {b : Bool} {Q : VK} (h : Dp K H v d) (e : kitB (tyN d) c = some b) (q : Q (.bl b) H) : rIsi K [v, .ty c] H Q :=
  ⟨_, _, _, _, b, rfl, .ty _, ty_of h, kit_ty e, q⟩
/-- a list of truths built piece by piece -/
theorem all_map {α : Type} (xs : List α) (f : α → Bool) : (xs.map f).all id = xs.all f := by
  induction xs with
  | nil => rfl
  | cons x r ih => rw [List.map_cons, List.all_cons, List.all_cons, ih]; rfl
def isVal : PyData → Bool | .int i => inB i | _ => false
/-- a name of the document: one to eight letters a to z -/
def azB (c : Nat) : Bool := decide (97 ≤ c) && decide (c ≤ 122)
theorem le_lo (c : Nat) : (!decide ((⟨#[c]⟩ : Str).cps.toList < (Str.ofString "a").cps.toList)) = decide (97 ≤ c) := by
  rw [show (Str.ofString "a").cps.toList = [97] by decide +kernel]
  simp [List.cons_lt_cons_iff]
  by_cases h : c < 97
  · rw [decide_eq_true h, decide_eq_false (by omega)]; rfl
  · rw [decide_eq_false h, decide_eq_true (by omega)]; rfl
theorem le_hi (c : Nat) : (!decide ((Str.ofString "z").cps.toList < (⟨#[c]⟩ : Str).cps.toList)) = decide (c ≤ 122) := by
  rw [show (Str.ofString "z").cps.toList = [122] by decide +kernel]
  simp [List.cons_lt_cons_iff]
  by_cases h : 122 < c
  · rw [decide_eq_true h, decide_eq_false (by omega)]; rfl
  · rw [decide_eq_false h, decide_eq_true (by omega)]; rfl
def nmB (z : Str) : Bool := decide (1 ≤ z.cps.size) && decide (z.cps.size ≤ 8) && z.cps.toList.all azB
def isNm : PyData → Bool | .str z => nmB z | _ => false
section
variable {P : Program} {w : World} {K : PySem.W.Frag} {mg : Str → Option Value} {base : Heap} {f : Addr} {fd : FuncData}
/-- a def of one thing that answers by what the thing is -/
def spB (K : PySem.W.Frag) (ok : PyData → Prop) (g : PyData → Bool) : Sp := fun vs H Q _ => ∃ (x : V) (d : PyData), vs = [x] ∧ Dp K H x d ∧ ok d ∧ ∀ H', Same H H' → Q (.bl (g d)) H'
abbrev sIsNumB : Stmt := top 7
theorem scIsNumB : FnScope ["thing"] ["thing"] (defScope sIsNumB) := ⟨rfl, rfl, rfl, by decide +kernel, rfl, by decide +kernel, by decide +kernel⟩
theorem ok_isNumB {k : Nat} (F : Fun K "is_number" "is_number" sIsNumB f fd) (m_isinstance : mg "isinstance" = none) (m_int : mg "int" = none) (m_bool : mg "bool" = none) :
    FnOk P w K mg base CX0 (k + 1) f fd ["thing"] (spB K (fun _ => True) isNum) := by
  have sc := scIsNumB
  refine F.ok sc (fun vs H Q E h => ?_) (fun cdv A outer s H vs Q E hr h => ?_)
  · obtain ⟨x, d, rfl, _⟩ := h
    rfl
  obtain ⟨x, d, rfl, hd, _, q⟩ := h
  replace q := q H (Same.refl _)
  refine ⟨_, (pss_one (ps_ret (pe_and (pe_callB call_isi (by rfl) m_isinstance (by decide +kernel) (pa_cons (pv 0) (pa_cons (pe_bltn (v := .ty "int") (by rfl) m_int (by decide +kernel) rfl) pa_nil))) (pe_one (pe_not (pe_callB call_isi (by rfl) m_isinstance (by decide +kernel) (pa_cons (pv 0) (pa_cons (pe_bltn (v := .ty "bool") (by rfl) m_bool (by decide +kernel) rfl) pa_nil)))))))), ?_⟩
  refine ⟨_, rfl, _, _, _, _, _, rfl, .ty _, ty_of hd, kit_ty (kI d), _, rfl, ?_⟩
  cases d with
  | int i => exact iteT ⟨_, rfl, _, _, _, _, _, rfl, .ty _, ty_of hd, kit_ty (kB _), _, rfl, q⟩
  | bool i => exact iteT ⟨_, rfl, _, _, _, _, _, rfl, .ty _, ty_of hd, kit_ty (kB _), _, rfl, q⟩
  | none => exact iteF q
  | str _ => exact iteF q
  | list _ => exact iteF q
  | tuple _ => exact iteF q
  | dict _ => exact iteF q
abbrev sIsValB : Stmt := top 8
theorem scIsValB : FnScope ["thing"] ["thing"] (defScope sIsValB) := ⟨rfl, rfl, rfl, by decide +kernel, rfl, by decide +kernel, by decide +kernel⟩
theorem ok_isValB {k : Nat} {t t' : Tok} (F : Fun K "is_value" "is_value" sIsValB f fd) (G : FnG P w K mg base CX0 k "is_number" ["thing"] (spB K (fun _ => True) isNum)) (m_LEAST : mg "LEAST_VALUE" = some (.int (-1000000) t)) (m_MOST : mg "MOST_VALUE" = some (.int 1000000 t')) :
    FnOk P w K mg base CX0 (k + 1) f fd ["thing"] (spB K (fun _ => True) isVal) := by
  obtain ⟨_, _, G_is_number, m_is_number, k_is_number, b_is_number⟩ := G
  have sc := scIsValB
  refine F.ok sc (fun vs H Q E h => ?_) (fun cdv A outer s H vs Q E hr h => ?_)
  · obtain ⟨x, d, rfl, _⟩ := h
    rfl
  obtain ⟨x, d, rfl, hd, _, q⟩ := h
  refine ⟨_, (pss_one (ps_ret (pe_and (pe_call G_is_number (hr.mono (by omega)) (by rfl) m_is_number k_is_number b_is_number .nil pass0 (pa_cons (pv 0) pa_nil)) (pe_one (pe_chain op_le op_le (pe_glob (v := .int (-1000000)) (by rfl) m_LEAST ⟨_, rfl⟩) (pv 0) (pe_glob (v := .int 1000000) (by rfl) m_MOST ⟨_, rfl⟩)))))), ?_⟩
  refine ⟨_, rfl, x, d, rfl, hd, trivial, fun H' s' => ⟨_, rfl, ?_⟩⟩
  replace q := q H' s'
  cases d with
  | int i =>
    cases hd
    refine iteT ⟨_, rfl, _, _, rfl, rfl, _, rfl, ite2 (fun c => ?_) (fun c => ?_)⟩
    · refine ⟨_, _, rfl, rfl, ?_⟩
      replace q : Q (.bl (decide (-1000000 ≤ i) && decide (i ≤ 1000000))) H' := q
      rw [c] at q
      exact q
    · replace q : Q (.bl (decide (-1000000 ≤ i) && decide (i ≤ 1000000))) H' := q
      rw [eq_false_of_ne_true c] at q
      exact q
  | bool i => exact iteF q
  | none => exact iteF q
  | str _ => exact iteF q
  | list _ => exact iteF q
  | tuple _ => exact iteF q
  | dict _ => exact iteF q
abbrev sIsName : Stmt := top 9
theorem scIsName : FnScope ["thing", "letter"] ["thing"] (defScope sIsName) := ⟨rfl, rfl, rfl, by decide +kernel, rfl, by decide +kernel, by decide +kernel⟩
def TxOk : PyData → Prop | .str z => z.length ≤ sizeLine | _ => True
theorem ok_isName {k : Nat} {t : Tok} (F : Fun K "is_name" "is_name" sIsName f fd) (m_isinstance : mg "isinstance" = none) (m_str : mg "str" = none) (m_len : mg "len" = none) (m_all : mg "all" = none) (m_LONGEST : mg "LONGEST_NAME" = some (.int 8 t)) :
    FnOk P w K mg base CX0 (k + 1) f fd ["thing"] (spB K TxOk isNm) := by
  have sc := scIsName
  refine F.ok sc (fun vs H Q E h => ?_) (fun cdv A outer s H vs Q E hr h => ?_)
  · obtain ⟨x, d, rfl, _⟩ := h
    rfl
  obtain ⟨x, d, rfl, hd, ok, q⟩ := h
  refine ⟨_, (pss_cons (ps_if (PW.pt (pw_or (pt_not (pt_val (pe_callB call_isi (by rfl) m_isinstance (by decide +kernel) (pa_cons (pv 0) (pa_cons (pe_bltn (v := .ty "str") (by rfl) m_str (by decide +kernel) rfl) pa_nil))))) (pw_or1 (pt_not (pt_chain op_le op_le pe_int (pe_callB call_len_str (by rfl) m_len (by decide +kernel) (pa_cons (pv 0) pa_nil)) (pe_glob (v := .int 8) (by rfl) m_LONGEST ⟨_, rfl⟩)))))) (pss_one (ps_ret pe_bl)) pss_nil)
      (pss_one (ps_ret (pe_callB (cr_all rfl) (by rfl) m_all (by decide +kernel) (pa_cons (pe_lc (own := [("letter", 1)]) (by rfl) sc.nd  (pi_str (pv 0)) (blkOk_by (own := [("letter", 1)]) (N := ["thing", "letter"]) (sc := defScope sIsName) (by decide +kernel)) (fun _ _ _ _ _ => (pg_name (i := 1) sc.nd rfl (.inl rfl))) (fun _ _ _ _ _ => pts_nil) (fun _ _ _ _ _ => (pe_chain op_le_str op_le_str pe_str (pv 1) pe_str))) pa_nil))))), ?_⟩
  refine ⟨_, rfl, _, _, _, _, _, rfl, .ty _, ty_of hd, kit_ty (kS d), _, rfl, ?_⟩
  have qH := q H (Same.refl _)
  cases d with
  | str z =>
    cases hd
    refine iteF ?_
    refine ⟨_, rfl, z, rfl, ok, 1, _, rfl, rfl, _, rfl, ite2 (fun c1 => ?_) (fun c1 => ?_)⟩
    · refine ⟨_, _, rfl, rfl, _, rfl, ?_⟩
      by_cases c2 : z.cps.size ≤ 8
      · have e2 : decide ((z.length : Int) ≤ 8) = true := decide_eq_true (by show (z.cps.size : Int) ≤ 8; omega)
        have c1' : 1 ≤ z.cps.size := by
          have := of_decide_eq_true c1
          have : (1 : Int) ≤ (z.cps.size : Nat) := this
          omega
        rw [e2]
        refine iteF ?_
        refine ⟨_, rfl, z, rfl, fun D nD => lc_it (walk_str (z := z)) (fun i H' => Same H H' ∧ H' D = some (.lst (((z.cps.toList.take i).map azB).map V.bl))) ⟨same_upd nD, upd_same⟩ (fun i H' _ _ => trivial) ?_ ?_⟩
        · rintro i v H1 H2 hi ⟨sm, hD⟩ ⟨rfl, c, hc, rfl⟩
          refine ⟨rfl, ?_⟩
          unfold tYes
          refine iteT ?_
          have fin : ∀ H1 : Hp, Same H H1 → H1 D = some (.lst (((z.cps.toList.take i).map azB).map V.bl)) → ∃ acc, H1 D = some (.lst acc) ∧ acc.length < sizeLine ∧ (Same H (upd H1 D (.lst (acc ++ [V.bl (azB c)]))) ∧ (upd H1 D (.lst (acc ++ [V.bl (azB c)]))) D = some (.lst (((z.cps.toList.take (i + 1)).map azB).map V.bl))) := fun H1 sm hD => by
            refine ⟨_, hD, ?_, fun b o h => ?_, ?_⟩
            · rw [List.length_map, List.length_map, List.length_take]
              exact Nat.lt_of_le_of_lt (Nat.min_le_left _ _) (Nat.lt_of_lt_of_le (Nat.lt_of_lt_of_le hi c2) (by decide))
            · rw [upd_ne (ne_of_none h nD)]
              exact sm _ _ h
            · rw [upd_same, List.take_succ, show z.cps.toList[i]? = some c by rw [← hc, Array.getElem?_toList], List.map_append, List.map_append]
              rfl
          refine ⟨_, rfl, _, _, rfl, rfl, _, rfl, ite2 (fun c3 => ?_) (fun c3 => ?_)⟩
          · refine ⟨_, _, rfl, rfl, ?_⟩
            have e : (!decide ((Str.ofString "z").cps.toList < (⟨#[c]⟩ : Str).cps.toList)) = azB c := by
              rw [le_lo] at c3
              rw [le_hi]
              unfold azB
              rw [c3]
              rfl
            show ∃ acc, _ ∧ _ ∧ _
            rw [e]
            exact fin _ sm hD
          · have e : false = azB c := by
              rw [le_lo] at c3
              unfold azB
              rw [eq_false_of_ne_true c3]
              rfl
            show ∃ acc, _ ∧ _ ∧ _
            rw [e]
            exact fin _ sm hD
        · rintro H1 ⟨sm, hD⟩
          refine ⟨D, z.cps.toList.map azB, rfl, SqL.of (by rw [hD, List.take_of_length_le (by rw [Array.length_toList]; exact Nat.le_refl _)]), ?_⟩
          rw [all_map]
          have := q _ sm
          rw [show isNm (.str z) = z.cps.toList.all azB by show nmB z = _; unfold nmB; rw [decide_eq_true c1', decide_eq_true c2]; rfl] at this
          exact this
      · have e2 : decide ((z.length : Int) ≤ 8) = false := decide_eq_false (by show ¬ (z.cps.size : Int) ≤ 8; omega)
        rw [e2]
        refine iteT ?_
        rw [show isNm (.str z) = false by show nmB z = _; unfold nmB; rw [decide_eq_false c2, Bool.and_false, Bool.false_and]] at qH
        exact qH
    · have c1' : ¬ 1 ≤ z.cps.size := fun h => c1 (decide_eq_true (by show (1 : Int) ≤ (z.cps.size : Nat); omega))
      refine ⟨_, rfl, iteT ?_⟩
      rw [show isNm (.str z) = false by show nmB z = _; unfold nmB; rw [decide_eq_false c1', Bool.false_and, Bool.false_and]] at qH
      exact qH
  | int i => exact iteT (iteT qH)
  | bool i => exact iteT (iteT qH)
  | none => exact iteT (iteT qH)
  | list _ => exact iteT (iteT qH)
  | tuple _ => exact iteT (iteT qH)
  | dict _ => exact iteT (iteT qH)
end
end Fd

set_option Elab.async false
set_option linter.all false
set_option maxRecDepth 100000
set_option maxHeartbeats 2000000
namespace Fd
open PySem PySem.Spec PyProof.Rows L2 RZ
/-! ### plain things: no dicts, small -/
def OkT (e : Nat) : Nat → PyData → Prop
  | 0, _ => False
  | _ + 1, .none => True
  | _ + 1, .bool _ => True
  | _ + 1, .int i => -(1000001 + 1000000 * (e : Int)) ≤ i ∧ i ≤ 1000001 + 1000000 * (e : Int)
  | _ + 1, .str z => z.cps.size ≤ 8 + e ∧ ∀ c ∈ z.cps.toList, c < 128
  | n + 1, .list ds => ds.length ≤ 8 + e ∧ ∀ d ∈ ds, OkT e n d
  | n + 1, .tuple ds => ds.length ≤ 8 + e ∧ ∀ d ∈ ds, OkT e n d
  | _ + 1, .dict _ => False
theorem OkT.mono {e e' : Nat} (he : e ≤ e') : ∀ {n m : Nat} {d : PyData}, OkT e n d → n ≤ m → OkT e' m d
  | 0, _, _, h, _ => h.elim
  | _ + 1, 0, _, _, h => absurd h (by omega)
  | _ + 1, _ + 1, .none, _, _ => trivial
  | _ + 1, _ + 1, .bool _, _, _ => trivial
  | _ + 1, _ + 1, .int i, h, _ => by
    obtain ⟨h1, h2⟩ := h
    exact ⟨by omega, by omega⟩
  | _ + 1, _ + 1, .str z, h, _ => ⟨Nat.le_trans h.1 (by omega), h.2⟩
  | n + 1, m + 1, .list ds, h, g => ⟨Nat.le_trans h.1 (by omega), fun d hd => OkT.mono he (h.2 d hd) (by omega)⟩
  | n + 1, m + 1, .tuple ds, h, g => ⟨Nat.le_trans h.1 (by omega), fun d hd => OkT.mono he (h.2 d hd) (by omega)⟩
  | _ + 1, _ + 1, .dict _, h, _ => h.elim
def OkA (d : PyData) : Prop := ∃ n, n ≤ 60 ∧ OkT 3 n d
theorem OkA.tx {d : PyData} (h : OkA d) : TxOk d := by
  obtain ⟨n, _, h⟩ := h
  cases d with
  | str z =>
    cases n with
    | zero => exact h.elim
    | succ n => exact Nat.le_trans h.1 (by decide)
  | _ => trivial
theorem OkA.kid {ds : List PyData} {d : PyData} (h : OkA (.tuple ds)) (hd : d ∈ ds) : OkA d := by
  obtain ⟨n, hn, h⟩ := h
  cases n with
  | zero => exact h.elim
  | succ n => exact ⟨n, by omega, h.2 d hd⟩
theorem OkA.len {ds : List PyData} (h : OkA (.tuple ds)) : ds.length ≤ 11 := by
  obtain ⟨n, _, h⟩ := h
  cases n with
  | zero => exact h.elim
  | succ n => exact h.1
theorem OkA.str {z : Str} (h : OkA (.str z)) : z.length ≤ sizeLine := OkA.tx h
theorem strOk_of {z : Str} (h : ∀ c ∈ z.cps.toList, c < 128) : PyData.strOk z = true := by
  unfold PyData.strOk
  rw [← Array.all_toList]
  refine List.all_eq_true.mpr fun c hc => ?_
  have := h c hc
  exact decide_eq_true (by omega)
theorem lay_all : ∀ {ds : List PyData}, (∀ d ∈ ds, d.canLay0 = true) → PyData.canLayAll0 ds = true
  | [], _ => rfl
  | d :: ds, h => by
    show (d.canLay0 && PyData.canLayAll0 ds) = true
    rw [h d (List.mem_cons_self ..), lay_all fun x hx => h x (List.mem_cons_of_mem _ hx)]
    rfl
theorem dep_all {n : Nat} : ∀ {ds : List PyData}, (∀ d ∈ ds, d.depth ≤ n) → PyData.depthAll ds ≤ n
  | [], _ => Nat.zero_le _
  | d :: ds, h => Nat.max_le.mpr ⟨h d (List.mem_cons_self ..), dep_all fun x hx => h x (List.mem_cons_of_mem _ hx)⟩
theorem OkT.lay {e : Nat} : ∀ {n : Nat} {d : PyData}, OkT e n d → d.canLay0 = true ∧ d.depth ≤ n
  | 0, _, h => h.elim
  | _ + 1, .none, _ => ⟨rfl, Nat.zero_le _⟩
  | _ + 1, .bool _, _ => ⟨rfl, Nat.zero_le _⟩
  | _ + 1, .int _, _ => ⟨rfl, Nat.zero_le _⟩
  | _ + 1, .str z, h => ⟨strOk_of h.2, Nat.zero_le _⟩
  | n + 1, .list ds, h => ⟨lay_all fun d hd => (h.2 d hd).lay.1, Nat.succ_le_succ (dep_all fun d hd => (h.2 d hd).lay.2)⟩
  | n + 1, .tuple ds, h => ⟨lay_all fun d hd => (h.2 d hd).lay.1, Nat.succ_le_succ (dep_all fun d hd => (h.2 d hd).lay.2)⟩
  | _ + 1, .dict _, h => h.elim
theorem OkA.shaped {d : PyData} (h : OkA d) : SeqAt.shaped d = true := by
  obtain ⟨n, hn, h⟩ := h
  obtain ⟨h1, h2⟩ := h.lay
  unfold SeqAt.shaped
  rw [h1, decide_eq_true (by omega)]
  rfl
/-! ### what a part is -/
def pkL : List Fw.PK := [("look", "name", ["name"]), ("look", "plus", ["look", "look"]), ("look", "minus", ["look", "look"]), ("look", "by", ["look", "look"]), ("look", "over", ["look", "look"]), ("look", "rest", ["look", "look"]),
  ("look", "item", ["list", "look"]), ("look", "many", ["list"]), ("look", "x", []), ("look", "y", []), ("look", "way", []), ("look", "number", []), ("test", "like", ["look", "look"]), ("test", "below", ["look", "look"]),
  ("test", "not", ["test"]), ("test", "both", ["test", "test"]), ("test", "any", ["test", "test"]), ("test", "meets", ["figure"])]
theorem cut_tail (x : V) (xs : List V) : cutV (x :: xs) (some 1) none = xs := by
  unfold cutV
  rw [show HT.sIx (x :: xs).length 0 (some 1) = min 1 (x :: xs).length from HT.sIx_nat .., HT.sIx_none, List.length_cons, Nat.min_eq_left (by omega)]
  exact List.take_of_length_le (Nat.le_refl _)
def gP (k : List Str) : Option (List Str) := (pkL.find? fun p => decide (Fw.key p = k)).map (·.2.2)
abbrev kindsV : List V := [.str "name", .str "list", .str "figure"]
def isKd (k : Str) : Bool := inV (.str k) kindsV
def isWd : PyData → Bool | .tuple (.str _ :: _) => true | _ => false
def hasP (f : Str → PyData → Bool) (kind : Str) : PyData → Bool
  | .tuple (.str w :: r) => match gP [kind, w] with
    | none => false
    | some ks => decide (r.length = ks.length) && (r.zip ks).all fun p => f p.2 p.1
  | _ => false
def isPart : Nat → Str → PyData → Bool
  | 0, k, d => if isKd k then isNm d else false
  | n + 1, k, d => if isKd k then isNm d else (decide (k = "look") && isVal d) || hasP (isPart n) k d
section
variable {P : Program} {w : World} {K : PySem.W.Frag} {mg : Str → Option Value} {base : Heap} {f : Addr} {fd : FuncData}
abbrev sIsWd : Stmt := top 13
theorem scIsWd : FnScope ["thing"] ["thing"] (defScope sIsWd) := ⟨rfl, rfl, rfl, by decide +kernel, rfl, by decide +kernel, by decide +kernel⟩
theorem ok_isWd {k : Nat} (F : Fun K "is_worded" "is_worded" sIsWd f fd) (m_isinstance : mg "isinstance" = none) (m_tuple : mg "tuple" = none) (m_str : mg "str" = none) (m_len : mg "len" = none) :
    FnOk P w K mg base CX0 (k + 1) f fd ["thing"] (spB K (fun _ => True) isWd) := by
  have sc := scIsWd
  refine F.ok sc (fun vs H Q E h => ?_) (fun cdv A outer s H vs Q E hr h => ?_)
  · obtain ⟨x, d, rfl, _⟩ := h
    rfl
  obtain ⟨x, d, rfl, hd, ok, q⟩ := h
  refine ⟨_, (pss_one (ps_ret (pe_and (pe_callB call_isi (by rfl) m_isinstance (by decide +kernel) (pa_cons (pv 0) (pa_cons (pe_bltn (v := .ty "tuple") (by rfl) m_tuple (by decide +kernel) rfl) pa_nil))) (pe_and (pe_cmpR op_gt (pe_callB call_len_seq (by rfl) m_len (by decide +kernel) (pa_cons (pv 0) pa_nil)) pe_int (nomark _)) (pe_one (pe_callB call_isi (by rfl) m_isinstance (by decide +kernel) (pa_cons (pe_ix ix_tup (pv 0) pe_int (fun _ _ => rfl)) (pa_cons (pe_bltn (v := .ty "str") (by rfl) m_str (by decide +kernel) rfl) pa_nil)))))))), ?_⟩
  have qH := q H (Same.refl _)
  refine ⟨_, rfl, _, _, _, _, _, rfl, .ty _, ty_of hd, kit_ty (kT d), _, rfl, ?_⟩
  cases d with
  | tuple ds =>
    cases hd with | @tup a xs _ ha ax =>
    refine iteT ⟨_, rfl, a, xs, rfl, .inr ha, _, _, rfl, rfl, _, rfl, ?_⟩
    cases ax with
    | nil => exact iteF qH
    | @cons v vs d ds hv hvs =>
      refine ite2 (fun c => ?_) (fun c => absurd (decide_eq_true (by show (0 : Int) < ((vs.length + 1 : Nat) : Int); omega)) c)
      refine ⟨_, rfl, a, _, 0, v, rfl, rfl, ha, atI_nat (j := 0) rfl, _, _, _, _, _, rfl, .ty _, ty_of hv, kit_ty (kS d), ?_⟩
      cases d <;> exact qH
  | int i => exact iteF qH
  | bool i => exact iteF qH
  | none => exact iteF qH
  | list _ => exact iteF qH
  | str _ => exact iteF qH
  | dict _ => exact iteF qH
abbrev sHas : Stmt := top 14
theorem scHas : FnScope ["thing", "kind", "deep", "kinds", "part", "wanted"] ["thing", "kind", "deep"] (defScope sHas) := ⟨rfl, rfl, rfl, by decide +kernel, rfl, by decide +kernel, by decide +kernel⟩
def spPart (K : PySem.W.Frag) (n : Nat) : Sp := fun vs H Q _ => ∃ (x : V) (k : Str) (d : PyData), vs = [x, .str k, .int n] ∧ Dp K H x d ∧ OkA d ∧ ∀ H', Same H H' → Q (.bl (isPart n k d)) H'
def spHas (K : PySem.W.Frag) (n : Nat) : Sp := fun vs H Q _ => ∃ (x : V) (k : Str) (d : PyData), vs = [x, .str k, .int (n + 1 : Nat)] ∧ Dp K H x d ∧ OkA d ∧ ∀ H', Same H H' → Q (.bl (hasP (isPart n) k d)) H'
theorem ok_has {k n : Nat} {dP : Addr} (F : Fun K "has_parts" "has_parts" sHas f fd) (GW : FnG P w K mg base CX0 k "is_worded" ["thing"] (spB K (fun _ => True) isWd)) (GP : FnG P w K mg base CX0 k "is_part" ["thing", "kind", "deep"] (spPart K n))
    (m_len : mg "len" = none) (m_all : mg "all" = none) (m_zip : mg "zip" = none) (m_PARTS : mg "PARTS" = some (.ref dP)) (hP : Fw.Parts P w K dP gP) :
    FnOk P w K mg base CX0 (k + 1) f fd ["thing", "kind", "deep"] (spHas K n) := by
  obtain ⟨_, _, G_is_worded, m_is_worded, k_is_worded, b_is_worded⟩ := GW
  obtain ⟨_, _, G_is_part, m_is_part, k_is_part, b_is_part⟩ := GP
  have sc := scHas
  refine F.ok sc (fun vs H Q E h => ?_) (fun cdv A outer s H vs Q E hr h => ?_)
  · obtain ⟨x, kd, d, rfl, _⟩ := h
    rfl
  obtain ⟨x, kd, d, rfl, hd, ok, q⟩ := h
  refine ⟨_, (pss_cons (ps_if (pt_not (pt_val (pe_call G_is_worded (hr.mono (by omega)) (by rfl) m_is_worded k_is_worded b_is_worded .nil pass0 (pa_cons (pv 0) pa_nil)))) (pss_one (ps_ret pe_bl)) pss_nil)
      (pss_cons (ps_set (i := 3) sc.nd rfl (.inl rfl) (Fw.pe_pget hP (hu_of hr) (pe_glob (v := .ref dP) (by rfl) m_PARTS rfl) (pa_cons (pe_tup (pa_cons (pv 1) (pa_cons (pe_ix ix_tup (pv 0) pe_int (fun _ _ => rfl)) pa_nil))) pa_nil)))
      (pss_cons (ps_if (PW.pt (pw_or (pt_cmpR op_isN (pv 3) pe_non (nomark _)) (pw_or1 (pt_cmpR op_ne (pe_callB call_len_seq (by rfl) m_len (by decide +kernel) (pa_cons (pv 0) pa_nil)) (pe_op op_add (pe_callB call_len_seq (by rfl) m_len (by decide +kernel) (pa_cons (pv 3) pa_nil)) pe_int) (nomark _))))) (pss_one (ps_ret pe_bl)) pss_nil)
      (pss_one (ps_ret (pe_callB (cr_all rfl) (by rfl) m_all (by decide +kernel) (pa_cons (pe_lc (own := [("part", 4), ("wanted", 5)]) (g := gTup K 2 (gCons (gName 4) (gCons (gName 5) gNil))) (by rfl) sc.nd  (pi_zipA (by rfl) m_zip (pa_cons (pe_slice sl_tup (pv 0) (po_some pe_int) po_none) (pa_cons (pv 3) pa_nil))) (blkOk_by (own := [("part", 4), ("wanted", 5)]) (N := ["thing", "kind", "deep", "kinds", "part", "wanted"]) (sc := defScope sHas) (by decide +kernel)) (fun _ _ _ _ _ => (pg_tup (by rfl) (pgs_cons (pg_name (i := 4) sc.nd rfl (.inl rfl)) (pgs_cons (pg_name (i := 5) sc.nd rfl (.inl rfl)) pgs_nil)))) (fun _ _ _ _ _ => pts_nil) (fun _ _ _ _ _ => (pe_call G_is_part (hr.mono (by omega)) (by rfl) m_is_part k_is_part b_is_part .nil pass0 (pa_cons (pv 4) (pa_cons (pv 5) (pa_cons (pe_op op_sub (pv 2) pe_int) pa_nil)))))) pa_nil))))))), ?_⟩
  refine ⟨_, rfl, x, d, rfl, hd, trivial, fun H1 s1 => ⟨_, rfl, ?_⟩⟩
  replace hd := dp_same s1 _ _ hd
  have q1 := q H1 s1
  by_cases hw : isWd d = true
  · rw [hw]
    refine iteF ?_
    obtain ⟨z, ds, rfl⟩ : ∃ z ds, d = .tuple (.str z :: ds) := by
      unfold isWd at hw
      split at hw
      · exact ⟨_, _, rfl⟩
      · cases hw
    have okl := ok.len
    rw [List.length_cons] at okl
    cases hd with | @tup a xs _ ha ax =>
    cases ax with | @cons v vs _ _ hv hvs =>
    cases hv
    have le := dpAll_len hvs
    refine ⟨rfl, _, rfl, _, rfl, a, _, 0, _, rfl, rfl, ha, atI_nat (j := 0) rfl, by show 2 ≤ sizeLine; decide, fun p np => ⟨p, kd, z, rfl, upd_same, fun gn => ?_, fun b zs gs hb => ?_⟩⟩
    · refine ⟨_, rfl, rfl, _, rfl, iteT (iteT ?_)⟩
      have := q _ (s1.trans (same_upd (o := .tup [.str kd, .str z]) np))
      rw [show hasP (isPart n) kd (.tuple (.str z :: ds)) = false by unfold hasP; dsimp only; rw [gn]] at this
      exact this
    · have sp := same_upd (o := .tup [.str kd, .str z]) np
      have ha2 := seqT sp ha
      refine ⟨_, rfl, rfl, _, rfl, iteF ?_⟩
      have hq : ∀ H', Same (upd H1 p (.tup [.str kd, .str z])) H' → Q (.bl (decide (ds.length = zs.length) && (ds.zip zs).all fun p => isPart n p.2 p.1)) H' := fun H' s' => by
        have := q H' (s1.trans (sp.trans s'))
        rw [show hasP (isPart n) kd (.tuple (.str z :: ds)) = (decide (ds.length = zs.length) && (ds.zip zs).all fun p => isPart n p.2 p.1) by unfold hasP; dsimp only; rw [gs]] at this
        exact this
      refine ⟨_, rfl, a, _, rfl, .inr ha2, _, rfl, b, _, rfl, .inr hb, _, 1, rfl, rfl, rfl, _, rfl, ite2 (fun c => ?_) (fun c => ?_)⟩
      · have h := hq _ (Same.refl _)
        rw [decide_eq_false (fun e : ds.length = zs.length => by
          rw [decide_eq_true (by rw [List.length_cons, List.length_map, le, e]; rfl)] at c
          cases c), Bool.false_and] at h
        exact h
      · have le2 : ds.length = zs.length := Decidable.byContradiction fun e => c (by
          rw [decide_eq_false (fun z => e (by
            have z : ((vs.length + 1 : Nat) : Int) = ((zs.map V.str).length : Nat) + 1 := V.int.inj z
            rw [List.length_map] at z
            omega))]
          rfl)
        refine ⟨_, rfl, 1, rfl, a, _, rfl, ha2, fun z => ?_, fun e ne => ?_⟩
        · have := z.1
          rw [show HT.sIx (V.str _ :: vs).length 0 (some 1) = min 1 (V.str _ :: vs).length from HT.sIx_nat .., List.length_cons] at this
          omega
        rw [cut_tail]
        have se := same_upd (o := .tup vs) ne
        have lz : (zs.map V.str).length = zs.length := List.length_map ..
        refine ⟨_, rfl, e, b, vs, zs.map V.str, rfl, .inr ⟨SqT.of upd_same, seqT se hb, fun D nD => lc_it (walk_zipT (xs := vs) (ys := zs.map V.str) rfl) (fun i H' => Same (upd (upd H1 p (.tup [.str kd, .str z])) e (.tup vs)) H' ∧ H' D = some (.lst ((((ds.zip zs).take i).map fun p => isPart n p.2 p.1).map V.bl))) ⟨same_upd nD, upd_same⟩
          (fun i H' _ h => ⟨seqT h.1 (SqT.of upd_same), seqT (se.trans h.1) hb⟩) ?_ ?_⟩⟩
        · rintro i v H3 H4 hi ⟨sm, hD⟩ ⟨T, x, y, rfl, nT, rfl, ex, ey⟩
          obtain ⟨d, ed, dx⟩ := dpAll_at (dpAll_same ((sp.trans se).trans sm) ds vs hvs) ex
          obtain ⟨y', ez, rfl⟩ : ∃ y', zs[i]? = some y' ∧ y = .str y' := by
            replace ey : (zs.map V.str)[i]? = some y := ey
            rw [List.getElem?_map] at ey
            cases h : zs[i]? with
            | none => rw [h] at ey; cases ey
            | some u => rw [h] at ey; exact ⟨u, rfl, (Option.some.inj ey).symm⟩
          have sT := same_upd (o := .tup [x, .str y']) nT
          refine ⟨T, _, rfl, .inl (.inl upd_same), rfl, _, _, rfl, _, _, rfl, rfl, rfl, ?_⟩
          unfold tYes
          refine iteT ?_
          refine ⟨_, rfl, _, rfl, _, rfl, _, _, rfl, rfl, x, y', d, congrArg (fun i => [x, V.str y', V.int i]) (by show ((n + 1 : Nat) : Int) - 1 = n; omega), dp_same sT _ _ dx, ok.kid (List.mem_cons_of_mem _ (List.mem_of_getElem? ed)), fun H5 s5 => ⟨_, s5 _ _ (sT _ _ hD), ?_, ?_, ?_⟩⟩
          · rw [List.length_map, List.length_map, List.length_take]
            exact small1000 (by omega)
          · intro b' o' h'
            rw [upd_ne (ne_of_none h' nD)]
            exact s5 _ _ (sT _ _ (sm _ _ h'))
          · rw [upd_same, List.take_succ, show (ds.zip zs)[i]? = some (d, y') by rw [List.getElem?_zip_eq_some]; exact ⟨ed, ez⟩, List.map_append, List.map_append]
            rfl
        · rintro H3 ⟨sm, hD⟩
          refine ⟨D, (ds.zip zs).map fun p => isPart n p.2 p.1, rfl, SqL.of (by rw [hD, List.take_of_length_le (by rw [List.length_zip, lz, le]; exact Nat.le_refl _)]), ?_⟩
          rw [all_map]
          have h := hq _ (se.trans sm)
          rw [decide_eq_true le2, Bool.true_and] at h
          exact h
  · have e : hasP (isPart n) kd d = false := by
      unfold hasP
      split
      · exact absurd rfl hw
      · rfl
    rw [e] at q1
    rw [eq_false_of_ne_true hw]
    exact iteT q1
abbrev sPart : Stmt := top 12
theorem scPart : FnScope ["thing", "kind", "deep"] ["thing", "kind", "deep"] (defScope sPart) := ⟨rfl, rfl, rfl, by decide +kernel, rfl, by decide +kernel, by decide +kernel⟩
theorem eq_str {x y : Str} : decide (V.str x = V.str y) = decide (x = y) := by
  by_cases h : x = y
  · rw [h, decide_eq_true rfl, decide_eq_true rfl]
  · rw [decide_eq_false h, decide_eq_false fun z => h (V.str.inj z)]
theorem ok_part {k n : Nat} {nK : Addr} (F : Fun K "is_part" "is_part" sPart f fd) (GN : FnG P w K mg base CX0 k "is_name" ["thing"] (spB K TxOk isNm)) (GV : FnG P w K mg base CX0 k "is_value" ["thing"] (spB K (fun _ => True) isVal))
    (GH : ∀ m, n = m + 1 → FnG P w K mg base CX0 k "has_parts" ["thing", "kind", "deep"] (spHas K m)) (GH' : ∃ f fd, FnOk P w K mg base CX0 k f fd ["thing", "kind", "deep"] (fun _ _ _ _ => False) ∧ mg "has_parts" = some (.ref f) ∧ PySem.W.keepIn K (.ref f) = true ∧ Binds K fd ["thing", "kind", "deep"] [])
    (m_NAME_KINDS : mg "NAME_KINDS" = some (.ref nK)) (hK : ∀ H, SqT K H nK kindsV) : FnOk P w K mg base CX0 (k + 1) f fd ["thing", "kind", "deep"] (spPart K n) := by
  obtain ⟨_, _, G_is_name, m_is_name, k_is_name, b_is_name⟩ := GN
  obtain ⟨_, _, G_is_value, m_is_value, k_is_value, b_is_value⟩ := GV
  obtain ⟨sp, ⟨_, _, G_has_parts, m_has_parts, k_has_parts, b_has_parts⟩, hsp⟩ : ∃ sp, FnG P w K mg base CX0 k "has_parts" ["thing", "kind", "deep"] sp ∧ ∀ m, n = m + 1 → sp = spHas K m := by
    cases n with
    | zero => exact ⟨_, GH', fun m e => nomatch e⟩
    | succ m => exact ⟨_, GH m rfl, fun m' e => by cases e; rfl⟩
  have sc := scPart
  refine F.ok sc (fun vs H Q E h => ?_) (fun cdv A outer s H vs Q E hr h => ?_)
  · obtain ⟨x, kd, d, rfl, _⟩ := h
    rfl
  obtain ⟨x, kd, d, rfl, hd, ok, q⟩ := h
  refine ⟨_, (pss_cons (ps_if (pt_cmpR op_in_seq (pv 1) (pe_glob (v := .ref nK) (by rfl) m_NAME_KINDS rfl) (by rfl)) (pss_one (ps_ret (pe_call G_is_name (hr.mono (by omega)) (by rfl) m_is_name k_is_name b_is_name .nil pass0 (pa_cons (pv 0) pa_nil)))) pss_nil)
      (pss_cons (ps_if (pt_cmpR op_lt (pv 2) pe_int (nomark _)) (pss_one (ps_ret pe_bl)) pss_nil)
      (pss_cons (ps_if (PW.pt (pw_and (pt_cmpR op_eq (pv 1) pe_str (nomark _)) (pw_and1 (pt_val (pe_call G_is_value (hr.mono (by omega)) (by rfl) m_is_value k_is_value b_is_value .nil pass0 (pa_cons (pv 0) pa_nil)))))) (pss_one (ps_ret pe_bl)) pss_nil)
      (pss_one (ps_ret (pe_call G_has_parts (hr.mono (by omega)) (by rfl) m_has_parts k_has_parts b_has_parts .nil pass0 (pa_cons (pv 0) (pa_cons (pv 1) (pa_cons (pv 2) pa_nil))))))))), ?_⟩
  refine ⟨_, rfl, nK, kindsV, rfl, .inr (hK H), rfl, by decide, _, rfl, ite2 (fun c => ?_) (fun c => ?_)⟩
  · have c : isKd kd = true := c
    refine ⟨_, rfl, x, d, rfl, hd, ok.tx, fun H' s' => ?_⟩
    have h := q H' s'
    rw [show isPart n kd d = isNm d by cases n <;> (unfold isPart; rw [c]; rfl)] at h
    exact h
  have c : isKd kd = false := eq_false_of_ne_true c
  refine ⟨_, rfl, _, _, rfl, rfl, _, rfl, ite2 (fun c2 => ?_) (fun c2 => ?_)⟩
  · have : n = 0 := by
      have := of_decide_eq_true c2
      omega
    subst this
    have h := q H (Same.refl _)
    rw [show isPart 0 kd d = false by unfold isPart; rw [c]; rfl] at h
    exact h
  obtain ⟨m, rfl⟩ : ∃ m, n = m + 1 := by
    cases n with
    | zero => exact absurd (decide_eq_true (by decide)) c2
    | succ m => exact ⟨m, rfl⟩
  have e : isPart (m + 1) kd d = ((decide (kd = "look") && isVal d) || hasP (isPart m) kd d) := by
    show (if isKd kd then isNm d else _) = _
    rw [c]
    rfl
  have last : (decide (kd = "look") && isVal d) = false → ∀ H1, Same H H1 → spHas K m [x, .str kd, .int (m + 1 : Nat)] H1 Q E := fun h0 H1 s1 => ⟨x, kd, d, rfl, dp_same s1 _ _ hd, ok, fun H' s' => by
    have h := q H' (s1.trans s')
    rw [e, h0, Bool.false_or] at h
    exact h⟩
  refine ⟨_, rfl, rfl, _, rfl, ?_⟩
  rw [eq_str]
  refine ite2 (fun c3 => ?_) (fun c3 => iteF ⟨_, rfl, _, rfl, _, rfl, ?_⟩)
  · refine ⟨_, rfl, x, d, rfl, hd, trivial, fun H1 s1 => ⟨_, rfl, ?_⟩⟩
    by_cases c4 : isVal d = true
    · rw [c4]
      refine iteT ?_
      have h := q H1 s1
      rw [e, c3, c4] at h
      exact h
    · rw [eq_false_of_ne_true c4]
      refine iteF ⟨_, rfl, _, rfl, _, rfl, ?_⟩
      rw [hsp m rfl]
      exact last (by rw [eq_false_of_ne_true c4, Bool.and_false]) H1 s1
  · rw [hsp m rfl]
    exact last (by rw [eq_false_of_ne_true c3, Bool.false_and]) H (Same.refl _)
end
end Fd

set_option Elab.async false
set_option linter.all false
set_option maxRecDepth 100000
set_option maxHeartbeats 2000000
namespace Fd
open PySem PySem.Spec PyProof.Rows L2 RZ
section
variable {P : Program} {w : World} {K : PySem.W.Frag} {mg : Str → Option Value} {base : Heap} {f f' : Addr} {fd fd' : FuncData}
theorem ok_parts {dP nK : Addr} (DP : Df K mg "is_part" sPart ["thing", "kind", "deep"] f fd) (DH : Df K mg "has_parts" sHas ["thing", "kind", "deep"] f' fd')
    (GN : FnG P w K mg base CX0 3 "is_name" ["thing"] (spB K TxOk isNm)) (GV : FnG P w K mg base CX0 3 "is_value" ["thing"] (spB K (fun _ => True) isVal)) (GW : FnG P w K mg base CX0 3 "is_worded" ["thing"] (spB K (fun _ => True) isWd))
    (m_len : mg "len" = none) (m_all : mg "all" = none) (m_zip : mg "zip" = none) (m_PARTS : mg "PARTS" = some (.ref dP)) (hP : Fw.Parts P w K dP gP)
    (m_NAME_KINDS : mg "NAME_KINDS" = some (.ref nK)) (hK : ∀ H, SqT K H nK kindsV) : ∀ n, FnG P w K mg base CX0 (2 * n + 4) "is_part" ["thing", "kind", "deep"] (spPart K n)
  | 0 => DP.g (ok_part (k := 3) (n := 0) DP.F GN GV (fun m e => nomatch e) ⟨f', fd', ⟨fun _ _ _ _ h => h.elim, fun _ _ _ _ _ _ _ _ _ _ _ _ _ h => h.elim⟩, DH.m, DH.F.kp, DH.b⟩ m_NAME_KINDS hK)
  | n + 1 => by
    have GH := DH.g (ok_has (k := 2 * n + 4) (n := n) DH.F (GW.mono (by omega)) (ok_parts DP DH GN GV GW m_len m_all m_zip m_PARTS hP m_NAME_KINDS hK n) m_len m_all m_zip m_PARTS hP)
    exact DP.g (ok_part (k := 2 * n + 4 + 1) (n := n + 1) DP.F (GN.mono (by omega)) (GV.mono (by omega)) (fun m e => by cases e; exact GH) ⟨f', fd', ⟨fun _ _ _ _ h => h.elim, fun _ _ _ _ _ _ _ _ _ _ _ _ _ h => h.elim⟩, DH.m, DH.F.kp, DH.b⟩ m_NAME_KINDS hK)
abbrev sIsLk : Stmt := top 10
theorem scIsLk : FnScope ["thing"] ["thing"] (defScope sIsLk) := ⟨rfl, rfl, rfl, by decide +kernel, rfl, by decide +kernel, by decide +kernel⟩
theorem ok_isLk {k : Nat} {t : Tok} (F : Fun K "is_look" "is_look" sIsLk f fd) (G : FnG P w K mg base CX0 k "is_part" ["thing", "kind", "deep"] (spPart K 6)) (m_DEEPEST : mg "DEEPEST" = some (.int 6 t)) :
    FnOk P w K mg base CX0 (k + 1) f fd ["thing"] (spB K OkA (isPart 6 "look")) := by
  obtain ⟨_, _, G_is_part, m_is_part, k_is_part, b_is_part⟩ := G
  have sc := scIsLk
  refine F.ok sc (fun vs H Q E h => ?_) (fun cdv A outer s H vs Q E hr h => ?_)
  · obtain ⟨x, d, rfl, _⟩ := h
    rfl
  obtain ⟨x, d, rfl, hd, ok, q⟩ := h
  refine ⟨_, (pss_one (ps_ret (pe_call G_is_part (hr.mono (by omega)) (by rfl) m_is_part k_is_part b_is_part .nil pass0 (pa_cons (pv 0) (pa_cons pe_str (pa_cons (pe_glob (v := .int 6) (by rfl) m_DEEPEST ⟨_, rfl⟩) pa_nil)))))), ?_⟩
  exact ⟨_, rfl, x, _, d, rfl, hd, ok, q⟩
abbrev sIsTs : Stmt := top 11
theorem scIsTs : FnScope ["thing"] ["thing"] (defScope sIsTs) := ⟨rfl, rfl, rfl, by decide +kernel, rfl, by decide +kernel, by decide +kernel⟩
theorem ok_isTs {k : Nat} {t : Tok} (F : Fun K "is_test" "is_test" sIsTs f fd) (G : FnG P w K mg base CX0 k "is_part" ["thing", "kind", "deep"] (spPart K 6)) (m_DEEPEST : mg "DEEPEST" = some (.int 6 t)) :
    FnOk P w K mg base CX0 (k + 1) f fd ["thing"] (spB K OkA (isPart 6 "test")) := by
  obtain ⟨_, _, G_is_part, m_is_part, k_is_part, b_is_part⟩ := G
  have sc := scIsTs
  refine F.ok sc (fun vs H Q E h => ?_) (fun cdv A outer s H vs Q E hr h => ?_)
  · obtain ⟨x, d, rfl, _⟩ := h
    rfl
  obtain ⟨x, d, rfl, hd, ok, q⟩ := h
  refine ⟨_, (pss_one (ps_ret (pe_call G_is_part (hr.mono (by omega)) (by rfl) m_is_part k_is_part b_is_part .nil pass0 (pa_cons (pv 0) (pa_cons pe_str (pa_cons (pe_glob (v := .int 6) (by rfl) m_DEEPEST ⟨_, rfl⟩) pa_nil)))))), ?_⟩
  exact ⟨_, rfl, x, _, d, rfl, hd, ok, q⟩
end
/-! ### parts of written things -/
theorem kd_look : isKd "look" = false := by decide +kernel
theorem kd_test : isKd "test" = false := by decide +kernel
theorem part_nm {n : Nat} {k : Str} {d : PyData} (h : isKd k = true) : isPart n k d = isNm d := by
  cases n <;> (unfold isPart; rw [h]; rfl)
theorem nm_of {z : Str} (h : IsNm z) : isNm (.str z) = true := by
  show nmB z = true
  unfold nmB
  rw [decide_eq_true h.1, decide_eq_true h.2.1, Bool.true_and]
  exact List.all_eq_true.mpr fun c hc => by
    unfold azB
    rw [decide_eq_true (h.2.2 c hc).1, decide_eq_true (h.2.2 c hc).2]
    rfl
theorem look_num {n : Nat} {i : Int} : isPart (n + 1) "look" (.int i) = inB i := by
  show (if isKd "look" then _ else (decide (("look" : Str) = "look") && inB i) || false) = _
  rw [kd_look, decide_eq_true rfl, Bool.true_and, Bool.or_false]
  rfl
theorem look_tup {n : Nat} {z : Str} {r : List PyData} {ks : List Str} (h : gP ["look", z] = some ks) : isPart (n + 1) "look" (.tuple (.str z :: r)) = (decide (r.length = ks.length) && (r.zip ks).all fun p => isPart n p.2 p.1) := by
  show (if isKd "look" then _ else (decide (("look" : Str) = "look") && false) || hasP (isPart n) "look" (.tuple (.str z :: r))) = _
  rw [kd_look, Bool.and_false, Bool.false_or]
  show hasP (isPart n) "look" (.tuple (.str z :: r)) = _
  unfold hasP
  dsimp only
  rw [h]
theorem test_tup {n : Nat} {z : Str} {r : List PyData} {ks : List Str} (h : gP ["test", z] = some ks) : isPart (n + 1) "test" (.tuple (.str z :: r)) = (decide (r.length = ks.length) && (r.zip ks).all fun p => isPart n p.2 p.1) := by
  show (if isKd "test" then _ else (decide (("test" : Str) = "look") && false) || hasP (isPart n) "test" (.tuple (.str z :: r))) = _
  rw [kd_test, Bool.and_false, Bool.false_or]
  show hasP (isPart n) "test" (.tuple (.str z :: r)) = _
  unfold hasP
  dsimp only
  rw [h]
theorem look_0 {d : PyData} : isPart 0 "look" d = false := by unfold isPart; rw [kd_look]; rfl
theorem test_0 {d : PyData} : isPart 0 "test" d = false := by unfold isPart; rw [kd_test]; rfl
/-- two looks under a word -/
theorem look_two {n : Nat} {z : Str} {a b : PyData} (h : gP ["look", z] = some (["look", "look"] : List Str)) : isPart (n + 1) "look" (.tuple [.str z, a, b]) = (isPart n "look" a && isPart n "look" b) := by
  rw [look_tup h]
  show (true && (isPart n "look" a && (isPart n "look" b && true))) = _
  rw [Bool.true_and, Bool.and_true]
end Fd

set_option Elab.async false
set_option linter.all false
set_option maxRecDepth 100000
set_option maxHeartbeats 2000000
namespace Fd
open PySem PySem.Spec PyProof.Rows L2
/-! ### looks and tests written as tuples -/
def lkD : Lk → PyData
  | .num i => .int i
  | .name x => .tuple [.str "name", .str x]
  | .many x => .tuple [.str "many", .str x]
  | .item x a => .tuple [.str "item", .str x, lkD a]
  | .spot k => .tuple [.str (spotWords.getD k "")]
  | .bin o a b => .tuple [.str o.word, lkD a, lkD b]
def tsD : Ts → PyData
  | .like a b => .tuple [.str "like", lkD a, lkD b]
  | .less a b => .tuple [.str "below", lkD a, lkD b]
  | .not_ t => .tuple [.str "not", tsD t]
  | .both t u => .tuple [.str "both", tsD t, tsD u]
  | .any_ t u => .tuple [.str "any", tsD t, tsD u]
  | .meets x => .tuple [.str "meets", .str x]
/-- names are names, values in their bounds -/
def LkF : Lk → Prop
  | .num i => inB i = true
  | .name x => IsNm x
  | .many x => IsNm x
  | .item x a => IsNm x ∧ LkF a
  | .spot k => k < 4
  | .bin _ a b => LkF a ∧ LkF b
def TsF : Ts → Prop
  | .like a b => LkF a ∧ LkF b
  | .less a b => LkF a ∧ LkF b
  | .not_ t => TsF t
  | .both t u => TsF t ∧ TsF u
  | .any_ t u => TsF t ∧ TsF u
  | .meets x => IsNm x
theorem d1 {K : PySem.W.Frag} {H : Hp} {v : V} {d : PyData} (h : Dp K H v (.tuple [d])) : ∃ a x, v = .ref a ∧ SqT K H a [x] ∧ Dp K H x d := by
  cases h with | tup q r => cases r with | cons r1 r => cases r; exact ⟨_, _, rfl, q, r1⟩
theorem d2 {K : PySem.W.Frag} {H : Hp} {v : V} {d d' : PyData} (h : Dp K H v (.tuple [d, d'])) : ∃ a x y, v = .ref a ∧ SqT K H a [x, y] ∧ Dp K H x d ∧ Dp K H y d' := by
  cases h with | tup q r => cases r with | cons r1 r => cases r with | cons r2 r => cases r; exact ⟨_, _, _, rfl, q, r1, r2⟩
theorem d3 {K : PySem.W.Frag} {H : Hp} {v : V} {d d' d'' : PyData} (h : Dp K H v (.tuple [d, d', d''])) : ∃ a x y z, v = .ref a ∧ SqT K H a [x, y, z] ∧ Dp K H x d ∧ Dp K H y d' ∧ Dp K H z d'' := by
  cases h with | tup q r => cases r with | cons r1 r => cases r with | cons r2 r => cases r with | cons r3 r => cases r; exact ⟨_, _, _, _, rfl, q, r1, r2, r3⟩
theorem dpS {K : PySem.W.Frag} {H : Hp} {v : V} {x : Str} (h : Dp K H v (.str x)) : v = .str x := by cases h; rfl
/-! ### what is_look, is_test say of them -/
theorem inB_in {i : Int} (h : inB i = true) : -1000000 ≤ i ∧ i ≤ 1000000 := by
  unfold inB at h
  rw [Bool.and_eq_true] at h
  exact ⟨of_decide_eq_true h.1, of_decide_eq_true h.2⟩
theorem and_le {a b n : Nat} : (decide (a ≤ n) && decide (b ≤ n)) = decide (max a b + 1 ≤ n + 1) := by
  by_cases h1 : a ≤ n <;> by_cases h2 : b ≤ n
  · rw [decide_eq_true h1, decide_eq_true h2, decide_eq_true (by omega)]; rfl
  · rw [decide_eq_true h1, decide_eq_false h2, decide_eq_false (by omega)]; rfl
  · rw [decide_eq_false h1, Bool.false_and, decide_eq_false (show ¬ (max a b + 1 ≤ n + 1) by omega)]
  · rw [decide_eq_false h1, Bool.false_and, decide_eq_false (show ¬ (max a b + 1 ≤ n + 1) by omega)]
theorem le_le {a n : Nat} : decide (a ≤ n) = decide (a + 1 ≤ n + 1) := by
  by_cases h : a ≤ n
  · rw [decide_eq_true h, decide_eq_true (by omega)]
  · rw [decide_eq_false h, decide_eq_false (by omega)]
theorem deep_pos : ∀ L : Lk, 1 ≤ L.deep
  | .num _ => by simp [Lk.deep]
  | .name _ => by simp [Lk.deep]
  | .many _ => by simp [Lk.deep]
  | .item _ _ => by simp [Lk.deep]
  | .spot _ => by simp [Lk.deep]
  | .bin _ _ _ => by simp [Lk.deep]
theorem deepT_pos : ∀ t : Ts, 1 ≤ t.deep := fun t => by cases t <;> simp [Ts.deep]
theorem part_lk : ∀ (n : Nat) (L : Lk), LkF L → isPart n "look" (lkD L) = decide (L.deep ≤ n)
  | 0, L, _ => by rw [look_0, decide_eq_false (by have := deep_pos L; omega)]
  | n + 1, .num i, o => by
    show isPart (n + 1) "look" (.int i) = _
    rw [look_num, show inB i = true from o, decide_eq_true (by show 1 ≤ n + 1; omega)]
  | n + 1, .name x, o => by
    show isPart (n + 1) "look" (.tuple [.str "name", .str x]) = _
    rw [look_tup (ks := ["name"]) (by decide +kernel), decide_eq_true (show (Lk.name x).deep ≤ n + 1 by show 1 ≤ n + 1; omega)]
    show (true && (isPart n "name" (.str x) && true)) = _
    rw [part_nm (by decide +kernel), nm_of o]; rfl
  | n + 1, .many x, o => by
    show isPart (n + 1) "look" (.tuple [.str "many", .str x]) = _
    rw [look_tup (ks := ["list"]) (by decide +kernel), decide_eq_true (show (Lk.many x).deep ≤ n + 1 by show 1 ≤ n + 1; omega)]
    show (true && (isPart n "list" (.str x) && true)) = _
    rw [part_nm (by decide +kernel), nm_of o]; rfl
  | n + 1, .item x L, o => by
    show isPart (n + 1) "look" (.tuple [.str "item", .str x, lkD L]) = _
    rw [look_tup (ks := ["list", "look"]) (by decide +kernel)]
    show (true && (isPart n "list" (.str x) && (isPart n "look" (lkD L) && true))) = _
    rw [part_nm (by decide +kernel), nm_of o.1, part_lk n L o.2, Bool.true_and, Bool.true_and, Bool.and_true]
    exact le_le
  | n + 1, .spot k, o => by
    have o : k < 4 := o
    rw [decide_eq_true (show (Lk.spot k).deep ≤ n + 1 by show 1 ≤ n + 1; omega)]
    have : k = 0 ∨ k = 1 ∨ k = 2 ∨ k = 3 := by omega
    rcases this with rfl | rfl | rfl | rfl
    · show isPart (n + 1) "look" (.tuple [.str "x"]) = _
      rw [look_tup (ks := []) (by decide +kernel)]; rfl
    · show isPart (n + 1) "look" (.tuple [.str "y"]) = _
      rw [look_tup (ks := []) (by decide +kernel)]; rfl
    · show isPart (n + 1) "look" (.tuple [.str "way"]) = _
      rw [look_tup (ks := []) (by decide +kernel)]; rfl
    · show isPart (n + 1) "look" (.tuple [.str "number"]) = _
      rw [look_tup (ks := []) (by decide +kernel)]; rfl
  | n + 1, .bin p L M, o => by
    show isPart (n + 1) "look" (.tuple [.str p.word, lkD L, lkD M]) = _
    rw [look_two (by cases p <;> decide +kernel), part_lk n L o.1, part_lk n M o.2]
    exact and_le
theorem part_ts : ∀ (n : Nat) (t : Ts), TsF t → isPart n "test" (tsD t) = decide (t.deep ≤ n)
  | 0, t, _ => by rw [test_0, decide_eq_false (by have := deepT_pos t; omega)]
  | n + 1, .like L M, o => by
    show isPart (n + 1) "test" (.tuple [.str "like", lkD L, lkD M]) = _
    rw [test_tup (ks := ["look", "look"]) (by decide +kernel)]
    show (true && (isPart n "look" (lkD L) && (isPart n "look" (lkD M) && true))) = _
    rw [part_lk n L o.1, part_lk n M o.2, Bool.true_and, Bool.and_true]
    exact and_le
  | n + 1, .less L M, o => by
    show isPart (n + 1) "test" (.tuple [.str "below", lkD L, lkD M]) = _
    rw [test_tup (ks := ["look", "look"]) (by decide +kernel)]
    show (true && (isPart n "look" (lkD L) && (isPart n "look" (lkD M) && true))) = _
    rw [part_lk n L o.1, part_lk n M o.2, Bool.true_and, Bool.and_true]
    exact and_le
  | n + 1, .not_ t, o => by
    show isPart (n + 1) "test" (.tuple [.str "not", tsD t]) = _
    rw [test_tup (ks := ["test"]) (by decide +kernel)]
    show (true && (isPart n "test" (tsD t) && true)) = _
    rw [part_ts n t o, Bool.true_and, Bool.and_true]
    exact le_le
  | n + 1, .both t u, o => by
    show isPart (n + 1) "test" (.tuple [.str "both", tsD t, tsD u]) = _
    rw [test_tup (ks := ["test", "test"]) (by decide +kernel)]
    show (true && (isPart n "test" (tsD t) && (isPart n "test" (tsD u) && true))) = _
    rw [part_ts n t o.1, part_ts n u o.2, Bool.true_and, Bool.and_true]
    exact and_le
  | n + 1, .any_ t u, o => by
    show isPart (n + 1) "test" (.tuple [.str "any", tsD t, tsD u]) = _
    rw [test_tup (ks := ["test", "test"]) (by decide +kernel)]
    show (true && (isPart n "test" (tsD t) && (isPart n "test" (tsD u) && true))) = _
    rw [part_ts n t o.1, part_ts n u o.2, Bool.true_and, Bool.and_true]
    exact and_le
  | n + 1, .meets x, o => by
    show isPart (n + 1) "test" (.tuple [.str "meets", .str x]) = _
    rw [test_tup (ks := ["figure"]) (by decide +kernel), decide_eq_true (show (Ts.meets x).deep ≤ n + 1 by show 1 ≤ n + 1; omega)]
    show (true && (isPart n "figure" (.str x) && true)) = _
    rw [part_nm (by decide +kernel), nm_of o]; rfl
theorem okt_str {n : Nat} {x : Str} (h : IsNm x) : OkT 3 (n + 1) (.str x) := ⟨Nat.le_trans h.2.1 (by decide), fun c hc => by have := (h.2.2 c hc).2; omega⟩
theorem okt_w {n : Nat} {x : Str} (h1 : x.cps.size ≤ 8) (h2 : x.cps.all (· < 128) = true) : OkT 3 (n + 1) (.str x) :=
  ⟨Nat.le_trans h1 (by decide), fun c hc => by
    rw [Array.all_eq_true'] at h2
    exact of_decide_eq_true (h2 c (Array.mem_toList_iff.mp hc))⟩
theorem okt_1 {n : Nat} {a : PyData} (h : OkT 3 n a) : OkT 3 (n + 1) (.tuple [a]) := ⟨by show 1 ≤ 11; decide, fun d hd => by rw [List.mem_singleton.mp hd]; exact h⟩
theorem okt_2 {n : Nat} {a b : PyData} (h : OkT 3 n a) (h' : OkT 3 n b) : OkT 3 (n + 1) (.tuple [a, b]) := ⟨by show 2 ≤ 11; decide, fun d hd => by
  simp only [List.mem_cons, List.not_mem_nil, or_false] at hd
  rcases hd with rfl | rfl
  · exact h
  · exact h'⟩
theorem okt_3 {n : Nat} {a b c : PyData} (h : OkT 3 n a) (h' : OkT 3 n b) (h'' : OkT 3 n c) : OkT 3 (n + 1) (.tuple [a, b, c]) := ⟨by show 3 ≤ 11; decide, fun d hd => by
  simp only [List.mem_cons, List.not_mem_nil, or_false] at hd
  rcases hd with rfl | rfl | rfl
  · exact h
  · exact h'
  · exact h''⟩
theorem okt_lk : ∀ L : Lk, LkF L → OkT 3 (L.deep + 1) (lkD L)
  | .num i, o => by
    have := inB_in o
    show OkT 3 2 (.int i)
    exact ⟨by omega, by omega⟩
  | .name x, o => okt_2 (n := 1) (okt_w (by decide +kernel) (by decide +kernel)) (okt_str o)
  | .many x, o => okt_2 (n := 1) (okt_w (by decide +kernel) (by decide +kernel)) (okt_str o)
  | .item x L, o => okt_3 (n := L.deep + 1) (okt_w (by decide +kernel) (by decide +kernel)) (okt_str o.1) (okt_lk L o.2)
  | .spot k, o => by
    have o : k < 4 := o
    have : k = 0 ∨ k = 1 ∨ k = 2 ∨ k = 3 := by omega
    rcases this with rfl | rfl | rfl | rfl <;> exact okt_1 (n := 1) (okt_w (by decide +kernel) (by decide +kernel))
  | .bin p L M, o => okt_3 (n := max L.deep M.deep + 1) (okt_w (by cases p <;> decide +kernel) (by cases p <;> decide +kernel)) ((okt_lk L o.1).mono (Nat.le_refl _) (by omega)) ((okt_lk M o.2).mono (Nat.le_refl _) (by omega))
theorem okt_ts : ∀ t : Ts, TsF t → OkT 3 (t.deep + 1) (tsD t)
  | .like L M, o => okt_3 (n := max L.deep M.deep + 1) (okt_w (by decide +kernel) (by decide +kernel)) ((okt_lk L o.1).mono (Nat.le_refl _) (by omega)) ((okt_lk M o.2).mono (Nat.le_refl _) (by omega))
  | .less L M, o => okt_3 (n := max L.deep M.deep + 1) (okt_w (by decide +kernel) (by decide +kernel)) ((okt_lk L o.1).mono (Nat.le_refl _) (by omega)) ((okt_lk M o.2).mono (Nat.le_refl _) (by omega))
  | .not_ t, o => okt_2 (n := t.deep + 1) (okt_w (by decide +kernel) (by decide +kernel)) (okt_ts t o)
  | .both t u, o => okt_3 (n := max t.deep u.deep + 1) (okt_w (by decide +kernel) (by decide +kernel)) ((okt_ts t o.1).mono (Nat.le_refl _) (by omega)) ((okt_ts u o.2).mono (Nat.le_refl _) (by omega))
  | .any_ t u, o => okt_3 (n := max t.deep u.deep + 1) (okt_w (by decide +kernel) (by decide +kernel)) ((okt_ts t o.1).mono (Nat.le_refl _) (by omega)) ((okt_ts u o.2).mono (Nat.le_refl _) (by omega))
  | .meets x, o => okt_2 (n := 1) (okt_w (by decide +kernel) (by decide +kernel)) (okt_str o)
end Fd

set_option Elab.async false
set_option linter.all false
set_option maxRecDepth 100000
set_option maxHeartbeats 2000000
namespace Fd
open PySem PySem.Spec PyProof.Rows L2 RZ
/-! ### x in t, of any data, t a tuple -/
def rInDT (K : PySem.W.Frag) : R2 := fun x y H Q => ∃ d ds, Dp K H x d ∧ Dp K H y (.tuple ds) ∧ SeqAt.shaped d = true ∧ PyData.canLayAll0 ds = true ∧ PyData.depthAll ds ≤ 60 ∧ Q (.bl (ds.any fun z => PyData.eqv z d)) H
theorem op_inDT {X : Cx} (hu : X.A.units + 64 < cLine) : OpR X (compareOp .In) (rInDT X.K) := by
  intro pins s σ H x y v u Q I rx ry h
  obtain ⟨d, ds, hd, he, sd, se, sf, q⟩ := h
  obtain ⟨as, r1⟩ := Dp.reads I d x v hd rx
  obtain ⟨bs, r2⟩ := Dp.reads I (.tuple ds) y u he ry
  refine SeqAt.in_tuple_reads r2 r1 se (SeqAt.canLay_of_shaped sd) (Nat.lt_of_le_of_lt ?_ hu) ⟨.bl _, H, I, rfl, q⟩
  have : min (PyData.depthAll ds) d.depth ≤ 60 := Nat.le_trans (Nat.min_le_left _ _) sf
  omega
/-! ### what a block is -/
def dLst : List Fw.SP := [("move", ["look"]), ("turn", ["look"]), ("place", ["look", "look"]), ("show", []), ("hide", []), ("say", ["look"]), ("set", ["own", "look"]), ("add", ["own", "look"]), ("put", ["list", "look"]), ("drop", ["list", "look"]), ("write", ["list", "look", "look"]), ("wait", ["look"]),
  ("until", ["test"]), ("if", ["test", "block", "block"]), ("times", ["look", "block"]), ("while", ["test", "block"]), ("ever", ["block"]), ("do", ["piece", "looks"]), ("tell", ["news"]), ("await", ["news"]), ("copy", ["figure"]), ("end", []), ("stop", ["word"])]
def gD (k : Str) : Option (List Str) := (dLst.find? fun q => decide (q.1 = k)).map (·.2)
def rowB (a b : Nat) : PyData → Bool
  | .tuple ds => decide (a ≤ ds.length) && decide (ds.length ≤ b)
  | _ => false
def looksB : PyData → Bool
  | .tuple ds => decide (ds.length ≤ 2) && ds.all (isPart 6 "look")
  | _ => false
abbrev stopW : List Str := ["run", "others", "all"]
def wordB (d : PyData) : Bool := (stopW.map PyData.str).any fun z => PyData.eqv z d
def isNn : PyData → Bool | .none => true | _ => false
def dpB (f : PyData → Bool) (k : Str) (d : PyData) : Bool :=
  if decide (k = "look") = true then isPart 6 "look" d else if decide (k = "test") = true then isPart 6 "test" d else if decide (k = "block") = true then f d else if decide (k = "looks") = true then looksB d else if decide (k = "word") = true then wordB d else (decide (k = "figure") && isNn d) || isNm d
def deedB (f : PyData → Bool) : PyData → Bool
  | .tuple (.str w :: r) => match gD w with
    | none => false
    | some ks => decide (r.length = ks.length) && (r.zip ks).all fun p => dpB f p.2 p.1
  | _ => false
def innerB : Nat → PyData → Bool
  | 0, _ => false
  | n + 1, .tuple ds => decide (ds.length ≤ 8) && ds.all (deedB (innerB n))
  | _ + 1, _ => false
section
variable {P : Program} {w : World} {K : PySem.W.Frag} {mg : Str → Option Value} {base : Heap} {f : Addr} {fd : FuncData}
abbrev sRow : Stmt := top 21
theorem scRow : FnScope ["thing", "least", "most"] ["thing", "least", "most"] (defScope sRow) := ⟨rfl, rfl, rfl, by decide +kernel, rfl, by decide +kernel, by decide +kernel⟩
def spRow (K : PySem.W.Frag) : Sp := fun vs H Q _ => ∃ (x : V) (d : PyData) (a b : Nat), vs = [x, .int a, .int b] ∧ Dp K H x d ∧ Q (.bl (rowB a b d)) H
theorem ok_row {k : Nat} (F : Fun K "is_row" "is_row" sRow f fd) (m_isinstance : mg "isinstance" = none) (m_tuple : mg "tuple" = none) (m_len : mg "len" = none) : FnOk P w K mg base CX0 (k + 1) f fd ["thing", "least", "most"] (spRow K) := by
  have sc := scRow
  refine F.ok sc (fun vs H Q E h => ?_) (fun cdv A outer s H vs Q E hr h => ?_)
  · obtain ⟨x, d, a, b, rfl, _⟩ := h
    rfl
  obtain ⟨x, d, a, b, rfl, hd, q⟩ := h
  refine ⟨_, (pss_one (ps_ret (pe_and (pe_callB call_isi (by rfl) m_isinstance (by decide +kernel) (pa_cons (pv 0) (pa_cons (pe_bltn (v := .ty "tuple") (by rfl) m_tuple (by decide +kernel) rfl) pa_nil))) (pe_one (pe_chain op_le op_le (pv 1) (pe_callB call_len_seq (by rfl) m_len (by decide +kernel) (pa_cons (pv 0) pa_nil)) (pv 2)))))), ?_⟩
  refine ⟨_, rfl, _, _, _, _, _, rfl, .ty _, ty_of hd, kit_ty (kT d), _, rfl, ?_⟩
  cases d with
  | tuple ds =>
    cases hd with | @tup p xs _ ha ax =>
    have le := dpAll_len ax
    replace q : Q (.bl (decide (a ≤ ds.length) && decide (ds.length ≤ b))) H := q
    refine iteT ⟨_, rfl, _, rfl, p, xs, rfl, .inr ha, _, _, rfl, rfl, _, rfl, ite2 (fun c => ?_) (fun c => ?_)⟩
    · have c' : (a : Int) ≤ (xs.length : Nat) := of_decide_eq_true c
      refine ⟨_, rfl, _, _, rfl, rfl, ?_⟩
      rw [decide_eq_true (show a ≤ ds.length by omega), Bool.true_and] at q
      show Q (.bl (decide (((xs.length : Nat) : Int) ≤ (b : Int)))) H
      rw [show decide (((xs.length : Nat) : Int) ≤ (b : Int)) = decide (ds.length ≤ b) from by
        by_cases h : ds.length ≤ b
        · rw [decide_eq_true h, decide_eq_true (by omega)]
        · rw [decide_eq_false h, decide_eq_false (by omega)]]
      exact q
    · have c' : ¬ a ≤ ds.length := fun h => c (decide_eq_true (by omega))
      rw [decide_eq_false c', Bool.false_and] at q
      exact q
  | int i => exact iteF q
  | bool i => exact iteF q
  | none => exact iteF q
  | list _ => exact iteF q
  | str _ => exact iteF q
  | dict _ => exact iteF q
def spDP (K : PySem.W.Frag) (n : Nat) : Sp := fun vs H Q _ => ∃ (x : V) (k : Str) (d : PyData), vs = [x, .str k, .int (n + 1 : Nat)] ∧ Dp K H x d ∧ OkA d ∧ ∀ H', Same H H' → Q (.bl (dpB (innerB n) k d)) H'
def spDeed (K : PySem.W.Frag) (n : Nat) : Sp := fun vs H Q _ => ∃ (x : V) (d : PyData), vs = [x, .int (n + 1 : Nat)] ∧ Dp K H x d ∧ OkA d ∧ ∀ H', Same H H' → Q (.bl (deedB (innerB n) d)) H'
def spInner (K : PySem.W.Frag) (n : Nat) : Sp := fun vs H Q _ => ∃ (x : V) (d : PyData), vs = [x, .int (n : Nat)] ∧ Dp K H x d ∧ OkA d ∧ ∀ H', Same H H' → Q (.bl (innerB n d)) H'
abbrev sDP : Stmt := top 25
theorem scDP : FnScope ["part", "kind", "deep", "look"] ["part", "kind", "deep"] (defScope sDP) := ⟨rfl, rfl, rfl, by decide +kernel, rfl, by decide +kernel, by decide +kernel⟩
/-- all of a tuple's things asked one by one -/
theorem ok_dp {k n : Nat} {sW : Addr} {t : Tok} (F : Fun K "is_deed_part" "is_deed_part" sDP f fd) (GN : FnG P w K mg base CX0 k "is_name" ["thing"] (spB K TxOk isNm)) (GL : FnG P w K mg base CX0 k "is_look" ["thing"] (spB K OkA (isPart 6 "look"))) (GT : FnG P w K mg base CX0 k "is_test" ["thing"] (spB K OkA (isPart 6 "test")))
    (GR : FnG P w K mg base CX0 k "is_row" ["thing", "least", "most"] (spRow K)) (GI : FnG P w K mg base CX0 k "is_inner_block" ["thing", "deep"] (spInner K n)) (m_all : mg "all" = none) (m_MOST_PARAMS : mg "MOST_PARAMS" = some (.int 2 t)) (m_STOP_WORDS : mg "STOP_WORDS" = some (.ref sW)) (hW : ∀ H, SqT K H sW (stopW.map V.str)) :
    FnOk P w K mg base CX0 (k + 1) f fd ["part", "kind", "deep"] (spDP K n) := by
  obtain ⟨_, _, G_is_name, m_is_name, k_is_name, b_is_name⟩ := GN
  obtain ⟨_, _, G_is_look, m_is_look, k_is_look, b_is_look⟩ := GL
  obtain ⟨_, _, G_is_test, m_is_test, k_is_test, b_is_test⟩ := GT
  obtain ⟨_, _, G_is_row, m_is_row, k_is_row, b_is_row⟩ := GR
  obtain ⟨_, _, G_is_inner_block, m_is_inner_block, k_is_inner_block, b_is_inner_block⟩ := GI
  have sc := scDP
  refine F.ok sc (fun vs H Q E h => ?_) (fun cdv A outer s H vs Q E hr h => ?_)
  · obtain ⟨x, k, d, rfl, _⟩ := h
    rfl
  obtain ⟨x, kd, d, rfl, hd, ok, q⟩ := h
  refine ⟨_, (pss_cons (ps_if (pt_cmpR op_eq (pv 1) pe_str (nomark _)) (pss_one (ps_ret (pe_call G_is_look (hr.mono (by omega)) (by rfl) m_is_look k_is_look b_is_look .nil pass0 (pa_cons (pv 0) pa_nil)))) pss_nil)
      (pss_cons (ps_if (pt_cmpR op_eq (pv 1) pe_str (nomark _)) (pss_one (ps_ret (pe_call G_is_test (hr.mono (by omega)) (by rfl) m_is_test k_is_test b_is_test .nil pass0 (pa_cons (pv 0) pa_nil)))) pss_nil)
      (pss_cons (ps_if (pt_cmpR op_eq (pv 1) pe_str (nomark _)) (pss_one (ps_ret (pe_call G_is_inner_block (hr.mono (by omega)) (by rfl) m_is_inner_block k_is_inner_block b_is_inner_block .nil pass0 (pa_cons (pv 0) (pa_cons (pe_op op_sub (pv 2) pe_int) pa_nil))))) pss_nil)
      (pss_cons (ps_if (pt_cmpR op_eq (pv 1) pe_str (nomark _)) (pss_one (ps_ret (pe_and (pe_call G_is_row (hr.mono (by omega)) (by rfl) m_is_row k_is_row b_is_row .nil pass0 (pa_cons (pv 0) (pa_cons pe_int (pa_cons (pe_glob (v := .int 2) (by rfl) m_MOST_PARAMS ⟨_, rfl⟩) pa_nil)))) (pe_one (pe_callB (cr_all rfl) (by rfl) m_all (by decide +kernel) (pa_cons (pe_lc (own := [("look", 3)]) (by rfl) sc.nd  (pi_tup (pv 0)) (blkOk_by (own := [("look", 3)]) (N := ["part", "kind", "deep", "look"]) (sc := defScope sDP) (by decide +kernel)) (fun _ _ _ _ _ => (pg_name (i := 3) sc.nd rfl (.inl rfl))) (fun _ _ _ _ _ => pts_nil) (fun _ _ _ _ _ => (pe_call G_is_look (hr.mono (by omega)) (by rfl) m_is_look k_is_look b_is_look .nil pass0 (pa_cons (pv 3) pa_nil)))) pa_nil)))))) pss_nil)
      (pss_cons (ps_if (pt_cmpR op_eq (pv 1) pe_str (nomark _)) (pss_one (ps_ret (pe_cmpR (op_inDT hr.units) (pv 0) (pe_glob (v := .ref sW) (by rfl) m_STOP_WORDS rfl) (by rfl)))) pss_nil)
      (pss_cons (ps_if (PW.pt (pw_and (pt_cmpR op_eq (pv 1) pe_str (nomark _)) (pw_and1 (pt_cmpR op_isN (pv 0) pe_non (nomark _))))) (pss_one (ps_ret pe_bl)) pss_nil)
      (pss_one (ps_ret (pe_call G_is_name (hr.mono (by omega)) (by rfl) m_is_name k_is_name b_is_name .nil pass0 (pa_cons (pv 0) pa_nil)))))))))), ?_⟩
  unfold dpB at q
  refine ⟨_, rfl, rfl, _, rfl, ?_⟩
  rw [eq_str]
  refine ite2 (fun c => ⟨_, rfl, x, d, rfl, hd, ok, fun H' s' => ?_⟩) (fun c => ?_)
  · have h := q H' s'
    rw [if_pos c] at h
    exact h
  refine ⟨_, rfl, rfl, _, rfl, ?_⟩
  rw [eq_str]
  refine ite2 (fun c2 => ⟨_, rfl, x, d, rfl, hd, ok, fun H' s' => ?_⟩) (fun c2 => ?_)
  · have h := q H' s'
    rw [if_neg c, if_pos c2] at h
    exact h
  refine ⟨_, rfl, rfl, _, rfl, ?_⟩
  rw [eq_str]
  refine ite2 (fun c3 => ⟨_, rfl, _, rfl, _, _, rfl, rfl, x, d, congrArg (fun i => [x, V.int i]) (by show ((n + 1 : Nat) : Int) - 1 = n; omega), hd, ok, fun H' s' => ?_⟩) (fun c3 => ?_)
  · have h := q H' s'
    rw [if_neg c, if_neg c2, if_pos c3] at h
    exact h
  refine ⟨_, rfl, rfl, _, rfl, ?_⟩
  rw [eq_str]
  refine ite2 (fun c4 => ⟨_, rfl, x, d, 0, 2, rfl, hd, _, rfl, ?_⟩) (fun c4 => ?_)
  · replace q : ∀ H', Same H H' → Q (.bl (looksB d)) H' := fun H' s' => by
      have h := q H' s'
      rw [if_neg c, if_neg c2, if_neg c3, if_pos c4] at h
      exact h
    cases d with
    | tuple ds =>
      cases hd with | @tup p xs _ ha ax =>
      have le := dpAll_len ax
      show if (decide (0 ≤ ds.length) && decide (ds.length ≤ 2)) = true then _ else _
      rw [decide_eq_true (Nat.zero_le ds.length), Bool.true_and]
      replace q : ∀ H', Same H H' → Q (.bl (decide (ds.length ≤ 2) && ds.all (isPart 6 "look"))) H' := q
      refine ite2 (fun c5 => ?_) (fun c5 => ?_)
      · have okl := ok.len
        refine ⟨_, rfl, p, rfl, ⟨_, ha⟩, fun D nD => lc_it (walk_tup (xs := xs)) (fun i H' => Same H H' ∧ H' D = some (.lst (((ds.take i).map (isPart 6 "look")).map V.bl))) ⟨same_upd nD, upd_same⟩ (fun i H' _ h => seqT h.1 ha) ?_ ?_⟩
        · rintro i v H1 _ hi ⟨sm, hD⟩ ⟨rfl, ex⟩
          obtain ⟨d, ed, dx⟩ := dpAll_at (dpAll_same sm ds xs ax) ex
          refine ⟨rfl, ?_⟩
          unfold tYes
          refine iteT ⟨_, rfl, v, d, rfl, dx, ok.kid (List.mem_of_getElem? ed), fun H5 s5 => ⟨_, s5 _ _ hD, ?_, ?_, ?_⟩⟩
          · rw [List.length_map, List.length_map, List.length_take]
            exact small1000 (by omega)
          · intro b' o' h'
            rw [upd_ne (ne_of_none h' nD)]
            exact s5 _ _ (sm _ _ h')
          · rw [upd_same, List.take_succ, ed, List.map_append, List.map_append]
            rfl
        · rintro H3 ⟨sm, hD⟩
          refine ⟨D, ds.map (isPart 6 "look"), rfl, SqL.of (by rw [hD, List.take_of_length_le (by rw [le]; exact Nat.le_refl _)]), ?_⟩
          rw [all_map]
          have h := q _ sm
          rw [c5, Bool.true_and] at h
          exact h
      · have h := q H (Same.refl _)
        rw [eq_false_of_ne_true c5, Bool.false_and] at h
        exact h
    | int i => exact iteF (q H (Same.refl _))
    | bool i => exact iteF (q H (Same.refl _))
    | none => exact iteF (q H (Same.refl _))
    | list _ => exact iteF (q H (Same.refl _))
    | str _ => exact iteF (q H (Same.refl _))
    | dict _ => exact iteF (q H (Same.refl _))
  refine ⟨_, rfl, rfl, _, rfl, ?_⟩
  rw [eq_str]
  refine ite2 (fun c5 => ⟨_, rfl, d, stopW.map PyData.str, hd, .tup (hW H) (.cons (.str _) (.cons (.str _) (.cons (.str _) .nil))), ok.shaped, by decide +kernel, by decide +kernel, ?_⟩) (fun c5 => ?_)
  · have h := q H (Same.refl _)
    rw [if_neg c, if_neg c2, if_neg c3, if_neg c4, if_pos c5] at h
    exact h
  replace q : ∀ H', Same H H' → Q (.bl ((decide (kd = "figure") && isNn d) || isNm d)) H' := fun H' s' => by
    have h := q H' s'
    rw [if_neg c, if_neg c2, if_neg c3, if_neg c4, if_neg c5] at h
    exact h
  refine ⟨_, rfl, rfl, _, rfl, ?_⟩
  rw [eq_str]
  have last : (decide (kd = "figure") && isNn d) = false → spB K TxOk isNm [x] H Q E0 := fun h0 => ⟨x, d, rfl, hd, ok.tx, fun H' s' => by
    have h := q H' s'
    rw [h0, Bool.false_or] at h
    exact h⟩
  refine ite2 (fun c6 => ?_) (fun c6 => iteF ⟨_, rfl, last (by rw [eq_false_of_ne_true c6, Bool.false_and])⟩)
  refine ⟨_, rfl, rfl, _, rfl, ?_⟩
  cases d with
  | none =>
    cases hd
    refine iteT ?_
    have h := q H (Same.refl _)
    rw [c6] at h
    exact h
  | tuple ds => cases hd; exact iteF ⟨_, rfl, last (by rw [Bool.and_eq_false_iff]; exact .inr rfl)⟩
  | int i => cases hd; exact iteF ⟨_, rfl, last (by rw [Bool.and_eq_false_iff]; exact .inr rfl)⟩
  | bool i => cases hd; exact iteF ⟨_, rfl, last (by rw [Bool.and_eq_false_iff]; exact .inr rfl)⟩
  | list _ => cases hd; exact iteF ⟨_, rfl, last (by rw [Bool.and_eq_false_iff]; exact .inr rfl)⟩
  | str _ => cases hd; exact iteF ⟨_, rfl, last (by rw [Bool.and_eq_false_iff]; exact .inr rfl)⟩
  | dict _ => cases hd
end
end Fd

set_option Elab.async false
set_option linter.all false
set_option maxRecDepth 100000
set_option maxHeartbeats 2000000
namespace Fd
open PySem PySem.Spec PyProof.Rows L2 RZ
section
variable {P : Program} {w : World} {K : PySem.W.Frag} {mg : Str → Option Value} {base : Heap} {f : Addr} {fd : FuncData}
abbrev sDeed : Stmt := top 24
theorem scDeed : FnScope ["thing", "deep", "kinds", "part", "kind"] ["thing", "deep"] (defScope sDeed) := ⟨rfl, rfl, rfl, by decide +kernel, rfl, by decide +kernel, by decide +kernel⟩
theorem ok_deed {k n : Nat} {dD : Addr} (F : Fun K "is_deed" "is_deed" sDeed f fd) (GW : FnG P w K mg base CX0 k "is_worded" ["thing"] (spB K (fun _ => True) isWd)) (GP : FnG P w K mg base CX0 k "is_deed_part" ["part", "kind", "deep"] (spDP K n))
    (m_len : mg "len" = none) (m_all : mg "all" = none) (m_zip : mg "zip" = none) (m_DEEDS : mg "DEEDS" = some (.ref dD)) (hD : Fw.Deeds P w K dD gD) :
    FnOk P w K mg base CX0 (k + 1) f fd ["thing", "deep"] (spDeed K n) := by
  obtain ⟨_, _, G_is_worded, m_is_worded, k_is_worded, b_is_worded⟩ := GW
  obtain ⟨_, _, G_is_deed_part, m_is_deed_part, k_is_deed_part, b_is_deed_part⟩ := GP
  have sc := scDeed
  refine F.ok sc (fun vs H Q E h => ?_) (fun cdv A outer s H vs Q E hr h => ?_)
  · obtain ⟨x, d, rfl, _⟩ := h
    rfl
  obtain ⟨x, d, rfl, hd, ok, q⟩ := h
  refine ⟨_, (pss_cons (ps_if (pt_not (pt_val (pe_call G_is_worded (hr.mono (by omega)) (by rfl) m_is_worded k_is_worded b_is_worded .nil pass0 (pa_cons (pv 0) pa_nil)))) (pss_one (ps_ret pe_bl)) pss_nil)
      (pss_cons (ps_set (i := 2) sc.nd rfl (.inl rfl) (Fw.pe_dgetT hD (pe_glob (v := .ref dD) (by rfl) m_DEEDS rfl) (pa_cons (pe_ix ix_tup (pv 0) pe_int (fun _ _ => rfl)) pa_nil)))
      (pss_cons (ps_if (PW.pt (pw_or (pt_cmpR op_isN (pv 2) pe_non (nomark _)) (pw_or1 (pt_cmpR op_ne (pe_callB call_len_seq (by rfl) m_len (by decide +kernel) (pa_cons (pv 0) pa_nil)) (pe_op op_add (pe_callB call_len_seq (by rfl) m_len (by decide +kernel) (pa_cons (pv 2) pa_nil)) pe_int) (nomark _))))) (pss_one (ps_ret pe_bl)) pss_nil)
      (pss_one (ps_ret (pe_callB (cr_all rfl) (by rfl) m_all (by decide +kernel) (pa_cons (pe_lc (own := [("part", 3), ("kind", 4)]) (g := gTup K 2 (gCons (gName 3) (gCons (gName 4) gNil))) (by rfl) sc.nd  (pi_zipA (by rfl) m_zip (pa_cons (pe_slice sl_tup (pv 0) (po_some pe_int) po_none) (pa_cons (pv 2) pa_nil))) (blkOk_by (own := [("part", 3), ("kind", 4)]) (N := ["thing", "deep", "kinds", "part", "kind"]) (sc := defScope sDeed) (by decide +kernel)) (fun _ _ _ _ _ => (pg_tup (by rfl) (pgs_cons (pg_name (i := 3) sc.nd rfl (.inl rfl)) (pgs_cons (pg_name (i := 4) sc.nd rfl (.inl rfl)) pgs_nil)))) (fun _ _ _ _ _ => pts_nil) (fun _ _ _ _ _ => (pe_call G_is_deed_part (hr.mono (by omega)) (by rfl) m_is_deed_part k_is_deed_part b_is_deed_part .nil pass0 (pa_cons (pv 3) (pa_cons (pv 4) (pa_cons (pv 1) pa_nil)))))) pa_nil))))))), ?_⟩
  refine ⟨_, rfl, x, d, rfl, hd, trivial, fun H1 s1 => ⟨_, rfl, ?_⟩⟩
  replace hd := dp_same s1 _ _ hd
  have q1 := q H1 s1
  by_cases hw : isWd d = true
  · rw [hw]
    refine iteF ?_
    obtain ⟨z, ds, rfl⟩ : ∃ z ds, d = .tuple (.str z :: ds) := by
      unfold isWd at hw
      split at hw
      · exact ⟨_, _, rfl⟩
      · cases hw
    have okl := ok.len
    rw [List.length_cons] at okl
    cases hd with | @tup a xs _ ha ax =>
    cases ax with | @cons v vs _ _ hv hvs =>
    cases hv
    have le := dpAll_len hvs
    refine ⟨rfl, _, rfl, a, _, 0, _, rfl, rfl, ha, atI_nat (j := 0) rfl, z, rfl, fun gn => ?_, fun b zs gs hb => ?_⟩
    · refine ⟨_, rfl, rfl, _, rfl, iteT (iteT ?_)⟩
      rw [show deedB (innerB n) (.tuple (.str z :: ds)) = false by unfold deedB; dsimp only; rw [gn]] at q1
      exact q1
    · refine ⟨_, rfl, rfl, _, rfl, iteF ?_⟩
      have hq : ∀ H', Same H1 H' → Q (.bl (decide (ds.length = zs.length) && (ds.zip zs).all fun p => dpB (innerB n) p.2 p.1)) H' := fun H' s' => by
        have := q H' (s1.trans s')
        rw [show deedB (innerB n) (.tuple (.str z :: ds)) = (decide (ds.length = zs.length) && (ds.zip zs).all fun p => dpB (innerB n) p.2 p.1) by unfold deedB; dsimp only; rw [gs]] at this
        exact this
      refine ⟨_, rfl, a, _, rfl, .inr ha, _, rfl, b, _, rfl, .inr hb, _, 1, rfl, rfl, rfl, _, rfl, ite2 (fun c => ?_) (fun c => ?_)⟩
      · have h := hq _ (Same.refl _)
        rw [decide_eq_false (fun e : ds.length = zs.length => by
          rw [decide_eq_true (by rw [List.length_cons, List.length_map, le, e]; rfl)] at c
          cases c), Bool.false_and] at h
        exact h
      · have le2 : ds.length = zs.length := Decidable.byContradiction fun e => c (by
          rw [decide_eq_false (fun z => e (by
            have z : ((vs.length + 1 : Nat) : Int) = ((zs.map V.str).length : Nat) + 1 := V.int.inj z
            rw [List.length_map] at z
            omega))]
          rfl)
        refine ⟨_, rfl, 1, rfl, a, _, rfl, ha, fun z => ?_, fun e ne => ?_⟩
        · have := z.1
          rw [show HT.sIx (V.str _ :: vs).length 0 (some 1) = min 1 (V.str _ :: vs).length from HT.sIx_nat .., List.length_cons] at this
          omega
        rw [cut_tail]
        have se := same_upd (o := .tup vs) ne
        have lz : (zs.map V.str).length = zs.length := List.length_map ..
        refine ⟨_, rfl, e, b, vs, zs.map V.str, rfl, .inr ⟨SqT.of upd_same, seqT se hb, fun D nD => lc_it (walk_zipT (xs := vs) (ys := zs.map V.str) rfl) (fun i H' => Same (upd H1 e (.tup vs)) H' ∧ H' D = some (.lst ((((ds.zip zs).take i).map fun p => dpB (innerB n) p.2 p.1).map V.bl))) ⟨same_upd nD, upd_same⟩
          (fun i H' _ h => ⟨seqT h.1 (SqT.of upd_same), seqT (se.trans h.1) hb⟩) ?_ ?_⟩⟩
        · rintro i v H3 H4 hi ⟨sm, hD⟩ ⟨T, x, y, rfl, nT, rfl, ex, ey⟩
          obtain ⟨d, ed, dx⟩ := dpAll_at (dpAll_same (se.trans sm) ds vs hvs) ex
          obtain ⟨y', ez, rfl⟩ : ∃ y', zs[i]? = some y' ∧ y = .str y' := by
            replace ey : (zs.map V.str)[i]? = some y := ey
            rw [List.getElem?_map] at ey
            cases h : zs[i]? with
            | none => rw [h] at ey; cases ey
            | some u => rw [h] at ey; exact ⟨u, rfl, (Option.some.inj ey).symm⟩
          have sT := same_upd (o := .tup [x, .str y']) nT
          refine ⟨T, _, rfl, .inl (.inl upd_same), rfl, _, _, rfl, _, _, rfl, rfl, rfl, ?_⟩
          unfold tYes
          refine iteT ?_
          refine ⟨_, rfl, _, rfl, _, rfl, x, y', d, rfl, dp_same sT _ _ dx, ok.kid (List.mem_cons_of_mem _ (List.mem_of_getElem? ed)), fun H5 s5 => ⟨_, s5 _ _ (sT _ _ hD), ?_, ?_, ?_⟩⟩
          · rw [List.length_map, List.length_map, List.length_take]
            exact small1000 (by omega)
          · intro b' o' h'
            rw [upd_ne (ne_of_none h' nD)]
            exact s5 _ _ (sT _ _ (sm _ _ h'))
          · rw [upd_same, List.take_succ, show (ds.zip zs)[i]? = some (d, y') by rw [List.getElem?_zip_eq_some]; exact ⟨ed, ez⟩, List.map_append, List.map_append]
            rfl
        · rintro H3 ⟨sm, hD⟩
          refine ⟨D, (ds.zip zs).map fun p => dpB (innerB n) p.2 p.1, rfl, SqL.of (by rw [hD, List.take_of_length_le (by rw [List.length_zip, lz, le]; exact Nat.le_refl _)]), ?_⟩
          rw [all_map]
          have h := hq _ (se.trans sm)
          rw [decide_eq_true le2, Bool.true_and] at h
          exact h
  · have e : deedB (innerB n) d = false := by
      unfold deedB
      split
      · exact absurd rfl hw
      · rfl
    rw [e] at q1
    rw [eq_false_of_ne_true hw]
    exact iteT q1
abbrev sInner : Stmt := top 23
theorem scInner : FnScope ["thing", "deep", "deed"] ["thing", "deep"] (defScope sInner) := ⟨rfl, rfl, rfl, by decide +kernel, rfl, by decide +kernel, by decide +kernel⟩
theorem ok_inner {k n : Nat} {t : Tok} (F : Fun K "is_inner_block" "is_inner_block" sInner f fd) (GR : FnG P w K mg base CX0 k "is_row" ["thing", "least", "most"] (spRow K))
    (GD : ∀ m, n = m + 1 → FnG P w K mg base CX0 k "is_deed" ["thing", "deep"] (spDeed K m)) (GD' : ∃ f fd, FnOk P w K mg base CX0 k f fd ["thing", "deep"] (fun _ _ _ _ => False) ∧ mg "is_deed" = some (.ref f) ∧ PySem.W.keepIn K (.ref f) = true ∧ Binds K fd ["thing", "deep"] [])
    (m_all : mg "all" = none) (m_MOST_DEEDS : mg "MOST_DEEDS" = some (.int 8 t)) : FnOk P w K mg base CX0 (k + 1) f fd ["thing", "deep"] (spInner K n) := by
  obtain ⟨_, _, G_is_row, m_is_row, k_is_row, b_is_row⟩ := GR
  obtain ⟨sp, ⟨_, _, G_is_deed, m_is_deed, k_is_deed, b_is_deed⟩, hsp⟩ : ∃ sp, FnG P w K mg base CX0 k "is_deed" ["thing", "deep"] sp ∧ ∀ m, n = m + 1 → sp = spDeed K m := by
    cases n with
    | zero => exact ⟨_, GD', fun m e => nomatch e⟩
    | succ m => exact ⟨_, GD m rfl, fun m' e => by cases e; rfl⟩
  have sc := scInner
  refine F.ok sc (fun vs H Q E h => ?_) (fun cdv A outer s H vs Q E hr h => ?_)
  · obtain ⟨x, d, rfl, _⟩ := h
    rfl
  obtain ⟨x, d, rfl, hd, ok, q⟩ := h
  refine ⟨_, (pss_cons (ps_if (PW.pt (pw_or (pt_cmpR op_lt (pv 1) pe_int (nomark _)) (pw_or1 (pt_not (pt_val (pe_call G_is_row (hr.mono (by omega)) (by rfl) m_is_row k_is_row b_is_row .nil pass0 (pa_cons (pv 0) (pa_cons pe_int (pa_cons (pe_glob (v := .int 8) (by rfl) m_MOST_DEEDS ⟨_, rfl⟩) pa_nil))))))))) (pss_one (ps_ret pe_bl)) pss_nil)
      (pss_one (ps_ret (pe_callB (cr_all rfl) (by rfl) m_all (by decide +kernel) (pa_cons (pe_lc (own := [("deed", 2)]) (by rfl) sc.nd  (pi_tup (pv 0)) (blkOk_by (own := [("deed", 2)]) (N := ["thing", "deep", "deed"]) (sc := defScope sInner) (by decide +kernel)) (fun _ _ _ _ _ => (pg_name (i := 2) sc.nd rfl (.inl rfl))) (fun _ _ _ _ _ => pts_nil) (fun _ _ _ _ _ => (pe_call G_is_deed (hr.mono (by omega)) (by rfl) m_is_deed k_is_deed b_is_deed .nil pass0 (pa_cons (pv 2) (pa_cons (pv 1) pa_nil))))) pa_nil))))), ?_⟩
  have qH := q H (Same.refl _)
  refine ⟨_, rfl, _, _, rfl, rfl, _, rfl, ite2 (fun c => ?_) (fun c => ?_)⟩
  · have : n = 0 := by
      have := of_decide_eq_true c
      omega
    subst this
    exact iteT qH
  obtain ⟨m, rfl⟩ : ∃ m, n = m + 1 := by
    cases n with
    | zero => exact absurd (decide_eq_true (by decide)) c
    | succ m => exact ⟨m, rfl⟩
  rw [hsp m rfl] at *
  refine ⟨_, rfl, x, d, 0, 8, rfl, hd, _, rfl, ?_⟩
  cases d with
  | tuple ds =>
    cases hd with | @tup p xs _ ha ax =>
    have le := dpAll_len ax
    replace q : ∀ H', Same H H' → Q (.bl (decide (ds.length ≤ 8) && ds.all (deedB (innerB m)))) H' := q
    by_cases c5 : ds.length ≤ 8
    · rw [show rowB 0 8 (.tuple ds) = true by show (decide (0 ≤ ds.length) && decide (ds.length ≤ 8)) = true; rw [decide_eq_true (Nat.zero_le _), decide_eq_true c5]; rfl]
      refine iteF ?_
      refine ⟨_, rfl, p, rfl, ⟨_, ha⟩, fun D nD => lc_it (walk_tup (xs := xs)) (fun i H' => Same H H' ∧ H' D = some (.lst (((ds.take i).map (deedB (innerB m))).map V.bl))) ⟨same_upd nD, upd_same⟩ (fun i H' _ h => seqT h.1 ha) ?_ ?_⟩
      · rintro i v H1 _ hi ⟨sm, hD⟩ ⟨rfl, ex⟩
        obtain ⟨d, ed, dx⟩ := dpAll_at (dpAll_same sm ds xs ax) ex
        refine ⟨rfl, ?_⟩
        unfold tYes
        refine iteT ⟨_, rfl, _, rfl, v, d, rfl, dx, ok.kid (List.mem_of_getElem? ed), fun H5 s5 => ⟨_, s5 _ _ hD, ?_, ?_, ?_⟩⟩
        · rw [List.length_map, List.length_map, List.length_take]
          exact small1000 (by omega)
        · intro b' o' h'
          rw [upd_ne (ne_of_none h' nD)]
          exact s5 _ _ (sm _ _ h')
        · rw [upd_same, List.take_succ, ed, List.map_append, List.map_append]
          rfl
      · rintro H3 ⟨sm, hD⟩
        refine ⟨D, ds.map (deedB (innerB m)), rfl, SqL.of (by rw [hD, List.take_of_length_le (by rw [le]; exact Nat.le_refl _)]), ?_⟩
        rw [all_map]
        have h := q _ sm
        rw [decide_eq_true c5, Bool.true_and] at h
        exact h
    · rw [show rowB 0 8 (.tuple ds) = false by show (decide (0 ≤ ds.length) && decide (ds.length ≤ 8)) = false; rw [decide_eq_false c5, Bool.and_false]]
      refine iteT ?_
      have h := q H (Same.refl _)
      rw [decide_eq_false c5, Bool.false_and] at h
      exact h
  | int i => exact iteT qH
  | bool i => exact iteT qH
  | none => exact iteT qH
  | list _ => exact iteT qH
  | str _ => exact iteT qH
  | dict _ => exact iteT qH
abbrev sBlock : Stmt := top 22
theorem scBlock : FnScope ["thing"] ["thing"] (defScope sBlock) := ⟨rfl, rfl, rfl, by decide +kernel, rfl, by decide +kernel, by decide +kernel⟩
theorem ok_block {k : Nat} {t : Tok} (F : Fun K "is_block" "is_block" sBlock f fd) (G : FnG P w K mg base CX0 k "is_inner_block" ["thing", "deep"] (spInner K 4)) (m_DEEPEST_BLOCK : mg "DEEPEST_BLOCK" = some (.int 4 t)) :
    FnOk P w K mg base CX0 (k + 1) f fd ["thing"] (spB K OkA (innerB 4)) := by
  obtain ⟨_, _, G_is_inner_block, m_is_inner_block, k_is_inner_block, b_is_inner_block⟩ := G
  have sc := scBlock
  refine F.ok sc (fun vs H Q E h => ?_) (fun cdv A outer s H vs Q E hr h => ?_)
  · obtain ⟨x, d, rfl, _⟩ := h
    rfl
  obtain ⟨x, d, rfl, hd, ok, q⟩ := h
  refine ⟨_, (pss_one (ps_ret (pe_call G_is_inner_block (hr.mono (by omega)) (by rfl) m_is_inner_block k_is_inner_block b_is_inner_block .nil pass0 (pa_cons (pv 0) (pa_cons (pe_glob (v := .int 4) (by rfl) m_DEEPEST_BLOCK ⟨_, rfl⟩) pa_nil))))), ?_⟩
  exact ⟨_, rfl, x, d, rfl, hd, ok, q⟩
/-- the defs of plays.py that blocks are asked by -/
structure Blk (P : Program) (w : World) (K : PySem.W.Frag) (mg : Str → Option Value) (base : Heap) (fI fD fP dD sW : Addr) (dI dE dP : FuncData) : Prop where
  GN : FnG P w K mg base CX0 19 "is_name" ["thing"] (spB K TxOk isNm)
  GL : FnG P w K mg base CX0 19 "is_look" ["thing"] (spB K OkA (isPart 6 "look"))
  GT : FnG P w K mg base CX0 19 "is_test" ["thing"] (spB K OkA (isPart 6 "test"))
  GW : FnG P w K mg base CX0 19 "is_worded" ["thing"] (spB K (fun _ => True) isWd)
  GR : FnG P w K mg base CX0 19 "is_row" ["thing", "least", "most"] (spRow K)
  DI : Df K mg "is_inner_block" sInner ["thing", "deep"] fI dI
  DD : Df K mg "is_deed" sDeed ["thing", "deep"] fD dE
  DP : Df K mg "is_deed_part" sDP ["part", "kind", "deep"] fP dP
  ml : mg "len" = none
  ma : mg "all" = none
  mz : mg "zip" = none
  mD : ∃ t, mg "MOST_DEEDS" = some (.int 8 t)
  mP : ∃ t, mg "MOST_PARAMS" = some (.int 2 t)
  mS : mg "STOP_WORDS" = some (.ref sW)
  hW : ∀ H, SqT K H sW (stopW.map V.str)
  mE : mg "DEEDS" = some (.ref dD)
  hD : Fw.Deeds P w K dD gD
theorem ok_inners {fI fD fP dD sW : Addr} {dI dE dP : FuncData} (B : Blk P w K mg base fI fD fP dD sW dI dE dP) : ∀ n, FnG P w K mg base CX0 (3 * n + 20) "is_inner_block" ["thing", "deep"] (spInner K n)
  | 0 => by
    obtain ⟨t, ht⟩ := B.mD
    exact B.DI.g (ok_inner (k := 19) (n := 0) B.DI.F B.GR (fun m e => nomatch e) ⟨fD, dE, ⟨fun _ _ _ _ h => h.elim, fun _ _ _ _ _ _ _ _ _ _ _ _ _ h => h.elim⟩, B.DD.m, B.DD.F.kp, B.DD.b⟩ B.ma ht)
  | n + 1 => by
    obtain ⟨t, ht⟩ := B.mD
    obtain ⟨t', ht'⟩ := B.mP
    have GP := B.DP.g (ok_dp (k := 3 * n + 20) (n := n) B.DP.F (B.GN.mono (by omega)) (B.GL.mono (by omega)) (B.GT.mono (by omega)) (B.GR.mono (by omega)) (ok_inners B n) B.ma ht' B.mS B.hW)
    have GD := B.DD.g (ok_deed (k := 3 * n + 21) (n := n) B.DD.F (B.GW.mono (by omega)) GP B.ml B.ma B.mz B.mE B.hD)
    exact B.DI.g (ok_inner (k := 3 * n + 22) (n := n + 1) B.DI.F (B.GR.mono (by omega)) (fun m e => by cases e; exact GD) ⟨fD, dE, ⟨fun _ _ _ _ h => h.elim, fun _ _ _ _ _ _ _ _ _ _ _ _ _ h => h.elim⟩, B.DD.m, B.DD.F.kp, B.DD.b⟩ B.ma ht)
end
end Fd

set_option Elab.async false
set_option linter.all false
set_option maxRecDepth 100000
set_option maxHeartbeats 2000000
/-! d.update(e) of two dicts keyed by texts or numbers -/
namespace Fw
open PySem PySem.Spec PyProof.Rows L2
def rUpdate : V → List V → Hp → VK → Prop := fun x vs H Q => ∃ a b kvs more, x = .ref a ∧ vs = [.ref b] ∧ H a = some (.dK kvs) ∧ H b = some (.dK more) ∧ a ≠ b ∧ kvs.length + more.length ≤ sizeLine ∧ (mergeK kvs more).length ≤ sizeLine ∧ Q .non (upd H a (.dK (mergeK kvs more)))
variable {X : Cx}
theorem mt_update : MtM X "dict.update" rUpdate := by
  intro pins s σ H x vs v us Q I rx rv h
  obtain ⟨a, b, kvs, more, rfl, rfl, ha, hb, ne, sz, sz2, q⟩ := h
  cases (show v = Value.ref a from rx)
  obtain ⟨u, rfl, ru⟩ := Vals.one rv
  cases (show u = Value.ref b from ru)
  obtain ⟨_, hd, ws, rel, dd⟩ := dk_of I.hok ha
  obtain ⟨_, he, zs, rel2, dd2⟩ := dk_of I.hok hb
  refine call_meetsIn PySem.F.slot_dict_update dd.typeIs PySem.F.entry_dict_update (PySem.F.args_dict_update_2 _ _) (meets_dict_update (mixKind X.prog X.w) a b ne he) ⟨ws, zs, dd, dd2, by rw [← rel.length, ← rel2.length]; exact sz, fun h' d1 _ hs => ?_⟩
  obtain ⟨o, es, ep, ho, r⟩ := id d1
  exact ⟨.non, _, d_write (t' := s.toks) I (by rw [ha]; exact True.intro) hs ⟨o, ho⟩ (dk_new sz2 hd (rel2.merge rel) d1), rfl, q⟩
end Fw

set_option Elab.async false
set_option linter.all false
set_option maxRecDepth 100000
set_option maxHeartbeats 4000000
namespace Fd
open PySem PySem.Spec PyProof.Rows L2
section
variable {X : Cx}
/-- text * number -/
theorem op_mul_str : OpR X (binaryOp .Mult) (fun x y H Q => ∃ z n, x = .str z ∧ y = .int n ∧ MulOk z n ∧ Q (.str (Txt.mul z n)) H) := by
  intro pins s σ H x y v u Q I rx ry h
  obtain ⟨z, n, rfl, rfl, hz, q⟩ := h
  obtain ⟨t, rfl⟩ := rx
  obtain ⟨t', rfl⟩ := ry
  exact SB.mul hz fun t' tk => ⟨.str (Txt.mul z n), H, I.tok _, ⟨_, rfl⟩, q⟩
end
/-! ### words -/
/-- one to eight letters a to z -/
abbrev ltrs : Str := Str.ofString "abcdefghijklmnoprstuvwxyz"
theorem ltrs_len : ltrs.cps.toList.length = 25 := by decide +kernel
theorem ltrs_all : ∀ c ∈ ltrs.cps.toList, 97 ≤ c ∧ c ≤ 122 := by decide +kernel
theorem ltrs_nodup : ltrs.cps.toList.Nodup := by decide +kernel
def ltr (i : Nat) : Nat := ltrs.cps.toList.getD i 0
theorem ltr_at {i : Nat} (h : i < 25) : ltrs.cps.toList[i]? = some (ltr i) := by
  have h' : i < ltrs.cps.toList.length := by rw [ltrs_len]; exact h
  unfold ltr
  rw [List.getD_eq_getElem?_getD, List.getElem?_eq_getElem h']
  rfl
theorem ltr_ok {i : Nat} (h : i < 25) : 97 ≤ ltr i ∧ ltr i ≤ 122 := ltrs_all _ (List.mem_of_getElem? (ltr_at h))
theorem ltr_inj {i j : Nat} (hi : i < 25) (hj : j < 25) (e : ltr i = ltr j) : i = j := nd_ix ltrs_nodup (ltr_at hi) (by rw [e]; exact ltr_at hj)
theorem ltr_atI {i : Int} (h0 : 0 ≤ i) (h : i < 25) : atI ltrs.cps.toList i = some (ltr i.toNat) := by
  have e : i = ((i.toNat : Nat) : Int) := by omega
  rw [e]
  exact atI_nat (by rw [Int.toNat_natCast]; exact ltr_at (by omega))
theorem ltrs_fit : ltrs.length ≤ sizeLine := by decide +kernel
theorem nodup_of {α : Type} {f : Nat → α} {m : Nat} (h : ∀ i j, i < j → j < m → f i ≠ f j) : ((List.range m).map f).Nodup := by
  refine List.pairwise_iff_getElem.mpr fun i j hi hj hij => ?_
  rw [List.length_map, List.length_range] at hi hj
  rw [List.getElem_map, List.getElem_map, List.getElem_range, List.getElem_range]
  exact h i j hij hj
/-- the k-th word of one letter told k + 1 times -/
def rep (c : Nat) (k : Nat) : Str := Txt.mul ⟨#[c]⟩ ((k : Int) + 1)
theorem fold_app (c : Nat) : ∀ (n : Nat) (acc : Array Nat), ((List.replicate n (#[c] : Array Nat)).foldl (· ++ ·) acc).toList = acc.toList ++ List.replicate n c
  | 0, acc => by simp
  | n + 1, acc => by
    rw [List.replicate_succ, List.foldl_cons, fold_app c n, Array.toList_append, List.replicate_succ, List.append_assoc]
    rfl
theorem rep_codes (c k : Nat) : (rep c k).cps.toList = List.replicate (k + 1) c := by
  unfold rep Txt.mul
  rw [if_neg (by omega)]
  by_cases h : k = 0
  · subst h
    rfl
  · have e : (((k : Int) + 1 == 1) || ((⟨#[c]⟩ : Str).length == 0)) = false := by
      rw [show ((k : Int) + 1 == 1) = false from beq_eq_false_iff_ne.mpr (by omega)]
      rfl
    rw [e, if_neg Bool.false_ne_true, show ((k : Int) + 1).toNat = k + 1 by omega]
    exact (fold_app c (k + 1) #[]).trans (List.nil_append _)
theorem rep_ok {c k : Nat} (hk : k < 7) : MulOk ⟨#[c]⟩ ((k : Int) + 1) := by
  refine ⟨?_, fun _ _ => ?_, fun _ _ => ?_⟩
  · rw [decide_eq_false (by omega), decide_eq_false (by omega)]
    rfl
  · show ¬ ((1 : Int) > (2 ^ 63 - 1) / ((k : Int) + 1))
    have : k = 0 ∨ k = 1 ∨ k = 2 ∨ k = 3 ∨ k = 4 ∨ k = 5 ∨ k = 6 := by omega
    rcases this with rfl | rfl | rfl | rfl | rfl | rfl | rfl <;> decide
  · rw [show (⟨#[c]⟩ : Str).length * ((k : Int) + 1).toNat = k + 1 by show 1 * _ = _; omega]
    have : k = 0 ∨ k = 1 ∨ k = 2 ∨ k = 3 ∨ k = 4 ∨ k = 5 ∨ k = 6 := by omega
    rcases this with rfl | rfl | rfl | rfl | rfl | rfl | rfl <;> decide +kernel
theorem rep_nm {c k : Nat} (hc : 97 ≤ c ∧ c ≤ 122) (hk : k < 7) : IsNm (rep c k) := by
  have l : (rep c k).cps.size = k + 1 := by rw [← Array.length_toList, rep_codes, List.length_replicate]
  refine ⟨by omega, by omega, fun x hx => ?_⟩
  rw [rep_codes] at hx
  rw [List.eq_of_mem_replicate hx]
  exact hc
theorem rep_ne {c i j : Nat} (h : i < j) : rep c i ≠ rep c j := fun e => by
  have := congrArg (fun z : Str => z.cps.toList.length) e
  simp only [rep_codes, List.length_replicate] at this
  omega
/-- a stem with one letter put in -/
def put1 (z : Str) (at_ : Int) (c : Nat) : Str := cutS z none (some at_) ++ ⟨#[c]⟩ ++ cutS z (some at_) none
theorem put1_codes {z : Str} {n : Nat} (h : n ≤ z.length) (c : Nat) : (put1 z (n : Int) c).cps.toList = z.cps.toList.take n ++ c :: z.cps.toList.drop n := by
  have l : z.cps.toList.length = z.length := Array.length_toList
  have e1 : (cutS z none (some (n : Int))).cps.toList = z.cps.toList.take n := by
    show ((z.cps.toList.drop (HT.sIx z.length 0 none)).take (HT.sIx z.length z.length (some (n : Int)) - HT.sIx z.length 0 none)) = _
    rw [HT.sIx_none, HT.sIx_nat, Nat.min_eq_left h]
    rfl
  have e2 : (cutS z (some (n : Int)) none).cps.toList = z.cps.toList.drop n := by
    show ((z.cps.toList.drop (HT.sIx z.length 0 (some (n : Int)))).take (HT.sIx z.length z.length none - HT.sIx z.length 0 (some (n : Int)))) = _
    rw [HT.sIx_none, HT.sIx_nat, Nat.min_eq_left h]
    exact List.take_of_length_le (by rw [List.length_drop, l]; exact Nat.le_refl _)
  show ((cutS z none (some (n : Int))).cps ++ #[c] ++ (cutS z (some (n : Int)) none).cps).toList = _
  rw [Array.toList_append, Array.toList_append, e1, e2, List.append_assoc]
  rfl
theorem put1_nm {z : Str} {n c : Nat} (h : n ≤ z.length) (hz : z.length ≤ 7) (hs : ∀ x ∈ z.cps.toList, 97 ≤ x ∧ x ≤ 122) (hc : 97 ≤ c ∧ c ≤ 122) : IsNm (put1 z (n : Int) c) := by
  have l0 : z.cps.toList.length = z.length := Array.length_toList
  have l : (put1 z (n : Int) c).cps.size = z.length + 1 := by
    rw [← Array.length_toList, put1_codes h, List.length_append, List.length_cons, List.length_take, List.length_drop, l0]
    omega
  refine ⟨by omega, by omega, fun x hx => ?_⟩
  rw [put1_codes h] at hx
  rcases List.mem_append.mp hx with q | q
  · exact hs _ (List.mem_of_mem_take q)
  · rcases List.mem_cons.mp q with q | q
    · rw [q]; exact hc
    · exact hs _ (List.mem_of_mem_drop q)
theorem put1_ne {z : Str} {n c c' : Nat} (h : n ≤ z.length) (hc : c ≠ c') : put1 z (n : Int) c ≠ put1 z (n : Int) c' := fun e => by
  have q := congrArg (fun z : Str => z.cps.toList) e
  simp only [put1_codes h] at q
  exact hc (List.cons.inj (List.append_cancel_left q)).1
abbrev one (c : Nat) : Str := ⟨#[c]⟩
theorem glue1 : ∀ (cs : List Nat) (acc : Array Nat), ((cs.map one).foldl (fun acc p => acc ++ (Str.ofString "").cps ++ p.cps) acc).toList = acc.toList ++ cs
  | [], acc => by simp
  | c :: cs, acc => by
    rw [List.map_cons, List.foldl_cons, glue1 cs, Array.toList_append, Array.toList_append, show (Str.ofString "").cps.toList = [] by decide +kernel, List.append_nil, List.append_assoc]
    rfl
theorem join1 : ∀ cs : List Nat, (Txt.join (Str.ofString "") (cs.map one)).cps.toList = cs
  | [] => rfl
  | c :: cs => glue1 cs #[c]
section
variable {P : Program} {w : World} {K : PySem.W.Frag} {mg : Str → Option Value} {base : Heap} {f : Addr} {fd : FuncData}
/-! ### _law_names -/
abbrev sNames : Stmt := top 30
theorem scNames : FnScope ["_law_state", "_law_many", "_law_letters", "_law_begun", "_law_way", "_law_stem", "_law_at", "_law_k"] ["_law_state", "_law_many"] (defScope sNames) := ⟨rfl, rfl, rfl, by decide +kernel, rfl, by decide +kernel, by decide +kernel⟩
/-- nine names or more -/
def spNames : Sp := fun vs H Q _ => ∃ (a c : Addr) (n m : Nat), vs = [.ref a, .int m] ∧ Dr H a c n ∧ n + 12 ≤ 1000000 ∧ 8 ≤ m ∧ m ≤ 13 ∧
  ∀ (p : Addr) (ws : List Str) (H' : Hp), ButL [a, c] H H' → Dr H' a c (n + 12) → H p = none → p ∉ [a, c] → H' p = some (.lst (ws.map V.str)) → ws.length = m → ws.Nodup → (∀ z ∈ ws, IsNm z) → Q (.ref p) H'
theorem Dr.upd {H : Hp} {a c d : Addr} {n : Nat} {o : HO} (b : Dr H a c n) (h : d ∉ [a, c]) : Dr (upd H d o) a c n := by
  obtain ⟨t, ns, h1, h2, r⟩ := b
  exact ⟨t, ns, by rw [upd_ne (fun z => h (by rw [z]; exact List.mem_cons_self ..))]; exact h1, by rw [upd_ne (fun z => h (by rw [z]; exact List.mem_cons_of_mem _ (List.mem_singleton.mpr rfl)))]; exact h2, r⟩
theorem ButL.free {as : List Addr} {d : Addr} {H H' : Hp} (s : ButL as H H') (h : ∀ b ∈ as, ∃ u, H' b = some u) (n : H' d = none) : H d = none := by
  cases e : H d with
  | none => rfl
  | some o =>
    by_cases z : d ∈ as
    · obtain ⟨u, hu⟩ := h d z
      rw [n] at hu
      cases hu
    · rw [s d o z e] at n
      cases n
theorem ok_names {k : Nat} (F : Fun K "_law_names" "_law_names" sNames f fd) (G : FnG P w K mg base CX0 k "_law_take" ["_law_state", "_law_below"] spTake) (m_len : mg "len" = none) (m_range : mg "range" = none) :
    FnOk P w K mg base CX0 (k + 1) f fd ["_law_state", "_law_many"] spNames := by
  obtain ⟨_, _, G__law_take, m__law_take, k__law_take, b__law_take⟩ := G
  have sc := scNames
  refine F.ok sc (fun vs H Q E h => ?_) (fun cdv A outer s H vs Q E hr h => ?_)
  · obtain ⟨a, c, n, m, rfl, _⟩ := h
    rfl
  obtain ⟨a, c, n, m, rfl, hB, hn, hm, hm2, q⟩ := h
  refine ⟨_, (pss_cons (ps_asg (pe_tup (pa_cons pe_str (pa_cons (pe_call G__law_take (hr.mono (by omega)) (by rfl) m__law_take k__law_take b__law_take .nil pass0 (pa_cons (pv 0) (pa_cons pe_int pa_nil))) (pa_cons (pe_call G__law_take (hr.mono (by omega)) (by rfl) m__law_take k__law_take b__law_take .nil pass0 (pa_cons (pv 0) (pa_cons pe_int pa_nil))) pa_nil)))) (pg_tup (by rfl) (pgs_cons (pg_name (i := 2) sc.nd rfl (.inr rfl)) (pgs_cons (pg_name (i := 3) sc.nd rfl (.inr rfl)) (pgs_cons (pg_name (i := 4) sc.nd rfl (.inl rfl)) pgs_nil)))))
      (pss_cons (ps_set (i := 5) sc.nd rfl (.inr rfl) (pe_join pe_str (pe_lc (own := [("_law_k", 7)]) (by rfl) sc.nd  (pi_range1 (by rfl) m_range (pa_cons (pe_call G__law_take (hr.mono (by omega)) (by rfl) m__law_take k__law_take b__law_take .nil pass0 (pa_cons (pv 0) (pa_cons pe_int pa_nil))) pa_nil)) (blkOk_by (own := [("_law_k", 7)]) (N := ["_law_state", "_law_many", "_law_letters", "_law_begun", "_law_way", "_law_stem", "_law_at", "_law_k"]) (sc := defScope sNames) (by decide +kernel)) (fun _ _ _ _ _ => (pg_name (i := 7) sc.nd rfl (.inl rfl))) (fun _ _ _ _ _ => pts_nil) (fun _ _ _ _ _ => (pe_ix ix_str (pv 2) (pe_call G__law_take (hr.mono (by omega)) (by rfl) m__law_take k__law_take b__law_take .nil pass0 (pa_cons (pv 0) (pa_cons pe_int pa_nil))) (fun _ _ => rfl))))))
      (pss_cons (ps_if (PW.pt (pw_and (pt_cmpR op_lt (pv 1) pe_int (nomark _)) (pw_and1 (pt_cmpR op_eq (pv 4) pe_int (nomark _))))) (pss_one (ps_ret (pe_lc (own := [("_law_k", 7)]) (by rfl) sc.nd  (pi_range1 (by rfl) m_range (pa_cons (pv 1) pa_nil)) (blkOk_by (own := [("_law_k", 7)]) (N := ["_law_state", "_law_many", "_law_letters", "_law_begun", "_law_way", "_law_stem", "_law_at", "_law_k"]) (sc := defScope sNames) (by decide +kernel)) (fun _ _ _ _ _ => (pg_name (i := 7) sc.nd rfl (.inl rfl))) (fun _ _ _ _ _ => pts_nil) (fun _ _ _ _ _ => (pe_op op_mul_str (pe_ix ix_str (pv 2) (pv 3) (fun _ _ => rfl)) (pe_op op_add (pv 7) pe_int)))))) pss_nil)
      (pss_cons (ps_set (i := 6) sc.nd rfl (.inr rfl) (pe_ix ix_list (pe_lst (pa_cons pe_int (pa_cons (pe_call G__law_take (hr.mono (by omega)) (by rfl) m__law_take k__law_take b__law_take .nil pass0 (pa_cons (pv 0) (pa_cons (pe_op op_add (pe_callB call_len_str (by rfl) m_len (by decide +kernel) (pa_cons (pv 5) pa_nil)) pe_int) pa_nil))) (pa_cons (pe_callB call_len_str (by rfl) m_len (by decide +kernel) (pa_cons (pv 5) pa_nil)) pa_nil)))) (pv 4) (fun _ _ => rfl)))
      (pss_one (ps_ret (pe_lc (own := [("_law_k", 7)]) (by rfl) sc.nd  (pi_range1 (by rfl) m_range (pa_cons (pv 1) pa_nil)) (blkOk_by (own := [("_law_k", 7)]) (N := ["_law_state", "_law_many", "_law_letters", "_law_begun", "_law_way", "_law_stem", "_law_at", "_law_k"]) (sc := defScope sNames) (by decide +kernel)) (fun _ _ _ _ _ => (pg_name (i := 7) sc.nd rfl (.inl rfl))) (fun _ _ _ _ _ => pts_nil) (fun _ _ _ _ _ => (pe_op op_add_str (pe_op op_add_str (pe_slice sl_str (pv 5) po_none (po_some (pv 6))) (pe_ix ix_str (pv 2) (pe_op op_mod (pe_op op_add (pv 3) (pe_op op_mul pe_int (pv 7))) pe_int) (fun _ _ => rfl))) (pe_slice sl_str (pv 5) (po_some (pv 6)) po_none)))))))))), ?_⟩
  refine ⟨_, rfl, a, c, n, 25, rfl, hB, by omega, by decide, by decide, fun r1 H1 r10 r11 s1 B1 => ⟨_, rfl, a, c, n + 1, 3, rfl, B1, by omega, by decide, by decide, fun r2 H2 r20 r21 s2 B2 => ?_⟩⟩
  refine ⟨by show 3 ≤ sizeLine; decide, fun t nt => ⟨t, _, rfl, .inl (.inl upd_same), rfl, _, _, rfl, _, _, rfl, _, _, rfl, rfl, ?_⟩⟩
  have s3 := (s1.trans s2).trans (ButL.same (same_upd (o := .tup [.str ltrs, .int r1, .int r2]) nt))
  have B3 : Dr (upd H2 t (.tup [.str ltrs, .int r1, .int r2])) a c (n + 2) := B2.same (same_upd nt)
  refine ⟨⟨_, rfl⟩, _, rfl, a, c, n + 2, 8, rfl, B3, by omega, by decide, by decide, fun r3 H3 r30 r31 s4 B4 => ⟨r3, rfl, by omega, by omega, fun D nD => lc_it walk_range
    (fun i H' => ButL [a, c] H3 H' ∧ Dr H' a c (n + 3 + i) ∧ ∃ cs : List Nat, cs.length = i ∧ (∀ c ∈ cs, 97 ≤ c ∧ c ≤ 122) ∧ H' D = some (.lst ((cs.map one).map V.str))) ⟨ButL.same (same_upd nD), B4.same (same_upd nD), [], rfl, (by intro c hc; cases hc), upd_same⟩
    (fun _ _ _ _ => trivial) ?_ ?_⟩⟩
  · rintro i x _ H4 hi ⟨s5, B5, cs, hl, hc, hD⟩ ⟨rfl, rfl⟩
    refine ⟨rfl, ?_⟩
    unfold tYes
    refine iteT ⟨_, rfl, _, rfl, a, c, n + 3 + i, 25, rfl, B5, by omega, by decide, by decide, fun r4 H5 r40 r41 s6 B6 => ?_⟩
    have aD : D ∉ [a, c] := B4.ne nD
    have hD5 := s6 _ _ aD hD
    refine ⟨ltrs, r4, _, rfl, rfl, ltrs_fit, ltr_atI r40 r41, _, hD5, ?_, fun b o nb h => ?_, B6.upd aD, cs ++ [ltr r4.toNat], by rw [List.length_append, hl]; rfl, fun c hc' => ?_, ?_⟩
    · rw [List.length_map, List.length_map, hl]
      exact small1000 (by omega)
    · by_cases hb : b = D
      · rw [hb, nD] at h
        cases h
      · rw [upd_ne hb]
        exact s6 _ _ nb (s5 _ _ nb h)
    · rcases List.mem_append.mp hc' with z | z
      · exact hc c z
      · rw [List.mem_singleton.mp z]
        exact ltr_ok (by omega)
    · rw [upd_same, List.map_append, List.map_append]
      rfl
  rintro H4 ⟨s5, B5, cs, hl, hc, hD⟩
  have r3l : r3.toNat ≤ 7 := by omega
  refine ⟨_, D, cs.map one, rfl, rfl, .inl (SqL.of hD), ?_, ?_⟩
  · have e1 : ((cs.map one).map (·.length)).sum = cs.length := by
      clear hl hc hD
      induction cs with
      | nil => rfl
      | cons c r ih => rw [List.map_cons, List.map_cons, List.sum_cons, ih, List.length_cons]; show 1 + _ = _; omega
    rw [e1, show (Str.ofString "").length = 0 by decide +kernel, Nat.mul_zero]
    omega
  generalize hst : Txt.join (Str.ofString "") (cs.map one) = stem
  have stc : stem.cps.toList = cs := by rw [← hst]; exact join1 cs
  have stl : stem.length = r3.toNat := by rw [show stem.length = stem.cps.toList.length from Array.length_toList.symm, stc, hl]
  have sta : ∀ x ∈ stem.cps.toList, 97 ≤ x ∧ x ≤ 122 := by rw [stc]; exact hc
  have B6 : Dr H4 a c (n + 10) := B5.le (by omega)
  have s6 := (s3.trans s4).trans s5
  refine ⟨_, rfl, _, _, rfl, rfl, _, rfl, ifF (by show ¬ ((m : Nat) : Int) < 8; omega) (iteF ?_)⟩
  refine ⟨_, rfl, _, rfl, stem, rfl, Nat.le_of_lt (small1000 (by omega)), _, 1, rfl, rfl, a, c, n + 10, _, rfl, B6, by omega, by omega, by omega, fun r4 H5 r40 r41 s7 B7 => ?_⟩
  refine ⟨_, rfl, stem, rfl, Nat.le_of_lt (small1000 (by omega)), by show 3 ≤ sizeLine; decide, fun l nl => ?_⟩
  obtain ⟨na, hna, hat⟩ : ∃ na : Nat, na ≤ stem.length ∧ atI [V.int 0, V.int r4, V.int (stem.length : Nat)] r2 = some (.int (na : Int)) := by
    have : r2 = 0 ∨ r2 = 1 ∨ r2 = 2 := by omega
    rcases this with rfl | rfl | rfl
    · exact ⟨0, Nat.zero_le _, rfl⟩
    · exact ⟨r4.toNat, by omega, by rw [show ((r4.toNat : Nat) : Int) = r4 by omega]; rfl⟩
    · exact ⟨stem.length, Nat.le_refl _, rfl⟩
  refine ⟨_, rfl, l, _, r2, _, rfl, rfl, SqL.of upd_same, hat, ?_⟩
  have s8 : ButL [a, c] H4 (upd H5 l (.lst [.int 0, .int r4, .int (stem.length : Nat)])) := s7.trans (ButL.same (same_upd nl))
  have B8 : Dr (upd H5 l (.lst [.int 0, .int r4, .int (stem.length : Nat)])) a c (n + 11) := B7.same (same_upd nl)
  refine ⟨_, rfl, m, rfl, by omega, by omega, fun D2 nD2 => lc_it walk_range
    (fun i H' => ButL [a, c] (upd H5 l (.lst [.int 0, .int r4, .int (stem.length : Nat)])) H' ∧ Dr H' a c (n + 11) ∧ H' D2 = some (.lst (((List.range i).map fun k => put1 stem (na : Int) (ltr ((r1.toNat + 7 * k) % 25))).map V.str)))
    ⟨ButL.same (same_upd nD2), B8.same (same_upd nD2), upd_same⟩ (fun _ _ _ _ => trivial) ?_ ?_⟩
  · rintro i x _ H6 hi ⟨s9, B9, hD2⟩ ⟨rfl, ex⟩
    obtain rfl : x = V.int i := ex.trans (congrArg V.int (Int.zero_add _))
    have hi' : i < m := by simpa using hi
    have ei : (r1 + 7 * (i : Int)) % 25 = (((r1.toNat + 7 * i) % 25 : Nat) : Int) := by omega
    refine ⟨rfl, ?_⟩
    unfold tYes
    refine iteT ⟨_, rfl, _, rfl, na, rfl, stem, rfl, Nat.le_of_lt (small1000 (by omega)), _, rfl, _, rfl, _, rfl, 7, i, rfl, rfl, .inl ⟨by decide, by decide⟩, r1, _, rfl, rfl, _, 25, rfl, rfl, (show (0 : Int) < 25 by decide),
      ltrs, _, _, rfl, rfl, ltrs_fit, ltr_atI (by omega) (by omega), _, _, rfl, rfl, ?_, _, rfl, _, rfl, na, rfl, stem, rfl, Nat.le_of_lt (small1000 (by omega)), _, _, rfl, rfl, ?_, _, hD2, ?_, fun b o nb h => ?_, B9.upd (B8.ne nD2), ?_⟩
    · have := cutS_length stem none (some (na : Int))
      exact Nat.le_of_lt (small1000 (by show (cutS stem none (some (na : Int))).length + 1 ≤ 1000; omega))
    · have h1 := cutS_length stem none (some (na : Int))
      have h2 := cutS_length stem (some (na : Int)) none
      have h3 : (cutS stem none (some (na : Int)) ++ one (ltr ((r1 + 7 * (i : Int)) % 25).toNat)).length = (cutS stem none (some (na : Int))).length + 1 := Array.size_append
      exact Nat.le_of_lt (small1000 (by show (cutS stem none (some (na : Int)) ++ one (ltr ((r1 + 7 * (i : Int)) % 25).toNat)).length + (cutS stem (some (na : Int)) none).length ≤ 1000; omega))
    · rw [List.length_map, List.length_map, List.length_range]
      exact small1000 (by omega)
    · rw [upd_ne (fun z => by rw [z, nD2] at h; cases h)]
      exact s9 _ _ nb h
    · rw [upd_same, List.range_succ, List.map_append, List.map_append]
      show some (HO.lst (_ ++ [V.str (put1 stem (na : Int) (ltr ((r1 + 7 * (i : Int)) % 25).toNat))])) = _
      rw [ei, Int.toNat_natCast]
      rfl
  · rintro H6 ⟨s9, B9, hD2⟩
    refine q D2 _ H6 ((s6.trans s8).trans s9) (B9.le (by omega)) ((s6.trans s8).free B8.in_ nD2) (B8.ne nD2) hD2 ?_ (nodup_of fun i j h1 h2 => put1_ne hna fun z => ?_) fun z hz => ?_
    · rw [List.length_map, List.length_range, Int.toNat_natCast]
    · have := ltr_inj (Nat.mod_lt _ (by decide)) (Nat.mod_lt _ (by decide)) z
      have h2' : j < m := by simpa using h2
      omega
    · obtain ⟨i, hi, rfl⟩ := List.mem_map.mp hz
      exact put1_nm hna (by omega) sta (ltr_ok (Nat.mod_lt _ (by decide)))
end
end Fd

set_option Elab.async false
set_option linter.all false
set_option maxRecDepth 100000
set_option maxHeartbeats 2000000
namespace Fd
open PySem PySem.Spec PyProof.Rows L2 RZ
/-! ### what the law asks of a look -/
abbrev wSpot : List V := [.str "x", .str "y", .str "way", .str "number"]
abbrev wName : List V := [.str "name", .str "many"]
abbrev wBin : List V := [.str "plus", .str "minus", .str "by", .str "over", .str "rest"]
def m1 (a : PyData → Bool) : List PyData → Bool | [p] => a p | _ => false
def m2 (a b : PyData → Bool) : List PyData → Bool | [p, q] => a p && b q | _ => false
def fitsP (f : PyData → Bool) (z : Str) (r : List PyData) : Bool :=
  if inV (.str z) wSpot then r.isEmpty
  else if inV (.str z) wName then m1 isNm r
  else if z = "item" then m2 isNm f r
  else if inV (.str z) wBin then m2 f f r
  else false
def fits : Nat → PyData → Bool
  | 0, _ => false
  | n + 1, d => match d with
    | .int i => decide ((if i < 0 then -i else i) ≤ (10 : Int) ^ (6 : Int).toNat)
    | .tuple (.str z :: r) => fitsP (fits n) z r
    | _ => false
/-! ### the two agree -/
theorem part_name (n : Nat) (d : PyData) : isPart n "name" d = isNm d := by
  cases n <;> (unfold isPart; rw [show isKd "name" = true by decide +kernel]; rfl)
theorem part_list (n : Nat) (d : PyData) : isPart n "list" d = isNm d := by
  cases n <;> (unfold isPart; rw [show isKd "list" = true by decide +kernel]; rfl)
theorem gP_none {z : Str} (h : ∀ p ∈ pkL, Fw.key p ≠ (["look", z] : List Str)) : gP ["look", z] = none := by
  unfold gP
  rw [List.find?_eq_none.mpr fun p hp => by rw [decide_eq_false (h p hp)]; exact Bool.false_ne_true]
  rfl
theorem two_all {f : PyData → Bool} {g : Str → PyData → Bool} {k1 k2 : Str} {a b : PyData → Bool} (h1 : ∀ d, g k1 d = a d) (h2 : ∀ d, g k2 d = b d) (r : List PyData) :
    (decide (r.length = [k1, k2].length) && (r.zip [k1, k2]).all fun p => g p.2 p.1) = m2 a b r := by
  match r with
  | [] => rfl
  | [_] => rfl
  | [p, q] =>
    show (true && (g k1 p && (g k2 q && true))) = _
    rw [h1, h2, Bool.and_true, Bool.true_and]
    rfl
  | _ :: _ :: _ :: r =>
    show (decide (r.length + 1 + 1 + 1 = 2) && _) = false
    rw [decide_eq_false (by omega)]
    rfl
theorem one_all {g : Str → PyData → Bool} {k1 : Str} {a : PyData → Bool} (h1 : ∀ d, g k1 d = a d) (r : List PyData) :
    (decide (r.length = [k1].length) && (r.zip [k1]).all fun p => g p.2 p.1) = m1 a r := by
  match r with
  | [] => rfl
  | [p] =>
    show (true && (g k1 p && true)) = _
    rw [h1, Bool.and_true, Bool.true_and]
    rfl
  | _ :: _ :: r =>
    show (decide (r.length + 1 + 1 = 1) && _) = false
    rw [decide_eq_false (by omega)]
    rfl
theorem nil_all {g : Str → PyData → Bool} (r : List PyData) : (decide (r.length = ([] : List Str).length) && (r.zip ([] : List Str)).all fun p => g p.2 p.1) = r.isEmpty := by
  cases r with
  | nil => rfl
  | cons _ r => show (decide (r.length + 1 = 0) && _) = false; rw [decide_eq_false (by omega)]; rfl
theorem has_at {f : Str → PyData → Bool} {z : Str} {r : List PyData} {ks : List Str} (h : gP ["look", z] = some ks) : hasP f "look" (.tuple (.str z :: r)) = (decide (r.length = ks.length) && (r.zip ks).all fun p => f p.2 p.1) := by
  unfold hasP
  dsimp only
  rw [h]
theorem has_fits {f : Str → PyData → Bool} {g : PyData → Bool} (hn : ∀ d, f "name" d = isNm d) (hl : ∀ d, f "list" d = isNm d) (hk : ∀ d, f "look" d = g d) (z : Str) (r : List PyData) : hasP f "look" (.tuple (.str z :: r)) = fitsP g z r := by
  by_cases e1 : z = "x"
  · subst e1; rw [has_at (ks := []) (by decide +kernel), nil_all]; unfold fitsP; rw [if_pos (by decide +kernel)]
  by_cases e2 : z = "y"
  · subst e2; rw [has_at (ks := []) (by decide +kernel), nil_all]; unfold fitsP; rw [if_pos (by decide +kernel)]
  by_cases e3 : z = "way"
  · subst e3; rw [has_at (ks := []) (by decide +kernel), nil_all]; unfold fitsP; rw [if_pos (by decide +kernel)]
  by_cases e4 : z = "number"
  · subst e4; rw [has_at (ks := []) (by decide +kernel), nil_all]; unfold fitsP; rw [if_pos (by decide +kernel)]
  by_cases e5 : z = "name"
  · subst e5; rw [has_at (ks := ["name"]) (by decide +kernel), one_all hn]; unfold fitsP; rw [if_neg (by decide +kernel), if_pos (by decide +kernel)]
  by_cases e6 : z = "many"
  · subst e6; rw [has_at (ks := ["list"]) (by decide +kernel), one_all hl]; unfold fitsP; rw [if_neg (by decide +kernel), if_pos (by decide +kernel)]
  by_cases e7 : z = "item"
  · subst e7; rw [has_at (ks := ["list", "look"]) (by decide +kernel), two_all (f := g) hl hk]; unfold fitsP; rw [if_neg (by decide +kernel), if_neg (by decide +kernel), if_pos rfl]
  have two : ∀ y : Str, gP ["look", y] = some (["look", "look"] : List Str) → inV (.str y) wSpot = false → inV (.str y) wName = false → ¬ y = "item" → inV (.str y) wBin = true → hasP f "look" (.tuple (.str y :: r)) = fitsP g y r := fun y h1 h2 h3 h4 h5 => by
    rw [has_at h1, two_all (f := g) hk hk]
    unfold fitsP
    rw [h2, h3, h5, if_neg Bool.false_ne_true, if_neg Bool.false_ne_true, if_neg h4, if_pos rfl]
  by_cases e8 : z = "plus"
  · subst e8; exact two _ (by decide +kernel) (by decide +kernel) (by decide +kernel) (by decide +kernel) (by decide +kernel)
  by_cases e9 : z = "minus"
  · subst e9; exact two _ (by decide +kernel) (by decide +kernel) (by decide +kernel) (by decide +kernel) (by decide +kernel)
  by_cases e10 : z = "by"
  · subst e10; exact two _ (by decide +kernel) (by decide +kernel) (by decide +kernel) (by decide +kernel) (by decide +kernel)
  by_cases e11 : z = "over"
  · subst e11; exact two _ (by decide +kernel) (by decide +kernel) (by decide +kernel) (by decide +kernel) (by decide +kernel)
  by_cases e12 : z = "rest"
  · subst e12; exact two _ (by decide +kernel) (by decide +kernel) (by decide +kernel) (by decide +kernel) (by decide +kernel)
  have no : ∀ (l : List Str), (∀ y ∈ l, ¬ z = y) → inV (.str z) (l.map V.str) = false := fun l h => by
    unfold inV
    rw [List.any_map]
    refine List.any_eq_false.mpr fun y hy => ?_
    show ¬ eqV (.str y) (.str z) = true
    intro c
    have c : decide (y = z) = true := c
    exact h y hy (of_decide_eq_true c).symm
  have g0 : gP ["look", z] = none := gP_none fun p hp e => by
    unfold pkL at hp
    simp only [List.mem_cons, List.not_mem_nil, or_false] at hp
    have e' := List.cons.inj e
    have ez := (List.cons.inj e'.2).1
    have el := e'.1
    rcases hp with rfl | rfl | rfl | rfl | rfl | rfl | rfl | rfl | rfl | rfl | rfl | rfl | rfl | rfl | rfl | rfl | rfl | rfl
    all_goals first | exact absurd ez.symm (by assumption) | exact absurd el (by decide +kernel)
  rw [show hasP f "look" (.tuple (.str z :: r)) = false by unfold hasP; dsimp only; rw [g0]]
  unfold fitsP
  rw [if_neg (by rw [show wSpot = (["x", "y", "way", "number"] : List Str).map V.str from rfl, no _ (by simp [e1, e2, e3, e4])]; exact Bool.false_ne_true),
    if_neg (by rw [show wName = (["name", "many"] : List Str).map V.str from rfl, no _ (by simp [e5, e6])]; exact Bool.false_ne_true), if_neg e7,
    if_neg (by rw [show wBin = (["plus", "minus", "by", "over", "rest"] : List Str).map V.str from rfl, no _ (by simp [e8, e9, e10, e11, e12])]; exact Bool.false_ne_true)]
theorem inB_abs (i : Int) : inB i = decide ((if i < 0 then -i else i) ≤ (10 : Int) ^ (6 : Int).toNat) := by
  have e : (10 : Int) ^ (6 : Int).toNat = 1000000 := by decide
  rw [e]
  unfold inB
  by_cases h1 : -1000000 ≤ i
  · by_cases h2 : i ≤ 1000000
    · rw [decide_eq_true h1, decide_eq_true h2, decide_eq_true (by split <;> omega)]; rfl
    · rw [decide_eq_false h2, Bool.and_false, decide_eq_false (by split <;> omega)]
  · rw [decide_eq_false h1, Bool.false_and, decide_eq_false (by split <;> omega)]
theorem part_fits : ∀ (n : Nat) (d : PyData), isPart n "look" d = fits n d
  | 0, d => by unfold isPart; rw [kd_look]; rfl
  | n + 1, d => by
    have e : isPart (n + 1) "look" d = (isVal d || hasP (isPart n) "look" d) := by
      show (if isKd "look" then _ else (decide (("look" : Str) = "look") && isVal d) || _) = _
      rw [kd_look, decide_eq_true rfl, Bool.true_and]
      rfl
    rw [e]
    have ih := has_fits (f := isPart n) (g := fits n) (part_name n) (part_list n) (part_fits n)
    match d with
    | .int i =>
      show (inB i || false) = _
      rw [Bool.or_false]
      exact inB_abs i
    | .tuple [] => rfl
    | .tuple (.str z :: r) =>
      show (false || hasP (isPart n) "look" (.tuple (.str z :: r))) = fitsP (fits n) z r
      rw [Bool.false_or, ih]
    | .tuple (.int _ :: _) => rfl
    | .tuple (.bool _ :: _) => rfl
    | .tuple (.none :: _) => rfl
    | .tuple (.list _ :: _) => rfl
    | .tuple (.tuple _ :: _) => rfl
    | .tuple (.dict _ :: _) => rfl
    | .bool _ => rfl
    | .none => rfl
    | .list _ => rfl
    | .str _ => rfl
    | .dict _ => rfl
/-! ### what the law asks of a test -/
abbrev wLike : List V := [.str "like", .str "below"]
abbrev wBoth : List V := [.str "both", .str "any"]
def tfitsP (f g : PyData → Bool) (z : Str) (r : List PyData) : Bool :=
  if z = "meets" then m1 isNm r
  else if z = "not" then m1 f r
  else if inV (.str z) wLike then m2 g g r
  else if inV (.str z) wBoth then m2 f f r
  else false
def tfits : Nat → PyData → Bool
  | 0, _ => false
  | n + 1, d => match d with
    | .tuple (.str z :: r) => tfitsP (tfits n) (fits n) z r
    | _ => false
/-! ### the two agree -/
theorem part_figure (n : Nat) (d : PyData) : isPart n "figure" d = isNm d := by
  cases n <;> (unfold isPart; rw [show isKd "figure" = true by decide +kernel]; rfl)
theorem gT_none {z : Str} (h : ∀ p ∈ pkL, Fw.key p ≠ (["test", z] : List Str)) : gP ["test", z] = none := by
  unfold gP
  rw [List.find?_eq_none.mpr fun p hp => by rw [decide_eq_false (h p hp)]; exact Bool.false_ne_true]
  rfl
theorem has_atT {f : Str → PyData → Bool} {z : Str} {r : List PyData} {ks : List Str} (h : gP ["test", z] = some ks) : hasP f "test" (.tuple (.str z :: r)) = (decide (r.length = ks.length) && (r.zip ks).all fun p => f p.2 p.1) := by
  unfold hasP
  dsimp only
  rw [h]
theorem has_tfits {f : Str → PyData → Bool} {t g : PyData → Bool} (hn : ∀ d, f "figure" d = isNm d) (ht : ∀ d, f "test" d = t d) (hk : ∀ d, f "look" d = g d) (z : Str) (r : List PyData) : hasP f "test" (.tuple (.str z :: r)) = tfitsP t g z r := by
  by_cases e1 : z = "meets"
  · subst e1; rw [has_atT (ks := ["figure"]) (by decide +kernel), one_all hn]; unfold tfitsP; rw [if_pos rfl]
  by_cases e2 : z = "not"
  · subst e2; rw [has_atT (ks := ["test"]) (by decide +kernel), one_all ht]; unfold tfitsP; rw [if_neg (by decide +kernel), if_pos rfl]
  by_cases e3 : z = "like"
  · subst e3; rw [has_atT (ks := ["look", "look"]) (by decide +kernel), two_all (f := g) hk hk]; unfold tfitsP; rw [if_neg (by decide +kernel), if_neg (by decide +kernel), if_pos (by decide +kernel)]
  by_cases e4 : z = "below"
  · subst e4; rw [has_atT (ks := ["look", "look"]) (by decide +kernel), two_all (f := g) hk hk]; unfold tfitsP; rw [if_neg (by decide +kernel), if_neg (by decide +kernel), if_pos (by decide +kernel)]
  by_cases e5 : z = "both"
  · subst e5; rw [has_atT (ks := ["test", "test"]) (by decide +kernel), two_all (f := g) ht ht]; unfold tfitsP; rw [if_neg (by decide +kernel), if_neg (by decide +kernel), if_neg (by decide +kernel), if_pos (by decide +kernel)]
  by_cases e6 : z = "any"
  · subst e6; rw [has_atT (ks := ["test", "test"]) (by decide +kernel), two_all (f := g) ht ht]; unfold tfitsP; rw [if_neg (by decide +kernel), if_neg (by decide +kernel), if_neg (by decide +kernel), if_pos (by decide +kernel)]
  have no : ∀ (l : List Str), (∀ y ∈ l, ¬ z = y) → inV (.str z) (l.map V.str) = false := fun l h => by
    unfold inV
    rw [List.any_map]
    refine List.any_eq_false.mpr fun y hy => ?_
    show ¬ eqV (.str y) (.str z) = true
    intro c
    have c : decide (y = z) = true := c
    exact h y hy (of_decide_eq_true c).symm
  have g0 : gP ["test", z] = none := gT_none fun p hp e => by
    unfold pkL at hp
    simp only [List.mem_cons, List.not_mem_nil, or_false] at hp
    have e' := List.cons.inj e
    have ez := (List.cons.inj e'.2).1
    have el := e'.1
    rcases hp with rfl | rfl | rfl | rfl | rfl | rfl | rfl | rfl | rfl | rfl | rfl | rfl | rfl | rfl | rfl | rfl | rfl | rfl
    all_goals first | exact absurd ez.symm (by assumption) | exact absurd el (by decide +kernel)
  rw [show hasP f "test" (.tuple (.str z :: r)) = false by unfold hasP; dsimp only; rw [g0]]
  unfold tfitsP
  rw [if_neg e1, if_neg e2, if_neg (by rw [show wLike = (["like", "below"] : List Str).map V.str from rfl, no _ (by simp [e3, e4])]; exact Bool.false_ne_true),
    if_neg (by rw [show wBoth = (["both", "any"] : List Str).map V.str from rfl, no _ (by simp [e5, e6])]; exact Bool.false_ne_true)]
theorem part_tfits : ∀ (n : Nat) (d : PyData), isPart n "test" d = tfits n d
  | 0, d => by unfold isPart; rw [kd_test]; rfl
  | n + 1, d => by
    have e : isPart (n + 1) "test" d = hasP (isPart n) "test" d := by
      show (if isKd "test" then _ else (decide (("test" : Str) = "look") && isVal d) || _) = _
      rw [kd_test, decide_eq_false (by decide +kernel), Bool.false_and, Bool.false_or]
      rfl
    rw [e]
    have ih := has_tfits (f := isPart n) (t := tfits n) (g := fits n) (part_figure n) (part_tfits n) (part_fits n)
    match d with
    | .int i => rfl
    | .tuple [] => rfl
    | .tuple (.str z :: r) =>
      show hasP (isPart n) "test" (.tuple (.str z :: r)) = tfitsP (tfits n) (fits n) z r
      rw [ih]
    | .tuple (.int _ :: _) => rfl
    | .tuple (.bool _ :: _) => rfl
    | .tuple (.none :: _) => rfl
    | .tuple (.list _ :: _) => rfl
    | .tuple (.tuple _ :: _) => rfl
    | .tuple (.dict _ :: _) => rfl
    | .bool _ => rfl
    | .none => rfl
    | .list _ => rfl
    | .str _ => rfl
    | .dict _ => rfl
end Fd

set_option Elab.async false
set_option linter.all false
set_option maxRecDepth 100000
set_option maxHeartbeats 2000000
namespace Fd
open PySem PySem.Spec PyProof.Rows L2 RZ
def azS : Str := Str.ofString "abcdefghijklmnopqrstuvwxyz"
theorem azS_is : azS.cps.toList = List.range' 97 26 := by decide +kernel
theorem in_az (c : Nat) : (!(Builtin.Str.occurrences (Str.ofString "abcdefghijklmnopqrstuvwxyz") ⟨#[c]⟩ 0 (Str.ofString "abcdefghijklmnopqrstuvwxyz").length 1).isEmpty) = azB c := by
  have h := StrLaws.found_one azS c
  rw [show azB c = decide (c ∈ azS.cps.toList) by
    rw [azS_is]
    unfold azB
    by_cases h1 : 97 ≤ c
    · by_cases h2 : c ≤ 122
      · rw [decide_eq_true h1, decide_eq_true h2, decide_eq_true (List.mem_range'_1.mpr ⟨h1, by omega⟩)]; rfl
      · rw [decide_eq_false h2, Bool.and_false, decide_eq_false fun z => h2 (by have := (List.mem_range'_1.mp z).2; omega)]
    · rw [decide_eq_false h1, Bool.false_and, decide_eq_false fun z => h1 (List.mem_range'_1.mp z).1]]
  exact h
/-! ### lists of truths, piece by piece -/
def AccB (D : Addr) (H : Hp) (g : PyData → Bool) (ds : List PyData) (i : Nat) (H' : Hp) : Prop := Same H H' ∧ H' D = some (.lst (((ds.take i).map g).map V.bl))
theorem AccB.zero {D : Addr} {H : Hp} {g : PyData → Bool} {ds : List PyData} (n : H D = none) : AccB D H g ds 0 (upd H D (.lst [])) := ⟨same_upd n, upd_same⟩
theorem AccB.step {D : Addr} {H H1 H5 : Hp} {g : PyData → Bool} {ds : List PyData} {i : Nat} {d : PyData} (h : AccB D H g ds i H1) (nD : H D = none) (s5 : Same H1 H5) (ed : ds[i]? = some d) (hl : ds.length ≤ 1000) :
    ∃ acc, H5 D = some (.lst acc) ∧ acc.length < sizeLine ∧ AccB D H g ds (i + 1) (upd H5 D (.lst (acc ++ [.bl (g d)]))) := by
  refine ⟨_, s5 _ _ h.2, ?_, fun b o hb => ?_, ?_⟩
  · rw [List.length_map, List.length_map, List.length_take]
    exact small1000 (by omega)
  · rw [upd_ne (ne_of_none hb nD)]
    exact s5 _ _ (h.1 _ _ hb)
  · rw [upd_same, List.take_succ, ed, List.map_append, List.map_append]
    rfl
theorem AccB.fin {D : Addr} {H H' : Hp} {g : PyData → Bool} {ds : List PyData} {n : Nat} (h : AccB D H g ds n H') (hn : ds.length ≤ n) : H' D = some (.lst ((ds.map g).map V.bl)) := by rw [h.2, List.take_of_length_le hn]
theorem cut_from (xs : List V) (m : Nat) : cutV xs (some (m : Int)) none = xs.drop m := by
  unfold cutV
  rw [HT.sIx_nat, HT.sIx_none]
  by_cases h : m ≤ xs.length
  · rw [Nat.min_eq_left h]
    exact List.take_of_length_le (by rw [List.length_drop]; omega)
  · rw [Nat.min_eq_right (by omega), List.drop_eq_nil_of_le (Nat.le_refl _), List.drop_eq_nil_of_le (by omega), List.take_nil]
theorem cut_whole {xs : List V} {lo hi : Option Int} (h : HT.sIx xs.length 0 lo = 0 ∧ HT.sIx xs.length xs.length hi = xs.length) : cutV xs lo hi = xs := by
  unfold cutV
  rw [h.1, h.2]
  exact List.take_of_length_le (by rw [List.length_drop]; omega)
theorem slA0 {K : PySem.W.Frag} {H : Hp} {t : Addr} {xs : List V} {lo hi : Option Int} {Q : VK} (ha : SqT K H t xs) (h : ∀ p H2, Same H H2 → SqT K H2 p (cutV xs lo hi) → Q (.ref p) H2) : rSlA K (.ref t) lo hi H Q :=
  ⟨t, xs, rfl, ha, fun z => h t H (Same.refl _) (by rw [cut_whole z]; exact ha), fun _ p np => h p _ (same_upd np) (SqT.of upd_same)⟩
def whB (lo hi : Int) : PyData → Bool
  | .int i => decide (lo ≤ i) && decide (i ≤ hi)
  | _ => false
section
variable {P : Program} {w : World} {K : PySem.W.Frag} {mg : Str → Option Value} {base : Heap} {f : Addr} {fd : FuncData}
def spWh (K : PySem.W.Frag) : Sp := fun vs H Q _ => ∃ (x : V) (lo hi : Int) (d : PyData), vs = [x, .int lo, .int hi] ∧ Dp K H x d ∧ ∀ H', Same H H' → Q (.bl (whB lo hi d)) H'
abbrev sWh : Stmt := top 39
theorem scWh : FnScope ["_law_stuff", "_law_low", "_law_high"] ["_law_stuff", "_law_low", "_law_high"] (defScope sWh) := ⟨rfl, rfl, rfl, by decide +kernel, rfl, by decide +kernel, by decide +kernel⟩
theorem ok_wh {k : Nat} (F : Fun K "_law_whole" "_law_whole" sWh f fd) (m_isinstance : mg "isinstance" = none) (m_int : mg "int" = none) (m_bool : mg "bool" = none) :
    FnOk P w K mg base CX0 (k + 1) f fd ["_law_stuff", "_law_low", "_law_high"] (spWh K) := by
  have sc := scWh
  refine F.ok sc (fun vs H Q E h => ?_) (fun cdv A outer s H vs Q E hr h => ?_)
  · obtain ⟨x, lo, hi, d, rfl, _⟩ := h
    rfl
  obtain ⟨x, lo, hi, d, rfl, hd, q⟩ := h
  refine ⟨_, (pss_one (ps_ret (pe_and (pe_callB call_isi (by rfl) m_isinstance (by decide +kernel) (pa_cons (pv 0) (pa_cons (pe_bltn (v := .ty "int") (by rfl) m_int (by decide +kernel) rfl) pa_nil))) (pe_and (pe_not (pe_callB call_isi (by rfl) m_isinstance (by decide +kernel) (pa_cons (pv 0) (pa_cons (pe_bltn (v := .ty "bool") (by rfl) m_bool (by decide +kernel) rfl) pa_nil)))) (pe_one (pe_chain op_le op_le (pv 1) (pv 0) (pv 2))))))), ?_⟩
  have qH := q H (Same.refl _)
  refine ⟨_, rfl, _, _, _, _, _, rfl, .ty _, ty_of hd, kit_ty (kI d), _, rfl, ?_⟩
  cases d with
  | int i =>
    refine iteT ⟨_, rfl, _, _, _, _, _, rfl, .ty _, ty_of hd, kit_ty (kB (.int i)), _, rfl, _, rfl, iteT ?_⟩
    cases hd
    refine ⟨_, rfl, _, rfl, _, _, rfl, rfl, _, rfl, ?_⟩
    replace qH : Q (.bl (decide (lo ≤ i) && decide (i ≤ hi))) H := qH
    refine ite2 (fun c => ?_) (fun c => ?_)
    · rw [show decide (lo ≤ i) = true from c] at qH
      exact ⟨_, rfl, _, _, rfl, rfl, qH⟩
    · rw [show decide (lo ≤ i) = false from eq_false_of_ne_true c] at qH
      exact qH
  | bool b => exact iteT ⟨_, rfl, _, _, _, _, _, rfl, .ty _, ty_of hd, kit_ty (kB (.bool b)), _, rfl, _, rfl, iteF qH⟩
  | none => exact iteF qH
  | list _ => exact iteF qH
  | tuple _ => exact iteF qH
  | str _ => exact iteF qH
  | dict _ => cases hd
abbrev sLName : Stmt := top 40
theorem scLName : FnScope ["_law_stuff", "_law_sign"] ["_law_stuff"] (defScope sLName) := ⟨rfl, rfl, rfl, by decide +kernel, rfl, by decide +kernel, by decide +kernel⟩
theorem ok_lName {k : Nat} (F : Fun K "_law_is_name" "_law_is_name" sLName f fd) (m_isinstance : mg "isinstance" = none) (m_str : mg "str" = none) (m_len : mg "len" = none) (m_all : mg "all" = none) :
    FnOk P w K mg base CX0 (k + 1) f fd ["_law_stuff"] (spB K TxOk isNm) := by
  have sc := scLName
  refine F.ok sc (fun vs H Q E h => ?_) (fun cdv A outer s H vs Q E hr h => ?_)
  · obtain ⟨x, d, rfl, _⟩ := h
    rfl
  obtain ⟨x, d, rfl, hd, ok, q⟩ := h
  refine ⟨_, (pss_cons (ps_if (PW.pt (pw_or (pt_not (pt_val (pe_callB call_isi (by rfl) m_isinstance (by decide +kernel) (pa_cons (pv 0) (pa_cons (pe_bltn (v := .ty "str") (by rfl) m_str (by decide +kernel) rfl) pa_nil))))) (pw_or1 (pt_not (pt_chain op_le op_le pe_int (pe_callB call_len_str (by rfl) m_len (by decide +kernel) (pa_cons (pv 0) pa_nil)) pe_int))))) (pss_one (ps_ret pe_bl)) pss_nil)
      (pss_one (ps_ret (pe_callB (cr_all rfl) (by rfl) m_all (by decide +kernel) (pa_cons (pe_lc (own := [("_law_sign", 1)]) (by rfl) sc.nd  (pi_str (pv 0)) (blkOk_by (own := [("_law_sign", 1)]) (N := ["_law_stuff", "_law_sign"]) (sc := defScope sLName) (by decide +kernel)) (fun _ _ _ _ _ => (pg_name (i := 1) sc.nd rfl (.inl rfl))) (fun _ _ _ _ _ => pts_nil) (fun _ _ _ _ _ => (pe_cmpR op_in_str (pv 1) pe_str (by rfl)))) pa_nil))))), ?_⟩
  refine ⟨_, rfl, _, _, _, _, _, rfl, .ty _, ty_of hd, kit_ty (kS d), _, rfl, ?_⟩
  have qH := q H (Same.refl _)
  cases d with
  | str z =>
    cases hd
    refine iteF ?_
    refine ⟨_, rfl, z, rfl, ok, 1, _, rfl, rfl, _, rfl, ite2 (fun c1 => ?_) (fun c1 => ?_)⟩
    · refine ⟨_, _, rfl, rfl, _, rfl, ?_⟩
      by_cases c2 : z.cps.size ≤ 8
      · have e2 : decide ((z.length : Int) ≤ 8) = true := decide_eq_true (by show (z.cps.size : Int) ≤ 8; omega)
        have c1' : 1 ≤ z.cps.size := by
          have := of_decide_eq_true c1
          have : (1 : Int) ≤ (z.cps.size : Nat) := this
          omega
        rw [e2]
        refine iteF ?_
        refine ⟨_, rfl, z, rfl, fun D nD => lc_it (walk_str (z := z)) (fun i H' => Same H H' ∧ H' D = some (.lst (((z.cps.toList.take i).map azB).map V.bl))) ⟨same_upd nD, upd_same⟩ (fun i H' _ _ => trivial) ?_ ?_⟩
        · rintro i v H1 H2 hi ⟨sm, hD⟩ ⟨rfl, c, hc, rfl⟩
          refine ⟨rfl, ?_⟩
          unfold tYes
          refine iteT ?_
          have fin : ∀ H1 : Hp, Same H H1 → H1 D = some (.lst (((z.cps.toList.take i).map azB).map V.bl)) → ∃ acc, H1 D = some (.lst acc) ∧ acc.length < sizeLine ∧ (Same H (upd H1 D (.lst (acc ++ [V.bl (azB c)]))) ∧ (upd H1 D (.lst (acc ++ [V.bl (azB c)]))) D = some (.lst (((z.cps.toList.take (i + 1)).map azB).map V.bl))) := fun H1 sm hD => by
            refine ⟨_, hD, ?_, fun b o h => ?_, ?_⟩
            · rw [List.length_map, List.length_map, List.length_take]
              exact Nat.lt_of_le_of_lt (Nat.min_le_left _ _) (Nat.lt_of_lt_of_le (Nat.lt_of_lt_of_le hi c2) (by decide))
            · rw [upd_ne (ne_of_none h nD)]
              exact sm _ _ h
            · rw [upd_same, List.take_succ, show z.cps.toList[i]? = some c by rw [← hc, Array.getElem?_toList], List.map_append, List.map_append]
              rfl
          refine ⟨_, rfl, _, _, rfl, rfl, ?_⟩
          show ∃ acc, _ ∧ _ ∧ _
          rw [in_az]
          exact fin _ sm hD
        · rintro H1 ⟨sm, hD⟩
          refine ⟨D, z.cps.toList.map azB, rfl, SqL.of (by rw [hD, List.take_of_length_le (by rw [Array.length_toList]; exact Nat.le_refl _)]), ?_⟩
          rw [all_map]
          have := q _ sm
          rw [show isNm (.str z) = z.cps.toList.all azB by show nmB z = _; unfold nmB; rw [decide_eq_true c1', decide_eq_true c2]; rfl] at this
          exact this
      · have e2 : decide ((z.length : Int) ≤ 8) = false := decide_eq_false (by show ¬ (z.cps.size : Int) ≤ 8; omega)
        rw [e2]
        refine iteT ?_
        rw [show isNm (.str z) = false by show nmB z = _; unfold nmB; rw [decide_eq_false c2, Bool.and_false, Bool.false_and]] at qH
        exact qH
    · have c1' : ¬ 1 ≤ z.cps.size := fun h => c1 (decide_eq_true (by show (1 : Int) ≤ (z.cps.size : Nat); omega))
      refine ⟨_, rfl, iteT ?_⟩
      rw [show isNm (.str z) = false by show nmB z = _; unfold nmB; rw [decide_eq_false c1', Bool.false_and, Bool.false_and]] at qH
      exact qH
  | int i => exact iteT (iteT qH)
  | bool i => exact iteT (iteT qH)
  | none => exact iteT (iteT qH)
  | list _ => exact iteT (iteT qH)
  | tuple _ => exact iteT (iteT qH)
  | dict _ => exact iteT (iteT qH)
end
end Fd

set_option Elab.async false
set_option linter.all false
set_option maxRecDepth 100000
set_option maxHeartbeats 2000000
namespace Fd
open PySem PySem.Spec PyProof.Rows L2 RZ
abbrev wNmi : List V := [.str "name", .str "many", .str "item"]
theorem p6' : (10 : Int) ^ (6 : Int).toNat = 1000000 := by decide
theorem lkn {n : Nat} {d : PyData} (h : isT d = false) : fits n d = (whB (0 - (10 : Int) ^ (6 : Int).toNat) ((10 : Int) ^ (6 : Int).toNat) d && decide (0 < (n : Int))) := by
  cases n with
  | zero => show false = _; rw [show decide (0 < ((0 : Nat) : Int)) = false by decide, Bool.and_false]
  | succ n =>
    rw [decide_eq_true (show (0 : Int) < ((n + 1 : Nat) : Int) by omega), Bool.and_true]
    cases d with
    | int i =>
      show decide ((if i < 0 then -i else i) ≤ (10 : Int) ^ (6 : Int).toNat) = (decide (0 - (10 : Int) ^ (6 : Int).toNat ≤ i) && decide (i ≤ (10 : Int) ^ (6 : Int).toNat))
      rw [p6', ← Bool.decide_and]
      by_cases c : i < 0
      · rw [if_pos c]
        by_cases c2 : -i ≤ 1000000
        · rw [decide_eq_true c2, decide_eq_true (by omega)]
        · rw [decide_eq_false c2, decide_eq_false (by omega)]
      · rw [if_neg c]
        by_cases c2 : i ≤ 1000000
        · rw [decide_eq_true c2, decide_eq_true (by omega)]
        · rw [decide_eq_false c2, decide_eq_false (by omega)]
    | tuple _ => cases h
    | _ => rfl
theorem nmi_fits {f : PyData → Bool} {z : Str} {d1 : PyData} {r1 : List PyData} {k : Nat} (hk : (if z = "item" then 2 else 1) = k) (c1 : inV (.str z) wSpot = false) (c : inV (.str z) wNmi = true) :
    fitsP f z (d1 :: r1) = (decide (r1.length + 1 = k) && (isNm d1 && r1.all f)) := by
  unfold fitsP
  rw [c1, if_neg Bool.false_ne_true]
  by_cases e : z = "item"
  · subst e
    rw [if_neg (by decide +kernel), if_pos rfl, ← hk, if_pos rfl]
    match r1 with
    | [] => rfl
    | [d] => show (isNm d1 && f d) = _; rw [show decide ([d].length + 1 = 2) = true from rfl, List.all_cons, List.all_nil, Bool.true_and, Bool.and_true]
    | d :: d' :: r => show false = _; rw [decide_eq_false (by rw [List.length_cons, List.length_cons]; omega)]; rfl
  · have c' : inV (.str z) wName = true := by
      unfold inV at c ⊢
      simp only [List.any_cons, List.any_nil, Bool.or_false, Bool.or_eq_true] at c ⊢
      rcases c with c | c | c
      · exact .inl c
      · exact .inr c
      · exact absurd (of_decide_eq_true (show decide ((Str.ofString "item") = z) = true from c)).symm e
    rw [c', if_pos rfl, ← hk, if_neg e]
    match r1 with
    | [] => show isNm d1 = _; rw [show decide (([] : List PyData).length + 1 = 1) = true from rfl, List.all_nil, Bool.true_and, Bool.and_true]
    | d :: r => show false = _; rw [decide_eq_false (by rw [List.length_cons]; omega)]; rfl
theorem nmi_nil {f : PyData → Bool} {z : Str} (c1 : inV (.str z) wSpot = false) (c : inV (.str z) wNmi = true) : fitsP f z [] = false := by
  unfold fitsP
  rw [c1, if_neg Bool.false_ne_true]
  split
  · rfl
  · split
    · rfl
    · split <;> rfl
theorem no_nmi {f : PyData → Bool} {z : Str} {r : List PyData} (c1 : inV (.str z) wSpot = false) (c : inV (.str z) wNmi = false) : fitsP f z r = if inV (.str z) wBin then m2 f f r else false := by
  unfold fitsP
  have a : inV (.str z) wName = false := by
    unfold inV at c ⊢
    simp only [List.any_cons, List.any_nil, Bool.or_false, Bool.or_eq_false_iff] at c ⊢
    exact ⟨c.1, c.2.1⟩
  have b : ¬ z = "item" := fun e => by
    subst e
    exact absurd c (by decide +kernel)
  rw [c1, a, if_neg Bool.false_ne_true, if_neg Bool.false_ne_true, if_neg b]
section
variable {P : Program} {w : World} {K : PySem.W.Frag} {mg : Str → Option Value} {base : Heap} {f : Addr} {fd : FuncData}
abbrev sLkL : Stmt := top 41
theorem scLkL : FnScope ["_law_stuff", "_law_left", "_law_part"] ["_law_stuff", "_law_left"] (defScope sLkL) := ⟨rfl, rfl, rfl, by decide +kernel, rfl, by decide +kernel, by decide +kernel⟩
def spLkL (K : PySem.W.Frag) (n : Nat) : Sp := fun vs H Q _ => ∃ (x : V) (d : PyData), vs = [x, .int n] ∧ Dp K H x d ∧ OkA d ∧ ∀ H', Same H H' → Q (.bl (fits n d)) H'
theorem ok_lkl {k n : Nat} (F : Fun K "_law_is_look" "_law_is_look" sLkL f fd) (GW : FnG P w K mg base CX0 k "_law_whole" ["_law_stuff", "_law_low", "_law_high"] (spWh K)) (GN : FnG P w K mg base CX0 k "_law_is_name" ["_law_stuff"] (spB K TxOk isNm))
    (GL : ∀ m, n = m + 1 → FnG P w K mg base CX0 k "_law_is_look" ["_law_stuff", "_law_left"] (spLkL K m)) (GL' : ∃ f fd, FnOk P w K mg base CX0 k f fd ["_law_stuff", "_law_left"] (fun _ _ _ _ => False) ∧ mg "_law_is_look" = some (.ref f) ∧ PySem.W.keepIn K (.ref f) = true ∧ Binds K fd ["_law_stuff", "_law_left"] [])
    (m_isinstance : mg "isinstance" = none) (m_tuple : mg "tuple" = none) (m_str : mg "str" = none) (m_len : mg "len" = none) (m_all : mg "all" = none) (m_int : mg "int" = none) :
    FnOk P w K mg base CX0 (k + 1) f fd ["_law_stuff", "_law_left"] (spLkL K n) := by
  obtain ⟨_, _, G__law_whole, m__law_whole, k__law_whole, b__law_whole⟩ := GW
  obtain ⟨_, _, G__law_is_name, m__law_is_name, k__law_is_name, b__law_is_name⟩ := GN
  obtain ⟨sp, ⟨_, _, G__law_is_look, m__law_is_look, k__law_is_look, b__law_is_look⟩, hsp⟩ : ∃ sp, FnG P w K mg base CX0 k "_law_is_look" ["_law_stuff", "_law_left"] sp ∧ ∀ m, n = m + 1 → sp = spLkL K m := by
    cases n with
    | zero => exact ⟨_, GL', fun m e => nomatch e⟩
    | succ m => exact ⟨_, GL m rfl, fun m' e => by cases e; rfl⟩
  have sc := scLkL
  refine F.ok sc (fun vs H Q E h => ?_) (fun cdv A outer s H vs Q E hr h => ?_)
  · obtain ⟨x, d, rfl, _⟩ := h
    rfl
  obtain ⟨x, d, rfl, hd, ok, q⟩ := h
  refine ⟨_, (pss_cons (ps_if (pt_not (pt_val (pe_callB call_isi (by rfl) m_isinstance (by decide +kernel) (pa_cons (pv 0) (pa_cons (pe_bltn (v := .ty "tuple") (by rfl) m_tuple (by decide +kernel) rfl) pa_nil))))) (pss_one (ps_ret (pe_and (pe_call G__law_whole (hr.mono (by omega)) (by rfl) m__law_whole k__law_whole b__law_whole .nil pass0 (pa_cons (pv 0) (pa_cons (pe_op op_sub pe_int (pe_op op_pow pe_int pe_int)) (pa_cons (pe_op op_pow pe_int pe_int) pa_nil)))) (pe_one (pe_cmpR op_gt (pv 1) pe_int (nomark _)))))) pss_nil)
      (pss_cons (ps_if (PW.pt (pw_or (pt_cmpR op_lt (pv 1) pe_int (nomark _)) (pw_or (pt_cmpR (op_eqD hr.units) (pv 0) (pe_tup pa_nil) (nomark _)) (pw_or1 (pt_not (pt_val (pe_callB call_isi (by rfl) m_isinstance (by decide +kernel) (pa_cons (pe_ix ix_tup (pv 0) pe_int (fun _ _ => rfl)) (pa_cons (pe_bltn (v := .ty "str") (by rfl) m_str (by decide +kernel) rfl) pa_nil))))))))) (pss_one (ps_ret pe_bl)) pss_nil)
      (pss_cons (ps_if (pt_cmpR op_in_seq (pe_ix ix_tup (pv 0) pe_int (fun _ _ => rfl)) (pe_tup (pa_cons pe_str (pa_cons pe_str (pa_cons pe_str (pa_cons pe_str pa_nil))))) (by rfl)) (pss_one (ps_ret (pe_cmpR op_eq (pe_callB call_len_seq (by rfl) m_len (by decide +kernel) (pa_cons (pv 0) pa_nil)) pe_int (nomark _)))) pss_nil)
      (pss_cons (ps_if (pt_cmpR op_in_seq (pe_ix ix_tup (pv 0) pe_int (fun _ _ => rfl)) (pe_tup (pa_cons pe_str (pa_cons pe_str (pa_cons pe_str pa_nil)))) (by rfl)) (pss_cons (ps_if (PW.pt (pw_or (pt_cmpR op_ne (pe_callB call_len_seq (by rfl) m_len (by decide +kernel) (pa_cons (pv 0) pa_nil)) (pe_op op_add pe_int (pe_callTy call_int1 (by rfl) m_int (by decide +kernel) (pa_cons (pe_cmpR op_eq (pe_ix ix_tup (pv 0) pe_int (fun _ _ => rfl)) pe_str (nomark _)) pa_nil))) (nomark _)) (pw_or1 (pt_not (pt_val (pe_call G__law_is_name (hr.mono (by omega)) (by rfl) m__law_is_name k__law_is_name b__law_is_name .nil pass0 (pa_cons (pe_ix ix_tup (pv 0) pe_int (fun _ _ => rfl)) pa_nil))))))) (pss_one (ps_ret pe_bl)) pss_nil)
      (pss_one (ps_ret (pe_callB (cr_all rfl) (by rfl) m_all (by decide +kernel) (pa_cons (pe_lc (own := [("_law_part", 2)]) (by rfl) sc.nd  (pi_tup (pe_slice sl_tupA (pv 0) (po_some pe_int) po_none)) (blkOk_by (own := [("_law_part", 2)]) (N := ["_law_stuff", "_law_left", "_law_part"]) (sc := defScope sLkL) (by decide +kernel)) (fun _ _ _ _ _ => (pg_name (i := 2) sc.nd rfl (.inl rfl))) (fun _ _ _ _ _ => pts_nil) (fun _ _ _ _ _ => (pe_call G__law_is_look (hr.mono (by omega)) (by rfl) m__law_is_look k__law_is_look b__law_is_look .nil pass0 (pa_cons (pv 2) (pa_cons (pe_op op_sub (pv 1) pe_int) pa_nil))))) pa_nil))))) pss_nil)
      (pss_cons (ps_if (PW.pt (pw_or (pt_cmpR op_notIn_seq (pe_ix ix_tup (pv 0) pe_int (fun _ _ => rfl)) (pe_tup (pa_cons pe_str (pa_cons pe_str (pa_cons pe_str (pa_cons pe_str (pa_cons pe_str pa_nil)))))) (by rfl)) (pw_or1 (pt_cmpR op_ne (pe_callB call_len_seq (by rfl) m_len (by decide +kernel) (pa_cons (pv 0) pa_nil)) pe_int (nomark _))))) (pss_one (ps_ret pe_bl)) pss_nil)
      (pss_one (ps_ret (pe_and (pe_call G__law_is_look (hr.mono (by omega)) (by rfl) m__law_is_look k__law_is_look b__law_is_look .nil pass0 (pa_cons (pe_ix ix_tup (pv 0) pe_int (fun _ _ => rfl)) (pa_cons (pe_op op_sub (pv 1) pe_int) pa_nil))) (pe_one (pe_call G__law_is_look (hr.mono (by omega)) (by rfl) m__law_is_look k__law_is_look b__law_is_look .nil pass0 (pa_cons (pe_ix ix_tup (pv 0) pe_int (fun _ _ => rfl)) (pa_cons (pe_op op_sub (pv 1) pe_int) pa_nil)))))))))))), ?_⟩
  have z0 : 0 ≤ sizeLine := by decide
  have cp : CPow 10 6 := ⟨by decide, by decide, by decide⟩
  refine ⟨_, rfl, _, _, _, _, _, rfl, .ty _, ty_of hd, kit_ty (kT d), _, rfl, ?_⟩
  by_cases hT : isT d = false
  · rw [hT]
    refine iteT ⟨_, rfl, 10, 6, rfl, rfl, cp, _, _, rfl, rfl, 10, 6, rfl, rfl, cp, x, _, _, d, rfl, hd, fun H1 s1 => ⟨_, rfl, ?_⟩⟩
    have q1 := q H1 s1
    rw [lkn hT] at q1
    cases e : whB (0 - (10 : Int) ^ (6 : Int).toNat) ((10 : Int) ^ (6 : Int).toNat) d with
    | false => rw [e] at q1; exact iteF q1
    | true => rw [e, Bool.true_and] at q1; exact iteT ⟨_, rfl, _, _, rfl, rfl, q1⟩
  replace hT : isT d = true := eq_true_of_ne_false hT
  rw [hT]
  obtain ⟨ds, rfl⟩ : ∃ ds, d = .tuple ds := by
    cases d <;> first | exact ⟨_, rfl⟩ | cases hT
  have okl := ok.len
  cases hd with | @tup a xs _ ha ax =>
  cases n with
  | zero =>
    refine iteF ⟨_, rfl, _, _, rfl, rfl, _, rfl, iteT (iteT (q H (Same.refl _)))⟩
  | succ n =>
  obtain rfl := hsp n rfl
  refine iteF ⟨_, rfl, _, _, rfl, rfl, _, rfl, ?_⟩
  rw [decide_eq_false (show ¬ (((n + 1 : Nat) : Int) < 1) by omega)]
  refine iteF ⟨_, rfl, z0, fun t0 n0 => ?_⟩
  have sp0 := same_upd (o := .tup []) n0
  replace ha := seqT sp0 ha
  replace ax := dpAll_same sp0 _ _ ax
  replace q : ∀ H', Same (upd H t0 (.tup [])) H' → Q (.bl (fits (n + 1) (.tuple ds))) H' := fun H' s' => q H' (sp0.trans s')
  refine ⟨.tuple ds, .tuple [], .tup ha ax, .tup (SqT.of upd_same) .nil, ok.shaped, by decide, _, rfl, ?_⟩
  generalize upd H t0 (.tup []) = H1 at *
  clear sp0 n0
  cases ax with
  | nil => exact iteT (iteT (q _ (Same.refl _)))
  | @cons v vs d0 r hv hvs =>
  refine iteF ⟨_, rfl, a, _, 0, v, rfl, rfl, ha, atI_nat (j := 0) rfl, _, _, _, _, _, rfl, .ty _, ty_of hv, kit_ty (kS d0), _, rfl, ?_⟩
  cases d0 with
  | int i => exact iteT (q _ (Same.refl _))
  | bool i => exact iteT (q _ (Same.refl _))
  | none => exact iteT (q _ (Same.refl _))
  | list _ => exact iteT (q _ (Same.refl _))
  | tuple _ => exact iteT (q _ (Same.refl _))
  | dict _ => cases hv
  | str z =>
  cases hv
  rw [List.length_cons] at okl
  replace q : ∀ H', Same H1 H' → Q (.bl (fitsP (fits n) z r)) H' := q
  have okr : ∀ d ∈ r, OkA d := fun d hd => ok.kid (List.mem_cons_of_mem _ hd)
  have lv := dpAll_len hvs
  refine iteF ⟨_, rfl, a, _, 0, _, rfl, rfl, ha, atI_nat (j := 0) rfl, by show 4 ≤ sizeLine; decide, fun t nt => ⟨t, wSpot, rfl, .inr (SqT.of upd_same), rfl, by decide, _, rfl, ite2 (fun c => ?_) (fun c => ?_)⟩⟩
  · have c : inV (.str z) wSpot = true := c
    have sn := same_upd (o := .tup wSpot) nt
    have h := q _ sn
    unfold fitsP at h
    rw [if_pos c] at h
    refine ⟨_, rfl, a, _, rfl, .inr (seqT sn ha), rfl, ?_⟩
    cases hvs with
    | nil => exact h
    | @cons v1 vs1 d1 r1 hv1 hvs1 =>
      rw [decide_eq_false (show ¬ V.int ((V.str z :: v1 :: vs1).length : Nat) = V.int 1 from fun z => by have := V.int.inj z; rw [List.length_cons, List.length_cons] at this; omega)]
      exact h
  have c1 : inV (.str z) wSpot = false := eq_false_of_ne_true c
  have sn := same_upd (o := .tup wSpot) nt
  replace ha := seqT sn ha
  replace hvs := dpAll_same sn _ _ hvs
  replace q : ∀ H', Same (upd H1 t (.tup wSpot)) H' → Q (.bl (fitsP (fits n) z r)) H' := fun H' s' => q H' (sn.trans s')
  generalize upd H1 t (.tup wSpot) = H3 at *
  clear sn c nt
  refine ⟨_, rfl, a, _, 0, _, rfl, rfl, ha, atI_nat (j := 0) rfl, by show 3 ≤ sizeLine; decide, fun t nt => ⟨t, wNmi, rfl, .inr (SqT.of upd_same), rfl, by decide, _, rfl, ite2 (fun c => ?_) (fun c => ?_)⟩⟩
  · have c : inV (.str z) wNmi = true := c
    have sn := same_upd (o := .tup wNmi) nt
    refine ⟨_, rfl, a, _, rfl, .inr (seqT sn ha), _, rfl, a, _, 0, _, rfl, rfl, seqT sn ha, atI_nat (j := 0) rfl, rfl, .inr ⟨_, rfl, _, _, rfl, rfl, rfl, _, rfl, ?_⟩⟩
    show if (!decide (V.int ((V.str z :: vs).length : Nat) = V.int (2 + if decide (V.str z = V.str "item") = true then 1 else 0))) = true then _ else _
    have e0 : ∀ b : Bool, (2 : Int) + (if b = true then 1 else 0) = ((if b = true then 3 else 2 : Nat) : Int) := fun b => by cases b <;> rfl
    rw [eq_str, e0, show (if decide (z = "item") = true then 3 else 2 : Nat) = (if z = "item" then 2 else 1) + 1 by by_cases e : z = "item" <;> simp [e]]
    generalize hk : (if z = "item" then 2 else 1) = k
    have k1 : 1 ≤ k := by rw [← hk]; split <;> decide
    have q3 := fun H' s' => q H' (sn.trans s')
    replace ha := seqT sn ha
    replace hvs := dpAll_same sn _ _ hvs
    generalize upd H3 t (.tup wNmi) = H4 at *
    cases hvs with
    | nil =>
      rw [nmi_nil c1 c] at q3
      rw [decide_eq_false (show ¬ V.int ((V.str z :: ([] : List V)).length : Nat) = V.int ((k + 1 : Nat) : Int) from fun z => by have := V.int.inj z; rw [List.length_singleton] at this; omega)]
      exact iteT (iteT (q3 _ (Same.refl _)))
    | @cons v1 vs1 d1 r1 hv1 hvs1 =>
    rw [nmi_fits hk c1 c] at q3
    have lv1 := dpAll_len hvs1
    by_cases hl : r1.length + 1 = k
    · rw [decide_eq_true (show V.int ((V.str z :: v1 :: vs1).length : Nat) = V.int ((k + 1 : Nat) : Int) by rw [List.length_cons, List.length_cons, lv1, hl])]
      rw [decide_eq_true hl, Bool.true_and] at q3
      refine iteF ⟨_, rfl, a, _, 1, _, rfl, rfl, ha, atI_nat (j := 1) rfl, v1, d1, rfl, hv1, (okr _ (List.mem_cons_self ..)).tx, fun H5 s5 => ⟨_, rfl, ?_⟩⟩
      replace ha := seqT s5 ha
      replace hvs1 := dpAll_same s5 _ _ hvs1
      replace q3 : ∀ H', Same H5 H' → Q (.bl (isNm d1 && r1.all (fits n))) H' := fun H' s' => q3 H' (s5.trans s')
      cases hn : isNm d1 with
      | false =>
        rw [hn] at q3
        exact iteT (q3 _ (Same.refl _))
      | true =>
      rw [hn, Bool.true_and] at q3
      refine iteF ⟨_, rfl, 2, rfl, ?_⟩
      unfold tNoPart
      refine slA0 ha fun p H6 s6 hp => ?_
      rw [show cutV (V.str z :: v1 :: vs1) (some 2) none = vs1 from cut_from _ 2] at hp
      replace hvs1 := dpAll_same s6 _ _ hvs1
      refine ⟨p, rfl, ⟨_, hp⟩, fun D nD => lc_it (walk_tup (xs := vs1)) (fun i H' => AccB D H6 (fits n) r1 i H') (AccB.zero nD) (fun i H' _ h => seqT h.1 hp) ?_ ?_⟩
      · rintro i v _ HA hi ac ⟨rfl, ex⟩
        obtain ⟨d, ed, dv⟩ := dpAll_at (dpAll_same ac.1 _ _ hvs1) ex
        refine ⟨rfl, ?_⟩
        unfold tYes
        refine iteT ⟨_, rfl, _, rfl, _, _, rfl, rfl, v, d, congrArg (fun i => [v, V.int i]) (show ((n + 1 : Nat) : Int) - 1 = n by omega), dv, okr _ (List.mem_cons_of_mem _ (List.mem_of_getElem? ed)), fun H' s' => ?_⟩
        exact ac.step nD s' ed (by have := okl; rw [List.length_cons] at this; omega)
      · rintro H7 ac
        refine ⟨D, _, rfl, SqL.of (ac.fin (by rw [lv1]; exact Nat.le_refl _)), ?_⟩
        rw [all_map]
        exact q3 _ (s6.trans ac.1)
    · rw [decide_eq_false (show ¬ V.int ((V.str z :: v1 :: vs1).length : Nat) = V.int ((k + 1 : Nat) : Int) from fun z => by have := V.int.inj z; rw [List.length_cons, List.length_cons, lv1] at this; omega)]
      rw [decide_eq_false hl] at q3
      exact iteT (iteT (q3 _ (Same.refl _)))
  have c2 : inV (.str z) wNmi = false := eq_false_of_ne_true c
  have sn := same_upd (o := .tup wNmi) nt
  replace ha := seqT sn ha
  replace hvs := dpAll_same sn _ _ hvs
  replace q : ∀ H', Same (upd H3 t (.tup wNmi)) H' → Q (.bl (fitsP (fits n) z r)) H' := fun H' s' => q H' (sn.trans s')
  generalize upd H3 t (.tup wNmi) = H4 at *
  clear sn c nt
  refine ⟨_, rfl, a, _, 0, _, rfl, rfl, ha, atI_nat (j := 0) rfl, by show 5 ≤ sizeLine; decide, fun t nt => ⟨t, wBin, rfl, .inr (SqT.of upd_same), rfl, by decide, _, rfl, ?_⟩⟩
  have sn := same_upd (o := .tup wBin) nt
  replace ha := seqT sn ha
  replace hvs := dpAll_same sn _ _ hvs
  replace q := fun H' s' => q H' (sn.trans s')
  show if (!inV (.str z) wBin) = true then _ else _
  rw [no_nmi c1 c2] at q
  have e1 : ((n + 1 : Nat) : Int) - 1 = n := by omega
  cases c4 : inV (.str z) wBin with
  | false =>
    rw [c4] at q
    exact iteT (iteT (q _ (Same.refl _)))
  | true =>
  rw [c4, if_pos rfl] at q
  refine iteF ⟨_, rfl, a, _, rfl, .inr ha, rfl, _, rfl, ?_⟩
  cases hvs with
  | nil => exact iteT (q _ (Same.refl _))
  | @cons v1 vs1 d1 r1 hv1 hvs1 =>
  cases hvs1 with
  | nil => exact iteT (q _ (Same.refl _))
  | @cons v2 vs2 d2 r2 hv2 hvs2 =>
  cases hvs2 with
  | nil =>
    refine iteF ⟨_, rfl, a, _, 1, _, rfl, rfl, ha, atI_nat (j := 1) rfl, _, rfl, _, _, rfl, rfl, v1, d1, congrArg (fun i => [v1, V.int i]) e1, hv1, okr _ (List.mem_cons_self ..), fun H5 s5 => ⟨_, rfl, ?_⟩⟩
    have h5 := fun H' s' => q H' (s5.trans s')
    replace h5 : ∀ H', Same H5 H' → Q (.bl (fits n d1 && fits n d2)) H' := h5
    cases hn : fits n d1 with
    | false =>
      rw [hn] at h5
      exact iteF (h5 _ (Same.refl _))
    | true =>
      rw [hn] at h5
      exact iteT ⟨_, rfl, a, _, 2, _, rfl, rfl, seqT s5 ha, atI_nat (j := 2) rfl, _, rfl, _, _, rfl, rfl, v2, d2, congrArg (fun i => [v2, V.int i]) e1, dp_same s5 _ _ hv2, okr _ (List.mem_cons_of_mem _ (List.mem_cons_self ..)), h5⟩
  | @cons v3 vs3 d3 r3 hv3 hvs3 =>
    rw [decide_eq_false (show ¬ V.int ((V.str z :: v1 :: v2 :: v3 :: vs3).length : Nat) = V.int 3 from fun z => by have := V.int.inj z; rw [List.length_cons, List.length_cons, List.length_cons, List.length_cons] at this; omega)]
    exact iteT (q _ (Same.refl _))
end
end Fd

set_option Elab.async false
set_option linter.all false
set_option maxRecDepth 100000
set_option maxHeartbeats 2000000
namespace Fd
open PySem PySem.Spec PyProof.Rows L2 RZ
theorem m1_all {f : PyData → Bool} (r : List PyData) : m1 f r = (decide (r.length = 1) && r.all f) := by
  match r with
  | [] => rfl
  | [d] => show f d = _; rw [show decide ([d].length = 1) = true from rfl, List.all_cons, List.all_nil, Bool.true_and, Bool.and_true]
  | d :: d' :: r => show false = _; rw [decide_eq_false (by rw [List.length_cons, List.length_cons]; omega)]; rfl
theorem m2_all {f : PyData → Bool} (r : List PyData) : m2 f f r = (decide (r.length = 2) && r.all f) := by
  match r with
  | [] => rfl
  | [d] => rfl
  | [d, e] => show (f d && f e) = _; rw [show decide ([d, e].length = 2) = true from rfl, List.all_cons, List.all_cons, List.all_nil, Bool.true_and, Bool.and_true]
  | d :: d' :: d'' :: r => show false = _; rw [decide_eq_false (by rw [List.length_cons, List.length_cons, List.length_cons]; omega)]; rfl
theorem same_two {H : Hp} {d : Addr} {o o' : HO} (nd : H d = none) : Same H (upd (upd H d o) d o') := fun b u hb => by
  have nb := ne_of_none hb nd
  rw [upd_ne nb, upd_ne nb]
  exact hb
abbrev szK : List (L2.Key × V) := [(Sum.inr "not", .int 2), (Sum.inr "both", .int 3), (Sum.inr "any", .int 3)]
def szOf (z : Str) : Nat := if z = "not" then 2 else if z = "both" then 3 else if z = "any" then 3 else 0
theorem sz_val (z : Str) : (valV szK (Sum.inr z)).getD (.int 0) = .int (szOf z : Nat) := by
  unfold szOf valV
  by_cases e1 : z = "not"
  · subst e1; rfl
  by_cases e2 : z = "both"
  · subst e2; rfl
  by_cases e3 : z = "any"
  · subst e3; rfl
  have n1 : ¬ (Str.ofString "not") = z := fun h => e1 h.symm
  have n2 : ¬ (Str.ofString "both") = z := fun h => e2 h.symm
  have n3 : ¬ (Str.ofString "any") = z := fun h => e3 h.symm
  rw [if_neg e1, if_neg e2, if_neg e3]
  simp [List.find?, n1, n2, n3]
theorem tf_sz {f g : PyData → Bool} {z : Str} {r : List PyData} (c1 : inV (.str z) wLike = false) (c2 : ¬ z = "meets") : tfitsP f g z r = (decide (r.length + 1 = szOf z) && r.all f) := by
  unfold tfitsP szOf
  rw [if_neg c2, c1]
  by_cases e1 : z = "not"
  · subst e1
    rw [if_pos rfl, if_pos rfl, m1_all]
    congr 1
    exact decide_eq_decide.mpr ⟨fun h => by omega, fun h => by omega⟩
  rw [if_neg e1, if_neg e1, if_neg Bool.false_ne_true]
  by_cases e2 : z = "both"
  · subst e2
    rw [if_pos (by decide +kernel), if_pos rfl, m2_all]
    congr 1
    exact decide_eq_decide.mpr ⟨fun h => by omega, fun h => by omega⟩
  by_cases e3 : z = "any"
  · subst e3
    rw [if_pos (by decide +kernel), if_neg e2, if_pos rfl, m2_all]
    congr 1
    exact decide_eq_decide.mpr ⟨fun h => by omega, fun h => by omega⟩
  rw [if_neg e2, if_neg e3, decide_eq_false (by omega), Bool.false_and, if_neg]
  intro h
  unfold inV at h
  simp only [List.any_cons, List.any_nil, Bool.or_false, Bool.or_eq_true] at h
  rcases h with h | h
  · exact e2 (of_decide_eq_true (show decide ((Str.ofString "both") = z) = true from h)).symm
  · exact e3 (of_decide_eq_true (show decide ((Str.ofString "any") = z) = true from h)).symm
section
variable {P : Program} {w : World} {K : PySem.W.Frag} {mg : Str → Option Value} {base : Heap} {f : Addr} {fd : FuncData}
abbrev sTsL : Stmt := top 42
theorem scTsL : FnScope ["_law_stuff", "_law_left", "_law_size", "_law_part"] ["_law_stuff", "_law_left"] (defScope sTsL) := ⟨rfl, rfl, rfl, by decide +kernel, rfl, by decide +kernel, by decide +kernel⟩
def spTsL (K : PySem.W.Frag) (n : Nat) : Sp := fun vs H Q _ => ∃ (x : V) (d : PyData), vs = [x, .int n] ∧ Dp K H x d ∧ OkA d ∧ ∀ H', Same H H' → Q (.bl (tfits n d)) H'
theorem ok_tsl {k n : Nat} (F : Fun K "_law_is_test" "_law_is_test" sTsL f fd) (GN : FnG P w K mg base CX0 k "_law_is_name" ["_law_stuff"] (spB K TxOk isNm))
    (GK : ∀ m, n = m + 1 → FnG P w K mg base CX0 k "_law_is_look" ["_law_stuff", "_law_left"] (spLkL K m)) (GK' : ∃ f fd, FnOk P w K mg base CX0 k f fd ["_law_stuff", "_law_left"] (fun _ _ _ _ => False) ∧ mg "_law_is_look" = some (.ref f) ∧ PySem.W.keepIn K (.ref f) = true ∧ Binds K fd ["_law_stuff", "_law_left"] [])
    (GL : ∀ m, n = m + 1 → FnG P w K mg base CX0 k "_law_is_test" ["_law_stuff", "_law_left"] (spTsL K m)) (GL' : ∃ f fd, FnOk P w K mg base CX0 k f fd ["_law_stuff", "_law_left"] (fun _ _ _ _ => False) ∧ mg "_law_is_test" = some (.ref f) ∧ PySem.W.keepIn K (.ref f) = true ∧ Binds K fd ["_law_stuff", "_law_left"] [])
    (m_isinstance : mg "isinstance" = none) (m_tuple : mg "tuple" = none) (m_str : mg "str" = none) (m_len : mg "len" = none) (m_all : mg "all" = none) :
    FnOk P w K mg base CX0 (k + 1) f fd ["_law_stuff", "_law_left"] (spTsL K n) := by
  obtain ⟨_, _, G__law_is_name, m__law_is_name, k__law_is_name, b__law_is_name⟩ := GN
  obtain ⟨sp, ⟨_, _, G__law_is_test, m__law_is_test, k__law_is_test, b__law_is_test⟩, hsp⟩ : ∃ sp, FnG P w K mg base CX0 k "_law_is_test" ["_law_stuff", "_law_left"] sp ∧ ∀ m, n = m + 1 → sp = spTsL K m := by
    cases n with
    | zero => exact ⟨_, GL', fun m e => nomatch e⟩
    | succ m => exact ⟨_, GL m rfl, fun m' e => by cases e; rfl⟩
  obtain ⟨sl, ⟨_, _, G__law_is_look, m__law_is_look, k__law_is_look, b__law_is_look⟩, hsl⟩ : ∃ sp, FnG P w K mg base CX0 k "_law_is_look" ["_law_stuff", "_law_left"] sp ∧ ∀ m, n = m + 1 → sp = spLkL K m := by
    cases n with
    | zero => exact ⟨_, GK', fun m e => nomatch e⟩
    | succ m => exact ⟨_, GK m rfl, fun m' e => by cases e; rfl⟩
  have sc := scTsL
  refine F.ok sc (fun vs H Q E h => ?_) (fun cdv A outer s H vs Q E hr h => ?_)
  · obtain ⟨x, d, rfl, _⟩ := h
    rfl
  obtain ⟨x, d, rfl, hd, ok, q⟩ := h
  refine ⟨_, (pss_cons (ps_if (PW.pt (pw_or (pt_not (pt_val (pe_callB call_isi (by rfl) m_isinstance (by decide +kernel) (pa_cons (pv 0) (pa_cons (pe_bltn (v := .ty "tuple") (by rfl) m_tuple (by decide +kernel) rfl) pa_nil))))) (pw_or (pt_cmpR op_lt (pv 1) pe_int (nomark _)) (pw_or (pt_cmpR (op_eqD hr.units) (pv 0) (pe_tup pa_nil) (nomark _)) (pw_or1 (pt_not (pt_val (pe_callB call_isi (by rfl) m_isinstance (by decide +kernel) (pa_cons (pe_ix ix_tup (pv 0) pe_int (fun _ _ => rfl)) (pa_cons (pe_bltn (v := .ty "str") (by rfl) m_str (by decide +kernel) rfl) pa_nil)))))))))) (pss_one (ps_ret pe_bl)) pss_nil)
      (pss_cons (ps_if (pt_cmpR op_in_seq (pe_ix ix_tup (pv 0) pe_int (fun _ _ => rfl)) (pe_tup (pa_cons pe_str (pa_cons pe_str pa_nil))) (by rfl)) (pss_one (ps_ret (pe_and (pe_cmpR op_eq (pe_callB call_len_seq (by rfl) m_len (by decide +kernel) (pa_cons (pv 0) pa_nil)) pe_int (nomark _)) (pe_one (pe_callB (cr_all rfl) (by rfl) m_all (by decide +kernel) (pa_cons (pe_lc (own := [("_law_part", 3)]) (by rfl) sc.nd  (pi_tup (pe_slice sl_tupA (pv 0) (po_some pe_int) po_none)) (blkOk_by (own := [("_law_part", 3)]) (N := ["_law_stuff", "_law_left", "_law_size", "_law_part"]) (sc := defScope sTsL) (by decide +kernel)) (fun _ _ _ _ _ => (pg_name (i := 3) sc.nd rfl (.inl rfl))) (fun _ _ _ _ _ => pts_nil) (fun _ _ _ _ _ => (pe_call G__law_is_look (hr.mono (by omega)) (by rfl) m__law_is_look k__law_is_look b__law_is_look .nil pass0 (pa_cons (pv 3) (pa_cons (pe_op op_sub (pv 1) pe_int) pa_nil))))) pa_nil)))))) pss_nil)
      (pss_cons (ps_if (pt_cmpR op_eq (pe_ix ix_tup (pv 0) pe_int (fun _ _ => rfl)) pe_str (nomark _)) (pss_one (ps_ret (pe_and (pe_cmpR op_eq (pe_callB call_len_seq (by rfl) m_len (by decide +kernel) (pa_cons (pv 0) pa_nil)) pe_int (nomark _)) (pe_one (pe_call G__law_is_name (hr.mono (by omega)) (by rfl) m__law_is_name k__law_is_name b__law_is_name .nil pass0 (pa_cons (pe_ix ix_tup (pv 0) pe_int (fun _ _ => rfl)) pa_nil)))))) pss_nil)
      (pss_cons (ps_set (i := 2) sc.nd rfl (.inl rfl) (pe_dget2 (hu_of hr) (pe_disp (pps_cons pe_str pe_int (pps_cons pe_str pe_int (pps_cons pe_str pe_int pps_nil))) rfl rfl (by decide) (by decide)) (pe_ix ix_tup (pv 0) pe_int (fun _ _ => rfl)) pe_int ⟨rfl, rfl, rfl, rfl⟩))
      (pss_one (ps_ret (pe_and (pe_cmpR op_eq (pe_callB call_len_seq (by rfl) m_len (by decide +kernel) (pa_cons (pv 0) pa_nil)) (pv 2) (nomark _)) (pe_one (pe_callB (cr_all rfl) (by rfl) m_all (by decide +kernel) (pa_cons (pe_lc (own := [("_law_part", 3)]) (by rfl) sc.nd  (pi_tup (pe_slice sl_tupA (pv 0) (po_some pe_int) po_none)) (blkOk_by (own := [("_law_part", 3)]) (N := ["_law_stuff", "_law_left", "_law_size", "_law_part"]) (sc := defScope sTsL) (by decide +kernel)) (fun _ _ _ _ _ => (pg_name (i := 3) sc.nd rfl (.inl rfl))) (fun _ _ _ _ _ => pts_nil) (fun _ _ _ _ _ => (pe_call G__law_is_test (hr.mono (by omega)) (by rfl) m__law_is_test k__law_is_test b__law_is_test .nil pass0 (pa_cons (pv 3) (pa_cons (pe_op op_sub (pv 1) pe_int) pa_nil))))) pa_nil)))))))))), ?_⟩
  have z0 : 0 ≤ sizeLine := by decide
  refine ⟨_, rfl, _, _, _, _, _, rfl, .ty _, ty_of hd, kit_ty (kT d), _, rfl, ?_⟩
  by_cases hT : isT d = false
  · rw [hT]
    have q1 := q H (Same.refl _)
    rw [show tfits n d = false by cases n with | zero => rfl | succ n => (cases d <;> first | rfl | cases hT)] at q1
    exact iteT (iteT q1)
  replace hT : isT d = true := eq_true_of_ne_false hT
  rw [hT]
  obtain ⟨ds, rfl⟩ : ∃ ds, d = .tuple ds := by
    cases d <;> first | exact ⟨_, rfl⟩ | cases hT
  have okl := ok.len
  cases hd with | @tup a xs _ ha ax =>
  cases n with
  | zero =>
    refine iteF ⟨_, rfl, _, _, rfl, rfl, _, rfl, iteT (iteT (q H (Same.refl _)))⟩
  | succ n =>
  obtain rfl := hsp n rfl
  obtain rfl := hsl n rfl
  refine iteF ⟨_, rfl, _, _, rfl, rfl, _, rfl, ?_⟩
  rw [decide_eq_false (show ¬ (((n + 1 : Nat) : Int) < 1) by omega)]
  refine iteF ⟨_, rfl, z0, fun t0 n0 => ?_⟩
  have sp0 := same_upd (o := .tup []) n0
  replace ha := seqT sp0 ha
  replace ax := dpAll_same sp0 _ _ ax
  replace q : ∀ H', Same (upd H t0 (.tup [])) H' → Q (.bl (tfits (n + 1) (.tuple ds))) H' := fun H' s' => q H' (sp0.trans s')
  refine ⟨.tuple ds, .tuple [], .tup ha ax, .tup (SqT.of upd_same) .nil, ok.shaped, by decide, _, rfl, ?_⟩
  generalize upd H t0 (.tup []) = H1 at *
  clear sp0 n0
  cases ax with
  | nil => exact iteT (iteT (q _ (Same.refl _)))
  | @cons v vs d0 r hv hvs =>
  refine iteF ⟨_, rfl, a, _, 0, v, rfl, rfl, ha, atI_nat (j := 0) rfl, _, _, _, _, _, rfl, .ty _, ty_of hv, kit_ty (kS d0), _, rfl, ?_⟩
  cases d0 with
  | int i => exact iteT (q _ (Same.refl _))
  | bool i => exact iteT (q _ (Same.refl _))
  | none => exact iteT (q _ (Same.refl _))
  | list _ => exact iteT (q _ (Same.refl _))
  | tuple _ => exact iteT (q _ (Same.refl _))
  | dict _ => cases hv
  | str z =>
  cases hv
  rw [List.length_cons] at okl
  replace q : ∀ H', Same H1 H' → Q (.bl (tfitsP (tfits n) (fits n) z r)) H' := q
  have okr : ∀ d ∈ r, OkA d := fun d hd => ok.kid (List.mem_cons_of_mem _ hd)
  have lv := dpAll_len hvs
  have len0 : ∀ {m : Nat}, decide (V.int ((V.str z :: vs).length : Nat) = V.int ((m + 1 : Nat) : Int)) = decide (r.length = m) := fun {m} => by
    by_cases e : r.length = m
    · rw [decide_eq_true e, decide_eq_true (by rw [List.length_cons, lv, e])]
    · rw [decide_eq_false e, decide_eq_false (fun z => by have := V.int.inj z; rw [List.length_cons, lv] at this; omega)]
  have e1 : ((n + 1 : Nat) : Int) - 1 = n := by omega
  refine iteF ⟨_, rfl, a, _, 0, _, rfl, rfl, ha, atI_nat (j := 0) rfl, by show 2 ≤ sizeLine; decide, fun t nt => ⟨t, wLike, rfl, .inr (SqT.of upd_same), rfl, by decide, _, rfl, ite2 (fun c => ?_) (fun c => ?_)⟩⟩
  · have c : inV (.str z) wLike = true := c
    have sn := same_upd (o := .tup wLike) nt
    have h := fun H' s' => q H' (sn.trans s')
    unfold tfitsP at h
    have nm : ¬ z = "meets" := fun e => by subst e; exact absurd c (by decide +kernel)
    have nn : ¬ z = "not" := fun e => by subst e; exact absurd c (by decide +kernel)
    rw [if_neg nm, if_neg nn, if_pos c, m2_all] at h
    replace ha := seqT sn ha
    replace hvs := dpAll_same sn _ _ hvs
    refine ⟨_, rfl, a, _, rfl, .inr ha, rfl, _, rfl, ?_⟩
    rw [show decide (V.int ((V.str z :: vs).length : Nat) = V.int 3) = decide (r.length = 2) from len0 (m := 2)]
    cases hl : decide (r.length = 2) with
    | false => rw [hl] at h; exact iteF (h _ (Same.refl _))
    | true =>
      rw [hl, Bool.true_and] at h
      refine iteT ?_
      refine ⟨_, rfl, 1, rfl, ?_⟩
      unfold tNoPart
      refine slA0 ha fun p H6 s6 hp => ?_
      rw [show cutV (V.str z :: vs) (some 1) none = vs from cut_from _ 1] at hp
      replace hvs := dpAll_same s6 _ _ hvs
      refine ⟨p, rfl, ⟨_, hp⟩, fun D nD => lc_it (walk_tup (xs := vs)) (fun i H' => AccB D H6 (fits n) r i H') (AccB.zero nD) (fun i H' _ h => seqT h.1 hp) ?_ ?_⟩
      · rintro i v _ HA hi ac ⟨rfl, ex⟩
        obtain ⟨d, ed, dv⟩ := dpAll_at (dpAll_same ac.1 _ _ hvs) ex
        refine ⟨rfl, ?_⟩
        unfold tYes
        refine iteT ⟨_, rfl, _, rfl, _, _, rfl, rfl, v, d, congrArg (fun i => [v, V.int i]) e1, dv, okr _ (List.mem_of_getElem? ed), fun H' s' => ?_⟩
        exact ac.step nD s' ed (by omega)
      · rintro H7 ac
        refine ⟨D, _, rfl, SqL.of (ac.fin (by rw [lv]; exact Nat.le_refl _)), ?_⟩
        rw [all_map]
        exact h _ (s6.trans ac.1)
  have c1 : inV (.str z) wLike = false := eq_false_of_ne_true c
  have sn := same_upd (o := .tup wLike) nt
  replace ha := seqT sn ha
  replace hvs := dpAll_same sn _ _ hvs
  replace q : ∀ H', Same (upd H1 t (.tup wLike)) H' → Q (.bl (tfitsP (tfits n) (fits n) z r)) H' := fun H' s' => q H' (sn.trans s')
  generalize upd H1 t (.tup wLike) = H3 at *
  clear sn c nt
  refine ⟨_, rfl, a, _, 0, _, rfl, rfl, ha, atI_nat (j := 0) rfl, rfl, _, rfl, ?_⟩
  rw [eq_str]
  refine ite2 (fun c => ?_) (fun c => ?_)
  · have c := of_decide_eq_true c
    unfold tfitsP at q
    rw [if_pos c] at q
    refine ⟨_, rfl, a, _, rfl, .inr ha, rfl, _, rfl, ?_⟩
    rw [show decide (V.int ((V.str z :: vs).length : Nat) = V.int 2) = decide (r.length = 1) from len0 (m := 1)]
    cases hvs with
    | nil => exact iteF (q _ (Same.refl _))
    | @cons v1 vs1 d1 r1 hv1 hvs1 =>
    cases hvs1 with
    | nil => exact iteT ⟨_, rfl, a, _, 1, _, rfl, rfl, ha, atI_nat (j := 1) rfl, v1, d1, rfl, hv1, (okr _ (List.mem_cons_self ..)).tx, fun H' s' => q H' s'⟩
    | @cons v2 vs2 d2 r2 hv2 hvs2 =>
      rw [decide_eq_false (show ¬ (d1 :: d2 :: r2).length = 1 by rw [List.length_cons, List.length_cons]; omega)]
      exact iteF (q _ (Same.refl _))
  have c2 : ¬ z = "meets" := fun h => c (decide_eq_true h)
  rw [tf_sz c1 c2] at q
  intro d nd
  have sd := same_two (o := .dK []) (o' := .dK szK) nd
  refine ⟨upd_same, szK, rfl, by show 3 ≤ 15; decide, d, rfl, .inl ⟨_, .inl upd_same⟩, _, rfl, a, _, 0, _, rfl, rfl, seqT sd ha, atI_nat (j := 0) rfl, _, DGet.k (kvs := szK) (k := Sum.inr z) upd_same, ?_⟩
  rw [sz_val]
  replace ha := seqT sd ha
  replace hvs := dpAll_same sd _ _ hvs
  replace q := fun H' s' => q H' (sd.trans s')
  rw [show mergeK [] szK = szK from rfl]
  generalize upd (upd H3 d (.dK [])) d (.dK szK) = H4 at *
  clear sd nd
  refine ⟨_, rfl, a, _, rfl, .inr ha, _, rfl, rfl, _, rfl, ?_⟩
  have ll : decide (V.int ((V.str z :: vs).length : Nat) = V.int (szOf z : Nat)) = decide (r.length + 1 = szOf z) := by
    by_cases e : r.length + 1 = szOf z
    · rw [decide_eq_true e, decide_eq_true (by rw [List.length_cons, lv, e])]
    · rw [decide_eq_false e, decide_eq_false (fun z => by have := V.int.inj z; rw [List.length_cons, lv] at this; omega)]
  rw [ll]
  cases hl : decide (r.length + 1 = szOf z) with
  | false => rw [hl] at q; exact iteF (q _ (Same.refl _))
  | true =>
    rw [hl, Bool.true_and] at q
    refine iteT ?_
    refine ⟨_, rfl, 1, rfl, ?_⟩
    unfold tNoPart
    refine slA0 ha fun p H6 s6 hp => ?_
    rw [show cutV (V.str z :: vs) (some 1) none = vs from cut_from _ 1] at hp
    replace hvs := dpAll_same s6 _ _ hvs
    refine ⟨p, rfl, ⟨_, hp⟩, fun D nD => lc_it (walk_tup (xs := vs)) (fun i H' => AccB D H6 (tfits n) r i H') (AccB.zero nD) (fun i H' _ h => seqT h.1 hp) ?_ ?_⟩
    · rintro i v _ HA hi ac ⟨rfl, ex⟩
      obtain ⟨d, ed, dv⟩ := dpAll_at (dpAll_same ac.1 _ _ hvs) ex
      refine ⟨rfl, ?_⟩
      unfold tYes
      refine iteT ⟨_, rfl, _, rfl, _, _, rfl, rfl, v, d, congrArg (fun i => [v, V.int i]) e1, dv, okr _ (List.mem_of_getElem? ed), fun H' s' => ?_⟩
      exact ac.step nD s' ed (by omega)
    · rintro H7 ac
      refine ⟨D, _, rfl, SqL.of (ac.fin (by rw [lv]; exact Nat.le_refl _)), ?_⟩
      rw [all_map]
      exact q _ (s6.trans ac.1)
end
end Fd

set_option Elab.async false
set_option linter.all false
set_option maxRecDepth 100000
set_option maxHeartbeats 2000000
/-! zip of a text and a tuple -/
namespace Fw
open PySem PySem.Spec PyProof.Rows L2 RZ
/-- the text z and the tuple at b, their items in new pairs -/
def ItzS (K : PySem.W.Frag) (z : Str) (b : Addr) : It :=
  ⟨fun i H => ∃ (ys : List V) (c : Nat) (y : V), SqT K H b ys ∧ z.cps[i]? = some c ∧ ys[i]? = some y,
    fun i H v H' => ∃ T c y, v = .ref T ∧ H T = none ∧ H' = upd H T (.tup [.str ⟨#[c]⟩, y]) ∧ z.cps[i]? = some c ∧ ∀ ys, SqT K H b ys → ys[i]? = some y,
    fun i H => ∃ ys : List V, SqT K H b ys ∧ i = min z.cps.size ys.length⟩
theorem sep_of {n b : Addr} (h : b < n) : ZipSep2 (n + 4) (n + 2) (n + 3) n (n + 1) [n] [n + 1, b] := by
  have hb : ∀ k, b ≠ n + k := fun k => Nat.ne_of_lt (Nat.lt_of_lt_of_le h (Nat.le_add_right _ _))
  have hb0 : b ≠ n := Nat.ne_of_lt h
  have ne : ∀ {i j : Nat}, i ≠ j → n + i ≠ n + j := fun {i j} h e => h (Nat.add_left_cancel e)
  have n0 : ∀ {i : Nat}, i ≠ 0 → n + i ≠ n := fun {i} h e => h (Nat.add_left_cancel (e.trans (Nat.add_zero n).symm))
  exact {
    TIz := ne (by decide), TOz := ne (by decide), TITO := ne (by decide), TIi1 := n0 (by decide), mem1 := by simp
    zf1 := by simp
    Tf1 := by simp
    TIi2 := ne (by decide), mem2 := by simp
    zf2 := by simp only [List.mem_cons, List.not_mem_nil, or_false, not_or]; exact ⟨ne (by decide), (hb 4).symm⟩
    Tf2 := by simp only [List.mem_cons, List.not_mem_nil, or_false, not_or]; exact ⟨ne (by decide), (hb 3).symm⟩
    sep1_2 := by simp only [List.mem_cons, List.not_mem_nil, or_false, not_or]; exact ⟨(n0 (by decide)).symm, hb0.symm⟩
    sep2_1 := by simp }
theorem turn_zipS {P : Program} {w : World} {K : PySem.W.Frag} {elts : List Expr} {kk : Nat} {tpos : Pos} {x : Str} {tt : Tok} {b z TI TO i1 i2 : Addr} (S : ZipSep2 z TI TO i1 i2 [i1] [i2, b]) (bz : b ≠ i2) :
    Turn P w K (.Tuple elts kk tpos) (ItzS K x b) [z, TI, TO, i1, i2] z (fun i h => IsZip h z TI TO .none ∧ IsTupOf2 h TI (.ref i1) (.ref i2) ∧ (∃ x y, IsTupOf2 h TO x y) ∧ h.IsStrIter i1 (strIterType x) x tt i ∧ h.IsTupleIter i2 b i) where
  mem := by simp
  obj := fun i h st c hc => by
    obtain ⟨hz, hTI, ⟨x, y, hTO⟩, ⟨o1, e1, _, d1⟩, ⟨o2, e2, _, d2⟩⟩ := st
    have e' : c = z ∨ c = TI ∨ c = TO ∨ c = i1 ∨ c = i2 := by simpa using hc
    rcases e' with q | q | q | q | q
    · rw [q]; exact ⟨_, hz, fun v q => nomatch q⟩
    · rw [q]; exact ⟨_, hTI, fun v q => nomatch q⟩
    · rw [q]; exact ⟨_, hTO, fun v q => nomatch q⟩
    · rw [q]; exact ⟨o1, e1, fun v q => by rw [d1] at q; cases q⟩
    · rw [q]; exact ⟨o2, e2, fun v q => by rw [d2] at q; cases q⟩
  keep := fun i h h' st k => by
    obtain ⟨hz, hTI, ⟨x, y, hTO⟩, ⟨o1, e1, r1⟩, h2⟩ := st
    exact ⟨k z (by simp) _ hz, k TI (by simp) _ hTI, ⟨x, y, k TO (by simp) _ hTO⟩, ⟨o1, k i1 (by simp) _ e1, r1⟩, h2.at fun o q => k i2 (by simp) o q⟩
  item := by
    intro X hP hw hK hc i pins s σ H E I hf st hg
    subst hP hw hK
    obtain ⟨hz, hTI, ⟨x0, y0, hTO⟩, h1, h2⟩ := st
    obtain ⟨ys, c, y, hqy, hx, hy⟩ := hg
    obtain ⟨its2, rv2, p2, _⟩ := I.tuple hqy
    obtain ⟨u2, hu2, ru2⟩ := rv2.get hy
    have hzl : z < s.heap.objs.size := Heap.lt_size hz
    have hh : X.A.in1.handled = none := show X.A.handled = none from I.ok.hd hc
    have lx : i < x.cps.size := by
      rcases Nat.lt_or_ge i x.cps.size with q | q
      · exact q
      · rw [Array.getElem?_eq_none q] at hx; cases hx
    have ly : i < its2.toArray.size := by
      rcases Nat.lt_or_ge i its2.length with q | q
      · simpa using q
      · rw [List.getElem?_eq_none q] at hu2; cases hu2
    refine wpAny_pyNext_zipD2_item S (Draws.text hh i1 x tt) (Draws.tuple hh i2 b bz its2.toArray) hz hTI hTO h1 ⟨h2, p2⟩ lx ly fun v1 v2 h' tk q1 q2 z' TO' h1' h2' hT hsz hk => ?_
    obtain ⟨c', u1, hc', rfl⟩ := q1
    rw [hx] at hc'
    cases hc'
    have q2 : its2.toArray[i]? = some v2 := q2
    rw [show its2.toArray[i]? = some u2 by simpa using hu2] at q2
    cases q2
    refine ⟨_, rfl, wpAny_letOwnedTupleGo_zip (s := { s with heap := h', toks := tk }) z' fun h'' z'' sb => ?_⟩
    have hT2 : h''.get? s.heap.objs.size = some { cls := .type "tuple", data := .seq #[.str ⟨#[c]⟩ u1, u2] } := (sb.2 _ (Nat.ne_of_gt hzl)).trans hT
    have new : ObjOk X.prog X.w (upd H s.heap.objs.size (.tup [.str ⟨#[c]⟩, y])) h'' s.heap.objs.size (.tup [.str ⟨#[c]⟩, y]) :=
      ⟨by show 2 ≤ sizeLine; decide, [.str ⟨#[c]⟩ u1, u2], .cons ⟨u1, rfl⟩ (.cons ru2 .nil), ⟨_, hT2, rfl, _, rfl⟩⟩
    have I1 : Inv X pins σ (upd H s.heap.objs.size (.tup [.str ⟨#[c]⟩, y])) { s with heap := h'', toks := tk } :=
      I.turnedNew (t' := tk) (ch := [z, TI, TO, i1, i2]) (fun c o hb q => (sb.2 c (fun q' => hb (by simp [q']))).trans (hk c o (fun q' => hb (by simp [q'])) (fun q' => hb (by simp [q'])) (fun q' => hb (by simp [q'])) (fun q' => hb (by simp [q'])) q)) hf (Nat.le_refl _) new
    refine ⟨.ref s.heap.objs.size, _, I1, rfl, ⟨_, c, y, rfl, I.hok.fresh (Nat.le_refl _), rfl, hx, fun l hl => by rw [I.tuple_inj hl hqy]; exact hy⟩, ⟨z'', ?_, ⟨.str ⟨#[c]⟩ u1, u2, ?_⟩, ?_, ?_⟩, fun c hcm => ?_⟩
    · exact (sb.2 _ S.TIz).trans (hk _ _ S.TIz S.TITO S.TIi1 S.TIi2 hTI)
    · exact (sb.2 _ S.TOz).trans TO'
    · obtain ⟨o1, e1, r1⟩ := h1'
      exact ⟨o1, (sb.2 _ S.zi1.symm).trans e1, r1⟩
    · exact h2'.1.at fun o q => (sb.2 _ S.zi2.symm).trans q
    · have hlt : c < s.heap.objs.size := by
        have e' : c = z ∨ c = TI ∨ c = TO ∨ c = i1 ∨ c = i2 := by simpa using hcm
        rcases e' with q | q | q | q | q
        · rw [q]; exact hzl
        · rw [q]; exact Heap.lt_size hTI
        · rw [q]; exact Heap.lt_size hTO
        · rw [q]; obtain ⟨_, e1, _⟩ := h1; exact Heap.lt_size e1
        · rw [q]; obtain ⟨_, e2, _⟩ := h2; exact Heap.lt_size e2
      rw [upd_ne (Nat.ne_of_lt hlt)]
      exact (hf c hcm).1
  done := by
    intro X hP hw hK hc i pins s σ H E I hf st hg
    subst hP hw hK
    obtain ⟨hz, hTI, ⟨x0, y0, hTO⟩, h1, h2⟩ := st
    obtain ⟨ys, hqy, hend⟩ := hg
    obtain ⟨its2, rv2, p2, _⟩ := I.tuple hqy
    have l2 := rv2.length
    have hh : X.A.in1.handled = none := show X.A.handled = none from I.ok.hd hc
    have ls : its2.toArray.size = ys.length := by simp; omega
    exact wpAny_pyNext_zipD2_end S (Draws.text hh i1 x tt) (Draws.tuple hh i2 b bz its2.toArray) hz hTI hTO h1 ⟨h2, p2⟩ (by omega) (by omega) (by omega) fun h' tk hk => ⟨rfl, I.turnedL (t' := tk) (ch := [z, TI, TO, i1, i2]) (fun c o hb q =>
      hk c o (fun q' => hb (by simp [q'])) (fun q' => hb (by simp [q'])) (fun q' => hb (by simp [q'])) (fun q' => hb (by simp [q'])) q) hf⟩
  self := fun A i s Q E st h => wpAny_pyIter_zip st.1 h
def iZipS (K : PySem.W.Frag) (ta : TA) : TI := fun σ H R => ta σ H fun vs H1 => ∃ z b ys, vs = [.str z, .ref b] ∧ SqT K H1 b ys ∧ R (ItzS K z b) H1
theorem pi_zipS {X : Cx} {e e2 : Expr} {ta : TA} {p pos tpos : Pos} {elts : List Expr} {kk : Nat} (hg : Gl X "zip") (hm : X.mg "zip" = none) (ha : PA X [e, e2] ta)
    (hs : starEach [e, e2] X.env = (false, eval e X.env) :: starEach [e2] X.env := by rfl) (hpl : (backTo pos (starEach [e2] X.env)).any (·.1) = false := by rfl) :
    PI X (.Tuple elts kk tpos) (.Call (.Name "zip" p) [e, e2] [] pos) (iZipS X.K ta) := by
  refine ⟨fun pins s σ H R I h => ?_⟩
  refine Call_ (ld_blt I hg hm PyProof.Rows.boot_zip (PyProof.Rows.callWith_type1 (thn (ha.run pos pins s σ H _ I h) fun us s1 ⟨vs, H1, I1, r1, q1⟩ => ?_) hs hpl))
  obtain ⟨z, b, ys, ex, hqy, q⟩ := q1
  subst ex
  cases r1 with
  | cons r rr =>
    cases rr with
    | cons r' rr =>
      cases rr
      obtain ⟨tt, rfl⟩ := r
      cases r'
      have fresh5 : ∀ c, c ∈ [s1.heap.objs.size + 4, s1.heap.objs.size + 2, s1.heap.objs.size + 3, s1.heap.objs.size, s1.heap.objs.size + 1] → FpOk X pins H1 c := fun c hcm => by
        have e' : c = s1.heap.objs.size + 4 ∨ c = s1.heap.objs.size + 2 ∨ c = s1.heap.objs.size + 3 ∨ c = s1.heap.objs.size ∨ c = s1.heap.objs.size + 1 := by simpa using hcm
        have hle : s1.heap.objs.size ≤ c := by
          rcases e' with z | z | z | z | z
          · rw [z]; exact Nat.le_add_right _ _
          · rw [z]; exact Nat.le_add_right _ _
          · rw [z]; exact Nat.le_add_right _ _
          · rw [z]; exact Nat.le_refl _
          · rw [z]; exact Nat.le_add_right _ _
        exact I1.fpOk hle (I1.hok.fresh hle)
      obtain ⟨its2, rv2, p2, _⟩ := I1.tuple hqy
      obtain ⟨o2, ho2, _⟩ := id p2
      have blt : b < s1.heap.objs.size := Heap.lt_size ho2
      refine zip_begins2 (begins_text z tt) (begins_tuple b its2.toArray) trivial p2 fun h' hz hTI hTO h1 h2 hsz hk => wpAny_pyIter_zip hz ?_
      have I2 : Inv X pins σ H1 { s1 with heap := h' } := I1.kept (t' := s1.toks) hk
      exact ⟨s1.heap.objs.size + 4, [s1.heap.objs.size + 4, s1.heap.objs.size + 2, s1.heap.objs.size + 3, s1.heap.objs.size, s1.heap.objs.size + 1], _, _, H1, rfl, I2, turn_zipS (tt := tt) (sep_of blt) (Nat.ne_of_lt (Nat.lt_of_lt_of_le blt (Nat.le_add_right _ _))), ⟨hz, hTI, ⟨_, _, hTO⟩, ⟨_, h1, rfl, rfl⟩, ⟨_, h2, rfl, rfl⟩⟩, fresh5, q⟩
theorem walk_zipS {K : PySem.W.Frag} {z : Str} {b : Addr} {ys : List V} {n : Nat} (hn : n = min z.cps.size ys.length) : Walk (ItzS K z b) n (fun H => SqT K H b ys) (YPair (fun i => z.cps[i]?.map fun c => V.str ⟨#[c]⟩) (fun i => ys[i]?)) := by
  subst hn
  refine ⟨fun i _ hi q => ⟨ys, z.cps[i]'(by omega), ys[i]'(by omega), q, Array.getElem?_eq_getElem _, List.getElem?_eq_getElem _⟩, fun _ q => ⟨ys, q, rfl⟩, fun i H v H' _ q y => ?_⟩
  obtain ⟨T, c, y, g1, g2, g3, g4, g5⟩ := y
  exact ⟨T, .str ⟨#[c]⟩, y, g1, g2, g3, by show Option.map _ z.cps[i]? = _; rw [g4]; rfl, g5 ys q⟩
end Fw

set_option Elab.async false
set_option linter.all false
set_option maxRecDepth 100000
set_option maxHeartbeats 2000000
namespace Fd
open PySem PySem.Spec PyProof.Rows L2 RZ
/-! ### shapes of deeds -/
abbrev sh1 : List (L2.Key × V) := [(Sum.inr "move", .str "l"), (Sum.inr "turn", .str "l"), (Sum.inr "place", .str "ll"), (Sum.inr "show", .str ""), (Sum.inr "hide", .str ""), (Sum.inr "say", .str "l"), (Sum.inr "set", .str "nl"), (Sum.inr "add", .str "nl")]
abbrev sh2 : List (L2.Key × V) := [(Sum.inr "put", .str "nl"), (Sum.inr "drop", .str "nl"), (Sum.inr "write", .str "nll"), (Sum.inr "wait", .str "l"), (Sum.inr "until", .str "t"), (Sum.inr "if", .str "tbb"), (Sum.inr "times", .str "lb")]
abbrev sh3 : List (L2.Key × V) := [(Sum.inr "while", .str "tb"), (Sum.inr "ever", .str "b"), (Sum.inr "do", .str "ns"), (Sum.inr "tell", .str "n"), (Sum.inr "await", .str "n"), (Sum.inr "copy", .str "c"), (Sum.inr "end", .str "")]
abbrev shA : List (L2.Key × V) := [(Sum.inr "move", .str "l"), (Sum.inr "turn", .str "l"), (Sum.inr "place", .str "ll"), (Sum.inr "show", .str ""), (Sum.inr "hide", .str ""), (Sum.inr "say", .str "l"), (Sum.inr "set", .str "nl"), (Sum.inr "add", .str "nl"), (Sum.inr "put", .str "nl"), (Sum.inr "drop", .str "nl"), (Sum.inr "write", .str "nll"), (Sum.inr "wait", .str "l"), (Sum.inr "until", .str "t"), (Sum.inr "if", .str "tbb"), (Sum.inr "times", .str "lb"), (Sum.inr "while", .str "tb"), (Sum.inr "ever", .str "b"), (Sum.inr "do", .str "ns"), (Sum.inr "tell", .str "n"), (Sum.inr "await", .str "n"), (Sum.inr "copy", .str "c"), (Sum.inr "end", .str ""), (Sum.inr "stop", .str "w")]
def shL : List (Str × Str) := [("move", "l"), ("turn", "l"), ("place", "ll"), ("show", ""), ("hide", ""), ("say", "l"), ("set", "nl"), ("add", "nl"), ("put", "nl"), ("drop", "nl"), ("write", "nll"), ("wait", "l"), ("until", "t"), ("if", "tbb"), ("times", "lb"), ("while", "tb"), ("ever", "b"), ("do", "ns"), ("tell", "n"), ("await", "n"), ("copy", "c"), ("end", ""), ("stop", "w")]
def shp (z : Str) : Option Str := (shL.find? fun q => decide (q.1 = z)).map (·.2)
def shV (z : Str) : V := match shp z with | some s => .str s | none => .non
theorem sh_kv : shA = shL.map fun q => (Sum.inr q.1, V.str q.2) := rfl
theorem sh_val (z : Str) : (valV shA (Sum.inr z)).getD .non = shV z := by
  have : ∀ L : List (Str × Str), (valV (L.map fun q => (Sum.inr q.1, V.str q.2)) (Sum.inr z)).getD .non = match (L.find? fun q => decide (q.1 = z)).map (·.2) with | some s => .str s | none => .non := fun L => by
    induction L with
    | nil => rfl
    | cons p r ih =>
      rw [List.map_cons, List.find?_cons]
      unfold valV
      rw [List.find?_cons]
      by_cases e : p.1 = z
      · rw [decide_eq_true e, show decide ((Sum.inr p.1, V.str p.2).1 = (Sum.inr z : L2.Key)) = true from decide_eq_true (congrArg Sum.inr e)]
        rfl
      · rw [decide_eq_false e, show decide ((Sum.inr p.1, V.str p.2).1 = (Sum.inr z : L2.Key)) = false from decide_eq_false (fun h => e (Sum.inr.inj h))]
        exact ih
  rw [sh_kv]
  exact this shL
theorem Same.putN {H H1 : Hp} {a : Addr} {o : HO} (s : Same H H1) (n : H a = none) : Same H (upd H1 a o) := fun b u hb => by
  rw [upd_ne (ne_of_none hb n)]
  exact s _ _ hb
section
variable {P : Program} {w : World} {K : PySem.W.Frag} {mg : Str → Option Value} {base : Heap} {f : Addr} {fd : FuncData}
abbrev sShpL : Stmt := top 43
theorem scShpL : FnScope ["_law_word", "_law_some_here"] ["_law_word"] (defScope sShpL) := ⟨rfl, rfl, rfl, by decide +kernel, rfl, by decide +kernel, by decide +kernel⟩
def spShpL : Sp := fun vs H Q _ => ∃ (z : Str), vs = [.str z] ∧ ∀ H', Same H H' → Q (shV z) H'
theorem ok_shpl {k : Nat} (F : Fun K "_law_shape" "_law_shape" sShpL f fd) : FnOk P w K mg base CX0 (k + 1) f fd ["_law_word"] spShpL := by
  have sc := scShpL
  refine F.ok sc (fun vs H Q E h => ?_) (fun cdv A outer s H vs Q E hr h => ?_)
  · obtain ⟨z, rfl, _⟩ := h
    rfl
  obtain ⟨z, rfl, q⟩ := h
  refine ⟨_, (pss_cons (ps_set (i := 1) sc.nd rfl (.inl rfl) (pe_disp (pps_cons pe_str pe_str (pps_cons pe_str pe_str (pps_cons pe_str pe_str (pps_cons pe_str pe_str (pps_cons pe_str pe_str (pps_cons pe_str pe_str (pps_cons pe_str pe_str (pps_cons pe_str pe_str pps_nil)))))))) rfl rfl (by decide) (by decide)))
      (pss_cons (ps_expr (pe_bm PySem.F.plainAttrs_dict PySem.F.slot_dict_update PySem.F.type_dict_update Fw.mt_update (pv 1) (pa_cons (pe_disp (pps_cons pe_str pe_str (pps_cons pe_str pe_str (pps_cons pe_str pe_str (pps_cons pe_str pe_str (pps_cons pe_str pe_str (pps_cons pe_str pe_str (pps_cons pe_str pe_str pps_nil))))))) rfl rfl (by decide) (by decide)) pa_nil)))
      (pss_cons (ps_expr (pe_bm PySem.F.plainAttrs_dict PySem.F.slot_dict_update PySem.F.type_dict_update Fw.mt_update (pv 1) (pa_cons (pe_disp (pps_cons pe_str pe_str (pps_cons pe_str pe_str (pps_cons pe_str pe_str (pps_cons pe_str pe_str (pps_cons pe_str pe_str (pps_cons pe_str pe_str (pps_cons pe_str pe_str pps_nil))))))) rfl rfl (by decide) (by decide)) pa_nil)))
      (pss_cons (ps_dput (hu_of hr) (pv 1) pe_str pe_str rfl)
      (pss_one (ps_ret (pe_dget2 (hu_of hr) (pv 1) (pv 0) pe_non ⟨rfl, rfl, rfl, rfl⟩))))))), ?_⟩
  intro a na
  refine ⟨upd_same, sh1, rfl, by show 8 ≤ 15; decide, ?_⟩
  rw [show mergeK [] sh1 = sh1 from rfl]
  have s1 := same_two (o := .dK []) (o' := .dK sh1) na
  have ea : (upd (upd H a (.dK [])) a (.dK sh1)) a = some (.dK sh1) := upd_same
  generalize upd (upd H a (.dK [])) a (.dK sh1) = H1 at *
  have upd1 : ∀ {H1 : Hp} {b : Addr} {k1 k2 : List (L2.Key × V)}, Same H H1 → H1 a = some (.dK k1) → H1 b = none → Same H (upd (upd (upd H1 b (.dK [])) b (.dK k2)) a (.dK (mergeK k1 k2))) ∧ (upd (upd H1 b (.dK [])) b (.dK k2)) a = some (.dK k1) ∧ a ≠ b := fun {H1 b k1 k2} s e nb =>
    ⟨Same.putN (s.trans (same_two nb)) na, same_two nb _ _ e, ne_of_none e nb⟩
  refine ⟨_, rfl, .inr (.inr (.inl ⟨rfl, .inl ⟨_, ea⟩⟩)), fun b nb => ?_⟩
  obtain ⟨t1, t2, t3⟩ := upd1 (k2 := sh2) s1 ea nb
  refine ⟨upd_same, sh2, rfl, by show 7 ≤ 15; decide, a, b, _, _, rfl, rfl, t2, upd_same, t3, by show 15 ≤ sizeLine; decide, by show 15 ≤ sizeLine; decide, ?_⟩
  rw [show mergeK [] sh2 = sh2 from rfl]
  have ea2 : (upd (upd (upd H1 b (.dK [])) b (.dK sh2)) a (.dK (mergeK sh1 sh2))) a = some (.dK (mergeK sh1 sh2)) := upd_same
  generalize upd (upd (upd H1 b (.dK [])) b (.dK sh2)) a (.dK (mergeK sh1 sh2)) = H2 at *
  clear s1 ea t2 t3 nb
  refine ⟨_, rfl, .inr (.inr (.inl ⟨rfl, .inl ⟨_, ea2⟩⟩)), fun b nb => ?_⟩
  obtain ⟨u1, u2, u3⟩ := upd1 (k2 := sh3) t1 ea2 nb
  refine ⟨upd_same, sh3, rfl, by show 7 ≤ 15; decide, a, b, _, _, rfl, rfl, u2, upd_same, u3, by show 22 ≤ sizeLine; decide, by show 22 ≤ sizeLine; decide, ?_⟩
  rw [show mergeK [] sh3 = sh3 from rfl]
  have ea3 : (upd (upd (upd H2 b (.dK [])) b (.dK sh3)) a (.dK (mergeK (mergeK sh1 sh2) sh3))) a = some (.dK (mergeK (mergeK sh1 sh2) sh3)) := upd_same
  generalize upd (upd (upd H2 b (.dK [])) b (.dK sh3)) a (.dK (mergeK (mergeK sh1 sh2) sh3)) = H3 at *
  refine ⟨_, rfl, a, _, rfl, DPut.k (k := Sum.inr "stop") ea3 (by show 22 < sizeLine; decide), ?_⟩
  rw [show putK (mergeK (mergeK sh1 sh2) sh3) (Sum.inr "stop") (.str "w") = shA from rfl]
  have ea4 : (upd H3 a (.dK shA)) a = some (.dK shA) := upd_same
  have sf : Same H (upd H3 a (.dK shA)) := Same.putN u1 na
  refine ⟨_, rfl, a, rfl, .inl ⟨_, .inl ea4⟩, _, rfl, _, DGet.k (kvs := shA) (k := Sum.inr z) ea4, ?_⟩
  rw [sh_val]
  exact q _ sf
end
end Fd

set_option Elab.async false
set_option linter.all false
set_option maxRecDepth 100000
set_option maxHeartbeats 2000000
namespace Fd
open PySem PySem.Spec PyProof.Rows L2 RZ
abbrev sorts : List Str := ["l", "t", "b", "s", "w", "c", "n"]
def lpB (f : PyData → Bool) (k : Str) (d : PyData) : Bool :=
  if k = "l" then isPart 6 "look" d else if k = "t" then isPart 6 "test" d else if k = "b" then f d else if k = "s" then looksB d else if k = "w" then wordB d else (decide (k = "c") && isNn d) || isNm d
section
variable {P : Program} {w : World} {K : PySem.W.Frag} {mg : Str → Option Value} {base : Heap} {f : Addr} {fd : FuncData}
abbrev sPtL : Stmt := top 44
theorem scPtL : FnScope ["_law_sort", "_law_stuff", "_law_left", "_law_part"] ["_law_sort", "_law_stuff", "_law_left"] (defScope sPtL) := ⟨rfl, rfl, rfl, by decide +kernel, rfl, by decide +kernel, by decide +kernel⟩
def spBkL (K : PySem.W.Frag) (n : Nat) : Sp := fun vs H Q _ => ∃ (x : V) (d : PyData), vs = [x, .int n] ∧ Dp K H x d ∧ OkA d ∧ ∀ H', Same H H' → Q (.bl (innerB n d)) H'
def spPtL (K : PySem.W.Frag) (n : Nat) : Sp := fun vs H Q _ => ∃ (so : Str) (x : V) (d : PyData), vs = [.str so, x, .int (n + 1 : Nat)] ∧ so ∈ sorts ∧ Dp K H x d ∧ OkA d ∧ ∀ H', Same H H' → Q (.bl (lpB (innerB n) so d)) H'
theorem ok_ptl {k n : Nat} (F : Fun K "_law_is_part" "_law_is_part" sPtL f fd) (GN : FnG P w K mg base CX0 k "_law_is_name" ["_law_stuff"] (spB K TxOk isNm))
    (GL : FnG P w K mg base CX0 k "_law_is_look" ["_law_stuff", "_law_left"] (spLkL K 6)) (GT : FnG P w K mg base CX0 k "_law_is_test" ["_law_stuff", "_law_left"] (spTsL K 6)) (GB : FnG P w K mg base CX0 k "_law_is_block" ["_law_stuff", "_law_left"] (spBkL K n))
    (m_isinstance : mg "isinstance" = none) (m_tuple : mg "tuple" = none) (m_str : mg "str" = none) (m_len : mg "len" = none) (m_all : mg "all" = none) :
    FnOk P w K mg base CX0 (k + 1) f fd ["_law_sort", "_law_stuff", "_law_left"] (spPtL K n) := by
  obtain ⟨_, _, G__law_is_name, m__law_is_name, k__law_is_name, b__law_is_name⟩ := GN
  obtain ⟨_, _, G__law_is_look, m__law_is_look, k__law_is_look, b__law_is_look⟩ := GL
  obtain ⟨_, _, G__law_is_test, m__law_is_test, k__law_is_test, b__law_is_test⟩ := GT
  obtain ⟨_, _, G__law_is_block, m__law_is_block, k__law_is_block, b__law_is_block⟩ := GB
  have sc := scPtL
  refine F.ok sc (fun vs H Q E h => ?_) (fun cdv A outer s H vs Q E hr h => ?_)
  · obtain ⟨so, x, d, rfl, _⟩ := h
    rfl
  obtain ⟨so, x, d, rfl, hso, hd, ok, q⟩ := h
  refine ⟨_, (pss_cons (ps_if (pt_cmpR op_in_str (pv 0) pe_str (by rfl)) (pss_one (ps_ret (pe_ifExp (pt_cmpR op_eq (pv 0) pe_str (nomark _)) (pe_call G__law_is_look (hr.mono (by omega)) (by rfl) m__law_is_look k__law_is_look b__law_is_look .nil pass0 (pa_cons (pv 1) (pa_cons pe_int pa_nil))) (pe_call G__law_is_test (hr.mono (by omega)) (by rfl) m__law_is_test k__law_is_test b__law_is_test .nil pass0 (pa_cons (pv 1) (pa_cons pe_int pa_nil)))))) pss_nil)
      (pss_cons (ps_if (pt_cmpR op_eq (pv 0) pe_str (nomark _)) (pss_one (ps_ret (pe_call G__law_is_block (hr.mono (by omega)) (by rfl) m__law_is_block k__law_is_block b__law_is_block .nil pass0 (pa_cons (pv 1) (pa_cons (pe_op op_sub (pv 2) pe_int) pa_nil))))) pss_nil)
      (pss_cons (ps_if (pt_cmpR op_eq (pv 0) pe_str (nomark _)) (pss_one (ps_ret (pe_and (pe_callB call_isi (by rfl) m_isinstance (by decide +kernel) (pa_cons (pv 1) (pa_cons (pe_bltn (v := .ty "tuple") (by rfl) m_tuple (by decide +kernel) rfl) pa_nil))) (pe_and (pe_cmpR op_lt (pe_callB call_len_seq (by rfl) m_len (by decide +kernel) (pa_cons (pv 1) pa_nil)) pe_int (nomark _)) (pe_one (pe_callB (cr_all rfl) (by rfl) m_all (by decide +kernel) (pa_cons (pe_lc (own := [("_law_part", 3)]) (by rfl) sc.nd  (pi_tup (pv 1)) (blkOk_by (own := [("_law_part", 3)]) (N := ["_law_sort", "_law_stuff", "_law_left", "_law_part"]) (sc := defScope sPtL) (by decide +kernel)) (fun _ _ _ _ _ => (pg_name (i := 3) sc.nd rfl (.inl rfl))) (fun _ _ _ _ _ => pts_nil) (fun _ _ _ _ _ => (pe_call G__law_is_look (hr.mono (by omega)) (by rfl) m__law_is_look k__law_is_look b__law_is_look .nil pass0 (pa_cons (pv 3) (pa_cons pe_int pa_nil))))) pa_nil))))))) pss_nil)
      (pss_cons (ps_if (pt_cmpR op_eq (pv 0) pe_str (nomark _)) (pss_one (ps_ret (pe_and (pe_callB call_isi (by rfl) m_isinstance (by decide +kernel) (pa_cons (pv 1) (pa_cons (pe_bltn (v := .ty "str") (by rfl) m_str (by decide +kernel) rfl) pa_nil))) (pe_one (pe_cmpR op_in_seq (pv 1) (pe_tup (pa_cons pe_str (pa_cons pe_str (pa_cons pe_str pa_nil)))) (by rfl)))))) pss_nil)
      (pss_one (ps_ret (pe_or (pe_and (pe_cmpR op_eq (pv 0) pe_str (nomark _)) (pe_one (pe_cmpR op_isN (pv 1) pe_non (nomark _)))) (pe_one (pe_call G__law_is_name (hr.mono (by omega)) (by rfl) m__law_is_name k__law_is_name b__law_is_name .nil pass0 (pa_cons (pv 1) pa_nil)))))))))), ?_⟩
  refine ⟨_, rfl, _, _, rfl, rfl, _, rfl, ?_⟩
  have e1 : ((n + 1 : Nat) : Int) - 1 = n := by omega
  have hq := q H (Same.refl _)
  by_cases c1 : so = "l"
  · subst c1
    refine iteB (by decide +kernel) ⟨_, rfl, rfl, _, rfl, ?_⟩
    rw [show decide (V.str "l" = V.str (Str.ofString "l")) = true by decide +kernel]
    refine iteT ⟨_, rfl, x, d, rfl, hd, ok, fun H' s' => ?_⟩
    rw [← part_fits]
    exact q H' s'
  by_cases c2 : so = "t"
  · subst c2
    refine iteB (by decide +kernel) ⟨_, rfl, rfl, _, rfl, ?_⟩
    rw [show decide (V.str "t" = V.str (Str.ofString "l")) = false by decide +kernel]
    refine iteF ⟨_, rfl, x, d, rfl, hd, ok, fun H' s' => ?_⟩
    rw [← part_tfits]
    exact q H' s'
  have hs : so = "b" ∨ so = "s" ∨ so = "w" ∨ so = "c" ∨ so = "n" := by
    simp only [List.mem_cons, List.not_mem_nil, or_false] at hso
    rcases hso with h | h | h | h | h | h | h
    · exact absurd h c1
    · exact absurd h c2
    · exact .inl h
    · exact .inr (.inl h)
    · exact .inr (.inr (.inl h))
    · exact .inr (.inr (.inr (.inl h)))
    · exact .inr (.inr (.inr (.inr h)))
  refine iteBF (by rcases hs with rfl | rfl | rfl | rfl | rfl <;> decide +kernel) ?_
  refine ⟨_, rfl, rfl, _, rfl, ?_⟩
  by_cases c3 : so = "b"
  · subst c3
    exact iteB (by rw [eq_str]; rfl) ⟨_, rfl, _, rfl, _, _, rfl, rfl, x, d, congrArg (fun i => [x, V.int i]) e1, hd, ok, fun H' s' => q H' s'⟩
  refine iteBF (by rw [eq_str]; exact decide_eq_false c3) ⟨_, rfl, rfl, _, rfl, ?_⟩
  by_cases c4 : so = "s"
  · subst c4
    replace q : ∀ H', Same H H' → Q (.bl (looksB d)) H' := q
    refine iteB (by rw [eq_str]; rfl) ⟨_, rfl, _, _, _, _, _, rfl, .ty _, ty_of hd, kit_ty (kT d), _, rfl, ?_⟩
    cases d with
    | tuple ds =>
      have okl := ok.len
      cases hd with | @tup a xs _ ha ax =>
      have lx := dpAll_len ax
      refine iteT ⟨_, rfl, a, _, rfl, .inr ha, _, _, rfl, rfl, _, rfl, ?_⟩
      rw [lx]
      by_cases h3 : ds.length ≤ 2
      · rw [decide_eq_true (show ((ds.length : Nat) : Int) < 3 by omega)]
        refine iteT ⟨_, rfl, a, rfl, ⟨_, ha⟩, fun D nD => lc_it (walk_tup (xs := xs)) (fun i H' => AccB D H (fits 6) ds i H') (AccB.zero nD) (fun i H' _ h => seqT h.1 ha) ?_ ?_⟩
        · rintro i v _ HA hi ac ⟨rfl, ex⟩
          obtain ⟨d, ed, dv⟩ := dpAll_at (dpAll_same ac.1 _ _ ax) ex
          refine ⟨rfl, ?_⟩
          unfold tYes
          refine iteT ⟨_, rfl, v, d, rfl, dv, ok.kid (List.mem_of_getElem? ed), fun H' s' => ?_⟩
          exact ac.step nD s' ed (by omega)
        · rintro H7 ac
          refine ⟨D, _, rfl, SqL.of (ac.fin (by rw [lx]; exact Nat.le_refl _)), ?_⟩
          rw [all_map]
          have := q _ ac.1
          rw [show looksB (.tuple ds) = ds.all (fits 6) by
            show (decide (ds.length ≤ 2) && ds.all (isPart 6 "look")) = _
            rw [decide_eq_true h3, Bool.true_and, show isPart 6 "look" = fits 6 from funext (part_fits 6)]] at this
          exact this
      · rw [decide_eq_false (show ¬ ((ds.length : Nat) : Int) < 3 by omega)]
        have := q _ (Same.refl _)
        rw [show looksB (.tuple ds) = false by show (decide (ds.length ≤ 2) && _) = _; rw [decide_eq_false h3]; rfl] at this
        exact iteF this
    | int i => exact iteF (q _ (Same.refl _))
    | bool i => exact iteF (q _ (Same.refl _))
    | none => exact iteF (q _ (Same.refl _))
    | list _ => exact iteF (q _ (Same.refl _))
    | str _ => exact iteF (q _ (Same.refl _))
    | dict _ => cases hd
  refine iteBF (by rw [eq_str]; exact decide_eq_false c4) ⟨_, rfl, rfl, _, rfl, ?_⟩
  by_cases c5 : so = "w"
  · subst c5
    replace q : ∀ H', Same H H' → Q (.bl (wordB d)) H' := q
    refine iteB (by rw [eq_str]; rfl) ⟨_, rfl, _, _, _, _, _, rfl, .ty _, ty_of hd, kit_ty (kS d), _, rfl, ?_⟩
    cases d with
    | str z =>
      cases hd
      refine iteT ⟨_, rfl, by show 3 ≤ sizeLine; decide, fun t nt => ⟨t, stopW.map V.str, rfl, .inr (SqT.of upd_same), rfl, by decide, ?_⟩⟩
      exact q _ (same_upd nt)
    | int i => exact iteF (q _ (Same.refl _))
    | bool i => exact iteF (q _ (Same.refl _))
    | none => exact iteF (q _ (Same.refl _))
    | list _ => exact iteF (q _ (Same.refl _))
    | tuple _ => exact iteF (q _ (Same.refl _))
    | dict _ => cases hd
  refine iteBF (by rw [eq_str]; exact decide_eq_false c5) ⟨_, rfl, rfl, _, rfl, ?_⟩
  rw [eq_str]
  have ql : ∀ H', Same H H' → Q (.bl ((decide (so = "c") && isNn d) || isNm d)) H' := fun H' s' => by
    have := q H' s'
    unfold lpB at this
    rw [if_neg c1, if_neg c2, if_neg c3, if_neg c4, if_neg c5] at this
    exact this
  by_cases c6 : so = "c"
  · rw [decide_eq_true c6] at ql
    rw [decide_eq_true (show so = Str.ofString "c" from c6)]
    by_cases hn : d = .none
    · subst hn
      cases hd
      exact iteT ⟨_, rfl, rfl, _, rfl, iteT (ql _ (Same.refl _))⟩
    · have hx : ¬ x = .non := fun e => by subst e; cases hd; exact hn rfl
      rw [show isNn d = false by cases d <;> first | rfl | exact absurd rfl hn] at ql
      refine iteT ⟨_, rfl, rfl, _, rfl, ?_⟩
      rw [decide_eq_false hx]
      exact iteF ⟨_, rfl, x, d, rfl, hd, ok.tx, fun H' s' => ql H' s'⟩
  · rw [decide_eq_false c6] at ql
    rw [decide_eq_false (show ¬ so = Str.ofString "c" from c6)]
    exact iteF ⟨_, rfl, iteF ⟨_, rfl, x, d, rfl, hd, ok.tx, fun H' s' => ql H' s'⟩⟩
end
end Fd

set_option Elab.async false
set_option linter.all false
set_option maxRecDepth 100000
set_option maxHeartbeats 2000000
namespace Fd
open PySem PySem.Spec PyProof.Rows L2 RZ
/-! ### shapes and kinds agree -/
def kl (k : Str) : Nat := if k = "look" then 108 else if k = "test" then 116 else if k = "block" then 98 else if k = "looks" then 115 else if k = "word" then 119 else if k = "figure" then 99 else 110
def klS (ks : List Str) : Str := ⟨(ks.map kl).toArray⟩
theorem sh_d : shL = dLst.map fun q => (q.1, klS q.2) := by decide +kernel
theorem shp_gD (z : Str) : shp z = (gD z).map klS := by
  have : ∀ L : List (Str × List Str), ((L.map fun q => (q.1, klS q.2)).find? fun q => decide (q.1 = z)).map (·.2) = ((L.find? fun q => decide (q.1 = z)).map (·.2)).map klS := fun L => by
    induction L with
    | nil => rfl
    | cons p r ih =>
      rw [List.map_cons, List.find?_cons, List.find?_cons]
      by_cases e : p.1 = z
      · rw [decide_eq_true e]; rfl
      · rw [decide_eq_false e]; exact ih
  unfold shp gD
  rw [sh_d]
  exact this dLst
theorem dp_lp {f : PyData → Bool} {k : Str} (h : k ∈ (["look", "test", "block", "looks", "word", "figure", "own", "list", "piece", "news"] : List Str)) (d : PyData) : dpB f k d = lpB f ⟨#[kl k]⟩ d ∧ (⟨#[kl k]⟩ : Str) ∈ sorts := by
  simp only [List.mem_cons, List.not_mem_nil, or_false] at h
  rcases h with rfl | rfl | rfl | rfl | rfl | rfl | rfl | rfl | rfl | rfl
  all_goals exact ⟨rfl, by decide +kernel⟩
theorem gD_kinds {z : Str} {ks : List Str} (h : gD z = some ks) : ∀ k ∈ ks, k ∈ (["look", "test", "block", "looks", "word", "figure", "own", "list", "piece", "news"] : List Str) := by
  unfold gD at h
  cases e : dLst.find? fun q => decide (q.1 = z) with
  | none => rw [e] at h; cases h
  | some q =>
    rw [e] at h
    obtain rfl := Option.some.inj h
    have := List.mem_of_find?_eq_some e
    have all : ∀ q ∈ dLst, ∀ k ∈ q.2, k ∈ (["look", "test", "block", "looks", "word", "figure", "own", "list", "piece", "news"] : List Str) := by decide +kernel
    exact all q this
def pairE (r : List PyData) (zs : List Str) : List PyData := (r.zip zs).map fun p => .tuple [.str p.2, p.1]
def pairG (n : Nat) : PyData → Bool
  | .tuple [.str k, d] => dpB (innerB n) k d
  | _ => false
section
variable {P : Program} {w : World} {K : PySem.W.Frag} {mg : Str → Option Value} {base : Heap} {f : Addr} {fd : FuncData}
abbrev sDdL : Stmt := top 45
theorem scDdL : FnScope ["_law_stuff", "_law_left", "_law_shape_here", "_law_sort", "_law_part"] ["_law_stuff", "_law_left"] (defScope sDdL) := ⟨rfl, rfl, rfl, by decide +kernel, rfl, by decide +kernel, by decide +kernel⟩
def spDdL (K : PySem.W.Frag) (n : Nat) : Sp := fun vs H Q _ => ∃ (x : V) (d : PyData), vs = [x, .int (n + 1 : Nat)] ∧ Dp K H x d ∧ OkA d ∧ ∀ H', Same H H' → Q (.bl (deedB (innerB n) d)) H'
theorem ok_ddl {k n : Nat} (F : Fun K "_law_is_deed" "_law_is_deed" sDdL f fd) (GS : FnG P w K mg base CX0 k "_law_shape" ["_law_word"] spShpL) (GP : FnG P w K mg base CX0 k "_law_is_part" ["_law_sort", "_law_stuff", "_law_left"] (spPtL K n))
    (m_isinstance : mg "isinstance" = none) (m_tuple : mg "tuple" = none) (m_str : mg "str" = none) (m_len : mg "len" = none) (m_all : mg "all" = none) (m_zip : mg "zip" = none) :
    FnOk P w K mg base CX0 (k + 1) f fd ["_law_stuff", "_law_left"] (spDdL K n) := by
  obtain ⟨_, _, G__law_shape, m__law_shape, k__law_shape, b__law_shape⟩ := GS
  obtain ⟨_, _, G__law_is_part, m__law_is_part, k__law_is_part, b__law_is_part⟩ := GP
  have sc := scDdL
  refine F.ok sc (fun vs H Q E h => ?_) (fun cdv A outer s H vs Q E hr h => ?_)
  · obtain ⟨x, d, rfl, _⟩ := h
    rfl
  obtain ⟨x, d, rfl, hd, ok, q⟩ := h
  refine ⟨_, (pss_cons (ps_if (PW.pt (pw_or (pt_not (pt_val (pe_callB call_isi (by rfl) m_isinstance (by decide +kernel) (pa_cons (pv 0) (pa_cons (pe_bltn (v := .ty "tuple") (by rfl) m_tuple (by decide +kernel) rfl) pa_nil))))) (pw_or (pt_cmpR (op_eqD hr.units) (pv 0) (pe_tup pa_nil) (nomark _)) (pw_or1 (pt_not (pt_val (pe_callB call_isi (by rfl) m_isinstance (by decide +kernel) (pa_cons (pe_ix ix_tup (pv 0) pe_int (fun _ _ => rfl)) (pa_cons (pe_bltn (v := .ty "str") (by rfl) m_str (by decide +kernel) rfl) pa_nil))))))))) (pss_one (ps_ret pe_bl)) pss_nil)
      (pss_cons (ps_set (i := 2) sc.nd rfl (.inl rfl) (pe_call G__law_shape (hr.mono (by omega)) (by rfl) m__law_shape k__law_shape b__law_shape .nil pass0 (pa_cons (pe_ix ix_tup (pv 0) pe_int (fun _ _ => rfl)) pa_nil)))
      (pss_cons (ps_if (PW.pt (pw_or (pt_cmpR op_isN (pv 2) pe_non (nomark _)) (pw_or1 (pt_cmpR op_ne (pe_callB call_len_seq (by rfl) m_len (by decide +kernel) (pa_cons (pv 0) pa_nil)) (pe_op op_add (pe_callB call_len_str (by rfl) m_len (by decide +kernel) (pa_cons (pv 2) pa_nil)) pe_int) (nomark _))))) (pss_one (ps_ret pe_bl)) pss_nil)
      (pss_one (ps_ret (pe_callB (cr_all rfl) (by rfl) m_all (by decide +kernel) (pa_cons (pe_lc (own := [("_law_sort", 3), ("_law_part", 4)]) (g := gTup K 2 (gCons (gName 3) (gCons (gName 4) gNil))) (by rfl) sc.nd  (Fw.pi_zipS (by rfl) m_zip (pa_cons (pv 2) (pa_cons (pe_slice sl_tupA (pv 0) (po_some pe_int) po_none) pa_nil))) (blkOk_by (own := [("_law_sort", 3), ("_law_part", 4)]) (N := ["_law_stuff", "_law_left", "_law_shape_here", "_law_sort", "_law_part"]) (sc := defScope sDdL) (by decide +kernel)) (fun _ _ _ _ _ => (pg_tup (by rfl) (pgs_cons (pg_name (i := 3) sc.nd rfl (.inl rfl)) (pgs_cons (pg_name (i := 4) sc.nd rfl (.inl rfl)) pgs_nil)))) (fun _ _ _ _ _ => pts_nil) (fun _ _ _ _ _ => (pe_call G__law_is_part (hr.mono (by omega)) (by rfl) m__law_is_part k__law_is_part b__law_is_part .nil pass0 (pa_cons (pv 3) (pa_cons (pv 4) (pa_cons (pv 1) pa_nil)))))) pa_nil))))))), ?_⟩
  have z0 : 0 ≤ sizeLine := by decide
  refine ⟨_, rfl, _, _, _, _, _, rfl, .ty _, ty_of hd, kit_ty (kT d), _, rfl, ?_⟩
  by_cases hT : isT d = false
  · rw [hT]
    have q1 := q H (Same.refl _)
    rw [show deedB (innerB n) d = false by (cases d <;> first | rfl | cases hT)] at q1
    exact iteT (iteT q1)
  replace hT : isT d = true := eq_true_of_ne_false hT
  rw [hT]
  obtain ⟨ds, rfl⟩ : ∃ ds, d = .tuple ds := by
    cases d <;> first | exact ⟨_, rfl⟩ | cases hT
  have okl := ok.len
  cases hd with | @tup a xs _ ha ax =>
  refine iteF ⟨_, rfl, z0, fun t0 n0 => ?_⟩
  have sp0 := same_upd (o := .tup []) n0
  replace ha := seqT sp0 ha
  replace ax := dpAll_same sp0 _ _ ax
  replace q : ∀ H', Same (upd H t0 (.tup [])) H' → Q (.bl (deedB (innerB n) (.tuple ds))) H' := fun H' s' => q H' (sp0.trans s')
  refine ⟨.tuple ds, .tuple [], .tup ha ax, .tup (SqT.of upd_same) .nil, ok.shaped, by decide, _, rfl, ?_⟩
  generalize upd H t0 (.tup []) = H1 at *
  clear sp0 n0
  cases ax with
  | nil => exact iteT (iteT (q _ (Same.refl _)))
  | @cons v vs d0 r hv hvs =>
  refine iteF ⟨_, rfl, a, _, 0, v, rfl, rfl, ha, atI_nat (j := 0) rfl, _, _, _, _, _, rfl, .ty _, ty_of hv, kit_ty (kS d0), _, rfl, ?_⟩
  cases d0 with
  | int i => exact iteT (q _ (Same.refl _))
  | bool i => exact iteT (q _ (Same.refl _))
  | none => exact iteT (q _ (Same.refl _))
  | list _ => exact iteT (q _ (Same.refl _))
  | tuple _ => exact iteT (q _ (Same.refl _))
  | dict _ => cases hv
  | str z =>
  cases hv
  rw [List.length_cons] at okl
  have okr : ∀ d ∈ r, OkA d := fun d hd => ok.kid (List.mem_cons_of_mem _ hd)
  have lv := dpAll_len hvs
  refine iteF ⟨_, rfl, a, _, 0, _, rfl, rfl, ha, atI_nat (j := 0) rfl, z, rfl, fun H2 s2 => ?_⟩
  replace ha := seqT s2 ha
  replace hvs := dpAll_same s2 _ _ hvs
  replace q := fun H' s' => q H' (s2.trans s')
  cases gz : gD z with
  | none =>
    rw [show shV z = .non by unfold shV; rw [shp_gD, gz]; rfl]
    rw [show deedB (innerB n) (.tuple (.str z :: r)) = false by unfold deedB; dsimp only; rw [gz]] at q
    exact ⟨_, rfl, rfl, _, rfl, iteT (iteT (q _ (Same.refl _)))⟩
  | some zs =>
    rw [show shV z = .str (klS zs) by unfold shV; rw [shp_gD, gz]; rfl]
    rw [show deedB (innerB n) (.tuple (.str z :: r)) = (decide (r.length = zs.length) && (r.zip zs).all fun p => dpB (innerB n) p.2 p.1) by unfold deedB; dsimp only; rw [gz]] at q
    have lk : (klS zs).length = zs.length := by show (zs.map kl).toArray.size = _; rw [List.size_toArray, List.length_map]
    have kin := gD_kinds gz
    have zl : zs.length ≤ 3 := by
      have all : ∀ q ∈ dLst, q.2.length ≤ 3 := by decide +kernel
      unfold gD at gz
      cases e : dLst.find? fun q => decide (q.1 = z) with
      | none => rw [e] at gz; cases gz
      | some q9 =>
        rw [e] at gz
        obtain rfl := Option.some.inj gz
        exact all q9 (List.mem_of_find?_eq_some e)
    refine ⟨_, rfl, rfl, _, rfl, iteF ⟨_, rfl, a, _, rfl, .inr ha, _, rfl, _, rfl, Nat.le_of_lt (small1000 (by rw [lk]; omega)), _, _, rfl, rfl, rfl, _, rfl, ?_⟩⟩
    by_cases le2 : r.length = zs.length
    · rw [decide_eq_true le2, Bool.true_and] at q
      refine iteBF (by rw [decide_eq_true (by rw [List.length_cons, lv, lk, le2]; rfl)]; rfl) ⟨_, rfl, _, rfl, 1, rfl, ?_⟩
      unfold tNoPart
      refine slA0 ha fun p H6 s6 hp => ?_
      rw [show cutV (V.str z :: vs) (some 1) none = vs from cut_from _ 1] at hp
      refine ⟨klS zs, p, vs, rfl, hp, fun D nD => lc_it (Fw.walk_zipS (ys := vs) rfl) (fun i H' => AccB D H6 (pairG n) (pairE r zs) i H') (AccB.zero nD) (fun i H' _ h => seqT h.1 hp) ?_ ?_⟩
      · rintro i v _ HA hi ac ⟨T, x, y, rfl, nT, rfl, ec, ey⟩
        obtain ⟨d, ed, dv⟩ := dpAll_at (dpAll_same (s6.trans ac.1) _ _ hvs) ey
        obtain ⟨k', ek, rfl⟩ : ∃ k', zs[i]? = some k' ∧ x = .str ⟨#[kl k']⟩ := by
          replace ec : Option.map (fun c => V.str ⟨#[c]⟩) (zs.map kl).toArray[i]? = some x := ec
          rw [List.getElem?_toArray, List.getElem?_map] at ec
          cases h : zs[i]? with
          | none => rw [h] at ec; cases ec
          | some u => rw [h] at ec; exact ⟨u, rfl, (Option.some.inj ec).symm⟩
        have sT := same_upd (o := .tup [.str ⟨#[kl k']⟩, y]) nT
        have dl := dp_lp (f := innerB n) (kin k' (List.mem_of_getElem? ek)) d
        refine ⟨T, _, rfl, .inl (.inl upd_same), rfl, _, _, rfl, _, _, rfl, rfl, rfl, ?_⟩
        unfold tYes
        refine iteT ⟨_, rfl, _, rfl, _, rfl, _, y, d, rfl, dl.2, dp_same sT _ _ dv, okr _ (List.mem_of_getElem? ed), fun H5 s5 => ?_⟩
        rw [← dl.1]
        refine ac.step (g := pairG n) (d := .tuple [.str k', d]) nD (sT.trans s5) ?_ ?_
        · unfold pairE
          rw [List.getElem?_map, show (r.zip zs)[i]? = some (d, k') by rw [List.getElem?_zip_eq_some]; exact ⟨ed, ek⟩]
          rfl
        · unfold pairE
          rw [List.length_map, List.length_zip]
          omega
      · rintro H7 ac
        refine ⟨D, _, rfl, SqL.of (ac.fin ?_), ?_⟩
        · unfold pairE
          rw [List.length_map, List.length_zip, show (klS zs).cps.size = zs.length from lk, lv]
          omega
        rw [all_map]
        have h := q _ (s6.trans ac.1)
        rw [show (pairE r zs).all (pairG n) = (r.zip zs).all fun p => dpB (innerB n) p.2 p.1 by unfold pairE; rw [List.all_map]; rfl]
        exact h
    · rw [decide_eq_false le2] at q
      refine iteB (by rw [decide_eq_false (fun z => le2 (by have z : (((V.str _ :: vs).length : Nat) : Int) = ((klS zs).length : Nat) + 1 := V.int.inj z; rw [List.length_cons, lv, lk] at z; omega))]; rfl) (q _ (Same.refl _))
abbrev sBkL : Stmt := top 46
theorem scBkL : FnScope ["_law_stuff", "_law_left", "_law_deed_here"] ["_law_stuff", "_law_left"] (defScope sBkL) := ⟨rfl, rfl, rfl, by decide +kernel, rfl, by decide +kernel, by decide +kernel⟩
theorem ok_bkl {k n : Nat} (F : Fun K "_law_is_block" "_law_is_block" sBkL f fd)
    (GD : ∀ m, n = m + 1 → FnG P w K mg base CX0 k "_law_is_deed" ["_law_stuff", "_law_left"] (spDdL K m)) (GD' : ∃ f fd, FnOk P w K mg base CX0 k f fd ["_law_stuff", "_law_left"] (fun _ _ _ _ => False) ∧ mg "_law_is_deed" = some (.ref f) ∧ PySem.W.keepIn K (.ref f) = true ∧ Binds K fd ["_law_stuff", "_law_left"] [])
    (m_isinstance : mg "isinstance" = none) (m_tuple : mg "tuple" = none) (m_len : mg "len" = none) (m_all : mg "all" = none) :
    FnOk P w K mg base CX0 (k + 1) f fd ["_law_stuff", "_law_left"] (spBkL K n) := by
  obtain ⟨sp, ⟨_, _, G__law_is_deed, m__law_is_deed, k__law_is_deed, b__law_is_deed⟩, hsp⟩ : ∃ sp, FnG P w K mg base CX0 k "_law_is_deed" ["_law_stuff", "_law_left"] sp ∧ ∀ m, n = m + 1 → sp = spDdL K m := by
    cases n with
    | zero => exact ⟨_, GD', fun m e => nomatch e⟩
    | succ m => exact ⟨_, GD m rfl, fun m' e => by cases e; rfl⟩
  have sc := scBkL
  refine F.ok sc (fun vs H Q E h => ?_) (fun cdv A outer s H vs Q E hr h => ?_)
  · obtain ⟨x, d, rfl, _⟩ := h
    rfl
  obtain ⟨x, d, rfl, hd, ok, q⟩ := h
  refine ⟨_, (pss_cons (ps_if (PW.pt (pw_or (pt_cmpR op_lt (pv 1) pe_int (nomark _)) (pw_or (pt_not (pt_val (pe_callB call_isi (by rfl) m_isinstance (by decide +kernel) (pa_cons (pv 0) (pa_cons (pe_bltn (v := .ty "tuple") (by rfl) m_tuple (by decide +kernel) rfl) pa_nil))))) (pw_or1 (pt_cmpR op_gt (pe_callB call_len_seq (by rfl) m_len (by decide +kernel) (pa_cons (pv 0) pa_nil)) pe_int (nomark _)))))) (pss_one (ps_ret pe_bl)) pss_nil)
      (pss_one (ps_ret (pe_callB (cr_all rfl) (by rfl) m_all (by decide +kernel) (pa_cons (pe_lc (own := [("_law_deed_here", 2)]) (by rfl) sc.nd  (pi_tup (pv 0)) (blkOk_by (own := [("_law_deed_here", 2)]) (N := ["_law_stuff", "_law_left", "_law_deed_here"]) (sc := defScope sBkL) (by decide +kernel)) (fun _ _ _ _ _ => (pg_name (i := 2) sc.nd rfl (.inl rfl))) (fun _ _ _ _ _ => pts_nil) (fun _ _ _ _ _ => (pe_call G__law_is_deed (hr.mono (by omega)) (by rfl) m__law_is_deed k__law_is_deed b__law_is_deed .nil pass0 (pa_cons (pv 2) (pa_cons (pv 1) pa_nil))))) pa_nil))))), ?_⟩
  have q1 := q H (Same.refl _)
  cases n with
  | zero => exact ⟨_, rfl, _, _, rfl, rfl, _, rfl, iteT (iteT q1)⟩
  | succ n =>
  obtain rfl := hsp n rfl
  refine ⟨_, rfl, _, _, rfl, rfl, _, rfl, ?_⟩
  rw [decide_eq_false (show ¬ (((n + 1 : Nat) : Int) < 1) by omega)]
  refine iteF ⟨_, rfl, _, _, _, _, _, rfl, .ty _, ty_of hd, kit_ty (kT d), _, rfl, ?_⟩
  by_cases hT : isT d = false
  · rw [hT]
    rw [show innerB (n + 1) d = false by (cases d <;> first | rfl | cases hT)] at q1
    exact iteT (iteT q1)
  replace hT : isT d = true := eq_true_of_ne_false hT
  rw [hT]
  obtain ⟨ds, rfl⟩ : ∃ ds, d = .tuple ds := by
    cases d <;> first | exact ⟨_, rfl⟩ | cases hT
  have okl := ok.len
  cases hd with | @tup a xs _ ha ax =>
  have lx := dpAll_len ax
  replace q : ∀ H', Same H H' → Q (.bl (decide (ds.length ≤ 8) && ds.all (deedB (innerB n)))) H' := q
  refine iteF ⟨_, rfl, a, _, rfl, .inr ha, _, _, rfl, rfl, _, rfl, ?_⟩
  rw [lx]
  by_cases h8 : ds.length ≤ 8
  · rw [decide_eq_true h8, Bool.true_and] at q
    rw [decide_eq_false (show ¬ ((8 : Int) < ((ds.length : Nat) : Int)) by omega)]
    refine iteF ⟨_, rfl, a, rfl, ⟨_, ha⟩, fun D nD => lc_it (walk_tup (xs := xs)) (fun i H' => AccB D H (deedB (innerB n)) ds i H') (AccB.zero nD) (fun i H' _ h => seqT h.1 ha) ?_ ?_⟩
    · rintro i v _ HA hi ac ⟨rfl, ex⟩
      obtain ⟨d, ed, dv⟩ := dpAll_at (dpAll_same ac.1 _ _ ax) ex
      refine ⟨rfl, ?_⟩
      unfold tYes
      refine iteT ⟨_, rfl, _, rfl, v, d, rfl, dv, ok.kid (List.mem_of_getElem? ed), fun H' s' => ?_⟩
      exact ac.step nD s' ed (by omega)
    · rintro H7 ac
      refine ⟨D, _, rfl, SqL.of (ac.fin (by rw [lx]; exact Nat.le_refl _)), ?_⟩
      rw [all_map]
      exact q _ ac.1
  · rw [decide_eq_false h8] at q
    rw [decide_eq_true (show (8 : Int) < ((ds.length : Nat) : Int) by omega)]
    exact iteT (q _ (Same.refl _))
end
end Fd

set_option Elab.async false
set_option linter.all false
set_option maxRecDepth 100000
set_option maxHeartbeats 4000000
namespace Fd
open PySem PySem.Spec PyProof.Rows L2
theorem rmL_sub {as : List Addr} {H : Hp} : Same (rmL as H) H := fun b o h => by
  by_cases e : b ∈ as
  · rw [rmL_in e] at h; cases h
  · rw [rmL_at e] at h; exact h
theorem rmL_same {as : List Addr} {H H' : Hp} (s : Same H H') : Same (rmL as H) (rmL as H') := rmL_but (ButL.same s)
theorem rmL_new {as : List Addr} {H : Hp} {t : Addr} {o : HO} (h : ∀ b ∈ as, ∃ u, H b = some u) (n : H t = none) : rmL as (upd H t o) t = some o := by
  rw [rmL_at (fun z => by
    obtain ⟨u, hu⟩ := h t z
    rw [n] at hu
    cases hu)]
  exact upd_same
theorem bop_at {j : Nat} {v : V} (h : [V.str "plus", .str "minus", .str "by", .str "over", .str "rest"][j]? = some v) : ∃ o : BOp, v = .str o.word := by
  match j, h with
  | 0, h => cases (Option.some.inj h); exact ⟨.plus, rfl⟩
  | 1, h => cases (Option.some.inj h); exact ⟨.minus, rfl⟩
  | 2, h => cases (Option.some.inj h); exact ⟨.by_, rfl⟩
  | 3, h => cases (Option.some.inj h); exact ⟨.over, rfl⟩
  | 4, h => cases (Option.some.inj h); exact ⟨.rest, rfl⟩
  | j + 5, h => exact absurd h (by simp)
theorem nmA : IsNm "a" := ⟨by decide +kernel, by decide +kernel, by decide +kernel⟩
theorem nmB' : IsNm "b" := ⟨by decide +kernel, by decide +kernel, by decide +kernel⟩
theorem nmC : IsNm "c" := ⟨by decide +kernel, by decide +kernel, by decide +kernel⟩
theorem in1 : inB 1 = true := by decide
theorem pow6 : (10 : Int) ^ (6 : Int).toNat = 1000000 := by decide
theorem wt_int {i : Int} (h1 : -8000000 ≤ i) (h2 : i ≤ 8000000) : (PyData.int i).weight ≤ 24 := by
  show (if i == 0 then 0 else i.natAbs.log2 + 1) ≤ 24
  split
  · exact Nat.zero_le _
  · rename_i z
    have z0 : i.natAbs ≠ 0 := fun e => z (by rw [show i = 0 by omega]; rfl)
    have := (Nat.log2_lt z0 (k := 23)).mpr (by omega)
    omega
theorem g_if : gD "if" = some (["test", "block", "block"] : List Str) := by decide +kernel
theorem g_times : gD "times" = some (["look", "block"] : List Str) := by decide +kernel
theorem g_ever : gD "ever" = some (["block"] : List Str) := by decide +kernel
theorem g_while : gD "while" = some (["test", "block"] : List Str) := by decide +kernel
theorem g_move : gD "move" = some (["look"] : List Str) := by decide +kernel
theorem g_place : gD "place" = some (["look", "look"] : List Str) := by decide +kernel
theorem g_write : gD "write" = some (["list", "look", "look"] : List Str) := by decide +kernel
theorem g_do : gD "do" = some (["piece", "looks"] : List Str) := by decide +kernel
theorem g_wait : gD "wait" = some (["look"] : List Str) := by decide +kernel
theorem g_until : gD "until" = some (["test"] : List Str) := by decide +kernel
theorem deed0 {f : PyData → Bool} {z : Str} (h : gD z = some []) : deedB f (.tuple [.str z]) = true := by
  unfold deedB
  dsimp only
  rw [h]
  rfl
theorem deed1 {f : PyData → Bool} {z k : Str} {d : PyData} (h : gD z = some [k]) : deedB f (.tuple [.str z, d]) = dpB f k d := by
  unfold deedB
  dsimp only
  rw [h]
  show (true && (dpB f k d && true)) = _
  rw [Bool.true_and, Bool.and_true]
theorem deed2 {f : PyData → Bool} {z k k' : Str} {d d' : PyData} (h : gD z = some [k, k']) : deedB f (.tuple [.str z, d, d']) = (dpB f k d && dpB f k' d') := by
  unfold deedB
  dsimp only
  rw [h]
  show (true && (dpB f k d && (dpB f k' d' && true))) = _
  rw [Bool.true_and, Bool.and_true]
theorem deed3 {f : PyData → Bool} {z k k' k'' : Str} {d d' d'' : PyData} (h : gD z = some [k, k', k'']) : deedB f (.tuple [.str z, d, d', d'']) = (dpB f k d && (dpB f k' d' && dpB f k'' d'')) := by
  unfold deedB
  dsimp only
  rw [h]
  show (true && (dpB f k d && (dpB f k' d' && (dpB f k'' d'' && true)))) = _
  rw [Bool.true_and, Bool.and_true]
theorem dp_look {f : PyData → Bool} {L : Lk} (h : LkF L) : dpB f "look" (lkD L) = decide (L.deep ≤ 6) := by
  unfold dpB
  rw [if_pos (by decide +kernel), part_lk 6 L h]
theorem dp_test {f : PyData → Bool} {t : Ts} (h : TsF t) : dpB f "test" (tsD t) = decide (t.deep ≤ 6) := by
  unfold dpB
  rw [if_neg (by decide +kernel), if_pos (by decide +kernel), part_ts 6 t h]
theorem dp_block {f : PyData → Bool} {d : PyData} : dpB f "block" d = f d := by
  unfold dpB
  rw [if_neg (by decide +kernel), if_neg (by decide +kernel), if_pos (by decide +kernel)]
theorem dp_looks {f : PyData → Bool} {d : PyData} : dpB f "looks" d = looksB d := by
  unfold dpB
  rw [if_neg (by decide +kernel), if_neg (by decide +kernel), if_neg (by decide +kernel), if_pos (by decide +kernel)]

/-! ### sizes of what is made -/
structure Sz (n w : Nat) (d : PyData) : Prop where
  ok : OkT 0 n d
  wt : d.weight ≤ w
structure SzA (n w l : Nat) (ds : List PyData) : Prop where
  ok : ∀ d ∈ ds, OkT 0 n d
  wt : PyData.weightAll ds ≤ w
  ln : ds.length ≤ l
theorem SzA.nil {n w l : Nat} : SzA n w l [] := ⟨(fun _ h => nomatch h), Nat.zero_le _, Nat.zero_le _⟩
theorem SzA.cons {n w l w' : Nat} {d : PyData} {a : List PyData} (h : Sz n w' d) (g : SzA n w l a) : SzA n (w' + 1 + w) (l + 1) (d :: a) :=
  ⟨fun x hx => (List.mem_cons.mp hx).elim (fun z => z ▸ h.ok) (g.ok x), Nat.add_le_add (Nat.succ_le_succ h.wt) g.wt, Nat.succ_le_succ g.ln⟩
theorem SzA.tup {n w l n' w' : Nat} {ds : List PyData} (h : SzA n w l ds) (hl : l ≤ 8) (hn : n + 1 ≤ n') (hw : w ≤ w') : Sz n' w' (.tuple ds) :=
  ⟨OkT.mono (n := n + 1) (Nat.le_refl 0) (show OkT 0 (n + 1) (.tuple ds) from ⟨Nat.le_trans h.ln (by omega), h.ok⟩) hn, Nat.le_trans h.wt hw⟩
theorem Sz.le {n w n' w' : Nat} {d : PyData} (h : Sz n w d) (hn : n ≤ n') (hw : w ≤ w') : Sz n' w' d := ⟨h.ok.mono (Nat.le_refl _) hn, Nat.le_trans h.wt hw⟩
theorem sz_nm {n : Nat} {x : Str} (h : IsNm x) : Sz (n + 1) 8 (.str x) := ⟨⟨h.2.1, fun c hc => by have := (h.2.2 c hc).2; omega⟩, h.2.1⟩
def wdS (z : Str) : Bool := decide (z.cps.size ≤ 8) && z.cps.toList.all fun c => decide (c < 128)
theorem sz_wd {n : Nat} {z : Str} (h : wdS z = true) : Sz (n + 1) 8 (.str z) := by
  unfold wdS at h
  rw [Bool.and_eq_true, decide_eq_true_eq, List.all_eq_true] at h
  exact ⟨⟨h.1, fun c hc => of_decide_eq_true (h.2 c hc)⟩, h.1⟩
theorem sz_int {n : Nat} {i : Int} (h1 : -1000001 ≤ i) (h2 : i ≤ 1000001) : Sz (n + 1) 24 (.int i) := ⟨by constructor <;> omega, wt_int (by omega) (by omega)⟩
theorem sz_non {n w : Nat} : Sz (n + 1) w .none := ⟨trivial, Nat.zero_le _⟩
def wl (k : Nat) : Nat := 41 * 2 ^ k - 11
theorem wl_succ (k : Nat) : wl (k + 1) = 2 * wl k + 11 := by
  unfold wl
  rw [Nat.pow_succ]
  have := Nat.one_le_two_pow (n := k)
  omega
theorem wl_ge (k : Nat) : 30 ≤ wl k := by
  unfold wl
  have := Nat.one_le_two_pow (n := k)
  omega
theorem wl_mono {k m : Nat} (h : k ≤ m) : wl k ≤ wl m := by
  unfold wl
  have : 2 ^ k ≤ 2 ^ m := Nat.pow_le_pow_right (by decide) h
  omega
theorem sz_bop {n : Nat} (o : BOp) : Sz (n + 1) 8 (.str o.word) := by cases o <;> exact sz_wd (by decide +kernel)
theorem sz_spot {n k : Nat} (h : k < 4) : Sz (n + 1) 8 (.str (spotWords.getD k "")) := by
  have : k = 0 ∨ k = 1 ∨ k = 2 ∨ k = 3 := by omega
  rcases this with rfl | rfl | rfl | rfl <;> exact sz_wd (by decide +kernel)
theorem lk_sz : ∀ {L : Lk}, LkF L → Sz (L.deep + 1) (wl L.deep) (lkD L)
  | .num i, h => (sz_int (by have := (inB_in h).1; omega) (by have := (inB_in h).2; omega)).le (Nat.le_refl _) (show 24 ≤ wl 1 by decide)
  | .name x, h => ((SzA.nil (n := 1) (w := 0) (l := 0)).cons (sz_nm h) |>.cons (sz_wd (z := "name") (by decide +kernel))).tup (by decide) (Nat.le_refl _) (show _ ≤ wl 1 by decide)
  | .many x, h => ((SzA.nil (n := 1) (w := 0) (l := 0)).cons (sz_nm h) |>.cons (sz_wd (z := "many") (by decide +kernel))).tup (by decide) (Nat.le_refl _) (show _ ≤ wl 1 by decide)
  | .spot k, h => ((SzA.nil (n := 1) (w := 0) (l := 0)).cons (sz_spot h)).tup (by decide) (Nat.le_refl _) (show _ ≤ wl 1 by decide)
  | .item x a, h => ((SzA.nil (n := a.deep + 1) (w := 0) (l := 0)).cons (lk_sz h.2) |>.cons (sz_nm h.1) |>.cons (sz_wd (z := "item") (by decide +kernel))).tup (by decide) (Nat.le_refl _) (by
      show _ ≤ wl (a.deep + 1)
      have := wl_succ a.deep
      have := wl_ge a.deep
      omega)
  | .bin o a b, h => by
    have i1 := (lk_sz h.1).le (Nat.succ_le_succ (Nat.le_max_left a.deep b.deep)) (wl_mono (Nat.le_max_left a.deep b.deep))
    have i2 := (lk_sz h.2).le (Nat.succ_le_succ (Nat.le_max_right a.deep b.deep)) (wl_mono (Nat.le_max_right a.deep b.deep))
    refine ((SzA.nil (n := max a.deep b.deep + 1) (w := 0) (l := 0)).cons i2 |>.cons i1 |>.cons (sz_bop o)).tup (by decide) (Nat.le_refl _) ?_
    show _ ≤ wl (max a.deep b.deep + 1)
    have := wl_succ (max a.deep b.deep)
    omega
theorem ts_sz : ∀ {t : Ts}, TsF t → Sz (t.deep + 1) (wl t.deep) (tsD t)
  | .like a b, h => by
    have i1 := (lk_sz h.1).le (Nat.succ_le_succ (Nat.le_max_left a.deep b.deep)) (wl_mono (Nat.le_max_left a.deep b.deep))
    have i2 := (lk_sz h.2).le (Nat.succ_le_succ (Nat.le_max_right a.deep b.deep)) (wl_mono (Nat.le_max_right a.deep b.deep))
    refine ((SzA.nil (n := max a.deep b.deep + 1) (w := 0) (l := 0)).cons i2 |>.cons i1 |>.cons (sz_wd (z := "like") (by decide +kernel))).tup (by decide) (Nat.le_refl _) ?_
    show _ ≤ wl (max a.deep b.deep + 1)
    have := wl_succ (max a.deep b.deep)
    omega
  | .less a b, h => by
    have i1 := (lk_sz h.1).le (Nat.succ_le_succ (Nat.le_max_left a.deep b.deep)) (wl_mono (Nat.le_max_left a.deep b.deep))
    have i2 := (lk_sz h.2).le (Nat.succ_le_succ (Nat.le_max_right a.deep b.deep)) (wl_mono (Nat.le_max_right a.deep b.deep))
    refine ((SzA.nil (n := max a.deep b.deep + 1) (w := 0) (l := 0)).cons i2 |>.cons i1 |>.cons (sz_wd (z := "below") (by decide +kernel))).tup (by decide) (Nat.le_refl _) ?_
    show _ ≤ wl (max a.deep b.deep + 1)
    have := wl_succ (max a.deep b.deep)
    omega
  | .not_ t, h => ((SzA.nil (n := t.deep + 1) (w := 0) (l := 0)).cons (ts_sz (t := t) h) |>.cons (sz_wd (z := "not") (by decide +kernel))).tup (by decide) (Nat.le_refl _) (by
      show _ ≤ wl (t.deep + 1)
      have := wl_succ t.deep
      have := wl_ge t.deep
      omega)
  | .both t u, h => by
    have i1 := (ts_sz h.1).le (Nat.succ_le_succ (Nat.le_max_left t.deep u.deep)) (wl_mono (Nat.le_max_left t.deep u.deep))
    have i2 := (ts_sz h.2).le (Nat.succ_le_succ (Nat.le_max_right t.deep u.deep)) (wl_mono (Nat.le_max_right t.deep u.deep))
    refine ((SzA.nil (n := max t.deep u.deep + 1) (w := 0) (l := 0)).cons i2 |>.cons i1 |>.cons (sz_wd (z := "both") (by decide +kernel))).tup (by decide) (Nat.le_refl _) ?_
    show _ ≤ wl (max t.deep u.deep + 1)
    have := wl_succ (max t.deep u.deep)
    omega
  | .any_ t u, h => by
    have i1 := (ts_sz h.1).le (Nat.succ_le_succ (Nat.le_max_left t.deep u.deep)) (wl_mono (Nat.le_max_left t.deep u.deep))
    have i2 := (ts_sz h.2).le (Nat.succ_le_succ (Nat.le_max_right t.deep u.deep)) (wl_mono (Nat.le_max_right t.deep u.deep))
    refine ((SzA.nil (n := max t.deep u.deep + 1) (w := 0) (l := 0)).cons i2 |>.cons i1 |>.cons (sz_wd (z := "any") (by decide +kernel))).tup (by decide) (Nat.le_refl _) ?_
    show _ ≤ wl (max t.deep u.deep + 1)
    have := wl_succ (max t.deep u.deep)
    omega
  | .meets x, h => ((SzA.nil (n := 1) (w := 0) (l := 0)).cons (sz_nm h) |>.cons (sz_wd (z := "meets") (by decide +kernel))).tup (by decide) (Nat.le_refl _) (show _ ≤ wl 1 by decide)
section
variable {P : Program} {w : World} {K : PySem.W.Frag} {mg : Str → Option Value} {base : Heap} {f : Addr} {fd : FuncData}
abbrev sSome : Stmt := top 29
theorem scSome : FnScope ["_law_state", "_law_things"] ["_law_state", "_law_things"] (defScope sSome) := ⟨rfl, rfl, rfl, by decide +kernel, rfl, by decide +kernel, by decide +kernel⟩
def spSome : Sp := fun vs H Q _ => ∃ (a c l : Addr) (n : Nat) (xs : List V), vs = [.ref a, .ref l] ∧ Dr H a c n ∧ n ≤ 1000000 ∧ rmL [a, c] H l = some (.lst xs) ∧ xs ≠ [] ∧ xs.length ≤ 1000 ∧
  ∀ (j : Nat) v H', xs[j]? = some v → ButL [a, c] H H' → Dr H' a c (n + 1) → Q v H'
theorem ok_some {k : Nat} (F : Fun K "_law_some" "_law_some" sSome f fd) (G : FnG P w K mg base CX0 k "_law_take" ["_law_state", "_law_below"] spTake) (m_len : mg "len" = none) : FnOk P w K mg base CX0 (k + 1) f fd ["_law_state", "_law_things"] spSome := by
  obtain ⟨_, _, G__law_take, m__law_take, k__law_take, b__law_take⟩ := G
  have sc := scSome
  refine F.ok sc (fun vs H Q E h => ?_) (fun cdv A outer s H vs Q E hr h => ?_)
  · obtain ⟨a, c, l, n, xs, rfl, _⟩ := h
    rfl
  obtain ⟨a, c, l, n, xs, rfl, hD, hn, hl, x0, x1, q⟩ := h
  refine ⟨_, (pss_one (ps_ret (pe_ix ix_list (pv 1) (pe_call G__law_take (hr.mono (by omega)) (by rfl) m__law_take k__law_take b__law_take .nil pass0 (pa_cons (pv 0) (pa_cons (pe_callB call_len_seq (by rfl) m_len (by decide +kernel) (pa_cons (pv 1) pa_nil)) pa_nil))) (fun _ _ => rfl)))), ?_⟩
  have lp : 0 < xs.length := List.length_pos_iff.mpr x0
  refine ⟨_, rfl, _, rfl, _, rfl, l, xs, rfl, .inl (SqL.of (rmL_sub _ _ hl)), a, c, n, _, rfl, hD, hn, by omega, by omega, fun r H1 r0 r1 s1 D1 => ?_⟩
  obtain ⟨j, rfl⟩ : ∃ j : Nat, r = (j : Int) := ⟨r.toNat, by omega⟩
  have hj : j < xs.length := by omega
  have hv := List.getElem?_eq_getElem hj
  exact ⟨l, xs, j, xs[j], rfl, rfl, SqL.of (rmL_sub _ _ (rmL_but s1 _ _ hl)), atI_nat hv, q j _ _ hv s1 D1⟩
abbrev sOne : Stmt := top 31
theorem scOne : FnScope ["_law_state", "_law_some_here"] ["_law_state", "_law_some_here"] (defScope sOne) := ⟨rfl, rfl, rfl, by decide +kernel, rfl, by decide +kernel, by decide +kernel⟩
def spOne : Sp := fun vs H Q _ => ∃ (a c l : Addr) (n : Nat) (xs : List V), vs = [.ref a, .ref l] ∧ Dr H a c n ∧ n ≤ 1000000 ∧ rmL [a, c] H l = some (.lst xs) ∧ xs ≠ [] ∧ xs.length ≤ 1000 ∧
  ∀ (j : Nat) v H', xs[j]? = some v → ButL [a, c] H H' → Dr H' a c (n + 1) → Q v H'
theorem ok_one {k : Nat} (F : Fun K "_law_one_of" "_law_one_of" sOne f fd) (G : FnG P w K mg base CX0 k "_law_take" ["_law_state", "_law_below"] spTake) (m_len : mg "len" = none) : FnOk P w K mg base CX0 (k + 1) f fd ["_law_state", "_law_some_here"] spOne := by
  obtain ⟨_, _, G__law_take, m__law_take, k__law_take, b__law_take⟩ := G
  have sc := scOne
  refine F.ok sc (fun vs H Q E h => ?_) (fun cdv A outer s H vs Q E hr h => ?_)
  · obtain ⟨a, c, l, n, xs, rfl, _⟩ := h
    rfl
  obtain ⟨a, c, l, n, xs, rfl, hD, hn, hl, x0, x1, q⟩ := h
  refine ⟨_, (pss_one (ps_ret (pe_ix ix_list (pv 1) (pe_call G__law_take (hr.mono (by omega)) (by rfl) m__law_take k__law_take b__law_take .nil pass0 (pa_cons (pv 0) (pa_cons (pe_callB call_len_seq (by rfl) m_len (by decide +kernel) (pa_cons (pv 1) pa_nil)) pa_nil))) (fun _ _ => rfl)))), ?_⟩
  have lp : 0 < xs.length := List.length_pos_iff.mpr x0
  refine ⟨_, rfl, _, rfl, _, rfl, l, xs, rfl, .inl (SqL.of (rmL_sub _ _ hl)), a, c, n, _, rfl, hD, hn, by omega, by omega, fun r H1 r0 r1 s1 D1 => ?_⟩
  obtain ⟨j, rfl⟩ : ∃ j : Nat, r = (j : Int) := ⟨r.toNat, by omega⟩
  have hj : j < xs.length := by omega
  have hv := List.getElem?_eq_getElem hj
  exact ⟨l, xs, j, xs[j], rfl, rfl, SqL.of (rmL_sub _ _ (rmL_but s1 _ _ hl)), atI_nat hv, q j _ _ hv s1 D1⟩

end
end Fd

set_option Elab.async false
set_option linter.all false
set_option maxRecDepth 100000
set_option maxHeartbeats 4000000
namespace Fd
open PySem PySem.Spec PyProof.Rows L2
theorem more3 {a c e : Addr} {H H' : Hp} (s : ButL [a, c] H H') : ButL [a, c, e] H H' := fun b o nb hb => s b o (fun z => nb (by
  rcases List.mem_cons.mp z with z | z
  · rw [z]; exact List.mem_cons_self ..
  · rw [List.mem_singleton.mp z]; exact List.mem_cons_of_mem _ (List.mem_cons_self ..))) hb
theorem in3 {a c e : Addr} {H : Hp} {n : Nat} {o : HO} (D : Dr H a c n) (he : H e = some o) : ∀ b ∈ [a, c, e], ∃ u, H b = some u := fun b hb => by
  rcases List.mem_cons.mp hb with z | hb
  · exact D.in_ b (by rw [z]; exact List.mem_cons_self ..)
  rcases List.mem_cons.mp hb with z | hb
  · exact D.in_ b (by rw [z]; exact List.mem_cons_of_mem _ (List.mem_singleton.mpr rfl))
  · rw [List.mem_singleton.mp hb]; exact ⟨_, he⟩
theorem rm32 {a c e : Addr} {H : Hp} : Same (rmL [a, c, e] H) (rmL [a, c] H) := fun b o hb => by
  by_cases z : b ∈ [a, c, e]
  · rw [rmL_in z] at hb; cases hb
  · rw [rmL_at z] at hb
    rw [rmL_at (fun y => z (by
      rcases List.mem_cons.mp y with y | y
      · rw [y]; exact List.mem_cons_self ..
      · rw [List.mem_singleton.mp y]; exact List.mem_cons_of_mem _ (List.mem_cons_self ..)))]
    exact hb
/-! ### what the law knows of names -/
structure WP where
  b : Addr
  p1 : Addr
  p2 : Addr
  p3 : Addr
  p4 : Addr
  p5 : Addr
  p6 : Addr
  t : Addr
  x0 : Str
  x1 : Str
  x2 : Str
  x3 : Str
  x4 : Str
  x5 : Str
  x6 : Str
  x7 : Str
  x8 : Str
  k : Nat
abbrev WP.kv (W : WP) (e : Addr) : List (L2.Key × V) := [(Sum.inr "names", .ref W.p1), (Sum.inr "set", .ref W.p2), (Sum.inr "lists", .ref W.p3), (Sum.inr "news", .ref W.p4), (Sum.inr "figures", .ref W.p5), (Sum.inr "pieces", .ref W.p6), (Sum.inr "left", .ref e)]
structure Wd (W : WP) (e : Addr) (G : Hp) : Prop where
  hb : G W.b = some (.dK (W.kv e))
  h1 : G W.p1 = some (.lst [.str W.x0, .str W.x1])
  h2 : G W.p2 = some (.lst [.str W.x0, .str W.x1])
  h3 : G W.p3 = some (.lst [.str W.x2, .str W.x3])
  h4 : G W.p4 = some (.lst [.str W.x4, .str W.x5])
  h5 : G W.p5 = some (.lst [.str W.x6, .str W.x7])
  h6 : G W.p6 = some (.lst [.ref W.t])
  ht : G W.t = some (.tup [.str W.x8, .int W.k])
  hk : W.k ≤ 2
  n0 : IsNm W.x0
  n1 : IsNm W.x1
  n2 : IsNm W.x2
  n3 : IsNm W.x3
  n4 : IsNm W.x4
  n5 : IsNm W.x5
  n6 : IsNm W.x6
  n7 : IsNm W.x7
  n8 : IsNm W.x8
theorem Wd.same {W : WP} {e : Addr} {G G' : Hp} (w : Wd W e G) (s : Same G G') : Wd W e G' :=
  ⟨s _ _ w.hb, s _ _ w.h1, s _ _ w.h2, s _ _ w.h3, s _ _ w.h4, s _ _ w.h5, s _ _ w.h6, s _ _ w.ht, w.hk, w.n0, w.n1, w.n2, w.n3, w.n4, w.n5, w.n6, w.n7, w.n8⟩
theorem late {R G : Prop} (g : R → G) (h : R) : G := g h
theorem two_at {j : Nat} {v : V} {x y : Str} (h : [V.str x, .str y][j]? = some v) (nx : IsNm x) (ny : IsNm y) : ∃ z, v = .str z ∧ IsNm z := by
  match j, h with
  | 0, h => exact ⟨x, (Option.some.inj h).symm, nx⟩
  | 1, h => exact ⟨y, (Option.some.inj h).symm, ny⟩
  | j + 2, h => simp at h
theorem b6_at {j : Nat} {v : V} (h : [V.str "plus", .str "minus", .str "plus", .str "by", .str "over", .str "rest"][j]? = some v) : ∃ o : BOp, v = .str o.word := by
  match j, h with
  | 0, h => exact ⟨.plus, (Option.some.inj h).symm⟩
  | 1, h => exact ⟨.minus, (Option.some.inj h).symm⟩
  | 2, h => exact ⟨.plus, (Option.some.inj h).symm⟩
  | 3, h => exact ⟨.by_, (Option.some.inj h).symm⟩
  | 4, h => exact ⟨.over, (Option.some.inj h).symm⟩
  | 5, h => exact ⟨.rest, (Option.some.inj h).symm⟩
  | j + 6, h => simp at h
theorem s4_at {j : Nat} {v : V} (h : [V.str "x", .str "y", .str "way", .str "number"][j]? = some v) : ∃ k, k < 4 ∧ v = .str (spotWords.getD k "") := by
  match j, h with
  | 0, h => exact ⟨0, by decide, (Option.some.inj h).symm⟩
  | 1, h => exact ⟨1, by decide, (Option.some.inj h).symm⟩
  | 2, h => exact ⟨2, by decide, (Option.some.inj h).symm⟩
  | 3, h => exact ⟨3, by decide, (Option.some.inj h).symm⟩
  | j + 4, h => simp at h
def ltk : Nat → Nat
  | 0 => 0
  | 1 => 6
  | m + 2 => 2 * ltk (m + 1) + 4
theorem ltk_ge : ∀ j, 6 ≤ ltk (j + 1)
  | 0 => Nat.le_refl _
  | j + 1 => by have := ltk_ge j; show 6 ≤ 2 * ltk (j + 1) + 4; omega
section
variable {P : Program} {w : World} {K : PySem.W.Frag} {mg : Str → Option Value} {base : Heap} {f : Addr} {fd : FuncData}
abbrev sNumb : Stmt := top 32
theorem scNumb : FnScope ["_law_state", "_law_way"] ["_law_state"] (defScope sNumb) := ⟨rfl, rfl, rfl, by decide +kernel, rfl, by decide +kernel, by decide +kernel⟩
def spNumb : Sp := fun vs H Q _ => ∃ (a c : Addr) (n : Nat), vs = [.ref a] ∧ Dr H a c n ∧ n + 2 ≤ 1000000 ∧ ∀ i H', inB i = true → ButL [a, c] H H' → Dr H' a c (n + 2) → Q (.int i) H'
theorem ok_numb {k : Nat} (F : Fun K "_law_number" "_law_number" sNumb f fd) (GT : FnG P w K mg base CX0 k "_law_take" ["_law_state", "_law_below"] spTake) : FnOk P w K mg base CX0 (k + 1) f fd ["_law_state"] spNumb := by
  obtain ⟨_, _, G__law_take, m__law_take, k__law_take, b__law_take⟩ := GT
  have sc := scNumb
  refine F.ok sc (fun vs H Q E h => ?_) (fun cdv A outer s H vs Q E hr h => ?_)
  · obtain ⟨a, c, n, rfl, _⟩ := h
    rfl
  obtain ⟨a, c, n, rfl, D, hn, q⟩ := h
  refine ⟨_, (pss_cons (ps_set (i := 1) sc.nd rfl (.inl rfl) (pe_call G__law_take (hr.mono (by omega)) (by rfl) m__law_take k__law_take b__law_take .nil pass0 (pa_cons (pv 0) (pa_cons pe_int pa_nil))))
      (pss_one (ps_ret (pe_ifExp (pt_cmpR op_eq (pv 1) pe_int (nomark _)) (pe_ix ix_list (pe_lst (pa_cons (pe_op op_pow pe_int pe_int) (pa_cons (pe_un un_neg (pe_op op_pow pe_int pe_int)) pa_nil))) (pe_call G__law_take (hr.mono (by omega)) (by rfl) m__law_take k__law_take b__law_take .nil pass0 (pa_cons (pv 0) (pa_cons pe_int pa_nil))) (fun _ _ => rfl)) (pe_op op_sub (pe_call G__law_take (hr.mono (by omega)) (by rfl) m__law_take k__law_take b__law_take .nil pass0 (pa_cons (pv 0) (pa_cons pe_int pa_nil))) pe_int))))), ?_⟩
  have cp : CPow 10 6 := ⟨by decide, by decide, by decide⟩
  refine ⟨_, rfl, a, c, n, 12, rfl, D, by omega, by decide, by decide, fun r1 H1 r10 r11 s1 D1 => ⟨_, rfl, rfl, _, rfl, ite2 (fun c0 => ?_) (fun c0 => ?_)⟩⟩
  · refine ⟨10, 6, rfl, rfl, cp, 10, 6, rfl, rfl, cp, _, rfl, by show 2 ≤ sizeLine; decide, fun l np => ⟨_, rfl, a, c, n + 1, 2, rfl, D1.same (same_upd np), by omega, by decide, by decide, fun r2 H2 r20 r21 s2 D2 => ?_⟩⟩
    have hl := s2 _ _ (D1.ne np) (upd_same (H := H1) (a := l) (o := .lst [.int (10 ^ (6 : Int).toNat), .int (-(10 ^ (6 : Int).toNat))]))
    have sq := s1.trans ((ButL.same (same_upd (o := .lst [.int (10 ^ (6 : Int).toNat), .int (-(10 ^ (6 : Int).toNat))]) np)).trans s2)
    have : r2 = 0 ∨ r2 = 1 := by omega
    rcases this with rfl | rfl
    · exact ⟨l, _, 0, _, rfl, rfl, SqL.of hl, rfl, q _ _ (by decide) sq D2⟩
    · exact ⟨l, _, 1, _, rfl, rfl, SqL.of hl, rfl, q _ _ (by decide) sq D2⟩
  · refine ⟨_, rfl, a, c, n + 1, 9, rfl, D1, by omega, by decide, by decide, fun r2 H2 r20 r21 s2 D2 => ⟨_, _, rfl, rfl, q _ _ ?_ (s1.trans s2) D2⟩⟩
    unfold inB
    rw [decide_eq_true (by omega), decide_eq_true (by omega)]
    rfl
abbrev sLook : Stmt := top 33
theorem scLook : FnScope ["_law_state", "_law_w", "_law_deep", "_law_way", "_law_word", "_law_name"] ["_law_state", "_law_w", "_law_deep"] (defScope sLook) := ⟨rfl, rfl, rfl, by decide +kernel, rfl, by decide +kernel, by decide +kernel⟩
def spLook (K : PySem.W.Frag) (m : Nat) : Sp := fun vs H Q _ => ∃ (a c e : Addr) (n : Nat) (W : WP) (oe : HO), vs = [.ref a, .ref W.b, .int m] ∧ Dr H a c n ∧ Wd W e (rmL [a, c, e] H) ∧ e ∉ [a, c] ∧ H e = some oe ∧ n + ltk m ≤ 1000000 ∧ 1 ≤ m ∧
  ∀ v L H', ButL [a, c] H H' → Dr H' a c (n + ltk m) → Dp K (rmL [a, c, e] H') v (lkD L) → LkF L → L.deep ≤ m → Q v H'
def spLookL (K : PySem.W.Frag) (m : Nat) : Sp := fun vs H Q E => ∃ j, 1 ≤ j ∧ j < m ∧ spLook K j vs H Q E
theorem nm_ok {x : Str} (h : IsNm x) : PyData.strOk x = true := strOk_of fun c hc => by have := (h.2.2 c hc).2; omega
theorem ne_two {K : PySem.W.Frag} {H : Hp} {p l : Addr} {x y : Str} {Q : VK} (nx : IsNm x) (ny : IsNm y) (hp : H p = some (.lst [.str x, .str y])) (hl : H l = some (.lst [])) (q : Q (.bl true) H) : rNeD K (.ref p) (.ref l) H Q :=
  ⟨.list [.str x, .str y], .list [], .lst (SqL.of hp) (.cons (.str _) (.cons (.str _) .nil)), .lst (SqL.of hl) .nil, by
    unfold SeqAt.shaped
    rw [show (PyData.list [.str x, .str y]).canLay0 = (PyData.strOk x && (PyData.strOk y && true)) from rfl, nm_ok nx, nm_ok ny]
    rfl, rfl, q⟩
theorem ok_look {k m : Nat} (F : Fun K "_law_look" "_law_look" sLook f fd) (GT : FnG P w K mg base CX0 k "_law_take" ["_law_state", "_law_below"] spTake) (GO : FnG P w K mg base CX0 k "_law_one_of" ["_law_state", "_law_some_here"] spOne) (GN : FnG P w K mg base CX0 k "_law_number" ["_law_state"] spNumb)
    (GL : FnG P w K mg base CX0 k "_law_look" ["_law_state", "_law_w", "_law_deep"] (spLookL K m)) : FnOk P w K mg base CX0 (k + 1) f fd ["_law_state", "_law_w", "_law_deep"] (spLook K m) := by
  obtain ⟨_, _, G__law_take, m__law_take, k__law_take, b__law_take⟩ := GT
  obtain ⟨_, _, G__law_one_of, m__law_one_of, k__law_one_of, b__law_one_of⟩ := GO
  obtain ⟨_, _, G__law_number, m__law_number, k__law_number, b__law_number⟩ := GN
  obtain ⟨_, _, G__law_look, m__law_look, k__law_look, b__law_look⟩ := GL
  have sc := scLook
  refine F.ok sc (fun vs H Q E h => ?_) (fun cdv A outer s H vs Q E hr h => ?_)
  · obtain ⟨a, c, e, n, W, oe, rfl, _⟩ := h
    rfl
  obtain ⟨a, c, e, n, W, oe, rfl, D, wd, ne, he, hn, m1, q⟩ := h
  refine ⟨_, (pss_cons (ps_set (i := 3) sc.nd rfl (.inl rfl) (pe_call G__law_take (hr.mono (by omega)) (by rfl) m__law_take k__law_take b__law_take .nil pass0 (pa_cons (pv 0) (pa_cons pe_int pa_nil))))
      (pss_cons (ps_if (PW.pt (pw_and (pt_cmpR op_gt (pv 2) pe_int (nomark _)) (pw_and1 (pt_cmpR op_lt (pv 3) pe_int (nomark _))))) (pss_cons (ps_set (i := 4) sc.nd rfl (.inl rfl) (pe_call G__law_one_of (hr.mono (by omega)) (by rfl) m__law_one_of k__law_one_of b__law_one_of .nil pass0 (pa_cons (pv 0) (pa_cons (pe_lst (pa_cons pe_str (pa_cons pe_str (pa_cons pe_str (pa_cons pe_str (pa_cons pe_str (pa_cons pe_str pa_nil))))))) pa_nil))))
      (pss_one (ps_ret (pe_tup (pa_cons (pv 4) (pa_cons (pe_call G__law_look (hr.mono (by omega)) (by rfl) m__law_look k__law_look b__law_look .nil pass0 (pa_cons (pv 0) (pa_cons (pv 1) (pa_cons (pe_op op_sub (pv 2) pe_int) pa_nil)))) (pa_cons (pe_call G__law_look (hr.mono (by omega)) (by rfl) m__law_look k__law_look b__law_look .nil pass0 (pa_cons (pv 0) (pa_cons (pv 1) (pa_cons (pe_op op_sub (pv 2) pe_int) pa_nil)))) pa_nil))))))) pss_nil)
      (pss_cons (ps_if (PW.pt (pw_and (pt_cmpR op_lt (pv 3) pe_int (nomark _)) (pw_and1 (pt_cmpR (op_neD hr.units) (pe_dget (hu_of hr) (pv 1) pe_str (fun _ _ => rfl)) (pe_lst pa_nil) (nomark _))))) (pss_one (ps_ret (pe_tup (pa_cons pe_str (pa_cons (pe_call G__law_one_of (hr.mono (by omega)) (by rfl) m__law_one_of k__law_one_of b__law_one_of .nil pass0 (pa_cons (pv 0) (pa_cons (pe_dget (hu_of hr) (pv 1) pe_str (fun _ _ => rfl)) pa_nil))) pa_nil))))) pss_nil)
      (pss_cons (ps_if (pt_cmpR op_eq (pv 3) pe_int (nomark _)) (pss_one (ps_ret (pe_tup (pa_cons (pe_call G__law_one_of (hr.mono (by omega)) (by rfl) m__law_one_of k__law_one_of b__law_one_of .nil pass0 (pa_cons (pv 0) (pa_cons (pe_lst (pa_cons pe_str (pa_cons pe_str (pa_cons pe_str (pa_cons pe_str pa_nil))))) pa_nil))) pa_nil)))) pss_nil)
      (pss_cons (ps_if (PW.pt (pw_and (pt_cmpR op_eq (pv 3) pe_int (nomark _)) (pw_and1 (pt_cmpR (op_neD hr.units) (pe_dget (hu_of hr) (pv 1) pe_str (fun _ _ => rfl)) (pe_lst pa_nil) (nomark _))))) (pss_cons (ps_set (i := 5) sc.nd rfl (.inl rfl) (pe_call G__law_one_of (hr.mono (by omega)) (by rfl) m__law_one_of k__law_one_of b__law_one_of .nil pass0 (pa_cons (pv 0) (pa_cons (pe_dget (hu_of hr) (pv 1) pe_str (fun _ _ => rfl)) pa_nil))))
      (pss_one (ps_ret (pe_ifExp (PW.pt (pw_and (pt_cmpR op_eq (pe_call G__law_take (hr.mono (by omega)) (by rfl) m__law_take k__law_take b__law_take .nil pass0 (pa_cons (pv 0) (pa_cons pe_int pa_nil))) pe_int (nomark _)) (pw_and1 (pt_cmpR op_gt (pv 2) pe_int (nomark _))))) (pe_tup (pa_cons pe_str (pa_cons (pv 5) (pa_cons (pe_call G__law_look (hr.mono (by omega)) (by rfl) m__law_look k__law_look b__law_look .nil pass0 (pa_cons (pv 0) (pa_cons (pv 1) (pa_cons pe_int pa_nil)))) pa_nil)))) (pe_tup (pa_cons pe_str (pa_cons (pv 5) pa_nil))))))) pss_nil)
      (pss_one (ps_ret (pe_call G__law_number (hr.mono (by omega)) (by rfl) m__law_number k__law_number b__law_number .nil pass0 (pa_cons (pv 0) pa_nil))))))))), ?_⟩
  have lt1 : ltk 1 = 6 := rfl
  have lt6 : 6 ≤ ltk m := by
    match m, m1 with
    | 1, _ => exact Nat.le_refl _
    | j + 2, _ => show 6 ≤ 2 * ltk (j + 1) + 4; have : 6 ≤ ltk (j + 1) := ltk_ge j; omega
  have sB : ButL [a, c] H H := fun _ _ _ h => h
  refine ⟨_, rfl, a, c, n, 10, rfl, D, by omega, by decide, by decide, fun r1 T2 r1_0 r1_1 s_ D_ => ?_⟩
  replace D := D_
  replace sB := sB.trans s_
  replace wd := wd.same (rmL_but (more3 s_))
  replace he := s_ _ _ ne he
  clear s_
  refine ⟨_, rfl, _, _, rfl, rfl, _, rfl, ?_⟩
  rw [show decide ((1 : Int) < ((m : Nat) : Int)) = decide (1 < m) by by_cases c1 : 1 < m <;> simp [c1] <;> omega]
  apply late
  · intro rest
    by_cases c1 : 1 < m
    · rw [decide_eq_true c1]
      refine iteT ⟨_, rfl, _, _, rfl, rfl, _, rfl, ite2 (fun c2 => ?_) (fun c2 => rest)⟩
      clear rest
      refine ⟨_, rfl, by show 6 ≤ sizeLine; decide, fun t1 np_ => ?_⟩
      have x_ := same_upd (o := .lst [.str "plus", .str "minus", .str "plus", .str "by", .str "over", .str "rest"]) np_
      have e_t1 := rmL_new (o := .lst [.str "plus", .str "minus", .str "plus", .str "by", .str "over", .str "rest"]) (in3 D he) np_
      replace D := D.same x_
      replace sB := sB.trans (.same x_)
      replace wd := wd.same (rmL_same x_)
      replace he := x_ _ _ he
      generalize upd T2 t1 (.lst [.str "plus", .str "minus", .str "plus", .str "by", .str "over", .str "rest"]) = A2 at *
      clear x_ np_
      refine ⟨a, c, t1, n + 1, _, rfl, D, by omega, rm32 _ _ e_t1, by simp, by show 6 ≤ 1000; decide, fun j_ vw O3 hv_ s_ D_ => ?_⟩
      replace D := D_
      replace sB := sB.trans s_
      replace wd := wd.same (rmL_but (more3 s_))
      replace he := s_ _ _ ne he
      replace e_t1 := rmL_but (more3 s_) _ _ e_t1
      clear s_
      obtain ⟨o, rfl⟩ := b6_at hv_
      clear hv_ e_t1
      have lk2 : ltk m = 2 * ltk (m - 1) + 4 := by
        match m, c1 with
        | j + 2, _ => rfl
      refine ⟨_, rfl, _, rfl, _, rfl, _, rfl, _, _, rfl, rfl, m - 1, by omega, by omega, a, c, e, n + 1 + 1, W, _, congrArg (fun i => [V.ref a, V.ref W.b, V.int i]) (by omega), D, wd, ne, he, by omega, by omega, fun v1 L1 Hk4 s_ D_ dv1 fv1 ev1 => ?_⟩
      replace D := D_
      replace sB := sB.trans s_
      replace wd := wd.same (rmL_but (more3 s_))
      replace he := s_ _ _ ne he
      clear s_
      refine ⟨_, rfl, _, rfl, _, rfl, _, _, rfl, rfl, m - 1, by omega, by omega, a, c, e, n + 1 + 1 + ltk (m - 1), W, _, congrArg (fun i => [V.ref a, V.ref W.b, V.int i]) (by omega), D, wd, ne, he, by omega, by omega, fun v2 L2 Hk5 s_ D_ dv2 fv2 ev2 => ?_⟩
      replace D := D_
      replace sB := sB.trans s_
      replace wd := wd.same (rmL_but (more3 s_))
      replace he := s_ _ _ ne he
      replace dv1 := dp_same (rmL_but (more3 s_)) _ _ dv1
      clear s_
      refine ⟨by show 3 ≤ sizeLine; decide, fun tr np_ => ?_⟩
      have x_ := same_upd (o := .tup [.str o.word, v1, v2]) np_
      have e_tr := rmL_new (o := .tup [.str o.word, v1, v2]) (in3 D he) np_
      replace D := D.same x_
      replace sB := sB.trans (.same x_)
      replace wd := wd.same (rmL_same x_)
      replace he := x_ _ _ he
      replace dv1 := dp_same (rmL_same x_) _ _ dv1
      replace dv2 := dp_same (rmL_same x_) _ _ dv2
      generalize upd Hk5 tr (.tup [.str o.word, v1, v2]) = A6 at *
      clear x_ np_
      have d_tr : Dp K (rmL [a, c, e] A6) (.ref tr) (lkD (.bin o L1 L2)) := .tup (SqT.of e_tr) (.cons (.str _) (.cons dv1 (.cons dv2 .nil)))
      clear e_tr
      exact q _ (.bin o L1 L2) _ sB (D.le (by omega)) d_tr ⟨fv1, fv2⟩ (by show max L1.deep L2.deep + 1 ≤ m; omega)
    · rw [decide_eq_false c1]
      exact iteF rest
  refine ⟨_, rfl, _, _, rfl, rfl, _, rfl, ?_⟩
  apply late
  · intro rest
    refine ite2 (fun c2 => ?_) (fun c2 => rest)
    clear rest
    refine ⟨_, rfl, W.b, _, rfl, DGet.k (k := Sum.inr "names") (rmL_sub _ _ wd.hb), ?_⟩
    refine ⟨by show 0 ≤ sizeLine; decide, fun t1 np_ => ?_⟩
    have x_ := same_upd (o := .lst []) np_
    have e_t1 := rmL_new (o := .lst []) (in3 D he) np_
    replace D := D.same x_
    replace sB := sB.trans (.same x_)
    replace wd := wd.same (rmL_same x_)
    replace he := x_ _ _ he
    generalize upd T2 t1 (.lst []) = B2 at *
    clear x_ np_
    refine ne_two wd.n0 wd.n1 (rmL_sub _ _ wd.h1) (rmL_sub _ _ e_t1) ⟨_, rfl, iteT ?_⟩
    clear e_t1
    refine ⟨_, rfl, _, rfl, W.b, _, rfl, DGet.k (k := Sum.inr "names") (rmL_sub _ _ wd.hb), a, c, W.p1, n + 1, _, rfl, D, by omega, rm32 _ _ wd.h1, by simp, by show 2 ≤ 1000; decide, fun j_ vz O3 hv_ s_ D_ => ?_⟩
    replace D := D_
    replace sB := sB.trans s_
    replace wd := wd.same (rmL_but (more3 s_))
    replace he := s_ _ _ ne he
    clear s_
    obtain ⟨z, rfl, nz⟩ := two_at hv_ wd.n0 wd.n1
    clear hv_
    refine ⟨by show 2 ≤ sizeLine; decide, fun tr np_ => ?_⟩
    have x_ := same_upd (o := .tup [.str "name", .str z]) np_
    have e_tr := rmL_new (o := .tup [.str "name", .str z]) (in3 D he) np_
    replace D := D.same x_
    replace sB := sB.trans (.same x_)
    replace wd := wd.same (rmL_same x_)
    replace he := x_ _ _ he
    generalize upd O3 tr (.tup [.str "name", .str z]) = B4 at *
    clear x_ np_
    have d_tr : Dp K (rmL [a, c, e] B4) (.ref tr) (lkD (.name z)) := .tup (SqT.of e_tr) (.cons (.str _) (.cons (.str _) .nil))
    clear e_tr
    exact q _ (.name z) _ sB (D.le (by omega)) d_tr nz m1
  refine iteF ⟨_, rfl, rfl, _, rfl, ?_⟩
  apply late
  · intro rest
    refine ite2 (fun c3 => ?_) (fun c3 => rest)
    clear rest
    refine ⟨_, rfl, by show 4 ≤ sizeLine; decide, fun t1 np_ => ?_⟩
    have x_ := same_upd (o := .lst [.str "x", .str "y", .str "way", .str "number"]) np_
    have e_t1 := rmL_new (o := .lst [.str "x", .str "y", .str "way", .str "number"]) (in3 D he) np_
    replace D := D.same x_
    replace sB := sB.trans (.same x_)
    replace wd := wd.same (rmL_same x_)
    replace he := x_ _ _ he
    generalize upd T2 t1 (.lst [.str "x", .str "y", .str "way", .str "number"]) = C2 at *
    clear x_ np_
    refine ⟨a, c, t1, n + 1, _, rfl, D, by omega, rm32 _ _ e_t1, by simp, by show 4 ≤ 1000; decide, fun j_ vw O3 hv_ s_ D_ => ?_⟩
    replace D := D_
    replace sB := sB.trans s_
    replace wd := wd.same (rmL_but (more3 s_))
    replace he := s_ _ _ ne he
    replace e_t1 := rmL_but (more3 s_) _ _ e_t1
    clear s_
    obtain ⟨sk, sk4, rfl⟩ := s4_at hv_
    clear hv_ e_t1
    refine ⟨by show 1 ≤ sizeLine; decide, fun tr np_ => ?_⟩
    have x_ := same_upd (o := .tup [.str (spotWords.getD sk "")]) np_
    have e_tr := rmL_new (o := .tup [.str (spotWords.getD sk "")]) (in3 D he) np_
    replace D := D.same x_
    replace sB := sB.trans (.same x_)
    replace wd := wd.same (rmL_same x_)
    replace he := x_ _ _ he
    generalize upd O3 tr (.tup [.str (spotWords.getD sk "")]) = C4 at *
    clear x_ np_
    have d_tr : Dp K (rmL [a, c, e] C4) (.ref tr) (lkD (.spot sk)) := .tup (SqT.of e_tr) (.cons (.str _) .nil)
    clear e_tr
    exact q _ (.spot sk) _ sB (D.le (by omega)) d_tr sk4 m1
  refine ⟨_, rfl, rfl, _, rfl, ?_⟩
  apply late
  · intro rest
    refine ite2 (fun c3 => ?_) (fun c3 => rest)
    clear rest
    refine ⟨_, rfl, W.b, _, rfl, DGet.k (k := Sum.inr "lists") (rmL_sub _ _ wd.hb), ?_⟩
    refine ⟨by show 0 ≤ sizeLine; decide, fun t1 np_ => ?_⟩
    have x_ := same_upd (o := .lst []) np_
    have e_t1 := rmL_new (o := .lst []) (in3 D he) np_
    replace D := D.same x_
    replace sB := sB.trans (.same x_)
    replace wd := wd.same (rmL_same x_)
    replace he := x_ _ _ he
    generalize upd T2 t1 (.lst []) = E2 at *
    clear x_ np_
    refine ne_two wd.n2 wd.n3 (rmL_sub _ _ wd.h3) (rmL_sub _ _ e_t1) ⟨_, rfl, iteT ?_⟩
    clear e_t1
    refine ⟨_, rfl, _, rfl, W.b, _, rfl, DGet.k (k := Sum.inr "lists") (rmL_sub _ _ wd.hb), a, c, W.p3, n + 1, _, rfl, D, by omega, rm32 _ _ wd.h3, by simp, by show 2 ≤ 1000; decide, fun j_ vz O3 hv_ s_ D_ => ?_⟩
    replace D := D_
    replace sB := sB.trans s_
    replace wd := wd.same (rmL_but (more3 s_))
    replace he := s_ _ _ ne he
    clear s_
    obtain ⟨z, rfl, nz⟩ := two_at hv_ wd.n2 wd.n3
    clear hv_
    refine ⟨_, rfl, a, c, n + 1 + 1, 2, rfl, D, by omega, by decide, by decide, fun r4 T5 r4_0 r4_1 s_ D_ => ?_⟩
    replace D := D_
    replace sB := sB.trans s_
    replace wd := wd.same (rmL_but (more3 s_))
    replace he := s_ _ _ ne he
    clear s_
    refine ⟨rfl, _, rfl, ite2 (fun c6 => ?_) (fun c6 => iteF ?_)⟩
    · refine ⟨_, rfl, _, _, rfl, rfl, _, rfl, ?_⟩
      rw [show decide ((1 : Int) < ((m : Nat) : Int)) = decide (1 < m) by by_cases c1 : 1 < m <;> simp [c1] <;> omega]
      by_cases c5 : 1 < m
      · rw [decide_eq_true c5]
        have lk2 : ltk m = 2 * ltk (m - 1) + 4 ∧ 6 ≤ ltk (m - 1) := by
          match m, c5 with
          | j + 2, _ => exact ⟨rfl, ltk_ge j⟩
        refine iteT ?_
        refine ⟨_, rfl, _, rfl, _, rfl, 1, by omega, by omega, a, c, e, n + 1 + 1 + 1, W, _, rfl, D, wd, ne, he, by omega, by omega, fun v1 L1 Hk1 s_ D_ dv1 fv1 ev1 => ?_⟩
        replace D := D_
        replace sB := sB.trans s_
        replace wd := wd.same (rmL_but (more3 s_))
        replace he := s_ _ _ ne he
        clear s_
        refine ⟨by show 3 ≤ sizeLine; decide, fun tr np_ => ?_⟩
        have x_ := same_upd (o := .tup [.str "item", .str z, v1]) np_
        have e_tr := rmL_new (o := .tup [.str "item", .str z, v1]) (in3 D he) np_
        replace D := D.same x_
        replace sB := sB.trans (.same x_)
        replace wd := wd.same (rmL_same x_)
        replace he := x_ _ _ he
        replace dv1 := dp_same (rmL_same x_) _ _ dv1
        generalize upd Hk1 tr (.tup [.str "item", .str z, v1]) = I2 at *
        clear x_ np_
        have d_tr : Dp K (rmL [a, c, e] I2) (.ref tr) (lkD (.item z L1)) := .tup (SqT.of e_tr) (.cons (.str _) (.cons (.str _) (.cons dv1 .nil)))
        clear e_tr
        exact q _ (.item z L1) _ sB (D.le (by omega)) d_tr ⟨nz, fv1⟩ (by show L1.deep + 1 ≤ m; omega)
      · rw [decide_eq_false c5]
        refine iteF ?_
        refine ⟨_, rfl, by show 2 ≤ sizeLine; decide, fun tr np_ => ?_⟩
        have x_ := same_upd (o := .tup [.str "many", .str z]) np_
        have e_tr := rmL_new (o := .tup [.str "many", .str z]) (in3 D he) np_
        replace D := D.same x_
        replace sB := sB.trans (.same x_)
        replace wd := wd.same (rmL_same x_)
        replace he := x_ _ _ he
        generalize upd T5 tr (.tup [.str "many", .str z]) = M1 at *
        clear x_ np_
        have d_tr : Dp K (rmL [a, c, e] M1) (.ref tr) (lkD (.many z)) := .tup (SqT.of e_tr) (.cons (.str _) (.cons (.str _) .nil))
        clear e_tr
        exact q _ (.many z) _ sB (D.le (by omega)) d_tr nz m1
    · refine ⟨_, rfl, by show 2 ≤ sizeLine; decide, fun tr np_ => ?_⟩
      have x_ := same_upd (o := .tup [.str "many", .str z]) np_
      have e_tr := rmL_new (o := .tup [.str "many", .str z]) (in3 D he) np_
      replace D := D.same x_
      replace sB := sB.trans (.same x_)
      replace wd := wd.same (rmL_same x_)
      replace he := x_ _ _ he
      generalize upd T5 tr (.tup [.str "many", .str z]) = M1 at *
      clear x_ np_
      have d_tr : Dp K (rmL [a, c, e] M1) (.ref tr) (lkD (.many z)) := .tup (SqT.of e_tr) (.cons (.str _) (.cons (.str _) .nil))
      clear e_tr
      exact q _ (.many z) _ sB (D.le (by omega)) d_tr nz m1
  exact iteF ⟨_, rfl, a, c, n + 1, rfl, D, by omega, fun i H9 hi s9 D9 => q _ (.num i) _ (sB.trans s9) (D9.le (by omega)) (.int i) hi m1⟩
end
end Fd

set_option Elab.async false
set_option linter.all false
set_option maxRecDepth 100000
set_option maxHeartbeats 4000000
namespace Fd
open PySem PySem.Spec PyProof.Rows L2
def ttk : Nat → Nat
  | 2 => 20
  | 3 => 50
  | _ => 0
section
variable {P : Program} {w : World} {K : PySem.W.Frag} {mg : Str → Option Value} {base : Heap} {f : Addr} {fd : FuncData}
theorem ok_looks (DL : Df K mg "_law_look" sLook ["_law_state", "_law_w", "_law_deep"] f fd) (GT : FnG P w K mg base CX0 2 "_law_take" ["_law_state", "_law_below"] spTake) (GO : FnG P w K mg base CX0 2 "_law_one_of" ["_law_state", "_law_some_here"] spOne) (GN : FnG P w K mg base CX0 2 "_law_number" ["_law_state"] spNumb) (m : Nat) :
    FnOk P w K mg base CX0 (m + 3) f fd ["_law_state", "_law_w", "_law_deep"] (spLook K m) :=
  Nat.strongRecOn m fun m ih => ok_look (k := m + 2) DL.F (GT.mono (by omega)) (GO.mono (by omega)) (GN.mono (by omega))
    (DL.g ⟨fun vs H Q E h => by
      obtain ⟨j, _, _, a, c, e, n, W, oe, rfl, _⟩ := h
      rfl, fun A outer s H args us vs Q E a b c d ⟨j, _, jm, h⟩ => ((ih j jm).mono (by omega : j + 3 ≤ m + 2)).2 A outer s H args us vs Q E a b c d h⟩)
abbrev sTest : Stmt := top 34
theorem scTest : FnScope ["_law_state", "_law_w", "_law_deep", "_law_way", "_law_one", "_law_other_here"] ["_law_state", "_law_w", "_law_deep"] (defScope sTest) := ⟨rfl, rfl, rfl, by decide +kernel, rfl, by decide +kernel, by decide +kernel⟩
def spTest (K : PySem.W.Frag) (m : Nat) : Sp := fun vs H Q _ => ∃ (a c e : Addr) (n : Nat) (W : WP) (oe : HO), vs = [.ref a, .ref W.b, .int m] ∧ Dr H a c n ∧ Wd W e (rmL [a, c, e] H) ∧ e ∉ [a, c] ∧ H e = some oe ∧ n + ttk m ≤ 1000000 ∧ (m = 2 ∨ m = 3) ∧
  ∀ v L H', ButL [a, c] H H' → Dr H' a c (n + ttk m) → Dp K (rmL [a, c, e] H') v (tsD L) → TsF L → L.deep ≤ m → Q v H'
def spLookA (K : PySem.W.Frag) (k : Nat) : Sp := fun vs H Q E => ∃ j, j ≤ k ∧ spLook K j vs H Q E
def spTestL (K : PySem.W.Frag) (m : Nat) : Sp := fun vs H Q E => m = 3 ∧ spTest K 2 vs H Q E
theorem ok_test {k m : Nat} (F : Fun K "_law_test" "_law_test" sTest f fd) (GT : FnG P w K mg base CX0 k "_law_take" ["_law_state", "_law_below"] spTake) (GO : FnG P w K mg base CX0 k "_law_one_of" ["_law_state", "_law_some_here"] spOne)
    (GK : FnG P w K mg base CX0 k "_law_look" ["_law_state", "_law_w", "_law_deep"] (spLookA K 3)) (GL : FnG P w K mg base CX0 k "_law_test" ["_law_state", "_law_w", "_law_deep"] (spTestL K m)) : FnOk P w K mg base CX0 (k + 1) f fd ["_law_state", "_law_w", "_law_deep"] (spTest K m) := by
  obtain ⟨_, _, G__law_take, m__law_take, k__law_take, b__law_take⟩ := GT
  obtain ⟨_, _, G__law_one_of, m__law_one_of, k__law_one_of, b__law_one_of⟩ := GO
  obtain ⟨_, _, G__law_look, m__law_look, k__law_look, b__law_look⟩ := GK
  obtain ⟨_, _, G__law_test, m__law_test, k__law_test, b__law_test⟩ := GL
  have sc := scTest
  refine F.ok sc (fun vs H Q E h => ?_) (fun cdv A outer s H vs Q E hr h => ?_)
  · obtain ⟨a, c, e, n, W, oe, rfl, _⟩ := h
    rfl
  obtain ⟨a, c, e, n, W, oe, rfl, D, wd, ne, he, hn, hm, q⟩ := h
  refine ⟨_, (pss_cons (ps_set (i := 3) sc.nd rfl (.inl rfl) (pe_call G__law_take (hr.mono (by omega)) (by rfl) m__law_take k__law_take b__law_take .nil pass0 (pa_cons (pv 0) (pa_cons pe_int pa_nil))))
      (pss_cons (ps_if (PW.pt (pw_and (pt_cmpR op_gt (pv 2) pe_int (nomark _)) (pw_and1 (pt_cmpR op_lt (pv 3) pe_int (nomark _))))) (pss_cons (ps_par (i := 4) (j := 5) (by rfl) sc.nd rfl rfl (by decide) rfl rfl (pa_cons (pe_call G__law_test (hr.mono (by omega)) (by rfl) m__law_test k__law_test b__law_test .nil pass0 (pa_cons (pv 0) (pa_cons (pv 1) (pa_cons (pe_op op_sub (pv 2) pe_int) pa_nil)))) (pa_cons (pe_call G__law_test (hr.mono (by omega)) (by rfl) m__law_test k__law_test b__law_test .nil pass0 (pa_cons (pv 0) (pa_cons (pv 1) (pa_cons (pe_op op_sub (pv 2) pe_int) pa_nil)))) pa_nil)) (by rfl))
      (pss_one (ps_ret (pe_ix ix_list (pe_lst (pa_cons (pe_tup (pa_cons pe_str (pa_cons (pv 4) pa_nil))) (pa_cons (pe_tup (pa_cons pe_str (pa_cons (pv 4) (pa_cons (pv 5) pa_nil)))) (pa_cons (pe_tup (pa_cons pe_str (pa_cons (pv 4) (pa_cons (pv 5) pa_nil)))) pa_nil)))) (pv 3) (fun _ _ => rfl))))) pss_nil)
      (pss_cons (ps_if (pt_cmpR op_eq (pv 3) pe_int (nomark _)) (pss_one (ps_ret (pe_tup (pa_cons pe_str (pa_cons (pe_call G__law_one_of (hr.mono (by omega)) (by rfl) m__law_one_of k__law_one_of b__law_one_of .nil pass0 (pa_cons (pv 0) (pa_cons (pe_dget (hu_of hr) (pv 1) pe_str (fun _ _ => rfl)) pa_nil))) pa_nil))))) pss_nil)
      (pss_one (ps_ret (pe_tup (pa_cons (pe_ix ix_list (pe_lst (pa_cons pe_str (pa_cons pe_str pa_nil))) (pe_op op_mod (pv 3) pe_int) (fun _ _ => rfl)) (pa_cons (pe_call G__law_look (hr.mono (by omega)) (by rfl) m__law_look k__law_look b__law_look .nil pass0 (pa_cons (pv 0) (pa_cons (pv 1) (pa_cons (pe_op op_sub (pv 2) pe_int) pa_nil)))) (pa_cons (pe_call G__law_look (hr.mono (by omega)) (by rfl) m__law_look k__law_look b__law_look .nil pass0 (pa_cons (pv 0) (pa_cons (pv 1) (pa_cons (pe_op op_sub (pv 2) pe_int) pa_nil)))) pa_nil))))))))), ?_⟩
  have lk1 : 2 * ltk (m - 1) + 1 ≤ ttk m ∧ 2 ≤ ttk m ∧ 1 ≤ m - 1 := by rcases hm with rfl | rfl <;> decide
  have sB : ButL [a, c] H H := fun _ _ _ h => h
  refine ⟨_, rfl, a, c, n, 8, rfl, D, by omega, by decide, by decide, fun r1 T2 r1_0 r1_1 s_ D_ => ?_⟩
  replace D := D_
  replace sB := sB.trans s_
  replace wd := wd.same (rmL_but (more3 s_))
  replace he := s_ _ _ ne he
  clear s_
  refine ⟨_, rfl, _, _, rfl, rfl, _, rfl, ?_⟩
  rw [show decide ((2 : Int) < ((m : Nat) : Int)) = decide (2 < m) by by_cases c1 : 2 < m <;> simp [c1] <;> omega]
  apply late
  · intro rest
    by_cases c1 : 2 < m
    · rw [decide_eq_true c1]
      refine iteT ⟨_, rfl, _, _, rfl, rfl, _, rfl, ite2 (fun c2 => ?_) (fun c2 => rest)⟩
      clear rest
      obtain ⟨rfl, tk2⟩ : m = 3 ∧ 1 + 2 * ttk 2 ≤ ttk 3 := by
        refine ⟨?_, by decide⟩
        rcases hm with h | h
        · omega
        · exact h
      refine ⟨_, rfl, _, rfl, _, rfl, _, _, rfl, rfl, rfl, a, c, e, n + 1, W, _, rfl, D, wd, ne, he, by omega, .inl rfl, fun v1 t1 Ht1 s_ D_ dv1 fv1 ev1 => ?_⟩
      replace D := D_
      replace sB := sB.trans s_
      replace wd := wd.same (rmL_but (more3 s_))
      replace he := s_ _ _ ne he
      clear s_
      refine ⟨_, rfl, _, rfl, _, rfl, _, _, rfl, rfl, rfl, a, c, e, n + 1 + ttk 2, W, _, rfl, D, wd, ne, he, by omega, .inl rfl, fun v2 t2 Ht2 s_ D_ dv2 fv2 ev2 => ?_⟩
      replace D := D_
      replace sB := sB.trans s_
      replace wd := wd.same (rmL_but (more3 s_))
      replace he := s_ _ _ ne he
      replace dv1 := dp_same (rmL_but (more3 s_)) _ _ dv1
      clear s_
      refine ⟨_, _, rfl, _, rfl, by show 2 ≤ sizeLine; decide, fun u1 np_ => ?_⟩
      have x_ := same_upd (o := .tup [.str "not", v1]) np_
      have e_u1 := rmL_new (o := .tup [.str "not", v1]) (in3 D he) np_
      replace D := D.same x_
      replace sB := sB.trans (.same x_)
      replace wd := wd.same (rmL_same x_)
      replace he := x_ _ _ he
      replace dv1 := dp_same (rmL_same x_) _ _ dv1
      replace dv2 := dp_same (rmL_same x_) _ _ dv2
      generalize upd Ht2 u1 (.tup [.str "not", v1]) = A3 at *
      clear x_ np_
      have d_u1 : Dp K (rmL [a, c, e] A3) (.ref u1) (tsD (.not_ t1)) := .tup (SqT.of e_u1) (.cons (.str _) (.cons dv1 .nil))
      clear e_u1
      refine ⟨_, rfl, _, rfl, by show 3 ≤ sizeLine; decide, fun u2 np_ => ?_⟩
      have x_ := same_upd (o := .tup [.str "both", v1, v2]) np_
      have e_u2 := rmL_new (o := .tup [.str "both", v1, v2]) (in3 D he) np_
      replace D := D.same x_
      replace sB := sB.trans (.same x_)
      replace wd := wd.same (rmL_same x_)
      replace he := x_ _ _ he
      replace dv1 := dp_same (rmL_same x_) _ _ dv1
      replace dv2 := dp_same (rmL_same x_) _ _ dv2
      replace d_u1 := dp_same (rmL_same x_) _ _ d_u1
      generalize upd A3 u2 (.tup [.str "both", v1, v2]) = A4 at *
      clear x_ np_
      have d_u2 : Dp K (rmL [a, c, e] A4) (.ref u2) (tsD (.both t1 t2)) := .tup (SqT.of e_u2) (.cons (.str _) (.cons dv1 (.cons dv2 .nil)))
      clear e_u2
      refine ⟨_, rfl, _, rfl, by show 3 ≤ sizeLine; decide, fun u3 np_ => ?_⟩
      have x_ := same_upd (o := .tup [.str "any", v1, v2]) np_
      have e_u3 := rmL_new (o := .tup [.str "any", v1, v2]) (in3 D he) np_
      replace D := D.same x_
      replace sB := sB.trans (.same x_)
      replace wd := wd.same (rmL_same x_)
      replace he := x_ _ _ he
      replace dv1 := dp_same (rmL_same x_) _ _ dv1
      replace dv2 := dp_same (rmL_same x_) _ _ dv2
      replace d_u1 := dp_same (rmL_same x_) _ _ d_u1
      replace d_u2 := dp_same (rmL_same x_) _ _ d_u2
      generalize upd A4 u3 (.tup [.str "any", v1, v2]) = A5 at *
      clear x_ np_
      have d_u3 : Dp K (rmL [a, c, e] A5) (.ref u3) (tsD (.any_ t1 t2)) := .tup (SqT.of e_u3) (.cons (.str _) (.cons dv1 (.cons dv2 .nil)))
      clear e_u3
      refine ⟨by show 3 ≤ sizeLine; decide, fun ul np_ => ?_⟩
      have x_ := same_upd (o := .lst [.ref u1, .ref u2, .ref u3]) np_
      have e_ul := rmL_new (o := .lst [.ref u1, .ref u2, .ref u3]) (in3 D he) np_
      replace D := D.same x_
      replace sB := sB.trans (.same x_)
      replace wd := wd.same (rmL_same x_)
      replace he := x_ _ _ he
      replace dv1 := dp_same (rmL_same x_) _ _ dv1
      replace dv2 := dp_same (rmL_same x_) _ _ dv2
      replace d_u1 := dp_same (rmL_same x_) _ _ d_u1
      replace d_u2 := dp_same (rmL_same x_) _ _ d_u2
      replace d_u3 := dp_same (rmL_same x_) _ _ d_u3
      generalize upd A5 ul (.lst [.ref u1, .ref u2, .ref u3]) = A6 at *
      clear x_ np_
      have r3 : r1 = 0 ∨ r1 = 1 ∨ r1 = 2 := by
        have := of_decide_eq_true c2
        omega
      rcases r3 with rfl | rfl | rfl
      · exact ⟨_, rfl, ul, _, 0, _, rfl, rfl, SqL.of (rmL_sub _ _ e_ul), rfl, q _ (.not_ t1) _ sB (D.le (by omega)) d_u1 fv1 (by show t1.deep + 1 ≤ 3; omega)⟩
      · exact ⟨_, rfl, ul, _, 1, _, rfl, rfl, SqL.of (rmL_sub _ _ e_ul), rfl, q _ (.both t1 t2) _ sB (D.le (by omega)) d_u2 ⟨fv1, fv2⟩ (by show max t1.deep t2.deep + 1 ≤ 3; omega)⟩
      · exact ⟨_, rfl, ul, _, 2, _, rfl, rfl, SqL.of (rmL_sub _ _ e_ul), rfl, q _ (.any_ t1 t2) _ sB (D.le (by omega)) d_u3 ⟨fv1, fv2⟩ (by show max t1.deep t2.deep + 1 ≤ 3; omega)⟩
    · rw [decide_eq_false c1]
      exact iteF rest
  refine ⟨_, rfl, rfl, _, rfl, ?_⟩
  apply late
  · intro rest
    refine ite2 (fun c3 => ?_) (fun c3 => rest)
    clear rest
    refine ⟨_, rfl, _, rfl, W.b, _, rfl, DGet.k (k := Sum.inr "figures") (rmL_sub _ _ wd.hb), a, c, W.p5, n + 1, _, rfl, D, by omega, rm32 _ _ wd.h5, by simp, by show 2 ≤ 1000; decide, fun j_ vz O1 hv_ s_ D_ => ?_⟩
    replace D := D_
    replace sB := sB.trans s_
    replace wd := wd.same (rmL_but (more3 s_))
    replace he := s_ _ _ ne he
    clear s_
    obtain ⟨z, rfl, nz⟩ := two_at hv_ wd.n6 wd.n7
    clear hv_
    refine ⟨by show 2 ≤ sizeLine; decide, fun tr np_ => ?_⟩
    have x_ := same_upd (o := .tup [.str "meets", .str z]) np_
    have e_tr := rmL_new (o := .tup [.str "meets", .str z]) (in3 D he) np_
    replace D := D.same x_
    replace sB := sB.trans (.same x_)
    replace wd := wd.same (rmL_same x_)
    replace he := x_ _ _ he
    generalize upd O1 tr (.tup [.str "meets", .str z]) = B2 at *
    clear x_ np_
    have d_tr : Dp K (rmL [a, c, e] B2) (.ref tr) (tsD (.meets z)) := .tup (SqT.of e_tr) (.cons (.str _) (.cons (.str _) .nil))
    clear e_tr
    exact q _ (.meets z) _ sB (D.le (by omega)) d_tr nz (by show 1 ≤ m; omega)
  refine ⟨by show 2 ≤ sizeLine; decide, fun wl_ np_ => ?_⟩
  have x_ := same_upd (o := .lst [.str "like", .str "below"]) np_
  have e_wl_ := rmL_new (o := .lst [.str "like", .str "below"]) (in3 D he) np_
  replace D := D.same x_
  replace sB := sB.trans (.same x_)
  replace wd := wd.same (rmL_same x_)
  replace he := x_ _ _ he
  generalize upd T2 wl_ (.lst [.str "like", .str "below"]) = C1 at *
  clear x_ np_
  obtain ⟨zw, hzw, az⟩ : ∃ zw : Str, (zw = "like" ∨ zw = "below") ∧ atI [V.str "like", V.str "below"] (r1 % 2) = some (.str zw) := by
    have : r1 % 2 = 0 ∨ r1 % 2 = 1 := by omega
    rcases this with e2 | e2
    · rw [e2]; exact ⟨_, .inl rfl, rfl⟩
    · rw [e2]; exact ⟨_, .inr rfl, rfl⟩
  refine ⟨_, rfl, _, _, rfl, rfl, (show (0 : Int) < 2 by decide), wl_, _, r1 % 2, _, rfl, rfl, SqL.of (rmL_sub _ _ e_wl_), az, ?_⟩
  refine ⟨_, rfl, _, rfl, _, rfl, _, _, rfl, rfl, m - 1, by omega, a, c, e, n + 1, W, _, congrArg (fun i => [V.ref a, V.ref W.b, V.int i]) (by omega), D, wd, ne, he, by omega, by omega, fun v1 L1 Hk2 s_ D_ dv1 fv1 ev1 => ?_⟩
  replace D := D_
  replace sB := sB.trans s_
  replace wd := wd.same (rmL_but (more3 s_))
  replace he := s_ _ _ ne he
  replace e_wl_ := rmL_but (more3 s_) _ _ e_wl_
  clear s_
  refine ⟨_, rfl, _, rfl, _, rfl, _, _, rfl, rfl, m - 1, by omega, a, c, e, n + 1 + ltk (m - 1), W, _, congrArg (fun i => [V.ref a, V.ref W.b, V.int i]) (by omega), D, wd, ne, he, by omega, by omega, fun v2 L2 Hk3 s_ D_ dv2 fv2 ev2 => ?_⟩
  replace D := D_
  replace sB := sB.trans s_
  replace wd := wd.same (rmL_but (more3 s_))
  replace he := s_ _ _ ne he
  replace e_wl_ := rmL_but (more3 s_) _ _ e_wl_
  replace dv1 := dp_same (rmL_but (more3 s_)) _ _ dv1
  clear s_
  refine ⟨by show 3 ≤ sizeLine; decide, fun tr np_ => ?_⟩
  have x_ := same_upd (o := .tup [.str zw, v1, v2]) np_
  have e_tr := rmL_new (o := .tup [.str zw, v1, v2]) (in3 D he) np_
  replace dv1 := dp_same (rmL_same x_) _ _ dv1
  replace dv2 := dp_same (rmL_same x_) _ _ dv2
  rcases hzw with rfl | rfl
  · exact q _ (.like L1 L2) _ (sB.trans (.same x_)) ((D.same x_).le (by omega)) (.tup (SqT.of e_tr) (.cons (.str _) (.cons dv1 (.cons dv2 .nil)))) ⟨fv1, fv2⟩ (by show max L1.deep L2.deep + 1 ≤ m; omega)
  · exact q _ (.less L1 L2) _ (sB.trans (.same x_)) ((D.same x_).le (by omega)) (.tup (SqT.of e_tr) (.cons (.str _) (.cons dv1 (.cons dv2 .nil)))) ⟨fv1, fv2⟩ (by show max L1.deep L2.deep + 1 ≤ m; omega)
end
end Fd

set_option Elab.async false
set_option linter.all false
set_option maxRecDepth 100000
set_option maxHeartbeats 4000000
namespace Fd
open PySem PySem.Spec PyProof.Rows L2
mutual
def tOn : PyData → Bool
  | .tuple ds => tOns ds
  | .list _ => false
  | .dict _ => false
  | _ => true
def tOns : List PyData → Bool
  | [] => true
  | d :: r => tOn d && tOns r
end
theorem on_lk : ∀ L : Lk, tOn (lkD L) = true
  | .num _ => rfl
  | .name _ => rfl
  | .many _ => rfl
  | .item x a => by show (true && (true && (tOn (lkD a) && true))) = true; rw [on_lk a]; rfl
  | .spot _ => rfl
  | .bin o a b => by show (true && (tOn (lkD a) && (tOn (lkD b) && true))) = true; rw [on_lk a, on_lk b]; rfl
theorem on_ts : ∀ t : Ts, tOn (tsD t) = true
  | .like a b => by show (true && (tOn (lkD a) && (tOn (lkD b) && true))) = true; rw [on_lk a, on_lk b]; rfl
  | .less a b => by show (true && (tOn (lkD a) && (tOn (lkD b) && true))) = true; rw [on_lk a, on_lk b]; rfl
  | .not_ t => by show (true && (tOn (tsD t) && true)) = true; rw [on_ts t]; rfl
  | .both t u => by show (true && (tOn (tsD t) && (tOn (tsD u) && true))) = true; rw [on_ts t, on_ts u]; rfl
  | .any_ t u => by show (true && (tOn (tsD t) && (tOn (tsD u) && true))) = true; rw [on_ts t, on_ts u]; rfl
  | .meets _ => rfl
/-! ### deeds as they are made -/
/-- a deed whose blocks are so deep at most, of such a size -/
structure DB (f : PyData → Bool) (n w : Nat) (d : PyData) : Prop where
  is : deedB f d = true
  sz : Sz n w d
  on : tOn d = true
/-- a part of a deed -/
structure PB (f : PyData → Bool) (k : Str) (n w : Nat) (d : PyData) : Prop where
  is : dpB f k d = true
  sz : Sz n w d
  on : tOn d = true
theorem pb_lk {f : PyData → Bool} {L : Lk} {m n w : Nat} (h : LkF L) (e : L.deep ≤ m) (hm : m ≤ 3) (hn : m + 1 ≤ n) (hw : wl m ≤ w) : PB f "look" n w (lkD L) :=
  ⟨by rw [dp_look h]; exact decide_eq_true (by omega), (lk_sz h).le (by omega) (Nat.le_trans (wl_mono e) hw), on_lk L⟩
theorem pb_ts {f : PyData → Bool} {t : Ts} {m n w : Nat} (h : TsF t) (e : t.deep ≤ m) (hm : m ≤ 3) (hn : m + 1 ≤ n) (hw : wl m ≤ w) : PB f "test" n w (tsD t) :=
  ⟨by rw [dp_test h]; exact decide_eq_true (by omega), (ts_sz h).le (by omega) (Nat.le_trans (wl_mono e) hw), on_ts t⟩
theorem pb_nm {f : PyData → Bool} {k z : Str} {n : Nat} (hk : k ∈ (["own", "list", "piece", "news", "figure"] : List Str)) (h : IsNm z) : PB f k (n + 1) 8 (.str z) := by
  refine ⟨?_, sz_nm h, rfl⟩
  simp only [List.mem_cons, List.not_mem_nil, or_false] at hk
  have e : isNm (.str z) = true := nm_of h
  rcases hk with rfl | rfl | rfl | rfl | rfl
  all_goals
    unfold dpB
    rw [if_neg (by decide +kernel), if_neg (by decide +kernel), if_neg (by decide +kernel), if_neg (by decide +kernel), if_neg (by decide +kernel), e, Bool.or_true]
theorem pb_int {f : PyData → Bool} {i : Int} {n : Nat} (h : inB i = true) : PB f "look" (n + 2) 71 (.int i) :=
  pb_lk (L := .num i) (m := 1) h (Nat.le_refl _) (by decide) (by omega) (by decide)
theorem db0 {f : PyData → Bool} {z : Str} {n w : Nat} (hz : wdS z = true) (g : gD z = some ([] : List Str)) (hn : 2 ≤ n) (hw : 9 ≤ w) : DB f n w (.tuple [.str z]) :=
  ⟨by unfold deedB; dsimp only; rw [g]; rfl, ((SzA.nil (n := 1) (w := 0) (l := 0)).cons (sz_wd hz)).tup (by decide) hn hw, rfl⟩
theorem db1 {f : PyData → Bool} {z k : Str} {n w n' w' : Nat} {d : PyData} (hz : wdS z = true) (g : gD z = some [k]) (p : PB f k (n + 1) w d) (hn : n + 2 ≤ n') (hw : w + 10 ≤ w') : DB f n' w' (.tuple [.str z, d]) :=
  ⟨by rw [deed1 g]; exact p.is, ((SzA.nil (n := n + 1) (w := 0) (l := 0)).cons p.sz |>.cons (sz_wd hz)).tup (by decide) hn (by omega), by show (true && (tOn d && true)) = true; rw [p.on]; rfl⟩
theorem db2 {f : PyData → Bool} {z k k' : Str} {n w v n' w' : Nat} {d d' : PyData} (hz : wdS z = true) (g : gD z = some [k, k']) (p : PB f k (n + 1) w d) (p' : PB f k' (n + 1) v d') (hn : n + 2 ≤ n') (hw : w + v + 11 ≤ w') : DB f n' w' (.tuple [.str z, d, d']) :=
  ⟨by rw [deed2 g, p.is, p'.is]; rfl, ((SzA.nil (n := n + 1) (w := 0) (l := 0)).cons p'.sz |>.cons p.sz |>.cons (sz_wd hz)).tup (by decide) hn (by omega), by show (true && (tOn d && (tOn d' && true))) = true; rw [p.on, p'.on]; rfl⟩
theorem db3 {f : PyData → Bool} {z k k' k'' : Str} {n w v u n' w' : Nat} {d d' d'' : PyData} (hz : wdS z = true) (g : gD z = some [k, k', k'']) (p : PB f k (n + 1) w d) (p' : PB f k' (n + 1) v d') (p'' : PB f k'' (n + 1) u d'') (hn : n + 2 ≤ n') (hw : w + v + u + 12 ≤ w') : DB f n' w' (.tuple [.str z, d, d', d'']) :=
  ⟨by rw [deed3 g, p.is, p'.is, p''.is]; rfl, ((SzA.nil (n := n + 1) (w := 0) (l := 0)).cons p''.sz |>.cons p'.sz |>.cons p.sz |>.cons (sz_wd hz)).tup (by decide) hn (by omega), by show (true && (tOn d && (tOn d' && (tOn d'' && true)))) = true; rw [p.on, p'.on, p''.on]; rfl⟩
/-- a thing beside the addresses, of which C is so -/
def Gq (K : PySem.W.Frag) (as : List Addr) (C : PyData → Prop) (H : Hp) (v : V) : Prop := ∃ d, Dp K (rmL as H) v d ∧ C d
theorem s3_at {j : Nat} {v : V} (h : [V.str "set", .str "add", .str "add"][j]? = some v) : ∃ z : Str, v = .str z ∧ wdS z = true ∧ gD z = some (["own", "look"] : List Str) := by
  match j, h with
  | 0, h => exact ⟨_, (Option.some.inj h).symm, by decide +kernel, by decide +kernel⟩
  | 1, h => exact ⟨_, (Option.some.inj h).symm, by decide +kernel, by decide +kernel⟩
  | 2, h => exact ⟨_, (Option.some.inj h).symm, by decide +kernel, by decide +kernel⟩
  | j + 3, h => simp at h
section
variable {P : Program} {w : World} {K : PySem.W.Frag} {mg : Str → Option Value} {base : Heap} {f : Addr} {fd : FuncData}
abbrev sBody : Stmt := top 35
theorem scBody : FnScope ["_law_state", "_law_w", "_law_way", "_law_look_here", "_law_name"] ["_law_state", "_law_w"] (defScope sBody) := ⟨rfl, rfl, rfl, by decide +kernel, rfl, by decide +kernel, by decide +kernel⟩
def spBody (K : PySem.W.Frag) : Sp := fun vs H Q _ => ∃ (a c e : Addr) (n : Nat) (W : WP) (oe : HO), vs = [.ref a, .ref W.b] ∧ Dr H a c n ∧ Wd W e (rmL [a, c, e] H) ∧ e ∉ [a, c] ∧ H e = some oe ∧ n + 80 ≤ 1000000 ∧
  ∀ v d H', ButL [a, c] H H' → Dr H' a c (n + 80) → Dp K (rmL [a, c, e] H') v d → (∀ f, DB f 6 500 d) → Q v H'
theorem ok_body {k : Nat} (F : Fun K "_law_body" "_law_body" sBody f fd) (GT : FnG P w K mg base CX0 k "_law_take" ["_law_state", "_law_below"] spTake) (GO : FnG P w K mg base CX0 k "_law_one_of" ["_law_state", "_law_some_here"] spOne)
    (GK : FnG P w K mg base CX0 k "_law_look" ["_law_state", "_law_w", "_law_deep"] (spLookA K 3)) : FnOk P w K mg base CX0 (k + 1) f fd ["_law_state", "_law_w"] (spBody K) := by
  obtain ⟨_, _, G__law_take, m__law_take, k__law_take, b__law_take⟩ := GT
  obtain ⟨_, _, G__law_one_of, m__law_one_of, k__law_one_of, b__law_one_of⟩ := GO
  obtain ⟨_, _, G__law_look, m__law_look, k__law_look, b__law_look⟩ := GK
  have sc := scBody
  refine F.ok sc (fun vs H Q E h => ?_) (fun cdv A outer s H vs Q E hr h => ?_)
  · obtain ⟨a, c, e, n, W, oe, rfl, _⟩ := h
    rfl
  obtain ⟨a, c, e, n, W, oe, rfl, D, wd, ne, he, hn, q⟩ := h
  refine ⟨_, (pss_cons (ps_par (i := 2) (j := 3) (by rfl) sc.nd rfl rfl (by decide) rfl rfl (pa_cons (pe_call G__law_take (hr.mono (by omega)) (by rfl) m__law_take k__law_take b__law_take .nil pass0 (pa_cons (pv 0) (pa_cons pe_int pa_nil))) (pa_cons (pe_call G__law_look (hr.mono (by omega)) (by rfl) m__law_look k__law_look b__law_look .nil pass0 (pa_cons (pv 0) (pa_cons (pv 1) (pa_cons pe_int pa_nil)))) pa_nil)) (by rfl))
      (pss_cons (ps_if (pt_cmpR op_lt (pv 2) pe_int (nomark _)) (pss_one (ps_ret (pe_ix ix_list (pe_lst (pa_cons (pe_tup (pa_cons pe_str (pa_cons (pv 3) pa_nil))) (pa_cons (pe_tup (pa_cons pe_str (pa_cons (pv 3) pa_nil))) (pa_cons (pe_tup (pa_cons pe_str (pa_cons (pv 3) (pa_cons (pe_call G__law_look (hr.mono (by omega)) (by rfl) m__law_look k__law_look b__law_look .nil pass0 (pa_cons (pv 0) (pa_cons (pv 1) (pa_cons pe_int pa_nil)))) pa_nil)))) pa_nil)))) (pv 2) (fun _ _ => rfl)))) pss_nil)
      (pss_cons (ps_if (pt_cmpR op_lt (pv 2) pe_int (nomark _)) (pss_one (ps_ret (pe_ix ix_list (pe_lst (pa_cons (pe_tup (pa_cons pe_str pa_nil)) (pa_cons (pe_tup (pa_cons pe_str pa_nil)) pa_nil))) (pe_op op_sub (pv 2) pe_int) (fun _ _ => rfl)))) pss_nil)
      (pss_cons (ps_if (PW.pt (pw_and (pt_cmpR op_lt (pv 2) pe_int (nomark _)) (pw_and1 (pt_cmpR (op_neD hr.units) (pe_dget (hu_of hr) (pv 1) pe_str (fun _ _ => rfl)) (pe_lst pa_nil) (nomark _))))) (pss_one (ps_ret (pe_tup (pa_cons (pe_ix ix_list (pe_lst (pa_cons pe_str (pa_cons pe_str (pa_cons pe_str pa_nil)))) (pe_op op_sub (pv 2) pe_int) (fun _ _ => rfl)) (pa_cons (pe_call G__law_one_of (hr.mono (by omega)) (by rfl) m__law_one_of k__law_one_of b__law_one_of .nil pass0 (pa_cons (pv 0) (pa_cons (pe_dget (hu_of hr) (pv 1) pe_str (fun _ _ => rfl)) pa_nil))) (pa_cons (pv 3) pa_nil)))))) pss_nil)
      (pss_cons (ps_if (PW.pt (pw_and (pt_cmpR op_lt (pv 2) pe_int (nomark _)) (pw_and1 (pt_cmpR (op_neD hr.units) (pe_dget (hu_of hr) (pv 1) pe_str (fun _ _ => rfl)) (pe_lst pa_nil) (nomark _))))) (pss_cons (ps_set (i := 4) sc.nd rfl (.inl rfl) (pe_call G__law_one_of (hr.mono (by omega)) (by rfl) m__law_one_of k__law_one_of b__law_one_of .nil pass0 (pa_cons (pv 0) (pa_cons (pe_dget (hu_of hr) (pv 1) pe_str (fun _ _ => rfl)) pa_nil))))
      (pss_one (ps_ret (pe_ix ix_list (pe_lst (pa_cons (pe_tup (pa_cons pe_str (pa_cons (pv 4) (pa_cons (pv 3) pa_nil)))) (pa_cons (pe_tup (pa_cons pe_str (pa_cons (pv 4) (pa_cons (pv 3) pa_nil)))) (pa_cons (pe_tup (pa_cons pe_str (pa_cons (pv 4) (pa_cons (pv 3) (pa_cons (pe_call G__law_look (hr.mono (by omega)) (by rfl) m__law_look k__law_look b__law_look .nil pass0 (pa_cons (pv 0) (pa_cons (pv 1) (pa_cons pe_int pa_nil)))) pa_nil))))) pa_nil)))) (pe_op op_sub (pv 2) pe_int) (fun _ _ => rfl))))) pss_nil)
      (pss_one (ps_ret (pe_tup (pa_cons pe_str (pa_cons (pv 3) pa_nil)))))))))), ?_⟩
  have l3 : ltk 3 = 36 := rfl
  have l2 : ltk 2 = 16 := rfl
  have sB : ButL [a, c] H H := fun _ _ _ h => h
  refine ⟨_, rfl, a, c, n, 12, rfl, D, by omega, by decide, by decide, fun r1 T2 r1_0 r1_1 s_ D_ => ?_⟩
  replace D := D_
  replace sB := sB.trans s_
  replace wd := wd.same (rmL_but (more3 s_))
  replace he := s_ _ _ ne he
  clear s_
  refine ⟨_, rfl, _, rfl, 3, by decide, a, c, e, n + 1, W, _, rfl, D, wd, ne, he, by omega, by omega, fun v0 L0 Hk3 s_ D_ dv0 fv0 ev0 => ?_⟩
  replace D := D_
  replace sB := sB.trans s_
  replace wd := wd.same (rmL_but (more3 s_))
  replace he := s_ _ _ ne he
  clear s_
  refine ⟨_, _, rfl, ?_⟩
  refine ⟨_, rfl, _, _, rfl, rfl, _, rfl, ite2 (fun c2 => ?_) (fun c2 => ?_)⟩
  · skip
    refine ⟨_, rfl, by show 2 ≤ sizeLine; decide, fun u1 np_ => ?_⟩
    have x_ := same_upd (o := .tup [.str "move", v0]) np_
    have e_u1 := rmL_new (o := .tup [.str "move", v0]) (in3 D he) np_
    replace D := D.same x_
    replace sB := sB.trans (.same x_)
    replace wd := wd.same (rmL_same x_)
    replace he := x_ _ _ he
    replace dv0 := dp_same (rmL_same x_) _ _ dv0
    generalize upd Hk3 u1 (.tup [.str "move", v0]) = A1 at *
    clear x_ np_
    have d_u1 : Dp K (rmL [a, c, e] A1) (.ref u1) (.tuple [.str "move", lkD L0]) := .tup (SqT.of e_u1) (.cons (.str _) (.cons dv0 .nil))
    clear e_u1
    refine ⟨_, rfl, by show 2 ≤ sizeLine; decide, fun u2 np_ => ?_⟩
    have x_ := same_upd (o := .tup [.str "turn", v0]) np_
    have e_u2 := rmL_new (o := .tup [.str "turn", v0]) (in3 D he) np_
    replace D := D.same x_
    replace sB := sB.trans (.same x_)
    replace wd := wd.same (rmL_same x_)
    replace he := x_ _ _ he
    replace dv0 := dp_same (rmL_same x_) _ _ dv0
    replace d_u1 := dp_same (rmL_same x_) _ _ d_u1
    generalize upd A1 u2 (.tup [.str "turn", v0]) = A2 at *
    clear x_ np_
    have d_u2 : Dp K (rmL [a, c, e] A2) (.ref u2) (.tuple [.str "turn", lkD L0]) := .tup (SqT.of e_u2) (.cons (.str _) (.cons dv0 .nil))
    clear e_u2
    refine ⟨_, rfl, _, rfl, _, rfl, 2, by decide, a, c, e, n + 1 + ltk 3, W, _, rfl, D, wd, ne, he, by omega, by omega, fun v1 L1 Hk3 s_ D_ dv1 fv1 ev1 => ?_⟩
    replace D := D_
    replace sB := sB.trans s_
    replace wd := wd.same (rmL_but (more3 s_))
    replace he := s_ _ _ ne he
    replace dv0 := dp_same (rmL_but (more3 s_)) _ _ dv0
    replace d_u1 := dp_same (rmL_but (more3 s_)) _ _ d_u1
    replace d_u2 := dp_same (rmL_but (more3 s_)) _ _ d_u2
    clear s_
    refine ⟨by show 3 ≤ sizeLine; decide, fun u3 np_ => ?_⟩
    have x_ := same_upd (o := .tup [.str "place", v0, v1]) np_
    have e_u3 := rmL_new (o := .tup [.str "place", v0, v1]) (in3 D he) np_
    replace D := D.same x_
    replace sB := sB.trans (.same x_)
    replace wd := wd.same (rmL_same x_)
    replace he := x_ _ _ he
    replace dv0 := dp_same (rmL_same x_) _ _ dv0
    replace d_u1 := dp_same (rmL_same x_) _ _ d_u1
    replace d_u2 := dp_same (rmL_same x_) _ _ d_u2
    replace dv1 := dp_same (rmL_same x_) _ _ dv1
    generalize upd Hk3 u3 (.tup [.str "place", v0, v1]) = A4 at *
    clear x_ np_
    have d_u3 : Dp K (rmL [a, c, e] A4) (.ref u3) (.tuple [.str "place", lkD L0, lkD L1]) := .tup (SqT.of e_u3) (.cons (.str _) (.cons dv0 (.cons dv1 .nil)))
    clear e_u3
    refine ⟨by show 3 ≤ sizeLine; decide, fun ul np_ => ?_⟩
    have x_ := same_upd (o := .lst [.ref u1, .ref u2, .ref u3]) np_
    have e_ul := rmL_new (o := .lst [.ref u1, .ref u2, .ref u3]) (in3 D he) np_
    replace D := D.same x_
    replace sB := sB.trans (.same x_)
    replace wd := wd.same (rmL_same x_)
    replace he := x_ _ _ he
    replace dv0 := dp_same (rmL_same x_) _ _ dv0
    replace d_u1 := dp_same (rmL_same x_) _ _ d_u1
    replace d_u2 := dp_same (rmL_same x_) _ _ d_u2
    replace dv1 := dp_same (rmL_same x_) _ _ dv1
    replace d_u3 := dp_same (rmL_same x_) _ _ d_u3
    generalize upd A4 ul (.lst [.ref u1, .ref u2, .ref u3]) = A5 at *
    clear x_ np_
    have r3 : r1 = 0 ∨ r1 = 1 ∨ r1 = 2 := by
      have := of_decide_eq_true c2
      omega
    rcases r3 with rfl | rfl | rfl
    · exact ⟨_, rfl, ul, _, 0, _, rfl, rfl, SqL.of (rmL_sub _ _ e_ul), rfl, q _ _ _ sB (D.le (by omega)) d_u1 fun f => db1 (z := "move") (by decide +kernel) (by decide +kernel) (pb_lk fv0 ev0 (by decide) (n := 4) (by decide) (Nat.le_refl _)) (by decide) (by decide)⟩
    · exact ⟨_, rfl, ul, _, 1, _, rfl, rfl, SqL.of (rmL_sub _ _ e_ul), rfl, q _ _ _ sB (D.le (by omega)) d_u2 fun f => db1 (z := "turn") (by decide +kernel) (by decide +kernel) (pb_lk fv0 ev0 (by decide) (n := 4) (by decide) (Nat.le_refl _)) (by decide) (by decide)⟩
    · exact ⟨_, rfl, ul, _, 2, _, rfl, rfl, SqL.of (rmL_sub _ _ e_ul), rfl, q _ _ _ sB (D.le (by omega)) d_u3 fun f => db2 (z := "place") (by decide +kernel) (by decide +kernel) (pb_lk fv0 ev0 (by decide) (n := 4) (by decide) (Nat.le_refl _)) (pb_lk fv1 ev1 (by decide) (n := 4) (by decide) (Nat.le_refl _)) (by decide) (by decide)⟩
  refine ⟨_, rfl, _, _, rfl, rfl, _, rfl, ite2 (fun c3 => ?_) (fun c3 => ?_)⟩
  · skip
    refine ⟨by show 1 ≤ sizeLine; decide, fun u1 np_ => ?_⟩
    have x_ := same_upd (o := .tup [.str "show"]) np_
    have e_u1 := rmL_new (o := .tup [.str "show"]) (in3 D he) np_
    replace D := D.same x_
    replace sB := sB.trans (.same x_)
    replace wd := wd.same (rmL_same x_)
    replace he := x_ _ _ he
    replace dv0 := dp_same (rmL_same x_) _ _ dv0
    generalize upd Hk3 u1 (.tup [.str "show"]) = B1 at *
    clear x_ np_
    have d_u1 : Dp K (rmL [a, c, e] B1) (.ref u1) (.tuple [.str "show"]) := .tup (SqT.of e_u1) (.cons (.str _) .nil)
    clear e_u1
    refine ⟨by show 1 ≤ sizeLine; decide, fun u2 np_ => ?_⟩
    have x_ := same_upd (o := .tup [.str "hide"]) np_
    have e_u2 := rmL_new (o := .tup [.str "hide"]) (in3 D he) np_
    replace D := D.same x_
    replace sB := sB.trans (.same x_)
    replace wd := wd.same (rmL_same x_)
    replace he := x_ _ _ he
    replace dv0 := dp_same (rmL_same x_) _ _ dv0
    replace d_u1 := dp_same (rmL_same x_) _ _ d_u1
    generalize upd B1 u2 (.tup [.str "hide"]) = B2 at *
    clear x_ np_
    have d_u2 : Dp K (rmL [a, c, e] B2) (.ref u2) (.tuple [.str "hide"]) := .tup (SqT.of e_u2) (.cons (.str _) .nil)
    clear e_u2
    refine ⟨by show 2 ≤ sizeLine; decide, fun ul np_ => ?_⟩
    have x_ := same_upd (o := .lst [.ref u1, .ref u2]) np_
    have e_ul := rmL_new (o := .lst [.ref u1, .ref u2]) (in3 D he) np_
    replace D := D.same x_
    replace sB := sB.trans (.same x_)
    replace wd := wd.same (rmL_same x_)
    replace he := x_ _ _ he
    replace dv0 := dp_same (rmL_same x_) _ _ dv0
    replace d_u1 := dp_same (rmL_same x_) _ _ d_u1
    replace d_u2 := dp_same (rmL_same x_) _ _ d_u2
    generalize upd B2 ul (.lst [.ref u1, .ref u2]) = B3 at *
    clear x_ np_
    have r3 : r1 = 3 ∨ r1 = 4 := by
      have h1 := of_decide_eq_true c3
      have h2 : ¬ r1 < 3 := fun z => c2 (decide_eq_true z)
      omega
    rcases r3 with rfl | rfl
    · exact ⟨_, rfl, _, _, rfl, rfl, ul, _, 0, _, rfl, rfl, SqL.of (rmL_sub _ _ e_ul), rfl, q _ _ _ sB (D.le (by omega)) d_u1 fun f => db0 (z := "show") (by decide +kernel) (by decide +kernel) (by decide) (by decide)⟩
    · exact ⟨_, rfl, _, _, rfl, rfl, ul, _, 1, _, rfl, rfl, SqL.of (rmL_sub _ _ e_ul), rfl, q _ _ _ sB (D.le (by omega)) d_u2 fun f => db0 (z := "hide") (by decide +kernel) (by decide +kernel) (by decide) (by decide)⟩
  refine ⟨_, rfl, _, _, rfl, rfl, _, rfl, ?_⟩
  by_cases c4 : decide (r1 < 8) = true
  · refine iteB c4 ⟨_, rfl, W.b, _, rfl, DGet.k (k := Sum.inr "set") (rmL_sub _ _ wd.hb), ?_⟩
    refine ⟨by show 0 ≤ sizeLine; decide, fun t1 np_ => ?_⟩
    have x_ := same_upd (o := .lst []) np_
    have e_t1 := rmL_new (o := .lst []) (in3 D he) np_
    replace D := D.same x_
    replace sB := sB.trans (.same x_)
    replace wd := wd.same (rmL_same x_)
    replace he := x_ _ _ he
    replace dv0 := dp_same (rmL_same x_) _ _ dv0
    generalize upd Hk3 t1 (.lst []) = C2 at *
    clear x_ np_
    refine ne_two wd.n0 wd.n1 (rmL_sub _ _ wd.h2) (rmL_sub _ _ e_t1) ⟨_, rfl, iteT ?_⟩
    clear e_t1
    refine ⟨by show 3 ≤ sizeLine; decide, fun ul np_ => ?_⟩
    have x_ := same_upd (o := .lst [.str "set", .str "add", .str "add"]) np_
    have e_ul := rmL_new (o := .lst [.str "set", .str "add", .str "add"]) (in3 D he) np_
    replace D := D.same x_
    replace sB := sB.trans (.same x_)
    replace wd := wd.same (rmL_same x_)
    replace he := x_ _ _ he
    replace dv0 := dp_same (rmL_same x_) _ _ dv0
    generalize upd C2 ul (.lst [.str "set", .str "add", .str "add"]) = C3 at *
    clear x_ np_
    obtain ⟨zw, wz, gz, az⟩ : ∃ zw : Str, wdS zw = true ∧ gD zw = some (["own", "look"] : List Str) ∧ atI [V.str "set", V.str "add", V.str "add"] (r1 - 5) = some (.str zw) := by
      have : r1 = 5 ∨ r1 = 6 ∨ r1 = 7 := by
        have h1 := of_decide_eq_true c4
        have h2 : ¬ r1 < 5 := fun z => c3 (decide_eq_true z)
        omega
      rcases this with rfl | rfl | rfl
      · exact ⟨_, by decide +kernel, by decide +kernel, rfl⟩
      · exact ⟨_, by decide +kernel, by decide +kernel, rfl⟩
      · exact ⟨_, by decide +kernel, by decide +kernel, rfl⟩
    refine ⟨_, rfl, _, _, rfl, rfl, ul, _, r1 - 5, _, rfl, rfl, SqL.of (rmL_sub _ _ e_ul), az, ?_⟩
    refine ⟨_, rfl, _, rfl, W.b, _, rfl, DGet.k (k := Sum.inr "set") (rmL_sub _ _ wd.hb), a, c, W.p2, n + 1 + ltk 3, _, rfl, D, by omega, rm32 _ _ wd.h2, by simp, by show 2 ≤ 1000; decide, fun j_ vz O4 hv_ s_ D_ => ?_⟩
    replace D := D_
    replace sB := sB.trans s_
    replace wd := wd.same (rmL_but (more3 s_))
    replace he := s_ _ _ ne he
    replace dv0 := dp_same (rmL_but (more3 s_)) _ _ dv0
    replace e_ul := rmL_but (more3 s_) _ _ e_ul
    clear s_
    obtain ⟨z, rfl, nz⟩ := two_at hv_ wd.n0 wd.n1
    clear hv_
    refine ⟨_, rfl, by show 3 ≤ sizeLine; decide, fun tr np_ => ?_⟩
    have x_ := same_upd (o := .tup [.str zw, .str z, v0]) np_
    have e_tr := rmL_new (o := .tup [.str zw, .str z, v0]) (in3 D he) np_
    replace D := D.same x_
    replace sB := sB.trans (.same x_)
    replace wd := wd.same (rmL_same x_)
    replace he := x_ _ _ he
    replace dv0 := dp_same (rmL_same x_) _ _ dv0
    replace e_ul := rmL_same x_ _ _ e_ul
    generalize upd O4 tr (.tup [.str zw, .str z, v0]) = C5 at *
    clear x_ np_
    have d_tr : Dp K (rmL [a, c, e] C5) (.ref tr) (.tuple [.str zw, .str z, lkD L0]) := .tup (SqT.of e_tr) (.cons (.str _) (.cons (.str _) (.cons dv0 .nil)))
    clear e_tr
    exact q _ _ _ sB (D.le (by omega)) d_tr fun f => db2 wz gz (pb_nm (k := "own") (n := 3) (by decide +kernel) nz) (pb_lk fv0 ev0 (by decide) (n := 4) (by decide) (Nat.le_refl _)) (by decide) (by decide)
  refine iteBF (eq_false_of_ne_true c4) (iteF ⟨_, rfl, _, _, rfl, rfl, _, rfl, ?_⟩)
  by_cases c5 : decide (r1 < 11) = true
  · refine iteB c5 ⟨_, rfl, W.b, _, rfl, DGet.k (k := Sum.inr "lists") (rmL_sub _ _ wd.hb), ?_⟩
    refine ⟨by show 0 ≤ sizeLine; decide, fun t1 np_ => ?_⟩
    have x_ := same_upd (o := .lst []) np_
    have e_t1 := rmL_new (o := .lst []) (in3 D he) np_
    replace D := D.same x_
    replace sB := sB.trans (.same x_)
    replace wd := wd.same (rmL_same x_)
    replace he := x_ _ _ he
    replace dv0 := dp_same (rmL_same x_) _ _ dv0
    generalize upd Hk3 t1 (.lst []) = E2 at *
    clear x_ np_
    refine ne_two wd.n2 wd.n3 (rmL_sub _ _ wd.h3) (rmL_sub _ _ e_t1) ⟨_, rfl, iteT ?_⟩
    clear e_t1
    refine ⟨_, rfl, _, rfl, W.b, _, rfl, DGet.k (k := Sum.inr "lists") (rmL_sub _ _ wd.hb), a, c, W.p3, n + 1 + ltk 3, _, rfl, D, by omega, rm32 _ _ wd.h3, by simp, by show 2 ≤ 1000; decide, fun j_ vz O3 hv_ s_ D_ => ?_⟩
    replace D := D_
    replace sB := sB.trans s_
    replace wd := wd.same (rmL_but (more3 s_))
    replace he := s_ _ _ ne he
    replace dv0 := dp_same (rmL_but (more3 s_)) _ _ dv0
    clear s_
    obtain ⟨z, rfl, nz⟩ := two_at hv_ wd.n2 wd.n3
    clear hv_
    refine ⟨_, rfl, _, rfl, by show 3 ≤ sizeLine; decide, fun u1 np_ => ?_⟩
    have x_ := same_upd (o := .tup [.str "put", .str z, v0]) np_
    have e_u1 := rmL_new (o := .tup [.str "put", .str z, v0]) (in3 D he) np_
    replace D := D.same x_
    replace sB := sB.trans (.same x_)
    replace wd := wd.same (rmL_same x_)
    replace he := x_ _ _ he
    replace dv0 := dp_same (rmL_same x_) _ _ dv0
    generalize upd O3 u1 (.tup [.str "put", .str z, v0]) = E4 at *
    clear x_ np_
    have d_u1 : Dp K (rmL [a, c, e] E4) (.ref u1) (.tuple [.str "put", .str z, lkD L0]) := .tup (SqT.of e_u1) (.cons (.str _) (.cons (.str _) (.cons dv0 .nil)))
    clear e_u1
    refine ⟨_, rfl, _, rfl, by show 3 ≤ sizeLine; decide, fun u2 np_ => ?_⟩
    have x_ := same_upd (o := .tup [.str "drop", .str z, v0]) np_
    have e_u2 := rmL_new (o := .tup [.str "drop", .str z, v0]) (in3 D he) np_
    replace D := D.same x_
    replace sB := sB.trans (.same x_)
    replace wd := wd.same (rmL_same x_)
    replace he := x_ _ _ he
    replace dv0 := dp_same (rmL_same x_) _ _ dv0
    replace d_u1 := dp_same (rmL_same x_) _ _ d_u1
    generalize upd E4 u2 (.tup [.str "drop", .str z, v0]) = E5 at *
    clear x_ np_
    have d_u2 : Dp K (rmL [a, c, e] E5) (.ref u2) (.tuple [.str "drop", .str z, lkD L0]) := .tup (SqT.of e_u2) (.cons (.str _) (.cons (.str _) (.cons dv0 .nil)))
    clear e_u2
    refine ⟨_, rfl, _, rfl, _, rfl, _, rfl, 2, by decide, a, c, e, n + 1 + ltk 3 + 1, W, _, rfl, D, wd, ne, he, by omega, by omega, fun v1 L1 Hk6 s_ D_ dv1 fv1 ev1 => ?_⟩
    replace D := D_
    replace sB := sB.trans s_
    replace wd := wd.same (rmL_but (more3 s_))
    replace he := s_ _ _ ne he
    replace dv0 := dp_same (rmL_but (more3 s_)) _ _ dv0
    replace d_u1 := dp_same (rmL_but (more3 s_)) _ _ d_u1
    replace d_u2 := dp_same (rmL_but (more3 s_)) _ _ d_u2
    clear s_
    refine ⟨by show 4 ≤ sizeLine; decide, fun u3 np_ => ?_⟩
    have x_ := same_upd (o := .tup [.str "write", .str z, v0, v1]) np_
    have e_u3 := rmL_new (o := .tup [.str "write", .str z, v0, v1]) (in3 D he) np_
    replace D := D.same x_
    replace sB := sB.trans (.same x_)
    replace wd := wd.same (rmL_same x_)
    replace he := x_ _ _ he
    replace dv0 := dp_same (rmL_same x_) _ _ dv0
    replace d_u1 := dp_same (rmL_same x_) _ _ d_u1
    replace d_u2 := dp_same (rmL_same x_) _ _ d_u2
    replace dv1 := dp_same (rmL_same x_) _ _ dv1
    generalize upd Hk6 u3 (.tup [.str "write", .str z, v0, v1]) = E7 at *
    clear x_ np_
    have d_u3 : Dp K (rmL [a, c, e] E7) (.ref u3) (.tuple [.str "write", .str z, lkD L0, lkD L1]) := .tup (SqT.of e_u3) (.cons (.str _) (.cons (.str _) (.cons dv0 (.cons dv1 .nil))))
    clear e_u3
    refine ⟨by show 3 ≤ sizeLine; decide, fun ul np_ => ?_⟩
    have x_ := same_upd (o := .lst [.ref u1, .ref u2, .ref u3]) np_
    have e_ul := rmL_new (o := .lst [.ref u1, .ref u2, .ref u3]) (in3 D he) np_
    replace D := D.same x_
    replace sB := sB.trans (.same x_)
    replace wd := wd.same (rmL_same x_)
    replace he := x_ _ _ he
    replace dv0 := dp_same (rmL_same x_) _ _ dv0
    replace d_u1 := dp_same (rmL_same x_) _ _ d_u1
    replace d_u2 := dp_same (rmL_same x_) _ _ d_u2
    replace dv1 := dp_same (rmL_same x_) _ _ dv1
    replace d_u3 := dp_same (rmL_same x_) _ _ d_u3
    generalize upd E7 ul (.lst [.ref u1, .ref u2, .ref u3]) = E8 at *
    clear x_ np_
    have r3 : r1 = 8 ∨ r1 = 9 ∨ r1 = 10 := by
      have h1 := of_decide_eq_true c5
      have h2 : ¬ r1 < 8 := fun z => c4 (decide_eq_true z)
      omega
    rcases r3 with rfl | rfl | rfl
    · exact ⟨_, rfl, _, _, rfl, rfl, ul, _, 0, _, rfl, rfl, SqL.of (rmL_sub _ _ e_ul), rfl, q _ _ _ sB (D.le (by omega)) d_u1 fun f => db2 (z := "put") (by decide +kernel) (by decide +kernel) (pb_nm (k := "list") (n := 3) (by decide +kernel) nz) (pb_lk fv0 ev0 (by decide) (n := 4) (by decide) (Nat.le_refl _)) (by decide) (by decide)⟩
    · exact ⟨_, rfl, _, _, rfl, rfl, ul, _, 1, _, rfl, rfl, SqL.of (rmL_sub _ _ e_ul), rfl, q _ _ _ sB (D.le (by omega)) d_u2 fun f => db2 (z := "drop") (by decide +kernel) (by decide +kernel) (pb_nm (k := "list") (n := 3) (by decide +kernel) nz) (pb_lk fv0 ev0 (by decide) (n := 4) (by decide) (Nat.le_refl _)) (by decide) (by decide)⟩
    · exact ⟨_, rfl, _, _, rfl, rfl, ul, _, 2, _, rfl, rfl, SqL.of (rmL_sub _ _ e_ul), rfl, q _ _ _ sB (D.le (by omega)) d_u3 fun f => db3 (z := "write") (by decide +kernel) (by decide +kernel) (pb_nm (k := "list") (n := 3) (by decide +kernel) nz) (pb_lk fv0 ev0 (by decide) (n := 4) (by decide) (Nat.le_refl _)) (pb_lk fv1 ev1 (by decide) (n := 4) (by decide) (Nat.le_refl _)) (by decide) (by decide)⟩
  refine iteBF (eq_false_of_ne_true c5) (iteF ?_)
  refine ⟨_, rfl, by show 2 ≤ sizeLine; decide, fun tr np_ => ?_⟩
  have x_ := same_upd (o := .tup [.str "say", v0]) np_
  have e_tr := rmL_new (o := .tup [.str "say", v0]) (in3 D he) np_
  replace D := D.same x_
  replace sB := sB.trans (.same x_)
  replace wd := wd.same (rmL_same x_)
  replace he := x_ _ _ he
  replace dv0 := dp_same (rmL_same x_) _ _ dv0
  generalize upd Hk3 tr (.tup [.str "say", v0]) = G1 at *
  clear x_ np_
  have d_tr : Dp K (rmL [a, c, e] G1) (.ref tr) (.tuple [.str "say", lkD L0]) := .tup (SqT.of e_tr) (.cons (.str _) (.cons dv0 .nil))
  clear e_tr
  exact q _ _ _ sB (D.le (by omega)) d_tr fun f => db1 (z := "say") (by decide +kernel) (by decide +kernel) (pb_lk fv0 ev0 (by decide) (n := 4) (by decide) (Nat.le_refl _)) (by decide) (by decide)
end
end Fd

set_option Elab.async false
set_option linter.all false
set_option maxRecDepth 100000
set_option maxHeartbeats 4000000
namespace Fd
open PySem PySem.Spec PyProof.Rows L2
mutual
theorem dp_noL {K : PySem.W.Frag} {H : Hp} {N : Addr} {ys : List V} (hN : H N = some (.lst ys)) : ∀ (d : PyData) (v : V), tOn d = true → Dp K H v d → Dp K (rmL [N] H) v d
  | .none, _, _, h => by cases h; exact .non
  | .bool b, _, _, h => by cases h; exact .bl b
  | .int i, _, _, h => by cases h; exact .int i
  | .str x, _, _, h => by cases h; exact .str x
  | .list ds, _, g, h => by cases g
  | .dict _, _, g, h => by cases g
  | .tuple ds, _, g, h => by
    cases h with
    | tup q r =>
      refine .tup ?_ (dpAll_noL hN ds _ g r)
      rcases q with (q | ⟨o, q⟩) | q
      · exact .inl (.inl (by rw [rmL_at (fun z => ne_of q hN (fun z => nomatch z) (List.mem_singleton.mp z))]; exact q))
      · exact .inl (.inr ⟨o, by rw [rmL_at (fun z => ne_of q hN (fun z => nomatch z) (List.mem_singleton.mp z))]; exact q⟩)
      · exact .inr q
theorem dpAll_noL {K : PySem.W.Frag} {H : Hp} {N : Addr} {ys : List V} (hN : H N = some (.lst ys)) : ∀ (ds : List PyData) (vs : List V), tOns ds = true → DpAll K H vs ds → DpAll K (rmL [N] H) vs ds
  | [], _, _, h => by cases h; exact .nil
  | d :: ds, _, g, h => by
    cases h with
    | cons q r =>
      have g : (tOn d && tOns ds) = true := g
      rw [Bool.and_eq_true] at g
      exact .cons (dp_noL hN d _ g.1 q) (dpAll_noL hN ds _ g.2 r)
end

/-! ### a list that is built, beside the addresses -/
theorem rmDD {as : List Addr} {D : Addr} {o : HO} {H : Hp} : rmL [D] (rmL as (upd H D o)) = rmL [D] (rmL as H) := funext fun b => by
  by_cases z : b ∈ [D]
  · rw [rmL_in z, rmL_in z]
  · rw [rmL_at z, rmL_at z]
    by_cases y : b ∈ as
    · rw [rmL_in y, rmL_in y]
    · rw [rmL_at y, rmL_at y, upd_ne (fun x => z (List.mem_singleton.mpr x))]
theorem dpAll_app {K : PySem.W.Frag} {H : Hp} : ∀ {ds es : List PyData} {xs ys : List V}, DpAll K H xs ds → DpAll K H ys es → DpAll K H (xs ++ ys) (ds ++ es)
  | [], _, _, _, h, g => by cases h; exact g
  | _ :: _, _, _, _, h, g => by cases h with | cons q r => exact .cons q (dpAll_app r g)
def BdI (K : PySem.W.Frag) (as : List Addr) (D : Addr) (C : PyData → Prop) (j : Nat) (H : Hp) : Prop := ∃ (ys : List V) (ds : List PyData), H D = some (.lst ys) ∧ DpAll K (rmL [D] (rmL as H)) ys ds ∧ ds.length = j ∧ ∀ d ∈ ds, C d ∧ tOn d = true
theorem BdI.zero {K : PySem.W.Frag} {as : List Addr} {D : Addr} {C : PyData → Prop} {H : Hp} : BdI K as D C 0 (upd H D (.lst [])) := ⟨[], [], upd_same, .nil, rfl, fun d hd => nomatch hd⟩
theorem BdI.but {K : PySem.W.Frag} {as : List Addr} {D : Addr} {C : PyData → Prop} {j : Nat} {H H' : Hp} (h : BdI K as D C j H) (s : ButL as H H') (nD : D ∉ as) : BdI K as D C j H' := by
  obtain ⟨ys, ds, h1, h2, h3⟩ := h
  exact ⟨ys, ds, s _ _ nD h1, dpAll_same (rmL_same (rmL_but s)) _ _ h2, h3⟩
theorem BdI.push {K : PySem.W.Frag} {as : List Addr} {D : Addr} {C : PyData → Prop} {j : Nat} {H : Hp} {v : V} {d : PyData} (h : BdI K as D C j H) (nD : D ∉ as) (dv : Dp K (rmL as H) v d) (hc : C d) (on : tOn d = true) (hj : j ≤ 1000) :
    ∃ acc, H D = some (.lst acc) ∧ acc.length < sizeLine ∧ BdI K as D C (j + 1) (upd H D (.lst (acc ++ [v]))) := by
  obtain ⟨ys, ds, h1, h2, h3, h4⟩ := h
  have hN : rmL as H D = some (.lst ys) := by rw [rmL_at nD]; exact h1
  refine ⟨ys, h1, by rw [dpAll_len h2, h3]; exact small1000 hj, ys ++ [v], ds ++ [d], upd_same, ?_, by rw [List.length_append, h3]; rfl, fun x hx => ?_⟩
  · rw [rmDD]
    exact dpAll_app h2 (.cons (dp_noL hN d v on dv) .nil)
  · rcases List.mem_append.mp hx with z | z
    · exact h4 x z
    · rw [List.mem_singleton.mp z]; exact ⟨hc, on⟩
theorem BdI.fin {K : PySem.W.Frag} {as : List Addr} {D : Addr} {C : PyData → Prop} {j : Nat} {H : Hp} (h : BdI K as D C j H) : ∃ (ys : List V) (ds : List PyData), H D = some (.lst ys) ∧ DpAll K (rmL as H) ys ds ∧ ds.length = j ∧ ∀ d ∈ ds, C d ∧ tOn d = true := by
  obtain ⟨ys, ds, h1, h2, h3⟩ := h
  exact ⟨ys, ds, h1, dpAll_same rmL_sub _ _ h2, h3⟩
theorem tOns_all : ∀ {ds : List PyData}, (∀ d ∈ ds, tOn d = true) → tOns ds = true
  | [], _ => rfl
  | d :: r, h => by
    show (tOn d && tOns r) = true
    rw [h d (List.mem_cons_self ..), tOns_all fun x hx => h x (List.mem_cons_of_mem _ hx)]
    rfl
theorem sza_all {n w : Nat} : ∀ {ds : List PyData}, (∀ d ∈ ds, Sz n w d) → SzA n (ds.length * (w + 1)) ds.length ds
  | [], _ => .nil
  | d :: r, h => by
    have := (sza_all (ds := r) fun x hx => h x (List.mem_cons_of_mem _ hx)).cons (h d (List.mem_cons_self ..))
    rw [List.length_cons, Nat.succ_mul, Nat.add_comm (r.length * (w + 1))]
    exact this
/-! ### how many draws, how great -/
def dtk : Nat → Nat
  | 0 => 100
  | j + 1 => 8 * dtk j + 60
def wdp : Nat → Nat
  | 0 => 500
  | j + 1 => 8 * wdp j + 400
theorem dtk_ge : ∀ j, 100 ≤ dtk j
  | 0 => Nat.le_refl _
  | j + 1 => by have := dtk_ge j; show 100 ≤ 8 * dtk j + 60; omega
theorem wdp_ge : ∀ j, 500 ≤ wdp j
  | 0 => Nat.le_refl _
  | j + 1 => by have := wdp_ge j; show 500 ≤ 8 * wdp j + 400; omega
theorem DB.le {f : PyData → Bool} {n w n' w' : Nat} {d : PyData} (h : DB f n w d) (hn : n ≤ n') (hw : w ≤ w') : DB f n' w' d := ⟨h.is, h.sz.le hn hw, h.on⟩
/-- a block that is made -/
structure BK (j : Nat) (d : PyData) : Prop where
  is : innerB (j + 1) d = true
  sz : Sz (2 * j + 7) (4 * (wdp j + 1)) d
  on : tOn d = true
theorem pb_bk {j : Nat} {d : PyData} (h : BK j d) : PB (innerB (j + 1)) "block" (2 * j + 7) (4 * (wdp j + 1)) d := ⟨by rw [dp_block]; exact h.is, h.sz, h.on⟩
theorem pb_non {f : PyData → Bool} {n w : Nat} : PB f "figure" (n + 1) w .none := ⟨by unfold dpB; rfl, sz_non, rfl⟩
theorem pb_wd {f : PyData → Bool} {n : Nat} {z : Str} (h : z ∈ (["run", "others", "all"] : List Str)) : PB f "word" (n + 1) 8 (.str z) := by
  simp only [List.mem_cons, List.not_mem_nil, or_false] at h
  rcases h with rfl | rfl | rfl
  all_goals exact ⟨by unfold dpB; rw [if_neg (by decide +kernel), if_neg (by decide +kernel), if_neg (by decide +kernel), if_neg (by decide +kernel), if_pos (by decide +kernel)]; decide +kernel, sz_wd (by decide +kernel), rfl⟩
theorem pb_looks {f : PyData → Bool} {ds : List PyData} (hl : ds.length ≤ 2) (h : ∀ d ∈ ds, (isPart 6 "look" d = true ∧ Sz 3 153 d) ∧ tOn d = true) : PB f "looks" 4 308 (.tuple ds) := by
  refine ⟨?_, ?_, tOns_all fun d hd => (h d hd).2⟩
  · rw [dp_looks]
    show (decide (ds.length ≤ 2) && ds.all (isPart 6 "look")) = true
    rw [decide_eq_true hl, Bool.true_and, List.all_eq_true]
    exact fun d hd => (h d hd).1.1
  · refine (sza_all fun d hd => (h d hd).1.2).tup (by omega) (Nat.le_refl _) ?_
    have : ds.length * (153 + 1) ≤ 2 * (153 + 1) := Nat.mul_le_mul_right _ hl
    omega
theorem but23 {a c e : Addr} {H H' H'' : Hp} (s : ButL [a, c] H H') (s' : ButL [a, c, e] H' H'') : ButL [a, c, e] H H'' := (more3 s).trans s'
def Lf (H : Hp) (e : Addr) : Prop := ∃ l : Int, H e = some (.lst [.int l]) ∧ 0 ≤ l ∧ l ≤ 30
theorem Lf.same {H H' : Hp} {e : Addr} (h : Lf H e) (s : Same H H') : Lf H' e := by obtain ⟨l, h1, h2⟩ := h; exact ⟨l, s _ _ h1, h2⟩
section
variable {P : Program} {w : World} {K : PySem.W.Frag} {mg : Str → Option Value} {base : Heap} {f : Addr} {fd : FuncData}
def spDeedG (K : PySem.W.Frag) (j : Nat) : Sp := fun vs H Q _ => ∃ (a c e : Addr) (n : Nat) (W : WP), vs = [.ref a, .ref W.b, .int (j + 1 : Nat)] ∧ Dr H a c n ∧ Wd W e (rmL [a, c, e] H) ∧ e ∉ [a, c] ∧ Lf H e ∧ n + dtk j ≤ 1000000 ∧
  ∀ v d H', ButL [a, c, e] H H' → Dr H' a c (n + dtk j) → Lf H' e → Dp K (rmL [a, c, e] H') v d → DB (innerB j) (2 * j + 6) (wdp j) d → Q v H'
def spBlockG (K : PySem.W.Frag) (j : Nat) : Sp := fun vs H Q _ => ∃ (a c e : Addr) (n : Nat) (W : WP), vs = [.ref a, .ref W.b, .int (j + 1 : Nat)] ∧ Dr H a c n ∧ Wd W e (rmL [a, c, e] H) ∧ e ∉ [a, c] ∧ Lf H e ∧ n + (4 * dtk j + 1) ≤ 1000000 ∧
  ∀ v d H', ButL [a, c, e] H H' → Dr H' a c (n + (4 * dtk j + 1)) → Lf H' e → Dp K (rmL [a, c, e] H') v d → BK j d → Q v H'
abbrev sBlkG : Stmt := top 37
theorem scBlkG : FnScope ["_law_state", "_law_w", "_law_deep", "_law_many", "_law_k"] ["_law_state", "_law_w", "_law_deep"] (defScope sBlkG) := ⟨rfl, rfl, rfl, by decide +kernel, rfl, by decide +kernel, by decide +kernel⟩
theorem ok_blkG {k j : Nat} (F : Fun K "_law_block" "_law_block" sBlkG f fd) (GT : FnG P w K mg base CX0 k "_law_take" ["_law_state", "_law_below"] spTake) (GD : FnG P w K mg base CX0 k "_law_deed" ["_law_state", "_law_w", "_law_deep"] (spDeedG K j))
    (m_min : mg "min" = none) (m_range : mg "range" = none) (m_tuple : mg "tuple" = none) : FnOk P w K mg base CX0 (k + 1) f fd ["_law_state", "_law_w", "_law_deep"] (spBlockG K j) := by
  obtain ⟨_, _, G__law_take, m__law_take, k__law_take, b__law_take⟩ := GT
  obtain ⟨_, _, G__law_deed, m__law_deed, k__law_deed, b__law_deed⟩ := GD
  have sc := scBlkG
  refine F.ok sc (fun vs H Q E h => ?_) (fun cdv A outer s H vs Q E hr h => ?_)
  · obtain ⟨a, c, e, n, W, rfl, _⟩ := h
    rfl
  obtain ⟨a, c, e, n, W, rfl, D, wd, ne, lf, hn, q⟩ := h
  refine ⟨_, (pss_cons (ps_set (i := 3) sc.nd rfl (.inl rfl) (pe_callB (call_min2 rfl) (by rfl) m_min (by decide +kernel) (pa_cons (pe_call G__law_take (hr.mono (by omega)) (by rfl) m__law_take k__law_take b__law_take .nil pass0 (pa_cons (pv 0) (pa_cons pe_int pa_nil))) (pa_cons (pe_ix ix_list (pe_dget (hu_of hr) (pv 1) pe_str (fun _ _ => rfl)) pe_int (fun _ _ => rfl)) pa_nil))))
      (pss_cons (ps_asg (pe_op op_sub (pe_ix ix_list (pe_dget (hu_of hr) (pv 1) pe_str (fun _ _ => rfl)) pe_int (fun _ _ => rfl)) (pv 3)) (pg_sub (pe_dget (hu_of hr) (pv 1) pe_str (fun _ _ => rfl)) pe_int set_list))
      (pss_one (ps_ret (pe_callTy call_tuple_of (by rfl) m_tuple (by decide +kernel) (pa_cons (pe_lc (own := [("_law_k", 4)]) (by rfl) sc.nd  (pi_range1 (by rfl) m_range (pa_cons (pv 3) pa_nil)) (blkOk_by (own := [("_law_k", 4)]) (N := ["_law_state", "_law_w", "_law_deep", "_law_many", "_law_k"]) (sc := defScope sBlkG) (by decide +kernel)) (fun _ _ _ _ _ => (pg_name (i := 4) sc.nd rfl (.inl rfl))) (fun _ _ _ _ _ => pts_nil) (fun _ _ _ _ _ => (pe_call G__law_deed (hr.mono (by omega)) (by rfl) m__law_deed k__law_deed b__law_deed .nil pass0 (pa_cons (pv 0) (pa_cons (pv 1) (pa_cons (pv 2) pa_nil)))))) pa_nil)))))), ?_⟩
  refine ⟨_, rfl, a, c, n, 5, rfl, D, by omega, by decide, by decide, fun r H1 r0 r1 s1 D1 => ?_⟩
  obtain ⟨l, he, l0, l30⟩ := lf
  have he1 := s1 _ _ ne he
  have wd1 := wd.same (rmL_but (more3 s1))
  refine ⟨_, rfl, W.b, _, rfl, DGet.k (k := Sum.inr "left") (rmL_sub _ _ wd1.hb), e, _, 0, _, rfl, rfl, SqL.of he1, rfl, _, _, rfl, ?_⟩
  obtain ⟨mn, hmn, mn4, mnl⟩ : ∃ mn : Nat, (if l < r then l else r) = (mn : Int) ∧ mn ≤ 4 ∧ (mn : Int) ≤ l := by
    by_cases c : l < r
    · exact ⟨l.toNat, by rw [if_pos c]; omega, by omega, by omega⟩
    · exact ⟨r.toNat, by rw [if_neg c]; omega, by omega, by omega⟩
  rw [hmn]
  refine ⟨_, rfl, W.b, _, rfl, DGet.k (k := Sum.inr "left") (rmL_sub _ _ wd1.hb), e, _, 0, _, rfl, rfl, SqL.of he1, rfl, _, rfl, _, _, rfl, rfl, _, rfl, W.b, _, rfl, DGet.k (k := Sum.inr "left") (rmL_sub _ _ wd1.hb), e, _, 0, 0, rfl, rfl, he1, rfl, ?_⟩
  have D2 := D1.upd (o := .lst [.int (l - mn)]) ne
  have wd2 : Wd W e (rmL [a, c, e] (upd H1 e (.lst [.int (l - mn)]))) := by rw [rmL_upd (by simp)]; exact wd1
  have lf2 : Lf (upd H1 e (.lst [.int (l - mn)])) e := ⟨_, upd_same, by omega, by omega⟩
  have s2 : ButL [a, c, e] H (upd H1 e (.lst [.int (l - mn)])) := fun b o nb hb => by
    rw [upd_ne (fun z => nb (by rw [z]; simp))]
    exact s1 b o (fun z => nb (by rcases List.mem_cons.mp z with z | z <;> simp_all)) hb
  rw [show ([V.int l].set 0 (V.int (l - mn))) = [V.int (l - mn)] from rfl]
  generalize upd H1 e (.lst [.int (l - mn)]) = H2 at *
  clear s1 he he1 wd wd1 D D1
  refine ⟨_, rfl, mn, rfl, by omega, by omega, fun B nB => ?_⟩
  have nBs : B ∉ [a, c, e] := fun z => by
    obtain ⟨u, hu⟩ := in3 D2 lf2.choose_spec.1 B z
    rw [nB] at hu
    cases hu
  have s2' : ButL [a, c, e] H H2 := s2
  refine lc_it walk_range (fun i HB => ButL [a, c, e] H2 HB ∧ Dr HB a c (n + 1 + dtk j * i) ∧ Lf HB e ∧ BdI K [a, c, e] B (DB (innerB j) (2 * j + 6) (wdp j)) i HB)
    ⟨.same (same_upd nB), D2.same (same_upd nB), lf2.same (same_upd nB), .zero⟩ (fun _ _ _ _ => trivial) ?_ ?_
  · rintro i v _ HB hi ⟨s3, D3, lf3, bd⟩ ⟨rfl, rfl⟩
    replace hi : i < mn := by have : i < ((mn : Nat) : Int).toNat := hi; omega
    have hm := Nat.mul_le_mul_left (dtk j) (show i ≤ 3 by omega)
    refine ⟨rfl, ?_⟩
    unfold tYes
    refine iteT ⟨_, rfl, _, rfl, _, rfl, a, c, e, _, W, rfl, D3, wd2.same (rmL_but s3), ne, lf3, by omega, fun v d H4 s4 D4 lf4 dv db => ?_⟩
    obtain ⟨acc, h1, h2, h3⟩ := (bd.but s4 nBs).push nBs dv db db.on (by omega)
    refine ⟨acc, h1, h2, ?_, ?_, ?_, h3⟩
    · exact fun b o nb hb => by
        rw [upd_ne (ne_of_none hb nB)]
        exact (s3.trans s4) b o nb hb
    · rw [Nat.mul_succ, ← Nat.add_assoc]
      exact (D4.upd (fun z => nBs (by rcases List.mem_cons.mp z with z | z <;> simp_all)))
    · obtain ⟨l', g1, g2⟩ := lf4
      exact ⟨l', by rw [upd_ne (fun z => nBs (by rw [← z]; simp))]; exact g1, g2⟩
  · rintro HB ⟨s3, D3, lf3, bd⟩
    obtain ⟨ys, ds, g1, g2, g3, g4⟩ := bd.fin
    replace g3 : ds.length ≤ 4 := by rw [g3]; show ((mn : Nat) : Int).toNat ≤ 4; omega
    have hm := Nat.mul_le_mul_left (dtk j) (show ((mn : Nat) : Int).toNat ≤ 4 by omega)
    unfold tNil
    refine ⟨B, ys, rfl, .inl ⟨SqL.of g1, fun t np => q _ (.tuple ds) _ (s2.trans (s3.trans (.same (same_upd np)))) ((D3.same (same_upd np)).le (by omega)) (lf3.same (same_upd np)) ?_ ?_⟩⟩
    · exact .tup (SqT.of (rmL_new (in3 D3 lf3.choose_spec.1) np)) (dpAll_same (rmL_same (same_upd np)) _ _ g2)
    · refine ⟨?_, ?_, tOns_all fun d hd => (g4 d hd).2⟩
      · show (decide (ds.length ≤ 8) && ds.all (deedB (innerB j))) = true
        rw [decide_eq_true (by omega), Bool.true_and, List.all_eq_true]
        exact fun d hd => (g4 d hd).1.is
      · refine (sza_all fun d hd => (g4 d hd).1.sz).tup (by omega) (Nat.le_refl _) ?_
        exact Nat.mul_le_mul_right _ g3
end
end Fd

set_option Elab.async false
set_option linter.all false
set_option maxRecDepth 100000
set_option maxHeartbeats 4000000
namespace Fd
open PySem PySem.Spec PyProof.Rows L2
theorem Lf.two {a c e : Addr} {H H' : Hp} (h : Lf H e) (s : ButL [a, c] H H') (ne : e ∉ [a, c]) : Lf H' e := by obtain ⟨l, h1, h2⟩ := h; exact ⟨l, s _ _ ne h1, h2⟩
theorem ne_one {K : PySem.W.Frag} {H : Hp} {p l t : Addr} {x : Str} {i : Int} {Q : VK} (nx : IsNm x) (hp : H p = some (.lst [.ref t])) (ht : H t = some (.tup [.str x, .int i])) (hl : H l = some (.lst [])) (q : Q (.bl true) H) : rNeD K (.ref p) (.ref l) H Q :=
  ⟨.list [.tuple [.str x, .int i]], .list [], .lst (SqL.of hp) (.cons (.tup (SqT.of ht) (.cons (.str _) (.cons (.int _) .nil))) .nil), .lst (SqL.of hl) .nil, by
    unfold SeqAt.shaped
    rw [show (PyData.list [.tuple [.str x, .int i]]).canLay0 = ((PyData.strOk x && (true && true)) && true) from rfl, nm_ok nx]
    rfl, rfl, q⟩
def spBlockL (K : PySem.W.Frag) (j : Nat) : Sp := fun vs H Q E => ∃ i, i + 1 = j ∧ spBlockG K i vs H Q E
section
variable {P : Program} {w : World} {K : PySem.W.Frag} {mg : Str → Option Value} {base : Heap} {f : Addr} {fd : FuncData}
abbrev sDeedG : Stmt := top 36
theorem scDeedG : FnScope ["_law_state", "_law_w", "_law_deep", "_law_way", "_law_block_here", "_law_name", "_law_many", "_law_k"] ["_law_state", "_law_w", "_law_deep"] (defScope sDeedG) := ⟨rfl, rfl, rfl, by decide +kernel, rfl, by decide +kernel, by decide +kernel⟩
theorem ok_deedG {k j : Nat} (F : Fun K "_law_deed" "_law_deed" sDeedG f fd) (GT : FnG P w K mg base CX0 k "_law_take" ["_law_state", "_law_below"] spTake) (GO : FnG P w K mg base CX0 k "_law_one_of" ["_law_state", "_law_some_here"] spOne)
    (GK : FnG P w K mg base CX0 k "_law_look" ["_law_state", "_law_w", "_law_deep"] (spLookA K 3)) (GS : FnG P w K mg base CX0 k "_law_test" ["_law_state", "_law_w", "_law_deep"] (spTest K 3))
    (GY : FnG P w K mg base CX0 k "_law_body" ["_law_state", "_law_w"] (spBody K)) (GB : FnG P w K mg base CX0 k "_law_block" ["_law_state", "_law_w", "_law_deep"] (spBlockL K j))
    (m_max : mg "max" = none) (m_range : mg "range" = none) (m_tuple : mg "tuple" = none) (hj : j ≤ 2) : FnOk P w K mg base CX0 (k + 1) f fd ["_law_state", "_law_w", "_law_deep"] (spDeedG K j) := by
  obtain ⟨_, _, G__law_take, m__law_take, k__law_take, b__law_take⟩ := GT
  obtain ⟨_, _, G__law_one_of, m__law_one_of, k__law_one_of, b__law_one_of⟩ := GO
  obtain ⟨_, _, G__law_look, m__law_look, k__law_look, b__law_look⟩ := GK
  obtain ⟨_, _, G__law_test, m__law_test, k__law_test, b__law_test⟩ := GS
  obtain ⟨_, _, G__law_body, m__law_body, k__law_body, b__law_body⟩ := GY
  obtain ⟨_, _, G__law_block, m__law_block, k__law_block, b__law_block⟩ := GB
  have sc := scDeedG
  refine F.ok sc (fun vs H Q E h => ?_) (fun cdv A outer s H vs Q E hr h => ?_)
  · obtain ⟨a, c, e, n, W, rfl, _⟩ := h
    rfl
  obtain ⟨a, c, e, n, W, rfl, D, wd, ne, lf, hn, q⟩ := h
  refine ⟨_, (pss_cons (ps_set (i := 3) sc.nd rfl (.inl rfl) (pe_call G__law_take (hr.mono (by omega)) (by rfl) m__law_take k__law_take b__law_take .nil pass0 (pa_cons (pv 0) (pa_cons pe_int pa_nil))))
      (pss_cons (ps_if (pt_cmpR op_lt (pv 3) pe_int (nomark _)) (pss_one (ps_ret (pe_call G__law_body (hr.mono (by omega)) (by rfl) m__law_body k__law_body b__law_body .nil pass0 (pa_cons (pv 0) (pa_cons (pv 1) pa_nil))))) pss_nil)
      (pss_cons (ps_if (pt_cmpR op_lt (pv 3) pe_int (nomark _)) (pss_one (ps_ret (pe_ix ix_list (pe_lst (pa_cons (pe_tup (pa_cons pe_str (pa_cons (pe_call G__law_look (hr.mono (by omega)) (by rfl) m__law_look k__law_look b__law_look .nil pass0 (pa_cons (pv 0) (pa_cons (pv 1) (pa_cons pe_int pa_nil)))) pa_nil))) (pa_cons (pe_tup (pa_cons pe_str (pa_cons pe_int pa_nil))) (pa_cons (pe_tup (pa_cons pe_str (pa_cons (pe_call G__law_test (hr.mono (by omega)) (by rfl) m__law_test k__law_test b__law_test .nil pass0 (pa_cons (pv 0) (pa_cons (pv 1) (pa_cons pe_int pa_nil)))) pa_nil))) pa_nil)))) (pe_op op_sub (pv 3) pe_int) (fun _ _ => rfl)))) pss_nil)
      (pss_cons (ps_if (PW.pt (pw_and (pt_cmpR op_lt (pv 3) pe_int (nomark _)) (pw_and1 (pt_cmpR op_gt (pv 2) pe_int (nomark _))))) (pss_cons (ps_set (i := 4) sc.nd rfl (.inl rfl) (pe_call G__law_block (hr.mono (by omega)) (by rfl) m__law_block k__law_block b__law_block .nil pass0 (pa_cons (pv 0) (pa_cons (pv 1) (pa_cons (pe_op op_sub (pv 2) pe_int) pa_nil)))))
      (pss_cons (ps_if (pt_cmpR op_eq (pv 3) pe_int (nomark _)) (pss_one (ps_ret (pe_tup (pa_cons pe_str (pa_cons (pe_call G__law_test (hr.mono (by omega)) (by rfl) m__law_test k__law_test b__law_test .nil pass0 (pa_cons (pv 0) (pa_cons (pv 1) (pa_cons pe_int pa_nil)))) (pa_cons (pv 4) (pa_cons (pe_call G__law_block (hr.mono (by omega)) (by rfl) m__law_block k__law_block b__law_block .nil pass0 (pa_cons (pv 0) (pa_cons (pv 1) (pa_cons (pe_op op_sub (pv 2) pe_int) pa_nil)))) pa_nil))))))) pss_nil)
      (pss_cons (ps_if (pt_cmpR op_lt (pv 3) pe_int (nomark _)) (pss_one (ps_ret (pe_tup (pa_cons pe_str (pa_cons (pe_ix ix_list (pe_lst (pa_cons (pe_call G__law_look (hr.mono (by omega)) (by rfl) m__law_look k__law_look b__law_look .nil pass0 (pa_cons (pv 0) (pa_cons (pv 1) (pa_cons pe_int pa_nil)))) (pa_cons (pe_op op_add pe_int (pe_call G__law_take (hr.mono (by omega)) (by rfl) m__law_take k__law_take b__law_take .nil pass0 (pa_cons (pv 0) (pa_cons pe_int pa_nil)))) pa_nil))) (pe_op op_sub (pv 3) pe_int) (fun _ _ => rfl)) (pa_cons (pv 4) pa_nil)))))) pss_nil)
      (pss_one (ps_ret (pe_ifExp (pt_cmpR op_eq (pv 3) pe_int (nomark _)) (pe_tup (pa_cons pe_str (pa_cons (pe_call G__law_test (hr.mono (by omega)) (by rfl) m__law_test k__law_test b__law_test .nil pass0 (pa_cons (pv 0) (pa_cons (pv 1) (pa_cons pe_int pa_nil)))) (pa_cons (pv 4) pa_nil)))) (pe_tup (pa_cons pe_str (pa_cons (pv 4) pa_nil))))))))) pss_nil)
      (pss_cons (ps_if (pt_cmpR op_lt (pv 3) pe_int (nomark _)) (pss_one (ps_ret (pe_tup (pa_cons (pe_ix ix_list (pe_lst (pa_cons pe_str (pa_cons pe_str (pa_cons pe_str pa_nil)))) (pe_op op_sub (pe_callB (call_max2 rfl) (by rfl) m_max (by decide +kernel) (pa_cons (pv 3) (pa_cons pe_int pa_nil))) pe_int) (fun _ _ => rfl)) (pa_cons (pe_call G__law_one_of (hr.mono (by omega)) (by rfl) m__law_one_of k__law_one_of b__law_one_of .nil pass0 (pa_cons (pv 0) (pa_cons (pe_dget (hu_of hr) (pv 1) pe_str (fun _ _ => rfl)) pa_nil))) pa_nil))))) pss_nil)
      (pss_cons (ps_if (PW.pt (pw_and (pt_cmpR op_eq (pv 3) pe_int (nomark _)) (pw_and1 (pt_cmpR (op_neD hr.units) (pe_dget (hu_of hr) (pv 1) pe_str (fun _ _ => rfl)) (pe_lst pa_nil) (nomark _))))) (pss_cons (ps_asg (pe_call G__law_one_of (hr.mono (by omega)) (by rfl) m__law_one_of k__law_one_of b__law_one_of .nil pass0 (pa_cons (pv 0) (pa_cons (pe_dget (hu_of hr) (pv 1) pe_str (fun _ _ => rfl)) pa_nil))) (pg_tup (by rfl) (pgs_cons (pg_name (i := 5) sc.nd rfl (.inl rfl)) (pgs_cons (pg_name (i := 6) sc.nd rfl (.inl rfl)) pgs_nil))))
      (pss_one (ps_ret (pe_tup (pa_cons pe_str (pa_cons (pv 5) (pa_cons (pe_callTy call_tuple_of (by rfl) m_tuple (by decide +kernel) (pa_cons (pe_lc (own := [("_law_k", 7)]) (by rfl) sc.nd  (pi_range1 (by rfl) m_range (pa_cons (pv 6) pa_nil)) (blkOk_by (own := [("_law_k", 7)]) (N := ["_law_state", "_law_w", "_law_deep", "_law_way", "_law_block_here", "_law_name", "_law_many", "_law_k"]) (sc := defScope sDeedG) (by decide +kernel)) (fun _ _ _ _ _ => (pg_name (i := 7) sc.nd rfl (.inl rfl))) (fun _ _ _ _ _ => pts_nil) (fun _ _ _ _ _ => (pe_call G__law_look (hr.mono (by omega)) (by rfl) m__law_look k__law_look b__law_look .nil pass0 (pa_cons (pv 0) (pa_cons (pv 1) (pa_cons pe_int pa_nil)))))) pa_nil)) pa_nil))))))) pss_nil)
      (pss_cons (ps_if (pt_cmpR op_eq (pv 3) pe_int (nomark _)) (pss_one (ps_ret (pe_tup (pa_cons pe_str (pa_cons (pe_call G__law_one_of (hr.mono (by omega)) (by rfl) m__law_one_of k__law_one_of b__law_one_of .nil pass0 (pa_cons (pv 0) (pa_cons (pe_op op_cat (pe_lst (pa_cons pe_non (pa_cons pe_non pa_nil))) (pe_dget (hu_of hr) (pv 1) pe_str (fun _ _ => rfl))) pa_nil))) pa_nil))))) pss_nil)
      (pss_cons (ps_if (pt_cmpR op_eq (pv 3) pe_int (nomark _)) (pss_one (ps_ret (pe_ix ix_list (pe_lst (pa_cons (pe_tup (pa_cons pe_str pa_nil)) (pa_cons (pe_tup (pa_cons pe_str (pa_cons (pe_call G__law_one_of (hr.mono (by omega)) (by rfl) m__law_one_of k__law_one_of b__law_one_of .nil pass0 (pa_cons (pv 0) (pa_cons (pe_lst (pa_cons pe_str (pa_cons pe_str (pa_cons pe_str (pa_cons pe_str pa_nil))))) pa_nil))) pa_nil))) pa_nil))) (pe_call G__law_take (hr.mono (by omega)) (by rfl) m__law_take k__law_take b__law_take .nil pass0 (pa_cons (pv 0) (pa_cons pe_int pa_nil))) (fun _ _ => rfl)))) pss_nil)
      (pss_one (ps_ret (pe_tup (pa_cons pe_str (pa_cons (pe_call G__law_look (hr.mono (by omega)) (by rfl) m__law_look k__law_look b__law_look .nil pass0 (pa_cons (pv 0) (pa_cons (pv 1) (pa_cons pe_int pa_nil)))) pa_nil))))))))))))), ?_⟩
  have l3 : ltk 3 = 36 := rfl
  have l2 : ltk 2 = 16 := rfl
  have t3 : ttk 3 = ttk 3 := rfl
  have dj := dtk_ge j
  have wj := wdp_ge j
  have sB : ButL [a, c, e] H H := fun _ _ _ h => h
  refine ⟨_, rfl, a, c, n, 24, rfl, D, by omega, by decide, by decide, fun r T1 r_0 r_1 s_ D_ => ?_⟩
  replace lf := lf.two s_ ne
  replace s_ := more3 (e := e) s_
  replace D := D_
  replace sB := sB.trans s_
  replace wd := wd.same (rmL_but s_)
  clear s_
  refine ⟨_, rfl, _, _, rfl, rfl, _, rfl, ite2 (fun c1 => ?_) (fun c1 => ?_)⟩
  · skip
    refine ⟨_, rfl, _, rfl, a, c, e, n + 1, W, _, rfl, D, wd, ne, lf.choose_spec.1, by omega, fun v d H4 s_ D_ dv db => ?_⟩
    replace lf := lf.two s_ ne
    replace s_ := more3 (e := e) s_
    replace D := D_
    replace sB := sB.trans s_
    replace wd := wd.same (rmL_but s_)
    clear s_
    exact q _ _ _ sB (D.le (by omega)) lf dv ((db _).le (by omega) (by omega))
  refine ⟨_, rfl, _, _, rfl, rfl, _, rfl, ite2 (fun c2 => ?_) (fun c2 => ?_)⟩
  · skip
    refine ⟨_, rfl, _, rfl, 2, by decide, a, c, e, n + 1, W, _, rfl, D, wd, ne, lf.choose_spec.1, by omega, by omega, fun v0 L0 Hk1 s_ D_ dv0 fv0 ev0 => ?_⟩
    replace lf := lf.two s_ ne
    replace s_ := more3 (e := e) s_
    replace D := D_
    replace sB := sB.trans s_
    replace wd := wd.same (rmL_but s_)
    clear s_
    refine ⟨by show 2 ≤ sizeLine; decide, fun u1 np_ => ?_⟩
    have x_ := same_upd (o := .tup [.str "wait", v0]) np_
    have e_u1 := rmL_new (o := .tup [.str "wait", v0]) (in3 D lf.choose_spec.1) np_
    replace lf := lf.same x_
    replace D := D.same x_
    replace sB := sB.trans (.same x_)
    replace wd := wd.same (rmL_same x_)
    replace dv0 := dp_same (rmL_same x_) _ _ dv0
    generalize upd Hk1 u1 (.tup [.str "wait", v0]) = B2 at *
    clear x_ np_
    have d_u1 : Dp K (rmL [a, c, e] B2) (.ref u1) (.tuple [.str "wait", lkD L0]) := .tup (SqT.of e_u1) (.cons (.str _) (.cons dv0 .nil))
    clear e_u1
    refine ⟨by show 2 ≤ sizeLine; decide, fun u2 np_ => ?_⟩
    have x_ := same_upd (o := .tup [.str "wait", .int 1]) np_
    have e_u2 := rmL_new (o := .tup [.str "wait", .int 1]) (in3 D lf.choose_spec.1) np_
    replace lf := lf.same x_
    replace D := D.same x_
    replace sB := sB.trans (.same x_)
    replace wd := wd.same (rmL_same x_)
    replace dv0 := dp_same (rmL_same x_) _ _ dv0
    replace d_u1 := dp_same (rmL_same x_) _ _ d_u1
    generalize upd B2 u2 (.tup [.str "wait", .int 1]) = B3 at *
    clear x_ np_
    have d_u2 : Dp K (rmL [a, c, e] B3) (.ref u2) (.tuple [.str "wait", .int 1]) := .tup (SqT.of e_u2) (.cons (.str _) (.cons (.int _) .nil))
    clear e_u2
    refine ⟨_, rfl, _, rfl, a, c, e, n + 1 + ltk 2, W, _, rfl, D, wd, ne, lf.choose_spec.1, by rw [show ttk 3 = 50 from rfl]; omega, .inr rfl, fun v1 L1 Ht4 s_ D_ dv1 fv1 ev1 => ?_⟩
    replace lf := lf.two s_ ne
    replace s_ := more3 (e := e) s_
    replace D := D_
    replace sB := sB.trans s_
    replace wd := wd.same (rmL_but s_)
    replace dv0 := dp_same (rmL_but s_) _ _ dv0
    replace d_u1 := dp_same (rmL_but s_) _ _ d_u1
    replace d_u2 := dp_same (rmL_but s_) _ _ d_u2
    clear s_
    refine ⟨by show 2 ≤ sizeLine; decide, fun u3 np_ => ?_⟩
    have x_ := same_upd (o := .tup [.str "until", v1]) np_
    have e_u3 := rmL_new (o := .tup [.str "until", v1]) (in3 D lf.choose_spec.1) np_
    replace lf := lf.same x_
    replace D := D.same x_
    replace sB := sB.trans (.same x_)
    replace wd := wd.same (rmL_same x_)
    replace dv0 := dp_same (rmL_same x_) _ _ dv0
    replace d_u1 := dp_same (rmL_same x_) _ _ d_u1
    replace d_u2 := dp_same (rmL_same x_) _ _ d_u2
    replace dv1 := dp_same (rmL_same x_) _ _ dv1
    generalize upd Ht4 u3 (.tup [.str "until", v1]) = B5 at *
    clear x_ np_
    have d_u3 : Dp K (rmL [a, c, e] B5) (.ref u3) (.tuple [.str "until", tsD L1]) := .tup (SqT.of e_u3) (.cons (.str _) (.cons dv1 .nil))
    clear e_u3
    refine ⟨by show 3 ≤ sizeLine; decide, fun ul np_ => ?_⟩
    have x_ := same_upd (o := .lst [.ref u1, .ref u2, .ref u3]) np_
    have e_ul := rmL_new (o := .lst [.ref u1, .ref u2, .ref u3]) (in3 D lf.choose_spec.1) np_
    replace lf := lf.same x_
    replace D := D.same x_
    replace sB := sB.trans (.same x_)
    replace wd := wd.same (rmL_same x_)
    replace dv0 := dp_same (rmL_same x_) _ _ dv0
    replace d_u1 := dp_same (rmL_same x_) _ _ d_u1
    replace d_u2 := dp_same (rmL_same x_) _ _ d_u2
    replace dv1 := dp_same (rmL_same x_) _ _ dv1
    replace d_u3 := dp_same (rmL_same x_) _ _ d_u3
    generalize upd B5 ul (.lst [.ref u1, .ref u2, .ref u3]) = B6 at *
    clear x_ np_
    have r3 : r = 9 ∨ r = 10 ∨ r = 11 := by
      have h1 := of_decide_eq_true c2
      have h2 : ¬ r < 9 := fun z => c1 (decide_eq_true z)
      omega
    have dB := D.le (m := n + dtk j) (by rw [show ttk 3 = 50 from rfl]; omega)
    rcases r3 with rfl | rfl | rfl
    · exact ⟨_, rfl, _, _, rfl, rfl, ul, _, 0, _, rfl, rfl, SqL.of (rmL_sub _ _ e_ul), rfl, q _ _ _ sB dB lf d_u1 (db1 (z := "wait") (by decide +kernel) (by decide +kernel) (pb_lk fv0 ev0 (by decide) (n := 5) (by decide) (Nat.le_refl _)) (by omega) (Nat.le_trans (by decide) wj))⟩
    · exact ⟨_, rfl, _, _, rfl, rfl, ul, _, 1, _, rfl, rfl, SqL.of (rmL_sub _ _ e_ul), rfl, q _ _ _ sB dB lf d_u2 (db1 (z := "wait") (by decide +kernel) (by decide +kernel) (pb_int (n := 3) (by decide)) (by omega) (Nat.le_trans (by decide) wj))⟩
    · exact ⟨_, rfl, _, _, rfl, rfl, ul, _, 2, _, rfl, rfl, SqL.of (rmL_sub _ _ e_ul), rfl, q _ _ _ sB dB lf d_u3 (db1 (z := "until") (by decide +kernel) (by decide +kernel) (pb_ts fv1 ev1 (by decide) (n := 5) (by decide) (Nat.le_refl _)) (by omega) (Nat.le_trans (by decide) wj))⟩
  refine ⟨_, rfl, _, _, rfl, rfl, _, rfl, ?_⟩
  apply late
  · intro rest
    refine ite2 (fun c3 => ?_) (fun c3 => rest)
    refine ⟨_, rfl, _, _, rfl, rfl, _, rfl, ?_⟩
    rw [show decide ((1 : Int) < ((j + 1 : Nat) : Int)) = decide (0 < j) by by_cases c1 : 0 < j <;> simp [c1] <;> omega]
    by_cases c4 : 0 < j
    · rw [decide_eq_true c4]
      refine iteT ?_
      clear rest
      obtain ⟨i, rfl⟩ : ∃ i, j = i + 1 := ⟨j - 1, by omega⟩
      have dj1 : dtk (i + 1) = 8 * dtk i + 60 := rfl
      have wj1 : wdp (i + 1) = 8 * wdp i + 400 := rfl
      have wi := wdp_ge i
      have t3 : ttk 3 = 50 := rfl
      have w2 : wl 2 = 153 := rfl
      have w3 : wl 3 = 317 := rfl
      refine ⟨_, rfl, _, rfl, _, rfl, _, _, rfl, rfl, i, rfl, a, c, e, n + 1, W, congrArg (fun i => [V.ref a, V.ref W.b, V.int i]) (by omega), D, wd, ne, lf, by omega, fun vb bvb Hb1 s_ D_ L_ dvb kvb => ?_⟩
      replace lf := L_
      replace D := D_
      replace sB := sB.trans s_
      replace wd := wd.same (rmL_but s_)
      clear s_
      refine ⟨_, rfl, rfl, _, rfl, ite2 (fun c6 => ?_) (fun c6 => ?_)⟩
      · skip
        refine ⟨_, rfl, _, rfl, a, c, e, n + 1 + (4 * dtk i + 1), W, _, rfl, D, wd, ne, lf.choose_spec.1, by rw [show ttk 3 = 50 from rfl]; omega, .inr rfl, fun v0 L0 Ht1 s_ D_ dv0 fv0 ev0 => ?_⟩
        replace lf := lf.two s_ ne
        replace s_ := more3 (e := e) s_
        replace D := D_
        replace sB := sB.trans s_
        replace wd := wd.same (rmL_but s_)
        replace dvb := dp_same (rmL_but s_) _ _ dvb
        clear s_
        refine ⟨_, rfl, _, rfl, _, rfl, _, rfl, _, _, rfl, rfl, i, rfl, a, c, e, n + 1 + (4 * dtk i + 1) + ttk 3, W, congrArg (fun i => [V.ref a, V.ref W.b, V.int i]) (by omega), D, wd, ne, lf, by omega, fun vc bvc Hb2 s_ D_ L_ dvc kvc => ?_⟩
        replace lf := L_
        replace D := D_
        replace sB := sB.trans s_
        replace wd := wd.same (rmL_but s_)
        replace dvb := dp_same (rmL_but s_) _ _ dvb
        replace dv0 := dp_same (rmL_but s_) _ _ dv0
        clear s_
        refine ⟨by show 4 ≤ sizeLine; decide, fun tr np_ => ?_⟩
        have x_ := same_upd (o := .tup [.str "if", v0, vb, vc]) np_
        have e_tr := rmL_new (o := .tup [.str "if", v0, vb, vc]) (in3 D lf.choose_spec.1) np_
        replace lf := lf.same x_
        replace D := D.same x_
        replace sB := sB.trans (.same x_)
        replace wd := wd.same (rmL_same x_)
        replace dvb := dp_same (rmL_same x_) _ _ dvb
        replace dv0 := dp_same (rmL_same x_) _ _ dv0
        replace dvc := dp_same (rmL_same x_) _ _ dvc
        generalize upd Hb2 tr (.tup [.str "if", v0, vb, vc]) = D3 at *
        clear x_ np_
        have d_tr : Dp K (rmL [a, c, e] D3) (.ref tr) (.tuple [.str "if", tsD L0, bvb, bvc]) := .tup (SqT.of e_tr) (.cons (.str _) (.cons dv0 (.cons dvb (.cons dvc .nil))))
        clear e_tr
        exact q _ _ _ sB (D.le (by omega)) lf d_tr (db3 (n := 2 * i + 6) (z := "if") (by decide +kernel) g_if (pb_ts fv0 ev0 (by decide) (n := 2 * i + 7) (by omega) (Nat.le_refl _)) (pb_bk kvb) (pb_bk kvc) (by omega) (by omega))
      refine ⟨_, rfl, _, _, rfl, rfl, _, rfl, ite2 (fun c7 => ?_) (fun c7 => ?_)⟩
      · skip
        refine ⟨_, rfl, _, rfl, 2, by decide, a, c, e, n + 1 + (4 * dtk i + 1), W, _, rfl, D, wd, ne, lf.choose_spec.1, by omega, by omega, fun v0 L0 Hk1 s_ D_ dv0 fv0 ev0 => ?_⟩
        replace lf := lf.two s_ ne
        replace s_ := more3 (e := e) s_
        replace D := D_
        replace sB := sB.trans s_
        replace wd := wd.same (rmL_but s_)
        replace dvb := dp_same (rmL_but s_) _ _ dvb
        clear s_
        refine ⟨_, rfl, a, c, n + 1 + (4 * dtk i + 1) + ltk 2, 3, rfl, D, by omega, by decide, by decide, fun r2 T2 r2_0 r2_1 s_ D_ => ?_⟩
        replace lf := lf.two s_ ne
        replace s_ := more3 (e := e) s_
        replace D := D_
        replace sB := sB.trans s_
        replace wd := wd.same (rmL_but s_)
        replace dvb := dp_same (rmL_but s_) _ _ dvb
        replace dv0 := dp_same (rmL_but s_) _ _ dv0
        clear s_
        refine ⟨_, _, rfl, rfl, ?_⟩
        refine ⟨by show 2 ≤ sizeLine; decide, fun ul np_ => ?_⟩
        have x_ := same_upd (o := .lst [v0, .int (1 + r2)]) np_
        have e_ul := rmL_new (o := .lst [v0, .int (1 + r2)]) (in3 D lf.choose_spec.1) np_
        replace lf := lf.same x_
        replace D := D.same x_
        replace sB := sB.trans (.same x_)
        replace wd := wd.same (rmL_same x_)
        replace dvb := dp_same (rmL_same x_) _ _ dvb
        replace dv0 := dp_same (rmL_same x_) _ _ dv0
        generalize upd T2 ul (.lst [v0, .int (1 + r2)]) = G3 at *
        clear x_ np_
        have r3 : r = 13 ∨ r = 14 := by
          have h1 := of_decide_eq_true c7
          have h2 : ¬ r < 12 := fun z => c2 (decide_eq_true z)
          have h3 : ¬ r = 12 := fun z => c6 (by rw [z]; rfl)
          omega
        rcases r3 with rfl | rfl
        · skip
          refine ⟨_, rfl, _, _, rfl, rfl, ul, _, 0, _, rfl, rfl, SqL.of (rmL_sub _ _ e_ul), rfl, _, rfl, by show 3 ≤ sizeLine; decide, fun tr np_ => ?_⟩
          have x_ := same_upd (o := .tup [.str "times", v0, vb]) np_
          have e_tr := rmL_new (o := .tup [.str "times", v0, vb]) (in3 D lf.choose_spec.1) np_
          replace lf := lf.same x_
          replace D := D.same x_
          replace sB := sB.trans (.same x_)
          replace wd := wd.same (rmL_same x_)
          replace dvb := dp_same (rmL_same x_) _ _ dvb
          replace dv0 := dp_same (rmL_same x_) _ _ dv0
          replace e_ul := rmL_same x_ _ _ e_ul
          generalize upd G3 tr (.tup [.str "times", v0, vb]) = K01 at *
          clear x_ np_
          have d_tr : Dp K (rmL [a, c, e] K01) (.ref tr) (.tuple [.str "times", lkD L0, bvb]) := .tup (SqT.of e_tr) (.cons (.str _) (.cons dv0 (.cons dvb .nil)))
          clear e_tr
          exact q _ _ _ sB (D.le (by omega)) lf d_tr (db2 (n := 2 * i + 6) (z := "times") (by decide +kernel) g_times (pb_lk fv0 ev0 (by decide) (n := 2 * i + 7) (by omega) (Nat.le_refl _)) (pb_bk kvb) (by omega) (by omega))
        · skip
          refine ⟨_, rfl, _, _, rfl, rfl, ul, _, 1, _, rfl, rfl, SqL.of (rmL_sub _ _ e_ul), rfl, _, rfl, by show 3 ≤ sizeLine; decide, fun tr np_ => ?_⟩
          have x_ := same_upd (o := .tup [.str "times", .int (1 + r2), vb]) np_
          have e_tr := rmL_new (o := .tup [.str "times", .int (1 + r2), vb]) (in3 D lf.choose_spec.1) np_
          replace lf := lf.same x_
          replace D := D.same x_
          replace sB := sB.trans (.same x_)
          replace wd := wd.same (rmL_same x_)
          replace dvb := dp_same (rmL_same x_) _ _ dvb
          replace dv0 := dp_same (rmL_same x_) _ _ dv0
          replace e_ul := rmL_same x_ _ _ e_ul
          generalize upd G3 tr (.tup [.str "times", .int (1 + r2), vb]) = K11 at *
          clear x_ np_
          have d_tr : Dp K (rmL [a, c, e] K11) (.ref tr) (.tuple [.str "times", .int (1 + r2), bvb]) := .tup (SqT.of e_tr) (.cons (.str _) (.cons (.int _) (.cons dvb .nil)))
          clear e_tr
          exact q _ _ _ sB (D.le (by omega)) lf d_tr (db2 (n := 2 * i + 6) (z := "times") (by decide +kernel) g_times (pb_int (n := 2 * i + 5) (by unfold inB; rw [decide_eq_true (by omega), decide_eq_true (by omega)]; rfl)) (pb_bk kvb) (by omega) (by omega))
      refine ⟨_, rfl, rfl, _, rfl, ite2 (fun c8 => ?_) (fun c8 => ?_)⟩
      · skip
        refine ⟨_, rfl, _, rfl, a, c, e, n + 1 + (4 * dtk i + 1), W, _, rfl, D, wd, ne, lf.choose_spec.1, by rw [show ttk 3 = 50 from rfl]; omega, .inr rfl, fun v0 L0 Ht1 s_ D_ dv0 fv0 ev0 => ?_⟩
        replace lf := lf.two s_ ne
        replace s_ := more3 (e := e) s_
        replace D := D_
        replace sB := sB.trans s_
        replace wd := wd.same (rmL_but s_)
        replace dvb := dp_same (rmL_but s_) _ _ dvb
        clear s_
        refine ⟨_, rfl, by show 3 ≤ sizeLine; decide, fun tr np_ => ?_⟩
        have x_ := same_upd (o := .tup [.str "while", v0, vb]) np_
        have e_tr := rmL_new (o := .tup [.str "while", v0, vb]) (in3 D lf.choose_spec.1) np_
        replace lf := lf.same x_
        replace D := D.same x_
        replace sB := sB.trans (.same x_)
        replace wd := wd.same (rmL_same x_)
        replace dvb := dp_same (rmL_same x_) _ _ dvb
        replace dv0 := dp_same (rmL_same x_) _ _ dv0
        generalize upd Ht1 tr (.tup [.str "while", v0, vb]) = M2 at *
        clear x_ np_
        have d_tr : Dp K (rmL [a, c, e] M2) (.ref tr) (.tuple [.str "while", tsD L0, bvb]) := .tup (SqT.of e_tr) (.cons (.str _) (.cons dv0 (.cons dvb .nil)))
        clear e_tr
        exact q _ _ _ sB (D.le (by omega)) lf d_tr (db2 (n := 2 * i + 6) (z := "while") (by decide +kernel) g_while (pb_ts fv0 ev0 (by decide) (n := 2 * i + 7) (by omega) (Nat.le_refl _)) (pb_bk kvb) (by omega) (by omega))
      refine ⟨_, rfl, by show 2 ≤ sizeLine; decide, fun tr np_ => ?_⟩
      have x_ := same_upd (o := .tup [.str "ever", vb]) np_
      have e_tr := rmL_new (o := .tup [.str "ever", vb]) (in3 D lf.choose_spec.1) np_
      replace lf := lf.same x_
      replace D := D.same x_
      replace sB := sB.trans (.same x_)
      replace wd := wd.same (rmL_same x_)
      replace dvb := dp_same (rmL_same x_) _ _ dvb
      generalize upd Hb1 tr (.tup [.str "ever", vb]) = N1 at *
      clear x_ np_
      have d_tr : Dp K (rmL [a, c, e] N1) (.ref tr) (.tuple [.str "ever", bvb]) := .tup (SqT.of e_tr) (.cons (.str _) (.cons dvb .nil))
      clear e_tr
      exact q _ _ _ sB (D.le (by omega)) lf d_tr (db1 (n := 2 * i + 6) (z := "ever") (by decide +kernel) g_ever (pb_bk kvb) (by omega) (by omega))
    · rw [decide_eq_false c4]
      exact iteF rest
  refine ⟨_, rfl, _, _, rfl, rfl, _, rfl, ite2 (fun c5 => ?_) (fun c5 => ?_)⟩
  · skip
    refine ⟨by show 3 ≤ sizeLine; decide, fun ul np_ => ?_⟩
    have x_ := same_upd (o := .lst [.str "tell", .str "await", .str "await"]) np_
    have e_ul := rmL_new (o := .lst [.str "tell", .str "await", .str "await"]) (in3 D lf.choose_spec.1) np_
    replace lf := lf.same x_
    replace D := D.same x_
    replace sB := sB.trans (.same x_)
    replace wd := wd.same (rmL_same x_)
    generalize upd T1 ul (.lst [.str "tell", .str "await", .str "await"]) = T1 at *
    clear x_ np_
    obtain ⟨mx, hmx, m0, m2⟩ : ∃ mx : Int, (if (17 : Int) > r then 17 else r) = mx ∧ 17 ≤ mx ∧ mx ≤ 19 := by
      have h1 := of_decide_eq_true c5
      by_cases z : (17 : Int) > r
      · exact ⟨17, if_pos z, by omega, by omega⟩
      · exact ⟨r, if_neg z, by omega, by omega⟩
    refine ⟨_, rfl, _, _, rfl, ?_⟩
    rw [hmx]
    obtain ⟨zw, wz, gz, az⟩ : ∃ zw : Str, wdS zw = true ∧ gD zw = some (["news"] : List Str) ∧ atI [V.str "tell", V.str "await", V.str "await"] (mx - 17) = some (.str zw) := by
      have : mx = 17 ∨ mx = 18 ∨ mx = 19 := by omega
      rcases this with rfl | rfl | rfl
      · exact ⟨_, by decide +kernel, by decide +kernel, rfl⟩
      · exact ⟨_, by decide +kernel, by decide +kernel, rfl⟩
      · exact ⟨_, by decide +kernel, by decide +kernel, rfl⟩
    refine ⟨_, _, rfl, rfl, ul, _, mx - 17, _, rfl, rfl, SqL.of (rmL_sub _ _ e_ul), az, ?_⟩
    refine ⟨_, rfl, _, rfl, W.b, _, rfl, DGet.k (k := Sum.inr "news") (rmL_sub _ _ wd.hb), a, c, W.p4, n + 1, _, rfl, D, by omega, rm32 _ _ wd.h4, by simp, by show 2 ≤ 1000; decide, fun j_ vz O2 hv_ s_ D_ => ?_⟩
    replace lf := lf.two s_ ne
    replace s_ := more3 (e := e) s_
    replace D := D_
    replace sB := sB.trans s_
    replace wd := wd.same (rmL_but s_)
    replace e_ul := rmL_but s_ _ _ e_ul
    clear s_
    obtain ⟨z, rfl, nz⟩ := two_at hv_ wd.n4 wd.n5
    clear hv_
    refine ⟨by show 2 ≤ sizeLine; decide, fun tr np_ => ?_⟩
    have x_ := same_upd (o := .tup [.str zw, .str z]) np_
    have e_tr := rmL_new (o := .tup [.str zw, .str z]) (in3 D lf.choose_spec.1) np_
    replace lf := lf.same x_
    replace D := D.same x_
    replace sB := sB.trans (.same x_)
    replace wd := wd.same (rmL_same x_)
    replace e_ul := rmL_same x_ _ _ e_ul
    generalize upd O2 tr (.tup [.str zw, .str z]) = T3 at *
    clear x_ np_
    have d_tr : Dp K (rmL [a, c, e] T3) (.ref tr) (.tuple [.str zw, .str z]) := .tup (SqT.of e_tr) (.cons (.str _) (.cons (.str _) .nil))
    clear e_tr
    exact q _ _ _ sB (D.le (by omega)) lf d_tr (db1 (n := 3) wz gz (pb_nm (k := "news") (by decide +kernel) nz) (by omega) (by omega))
  refine ⟨_, rfl, rfl, _, rfl, ?_⟩
  apply late
  · intro rest
    refine ite2 (fun c6 => ?_) (fun c6 => rest)
    clear rest
    refine ⟨_, rfl, W.b, _, rfl, DGet.k (k := Sum.inr "pieces") (rmL_sub _ _ wd.hb), ?_⟩
    refine ⟨by show 0 ≤ sizeLine; decide, fun t1 np_ => ?_⟩
    have x_ := same_upd (o := .lst []) np_
    have e_t1 := rmL_new (o := .lst []) (in3 D lf.choose_spec.1) np_
    replace lf := lf.same x_
    replace D := D.same x_
    replace sB := sB.trans (.same x_)
    replace wd := wd.same (rmL_same x_)
    generalize upd T1 t1 (.lst []) = O2 at *
    clear x_ np_
    refine ne_one wd.n8 (rmL_sub _ _ wd.h6) (rmL_sub _ _ wd.ht) (rmL_sub _ _ e_t1) ⟨_, rfl, iteT ?_⟩
    clear e_t1
    refine ⟨_, rfl, _, rfl, W.b, _, rfl, DGet.k (k := Sum.inr "pieces") (rmL_sub _ _ wd.hb), a, c, W.p6, n + 1, _, rfl, D, by omega, rm32 _ _ wd.h6, by simp, by show 1 ≤ 1000; decide, fun j_ vz O3 hv_ s_ D_ => ?_⟩
    replace lf := lf.two s_ ne
    replace s_ := more3 (e := e) s_
    replace D := D_
    replace sB := sB.trans s_
    replace wd := wd.same (rmL_but s_)
    clear s_
    obtain rfl : vz = .ref W.t := by
      match j_, hv_ with
      | 0, h => exact (Option.some.inj h).symm
      | j + 1, h => simp at h
    clear hv_
    refine ⟨W.t, _, rfl, SqT.of (rmL_sub _ _ wd.ht), rfl, ?_⟩
    refine ⟨_, _, rfl, _, _, rfl, rfl, ?_⟩
    refine ⟨_, rfl, _, rfl, W.k, rfl, by have := wd.hk; omega, by have := wd.hk; omega, fun B nB => ?_⟩
    have nBs : B ∉ [a, c, e] := fun z => by
      obtain ⟨u, hu⟩ := in3 D lf.choose_spec.1 B z
      rw [nB] at hu
      cases hu
    have hk := wd.hk
    refine lc_it walk_range (fun i HB => ButL [a, c, e] O3 HB ∧ Dr HB a c (n + 1 + 1 + 16 * i) ∧ Lf HB e ∧ BdI K [a, c, e] B (fun d => isPart 6 "look" d = true ∧ Sz 3 153 d) i HB)
      ⟨.same (same_upd nB), D.same (same_upd nB), lf.same (same_upd nB), .zero⟩ (fun _ _ _ _ => trivial) ?_ ?_
    · rintro i v _ HB hi ⟨s3, D3, lf3, bd⟩ ⟨rfl, rfl⟩
      replace hi : i < W.k := by have : i < ((W.k : Nat) : Int).toNat := hi; omega
      refine ⟨rfl, ?_⟩
      unfold tYes
      refine iteT ⟨_, rfl, _, rfl, 2, by decide, a, c, e, _, W, _, rfl, D3, wd.same (rmL_but s3), ne, lf3.choose_spec.1, by omega, by omega, fun v L H4 s4 D4 dv fv ev => ?_⟩
      have lf4 := lf3.two s4 ne
      replace s4 := more3 (e := e) s4
      obtain ⟨acc, h1, h2, h3⟩ := (bd.but s4 nBs).push nBs dv ⟨by rw [part_lk 6 L fv]; exact decide_eq_true (by omega), (lk_sz fv).le (by omega) (wl_mono ev)⟩ (on_lk L) (by omega)
      refine ⟨acc, h1, h2, ?_, ?_, ?_, h3⟩
      · exact fun b o nb hb => by
          rw [upd_ne (ne_of_none hb nB)]
          exact (s3.trans s4) b o nb hb
      · rw [Nat.mul_succ, ← Nat.add_assoc]
        exact (D4.upd (fun z => nBs (by rcases List.mem_cons.mp z with z | z <;> simp_all)))
      · obtain ⟨l', g1, g2⟩ := lf4
        exact ⟨l', by rw [upd_ne (fun z => nBs (by rw [← z]; simp))]; exact g1, g2⟩
    rintro HB ⟨s3, D3, lf3, bd⟩
    obtain ⟨ys, ds, g1, g2, g3, g4⟩ := bd.fin
    replace g3 : ds.length ≤ 2 := by rw [g3]; show ((W.k : Nat) : Int).toNat ≤ 2; omega
    refine ⟨B, ys, rfl, .inl ⟨SqL.of g1, fun t np => ?_⟩⟩
    have x_ := same_upd (o := .tup ys) np
    have nt := rmL_new (o := .tup ys) (in3 D3 lf3.choose_spec.1) np
    have dt : Dp K (rmL [a, c, e] (upd HB t (.tup ys))) (.ref t) (.tuple ds) := .tup (SqT.of nt) (dpAll_same (rmL_same x_) _ _ g2)
    replace sB := sB.trans (s3.trans (.same x_))
    replace D := (D3.same x_).le (m := n + dtk j) (by have : 16 * ((W.k : Nat) : Int).toNat ≤ 16 * 2 := Nat.mul_le_mul_left _ (by omega); omega)
    replace lf := lf3.same x_
    replace wd := (wd.same (rmL_but s3)).same (rmL_same x_)
    clear nt x_ s3 D3 lf3 g1 g2 bd nB nBs
    generalize upd HB t (.tup ys) = HC at *
    clear np
    refine ⟨by show 3 ≤ sizeLine; decide, fun tr np_ => ?_⟩
    have x_ := same_upd (o := .tup [.str "do", .str W.x8, .ref t]) np_
    have e_tr := rmL_new (o := .tup [.str "do", .str W.x8, .ref t]) (in3 D lf.choose_spec.1) np_
    replace lf := lf.same x_
    replace D := D.same x_
    replace sB := sB.trans (.same x_)
    replace wd := wd.same (rmL_same x_)
    replace dt := dp_same (rmL_same x_) _ _ dt
    generalize upd HC tr (.tup [.str "do", .str W.x8, .ref t]) = O4 at *
    clear x_ np_
    have d_tr : Dp K (rmL [a, c, e] O4) (.ref tr) (.tuple [.str "do", .str W.x8, .tuple ds]) := .tup (SqT.of e_tr) (.cons (.str _) (.cons (.str _) (.cons dt .nil)))
    clear e_tr
    exact q _ _ _ sB D lf d_tr (db2 (n := 3) (z := "do") (by decide +kernel) g_do (pb_nm (k := "piece") (by decide +kernel) wd.n8) (pb_looks g3 g4) (by omega) (by omega))
  refine ⟨_, rfl, rfl, _, rfl, ite2 (fun c6 => ?_) (fun c6 => ?_)⟩
  · skip
    refine ⟨_, rfl, by show 2 ≤ sizeLine; decide, fun un np_ => ?_⟩
    have x_ := same_upd (o := .lst [.non, .non]) np_
    have e_un := rmL_new (o := .lst [.non, .non]) (in3 D lf.choose_spec.1) np_
    replace lf := lf.same x_
    replace D := D.same x_
    replace sB := sB.trans (.same x_)
    replace wd := wd.same (rmL_same x_)
    generalize upd T1 un (.lst [.non, .non]) = P1 at *
    clear x_ np_
    refine ⟨_, rfl, W.b, _, rfl, DGet.k (k := Sum.inr "figures") (rmL_sub _ _ wd.hb), un, W.p5, _, _, rfl, rfl, rmL_sub _ _ e_un, rmL_sub _ _ wd.h5, by show 4 ≤ sizeLine; decide, fun us np_ => ?_⟩
    rw [show [V.non, .non] ++ [V.str W.x6, .str W.x7] = [V.non, .non, V.str W.x6, V.str W.x7] from rfl]
    have x_ := same_upd (o := .lst [.non, .non, .str W.x6, .str W.x7]) np_
    have e_us := rmL_new (o := .lst [.non, .non, .str W.x6, .str W.x7]) (in3 D lf.choose_spec.1) np_
    replace lf := lf.same x_
    replace D := D.same x_
    replace sB := sB.trans (.same x_)
    replace wd := wd.same (rmL_same x_)
    replace e_un := rmL_same x_ _ _ e_un
    generalize upd P1 us (.lst [.non, .non, .str W.x6, .str W.x7]) = P2 at *
    clear x_ np_
    refine ⟨a, c, us, n + 1, _, rfl, D, by omega, rm32 _ _ e_us, by simp, by show 4 ≤ 1000; decide, fun j_ vz O3 hv_ s_ D_ => ?_⟩
    replace lf := lf.two s_ ne
    replace s_ := more3 (e := e) s_
    replace D := D_
    replace sB := sB.trans s_
    replace wd := wd.same (rmL_but s_)
    replace e_un := rmL_but s_ _ _ e_un
    replace e_us := rmL_but s_ _ _ e_us
    clear s_
    obtain ⟨d, dv, pd⟩ : ∃ d, Dp K (rmL [a, c, e] O3) vz d ∧ PB (innerB j) "figure" 4 8 d := by
      match j_, hv_ with
      | 0, h => cases (Option.some.inj h); exact ⟨_, .non, pb_non⟩
      | 1, h => cases (Option.some.inj h); exact ⟨_, .non, pb_non⟩
      | 2, h => cases (Option.some.inj h); exact ⟨_, .str _, pb_nm (by decide +kernel) wd.n6⟩
      | 3, h => cases (Option.some.inj h); exact ⟨_, .str _, pb_nm (by decide +kernel) wd.n7⟩
      | j + 4, h => simp at h
    clear hv_
    refine ⟨by show 2 ≤ sizeLine; decide, fun tr np_ => ?_⟩
    have x_ := same_upd (o := .tup [.str "copy", vz]) np_
    have e_tr := rmL_new (o := .tup [.str "copy", vz]) (in3 D lf.choose_spec.1) np_
    replace lf := lf.same x_
    replace D := D.same x_
    replace sB := sB.trans (.same x_)
    replace wd := wd.same (rmL_same x_)
    replace e_un := rmL_same x_ _ _ e_un
    replace e_us := rmL_same x_ _ _ e_us
    replace dv := dp_same (rmL_same x_) _ _ dv
    generalize upd O3 tr (.tup [.str "copy", vz]) = P4 at *
    clear x_ np_
    have d_tr : Dp K (rmL [a, c, e] P4) (.ref tr) (.tuple [.str "copy", d]) := .tup (SqT.of e_tr) (.cons (.str _) (.cons dv .nil))
    clear e_tr
    exact q _ _ _ sB (D.le (by omega)) lf d_tr (db1 (n := 3) (z := "copy") (by decide +kernel) (by decide +kernel) pd (by omega) (by omega))
  refine ⟨_, rfl, rfl, _, rfl, ite2 (fun c7 => ?_) (fun c7 => ?_)⟩
  · skip
    refine ⟨by show 1 ≤ sizeLine; decide, fun u1 np_ => ?_⟩
    have x_ := same_upd (o := .tup [.str "end"]) np_
    have e_u1 := rmL_new (o := .tup [.str "end"]) (in3 D lf.choose_spec.1) np_
    replace lf := lf.same x_
    replace D := D.same x_
    replace sB := sB.trans (.same x_)
    replace wd := wd.same (rmL_same x_)
    generalize upd T1 u1 (.tup [.str "end"]) = S1 at *
    clear x_ np_
    have d_u1 : Dp K (rmL [a, c, e] S1) (.ref u1) (.tuple [.str "end"]) := .tup (SqT.of e_u1) (.cons (.str _) .nil)
    clear e_u1
    refine ⟨_, rfl, by show 4 ≤ sizeLine; decide, fun us np_ => ?_⟩
    have x_ := same_upd (o := .lst [.str "run", .str "others", .str "others", .str "all"]) np_
    have e_us := rmL_new (o := .lst [.str "run", .str "others", .str "others", .str "all"]) (in3 D lf.choose_spec.1) np_
    replace lf := lf.same x_
    replace D := D.same x_
    replace sB := sB.trans (.same x_)
    replace wd := wd.same (rmL_same x_)
    replace d_u1 := dp_same (rmL_same x_) _ _ d_u1
    generalize upd S1 us (.lst [.str "run", .str "others", .str "others", .str "all"]) = S2 at *
    clear x_ np_
    refine ⟨a, c, us, n + 1, _, rfl, D, by omega, rm32 _ _ e_us, by simp, by show 4 ≤ 1000; decide, fun j_ vz O3 hv_ s_ D_ => ?_⟩
    replace lf := lf.two s_ ne
    replace s_ := more3 (e := e) s_
    replace D := D_
    replace sB := sB.trans s_
    replace wd := wd.same (rmL_but s_)
    replace d_u1 := dp_same (rmL_but s_) _ _ d_u1
    replace e_us := rmL_but s_ _ _ e_us
    clear s_
    obtain ⟨z, rfl, nz⟩ : ∃ z : Str, vz = .str z ∧ z ∈ (["run", "others", "all"] : List Str) := by
      match j_, hv_ with
      | 0, h => exact ⟨_, (Option.some.inj h).symm, by simp⟩
      | 1, h => exact ⟨_, (Option.some.inj h).symm, by simp⟩
      | 2, h => exact ⟨_, (Option.some.inj h).symm, by simp⟩
      | 3, h => exact ⟨_, (Option.some.inj h).symm, by simp⟩
      | j + 4, h => simp at h
    clear hv_
    refine ⟨by show 2 ≤ sizeLine; decide, fun u2 np_ => ?_⟩
    have x_ := same_upd (o := .tup [.str "stop", .str z]) np_
    have e_u2 := rmL_new (o := .tup [.str "stop", .str z]) (in3 D lf.choose_spec.1) np_
    replace lf := lf.same x_
    replace D := D.same x_
    replace sB := sB.trans (.same x_)
    replace wd := wd.same (rmL_same x_)
    replace d_u1 := dp_same (rmL_same x_) _ _ d_u1
    replace e_us := rmL_same x_ _ _ e_us
    generalize upd O3 u2 (.tup [.str "stop", .str z]) = S4 at *
    clear x_ np_
    have d_u2 : Dp K (rmL [a, c, e] S4) (.ref u2) (.tuple [.str "stop", .str z]) := .tup (SqT.of e_u2) (.cons (.str _) (.cons (.str _) .nil))
    clear e_u2
    refine ⟨by show 2 ≤ sizeLine; decide, fun ul np_ => ?_⟩
    have x_ := same_upd (o := .lst [.ref u1, .ref u2]) np_
    have e_ul := rmL_new (o := .lst [.ref u1, .ref u2]) (in3 D lf.choose_spec.1) np_
    replace lf := lf.same x_
    replace D := D.same x_
    replace sB := sB.trans (.same x_)
    replace wd := wd.same (rmL_same x_)
    replace d_u1 := dp_same (rmL_same x_) _ _ d_u1
    replace e_us := rmL_same x_ _ _ e_us
    replace d_u2 := dp_same (rmL_same x_) _ _ d_u2
    generalize upd S4 ul (.lst [.ref u1, .ref u2]) = S5 at *
    clear x_ np_
    refine ⟨_, rfl, a, c, n + 1 + 1, 2, rfl, D, by omega, by decide, by decide, fun r2 T6 r2_0 r2_1 s_ D_ => ?_⟩
    replace lf := lf.two s_ ne
    replace s_ := more3 (e := e) s_
    replace D := D_
    replace sB := sB.trans s_
    replace wd := wd.same (rmL_but s_)
    replace d_u1 := dp_same (rmL_but s_) _ _ d_u1
    replace e_us := rmL_but s_ _ _ e_us
    replace d_u2 := dp_same (rmL_but s_) _ _ d_u2
    replace e_ul := rmL_but s_ _ _ e_ul
    clear s_
    have r3 : r2 = 0 ∨ r2 = 1 := by omega
    rcases r3 with rfl | rfl
    · exact ⟨ul, _, 0, _, rfl, rfl, SqL.of (rmL_sub _ _ e_ul), rfl, q _ _ _ sB (D.le (by omega)) lf d_u1 (db0 (z := "end") (by decide +kernel) (by decide +kernel) (by omega) (by omega))⟩
    · exact ⟨ul, _, 1, _, rfl, rfl, SqL.of (rmL_sub _ _ e_ul), rfl, q _ _ _ sB (D.le (by omega)) lf d_u2 (db1 (n := 3) (z := "stop") (by decide +kernel) (by decide +kernel) (pb_wd nz) (by omega) (by omega))⟩
  refine ⟨_, rfl, _, rfl, 2, by decide, a, c, e, n + 1, W, _, rfl, D, wd, ne, lf.choose_spec.1, by omega, by omega, fun v0 L0 Hk1 s_ D_ dv0 fv0 ev0 => ?_⟩
  replace lf := lf.two s_ ne
  replace s_ := more3 (e := e) s_
  replace D := D_
  replace sB := sB.trans s_
  replace wd := wd.same (rmL_but s_)
  clear s_
  refine ⟨by show 2 ≤ sizeLine; decide, fun tr np_ => ?_⟩
  have x_ := same_upd (o := .tup [.str "say", v0]) np_
  have e_tr := rmL_new (o := .tup [.str "say", v0]) (in3 D lf.choose_spec.1) np_
  replace lf := lf.same x_
  replace D := D.same x_
  replace sB := sB.trans (.same x_)
  replace wd := wd.same (rmL_same x_)
  replace dv0 := dp_same (rmL_same x_) _ _ dv0
  generalize upd Hk1 tr (.tup [.str "say", v0]) = Z2 at *
  clear x_ np_
  have d_tr : Dp K (rmL [a, c, e] Z2) (.ref tr) (.tuple [.str "say", lkD L0]) := .tup (SqT.of e_tr) (.cons (.str _) (.cons dv0 .nil))
  clear e_tr
  exact q _ _ _ sB (D.le (by omega)) lf d_tr (db1 (z := "say") (by decide +kernel) (by decide +kernel) (pb_lk fv0 ev0 (by decide) (n := 5) (by decide) (Nat.le_refl _)) (by omega) (Nat.le_trans (by decide) wj))
end
end Fd

set_option Elab.async false
set_option linter.all false
set_option maxRecDepth 100000
set_option maxHeartbeats 4000000
namespace Fd
open PySem PySem.Spec PyProof.Rows L2
theorem kn_at {a c b e t : Addr} {H : Hp} {o oe o' : HO} (he : rmL [a, c, b] H e = some oe) (h : rmL [a, c, b] H t = some o) (ho : o ≠ oe) : rmL [a, c, e] (upd H b o') t = some o := by
  by_cases z : t ∈ [a, c, b]
  · rw [rmL_in z] at h; cases h
  · have te : t ≠ e := fun y => by rw [y, he] at h; exact ho (Option.some.inj h).symm
    rw [rmL_at z] at h
    rw [rmL_at (fun y => by
      rcases List.mem_cons.mp y with y | y
      · exact z (by rw [y]; exact List.mem_cons_self ..)
      rcases List.mem_cons.mp y with y | y
      · exact z (by rw [y]; exact List.mem_cons_of_mem _ (List.mem_cons_self ..))
      · exact te (List.mem_singleton.mp y)), upd_ne (fun y => z (by rw [y]; simp))]
    exact h
theorem out3 {a c b e : Addr} {H : Hp} {o : HO} (he : rmL [a, c, b] H e = some o) : e ∉ [a, c] ∧ e ≠ b ∧ H e = some o := by
  by_cases z : e ∈ [a, c, b]
  · rw [rmL_in z] at he; cases he
  · rw [rmL_at z] at he
    refine ⟨fun y => z ?_, fun y => z ?_, he⟩
    · rcases List.mem_cons.mp y with y | y
      · rw [y]; exact List.mem_cons_self ..
      · rw [List.mem_singleton.mp y]; exact List.mem_cons_of_mem _ (List.mem_cons_self ..)
    · rw [y]; simp
theorem but2 {a c e : Addr} {H H1 H2 : Hp} (s : ButL [a, c] H H1) (fe : H e = none) (s' : ButL [a, c, e] H1 H2) : ButL [a, c] H H2 := fun b o nb hb =>
  s' b o (fun z => by
    rcases List.mem_cons.mp z with z | z
    · exact nb (by rw [z]; exact List.mem_cons_self ..)
    rcases List.mem_cons.mp z with z | z
    · exact nb (by rw [z]; exact List.mem_cons_of_mem _ (List.mem_cons_self ..))
    · rw [List.mem_singleton.mp z, fe] at hb; cases hb) (s b o nb hb)
section
variable {P : Program} {w : World} {K : PySem.W.Frag} {mg : Str → Option Value} {base : Heap} {f : Addr} {fd : FuncData}
theorem ok_blocks {k : Nat} {f' : Addr} {fd' : FuncData} (DB : Df K mg "_law_block" sBlkG ["_law_state", "_law_w", "_law_deep"] f fd) (DD : Df K mg "_law_deed" sDeedG ["_law_state", "_law_w", "_law_deep"] f' fd')
    (GT : FnG P w K mg base CX0 k "_law_take" ["_law_state", "_law_below"] spTake) (GO : FnG P w K mg base CX0 k "_law_one_of" ["_law_state", "_law_some_here"] spOne)
    (GK : FnG P w K mg base CX0 k "_law_look" ["_law_state", "_law_w", "_law_deep"] (spLookA K 3)) (GS : FnG P w K mg base CX0 k "_law_test" ["_law_state", "_law_w", "_law_deep"] (spTest K 3))
    (GY : FnG P w K mg base CX0 k "_law_body" ["_law_state", "_law_w"] (spBody K))
    (m_min : mg "min" = none) (m_max : mg "max" = none) (m_range : mg "range" = none) (m_tuple : mg "tuple" = none) :
    ∀ j, j ≤ 2 → FnOk P w K mg base CX0 (k + 2 * j + 2) f fd ["_law_state", "_law_w", "_law_deep"] (spBlockG K j)
  | 0, h => by
    have g : FnG P w K mg base CX0 k "_law_block" ["_law_state", "_law_w", "_law_deep"] (spBlockL K 0) := DB.g ⟨fun vs H Q E h => by
      obtain ⟨i, z, _⟩ := h
      omega, fun A outer s H args us vs Q E a b c d ⟨i, z, _⟩ => by omega⟩
    exact ok_blkG DB.F (GT.mono (by omega)) (DD.g (ok_deedG DD.F GT GO GK GS GY g m_max m_range m_tuple h)) m_min m_range m_tuple
  | j + 1, h => by
    have ih := ok_blocks DB DD GT GO GK GS GY m_min m_max m_range m_tuple j (by omega)
    have g : FnG P w K mg base CX0 (k + 2 * j + 2) "_law_block" ["_law_state", "_law_w", "_law_deep"] (spBlockL K (j + 1)) := DB.g ⟨fun vs H Q E h => by
      obtain ⟨i, _, a, c, e, n, W, rfl, _⟩ := h
      rfl, fun A outer s H args us vs Q E a b c d ⟨i, z, h'⟩ => by
      obtain rfl : i = j := by omega
      exact ih.2 A outer s H args us vs Q E a b c d h'⟩
    exact ok_blkG DB.F (GT.mono (by omega)) (DD.g (ok_deedG (k := k + 2 * j + 2) DD.F (GT.mono (by omega)) (GO.mono (by omega)) (GK.mono (by omega)) (GS.mono (by omega)) (GY.mono (by omega)) g m_max m_range m_tuple h)) m_min m_range m_tuple
abbrev sKnown : Stmt := top 38
theorem scKnown : FnScope ["_law_state", "_law_names_here"] ["_law_state"] (defScope sKnown) := ⟨rfl, rfl, rfl, by decide +kernel, rfl, by decide +kernel, by decide +kernel⟩
def spKnown : Sp := fun vs H Q _ => ∃ (a c : Addr) (n : Nat), vs = [.ref a] ∧ Dr H a c n ∧ n + 13 ≤ 1000000 ∧
  ∀ (W : WP) (e : Addr) (H' : Hp), ButL [a, c] H H' → Dr H' a c (n + 13) → Wd W e (rmL [a, c, e] H') → e ∉ [a, c] → Lf H' e → H e = none → Q (.ref W.b) H'
theorem ok_known {k : Nat} (F : Fun K "_law_known" "_law_known" sKnown f fd) (GT : FnG P w K mg base CX0 k "_law_take" ["_law_state", "_law_below"] spTake) (GN : FnG P w K mg base CX0 k "_law_names" ["_law_state", "_law_many"] spNames) : FnOk P w K mg base CX0 (k + 1) f fd ["_law_state"] spKnown := by
  obtain ⟨_, _, G__law_take, m__law_take, k__law_take, b__law_take⟩ := GT
  obtain ⟨_, _, G__law_names, m__law_names, k__law_names, b__law_names⟩ := GN
  have sc := scKnown
  refine F.ok sc (fun vs H Q E h => ?_) (fun cdv A outer s H vs Q E hr h => ?_)
  · obtain ⟨a, c, n, rfl, _⟩ := h
    rfl
  obtain ⟨a, c, n, rfl, D, hn, q⟩ := h
  refine ⟨_, (pss_cons (ps_set (i := 1) sc.nd rfl (.inl rfl) (pe_call G__law_names (hr.mono (by omega)) (by rfl) m__law_names k__law_names b__law_names .nil pass0 (pa_cons (pv 0) (pa_cons pe_int pa_nil))))
      (pss_one (ps_ret (pe_disp (pps_cons pe_str (pe_slice sl_list (pv 1) po_none (po_some pe_int)) (pps_cons pe_str (pe_slice sl_list (pv 1) po_none (po_some pe_int)) (pps_cons pe_str (pe_slice sl_list (pv 1) (po_some pe_int) (po_some pe_int)) (pps_cons pe_str (pe_slice sl_list (pv 1) (po_some pe_int) (po_some pe_int)) (pps_cons pe_str (pe_slice sl_list (pv 1) (po_some pe_int) (po_some pe_int)) (pps_cons pe_str (pe_lst (pa_cons (pe_tup (pa_cons (pe_ix ix_list (pv 1) pe_int (fun _ _ => rfl)) (pa_cons (pe_call G__law_take (hr.mono (by omega)) (by rfl) m__law_take k__law_take b__law_take .nil pass0 (pa_cons (pv 0) (pa_cons pe_int pa_nil))) pa_nil))) pa_nil)) (pps_cons pe_str (pe_lst (pa_cons pe_int pa_nil)) pps_nil))))))) rfl rfl (by decide) (by decide))))), ?_⟩
  refine ⟨_, rfl, a, c, n, 9, rfl, D, by omega, by decide, by decide, fun p ws H1 sB D1 _ npA hp hl _ ok => ?_⟩
  replace D := D1
  obtain ⟨x0, x1, x2, x3, x4, x5, x6, x7, x8, rfl⟩ : ∃ x0 x1 x2 x3 x4 x5 x6 x7 x8 : Str, ws = [x0, x1, x2, x3, x4, x5, x6, x7, x8] := by
    match ws, hl with
    | [x0, x1, x2, x3, x4, x5, x6, x7, x8], _ => exact ⟨_, _, _, _, _, _, _, _, _, rfl⟩
  have i0 := ok x0 (by simp)
  have i1 := ok x1 (by simp)
  have i2 := ok x2 (by simp)
  have i3 := ok x3 (by simp)
  have i4 := ok x4 (by simp)
  have i5 := ok x5 (by simp)
  have i6 := ok x6 (by simp)
  have i7 := ok x7 (by simp)
  have i8 := ok x8 (by simp)
  replace hp : rmL [a, c] H1 p = some (.lst [.str x0, .str x1, .str x2, .str x3, .str x4, .str x5, .str x6, .str x7, .str x8]) := by rw [rmL_at npA]; exact hp
  clear D1 npA hl ok
  intro b nb
  have neb : b ∉ [a, c] := fun z => by
    obtain ⟨u, hu⟩ := D.in_ b z
    rw [nb] at hu
    cases hu
  have ne := neb
  have he : (upd H1 b (.dK [])) b = some (.dK []) := upd_same
  replace hp : rmL [a, c, b] (upd H1 b (.dK [])) p = some (.lst [.str x0, .str x1, .str x2, .str x3, .str x4, .str x5, .str x6, .str x7, .str x8]) := by
    rw [rmL_upd (by simp)]
    by_cases z : p ∈ [a, c, b]
    · have : p = b := by
        rcases List.mem_cons.mp z with y | y
        · rw [rmL_in (by rw [y]; exact List.mem_cons_self ..)] at hp; cases hp
        rcases List.mem_cons.mp y with y | y
        · rw [rmL_in (by rw [y]; exact List.mem_cons_of_mem _ (List.mem_cons_self ..))] at hp; cases hp
        · exact List.mem_singleton.mp y
      rw [this, rmL_at neb, nb] at hp
      cases hp
    · rw [rmL_at z]
      rw [rmL_at (fun y => z (by rcases List.mem_cons.mp y with y | y <;> simp_all))] at hp
      exact hp
  have fb0 := sB.free D.in_ nb
  have x_ := same_upd (o := .dK []) nb
  replace sB := sB.trans (.same x_)
  replace D := D.same x_
  generalize upd H1 b (.dK []) = H2 at *
  clear x_ nb
  refine ⟨_, rfl, 2, rfl, p, _, rfl, SqL.of (rmL_sub _ _ hp), fun p1 np_ => ?_⟩
  rw [show cutV [V.str x0, V.str x1, V.str x2, V.str x3, V.str x4, V.str x5, V.str x6, V.str x7, V.str x8] none (some 2) = [V.str x0, V.str x1] from rfl]
  have x_ := same_upd (o := .lst [.str x0, .str x1]) np_
  have e_p1 := rmL_new (o := .lst [.str x0, .str x1]) (in3 D he) np_
  replace D := D.same x_
  replace sB := sB.trans (.same x_)
  replace he := x_ _ _ he
  replace hp := rmL_same x_ _ _ hp
  generalize upd H2 p1 (.lst [.str x0, .str x1]) = W1 at *
  clear x_ np_
  refine ⟨_, rfl, 2, rfl, p, _, rfl, SqL.of (rmL_sub _ _ hp), fun p2 np_ => ?_⟩
  rw [show cutV [V.str x0, V.str x1, V.str x2, V.str x3, V.str x4, V.str x5, V.str x6, V.str x7, V.str x8] none (some 2) = [V.str x0, V.str x1] from rfl]
  have x_ := same_upd (o := .lst [.str x0, .str x1]) np_
  have e_p2 := rmL_new (o := .lst [.str x0, .str x1]) (in3 D he) np_
  replace D := D.same x_
  replace sB := sB.trans (.same x_)
  replace he := x_ _ _ he
  replace hp := rmL_same x_ _ _ hp
  replace e_p1 := rmL_same x_ _ _ e_p1
  generalize upd W1 p2 (.lst [.str x0, .str x1]) = W2 at *
  clear x_ np_
  refine ⟨_, rfl, 2, rfl, 4, rfl, p, _, rfl, SqL.of (rmL_sub _ _ hp), fun p3 np_ => ?_⟩
  rw [show cutV [V.str x0, V.str x1, V.str x2, V.str x3, V.str x4, V.str x5, V.str x6, V.str x7, V.str x8] (some 2) (some 4) = [V.str x2, V.str x3] from rfl]
  have x_ := same_upd (o := .lst [.str x2, .str x3]) np_
  have e_p3 := rmL_new (o := .lst [.str x2, .str x3]) (in3 D he) np_
  replace D := D.same x_
  replace sB := sB.trans (.same x_)
  replace he := x_ _ _ he
  replace hp := rmL_same x_ _ _ hp
  replace e_p1 := rmL_same x_ _ _ e_p1
  replace e_p2 := rmL_same x_ _ _ e_p2
  generalize upd W2 p3 (.lst [.str x2, .str x3]) = W3 at *
  clear x_ np_
  refine ⟨_, rfl, 4, rfl, 6, rfl, p, _, rfl, SqL.of (rmL_sub _ _ hp), fun p4 np_ => ?_⟩
  rw [show cutV [V.str x0, V.str x1, V.str x2, V.str x3, V.str x4, V.str x5, V.str x6, V.str x7, V.str x8] (some 4) (some 6) = [V.str x4, V.str x5] from rfl]
  have x_ := same_upd (o := .lst [.str x4, .str x5]) np_
  have e_p4 := rmL_new (o := .lst [.str x4, .str x5]) (in3 D he) np_
  replace D := D.same x_
  replace sB := sB.trans (.same x_)
  replace he := x_ _ _ he
  replace hp := rmL_same x_ _ _ hp
  replace e_p1 := rmL_same x_ _ _ e_p1
  replace e_p2 := rmL_same x_ _ _ e_p2
  replace e_p3 := rmL_same x_ _ _ e_p3
  generalize upd W3 p4 (.lst [.str x4, .str x5]) = W4 at *
  clear x_ np_
  refine ⟨_, rfl, 6, rfl, 8, rfl, p, _, rfl, SqL.of (rmL_sub _ _ hp), fun p5 np_ => ?_⟩
  rw [show cutV [V.str x0, V.str x1, V.str x2, V.str x3, V.str x4, V.str x5, V.str x6, V.str x7, V.str x8] (some 6) (some 8) = [V.str x6, V.str x7] from rfl]
  have x_ := same_upd (o := .lst [.str x6, .str x7]) np_
  have e_p5 := rmL_new (o := .lst [.str x6, .str x7]) (in3 D he) np_
  replace D := D.same x_
  replace sB := sB.trans (.same x_)
  replace he := x_ _ _ he
  replace hp := rmL_same x_ _ _ hp
  replace e_p1 := rmL_same x_ _ _ e_p1
  replace e_p2 := rmL_same x_ _ _ e_p2
  replace e_p3 := rmL_same x_ _ _ e_p3
  replace e_p4 := rmL_same x_ _ _ e_p4
  generalize upd W4 p5 (.lst [.str x6, .str x7]) = W5 at *
  clear x_ np_
  refine ⟨_, rfl, p, _, 8, _, rfl, rfl, SqL.of (rmL_sub _ _ hp), rfl, _, rfl, a, c, n + 12, 3, rfl, D, by omega, by decide, by decide, fun r T6 r_0 r_1 s_ D_ => ?_⟩
  replace D := D_
  replace sB := sB.trans s_
  replace he := s_ _ _ ne he
  replace hp := rmL_but (more3 s_) _ _ hp
  replace e_p1 := rmL_but (more3 s_) _ _ e_p1
  replace e_p2 := rmL_but (more3 s_) _ _ e_p2
  replace e_p3 := rmL_but (more3 s_) _ _ e_p3
  replace e_p4 := rmL_but (more3 s_) _ _ e_p4
  replace e_p5 := rmL_but (more3 s_) _ _ e_p5
  clear s_
  obtain ⟨kk, rfl⟩ : ∃ kk : Nat, r = kk := ⟨r.toNat, by omega⟩
  refine ⟨by show 2 ≤ sizeLine; decide, fun t np_ => ?_⟩
  have x_ := same_upd (o := .tup [.str x8, .int kk]) np_
  have e_t := rmL_new (o := .tup [.str x8, .int kk]) (in3 D he) np_
  replace D := D.same x_
  replace sB := sB.trans (.same x_)
  replace he := x_ _ _ he
  replace hp := rmL_same x_ _ _ hp
  replace e_p1 := rmL_same x_ _ _ e_p1
  replace e_p2 := rmL_same x_ _ _ e_p2
  replace e_p3 := rmL_same x_ _ _ e_p3
  replace e_p4 := rmL_same x_ _ _ e_p4
  replace e_p5 := rmL_same x_ _ _ e_p5
  generalize upd T6 t (.tup [.str x8, .int kk]) = W7 at *
  clear x_ np_
  refine ⟨by show 1 ≤ sizeLine; decide, fun p6 np_ => ?_⟩
  have x_ := same_upd (o := .lst [.ref t]) np_
  have e_p6 := rmL_new (o := .lst [.ref t]) (in3 D he) np_
  replace D := D.same x_
  replace sB := sB.trans (.same x_)
  replace he := x_ _ _ he
  replace hp := rmL_same x_ _ _ hp
  replace e_p1 := rmL_same x_ _ _ e_p1
  replace e_p2 := rmL_same x_ _ _ e_p2
  replace e_p3 := rmL_same x_ _ _ e_p3
  replace e_p4 := rmL_same x_ _ _ e_p4
  replace e_p5 := rmL_same x_ _ _ e_p5
  replace e_t := rmL_same x_ _ _ e_t
  generalize upd W7 p6 (.lst [.ref t]) = W8 at *
  clear x_ np_
  refine ⟨by show 1 ≤ sizeLine; decide, fun e np_ => ?_⟩
  have fe := sB.free D.in_ np_
  have x_ := same_upd (o := .lst [.int 30]) np_
  have e_e := rmL_new (o := .lst [.int 30]) (in3 D he) np_
  replace D := D.same x_
  replace sB := sB.trans (.same x_)
  replace he := x_ _ _ he
  replace hp := rmL_same x_ _ _ hp
  replace e_p1 := rmL_same x_ _ _ e_p1
  replace e_p2 := rmL_same x_ _ _ e_p2
  replace e_p3 := rmL_same x_ _ _ e_p3
  replace e_p4 := rmL_same x_ _ _ e_p4
  replace e_p5 := rmL_same x_ _ _ e_p5
  replace e_t := rmL_same x_ _ _ e_t
  replace e_p6 := rmL_same x_ _ _ e_p6
  generalize upd W8 e (.lst [.int 30]) = W9 at *
  clear x_ np_
  obtain ⟨ne', eb, ee⟩ := out3 e_e
  refine ⟨he, [(Sum.inr "names", .ref p1), (Sum.inr "set", .ref p2), (Sum.inr "lists", .ref p3), (Sum.inr "news", .ref p4), (Sum.inr "figures", .ref p5), (Sum.inr "pieces", .ref p6), (Sum.inr "left", .ref e)], rfl, by show 7 ≤ 15; decide, ?_⟩
  rw [show mergeK [] ([(Sum.inr "names", .ref p1), (Sum.inr "set", .ref p2), (Sum.inr "lists", .ref p3), (Sum.inr "news", .ref p4), (Sum.inr "figures", .ref p5), (Sum.inr "pieces", .ref p6), (Sum.inr "left", .ref e)] : List (L2.Key × V)) = ([(Sum.inr "names", .ref p1), (Sum.inr "set", .ref p2), (Sum.inr "lists", .ref p3), (Sum.inr "news", .ref p4), (Sum.inr "figures", .ref p5), (Sum.inr "pieces", .ref p6), (Sum.inr "left", .ref e)] : List (L2.Key × V)) from rfl]
  have fb : H b = none := fb0
  refine q ⟨b, p1, p2, p3, p4, p5, p6, t, x0, x1, x2, x3, x4, x5, x6, x7, x8, kk⟩ e _ (fun z o nz hz => ?_) (D.upd neb) ⟨?_, kn_at e_e e_p1 (by simp), kn_at e_e e_p2 (by simp), kn_at e_e e_p3 (by simp), kn_at e_e e_p4 (by simp), kn_at e_e e_p5 (by simp), kn_at e_e e_p6 (by simp), kn_at e_e e_t (by simp), by show kk ≤ 2; omega, i0, i1, i2, i3, i4, i5, i6, i7, i8⟩ ne' ⟨30, ?_, by decide, by decide⟩ fe
  · rw [upd_ne (ne_of_none hz fb)]
    exact sB z o nz hz
  · have nz : b ∉ [a, c, e] := fun z => by
      rcases List.mem_cons.mp z with y | y
      · exact neb (by rw [y]; exact List.mem_cons_self ..)
      rcases List.mem_cons.mp y with y | y
      · exact neb (by rw [y]; exact List.mem_cons_of_mem _ (List.mem_cons_self ..))
      · exact eb (List.mem_singleton.mp y).symm
    show rmL [a, c, e] _ b = _
    rw [rmL_at nz]
    exact upd_same
  · rw [upd_ne eb]
    exact ee
end
end Fd

set_option Elab.async false
set_option linter.all false
set_option maxRecDepth 100000
set_option maxHeartbeats 4000000
namespace Fw
open PySem PySem.Spec PyProof.Rows L2
/-- an int, or a truth as one -/
def nv : V → Option Int
  | .int i => some i
  | .bl b => some (if b = true then 1 else 0)
  | _ => none
section
variable {X : Cx}
theorem op_addN : OpR X (binaryOp .Add) (fun x y H Q => ∃ i j, nv x = some i ∧ y = .int j ∧ Q (.int (i + j)) H) := by
  intro pins s σ H x y v u Q I rx ry h
  obtain ⟨i, j, hx, rfl, q⟩ := h
  obtain ⟨t, rfl⟩ := ry
  cases x with
  | int k =>
    cases hx
    obtain ⟨t', rfl⟩ := rx
    exact add_int ⟨.int _, H, I.tok _, ⟨_, rfl⟩, q⟩
  | bl b =>
    cases hx
    cases (show v = Value.bool b from rx)
    exact IntBool.add_bool_int ⟨.int _, H, I.tok _, ⟨_, rfl⟩, q⟩
  | _ => cases hx
theorem op_subN : OpR X (binaryOp .Sub) (fun x y H Q => ∃ i j, nv x = some i ∧ y = .int j ∧ Q (.int (i - j)) H) := by
  intro pins s σ H x y v u Q I rx ry h
  obtain ⟨i, j, hx, rfl, q⟩ := h
  obtain ⟨t, rfl⟩ := ry
  cases x with
  | int k =>
    cases hx
    obtain ⟨t', rfl⟩ := rx
    exact sub_int ⟨.int _, H, I.tok _, ⟨_, rfl⟩, q⟩
  | bl b =>
    cases hx
    cases (show v = Value.bool b from rx)
    exact IntBool.sub_bool_int ⟨.int _, H, I.tok _, ⟨_, rfl⟩, q⟩
  | _ => cases hx
theorem op_subR : OpR X (binaryOp .Sub) (fun x y H Q => ∃ i j, x = .int i ∧ nv y = some j ∧ Q (.int (i - j)) H) := by
  intro pins s σ H x y v u Q I rx ry h
  obtain ⟨i, j, rfl, hy, q⟩ := h
  obtain ⟨t, rfl⟩ := rx
  cases y with
  | int k =>
    cases hy
    obtain ⟨t', rfl⟩ := ry
    exact sub_int ⟨.int _, H, I.tok _, ⟨_, rfl⟩, q⟩
  | bl b =>
    cases hy
    cases (show u = Value.bool b from ry)
    exact IntBool.sub_int_bool ⟨.int _, H, I.tok _, ⟨_, rfl⟩, q⟩
  | _ => cases hy
/-- str of an int or a truth -/
def sv : V → Option Str
  | .int i => some (toString i)
  | .bl b => some (if b then "True" else "False")
  | _ => none
theorem call_strN : CallR X (.type "str") (fun xs H Q => ∃ x i z, xs = [x] ∧ nv x = some i ∧ i.natAbs.log2 < 1920 ∧ sv x = some z ∧ Q (.str z) H) := by
  intro pins s σ H xs us Q I r h
  obtain ⟨x, i, z, rfl, hx, hz, hs, q⟩ := h
  obtain ⟨u, rfl, rx⟩ := vals1 r
  cases x with
  | int k =>
    cases hx; cases hs
    obtain ⟨t', rfl⟩ := rx
    exact PySem.P.str_of_int hz ⟨.str _, H, I.tok _, ⟨_, rfl⟩, q⟩
  | bl b =>
    cases hx; cases hs
    cases (show u = Value.bool b from rx)
    exact PySem.P.str_of_bool ⟨.str _, H, I.tok _, ⟨_, rfl⟩, q⟩
  | _ => cases hx
end
end Fw

set_option Elab.async false
set_option linter.all false
set_option maxRecDepth 100000
set_option maxHeartbeats 4000000
/-! texts of plain signs, how long -/
namespace Fw
open PySem PySem.Spec PyProof.Rows L2
structure Asc (m : Nat) (z : Str) : Prop where
  len : z.cps.size ≤ m
  lt : ∀ c ∈ z.cps.toList, c < 128
theorem Asc.le {m n : Nat} {z : Str} (h : Asc m z) (hn : m ≤ n) : Asc n z := ⟨Nat.le_trans h.len hn, h.lt⟩
theorem Asc.app {m n : Nat} {x y : Str} (h : Asc m x) (g : Asc n y) : Asc (m + n) (x ++ y) := by
  refine ⟨?_, fun c hc => ?_⟩
  · rw [Str.cps_append, Array.size_append]; exact Nat.add_le_add h.len g.len
  · rw [Str.cps_append, Array.toList_append] at hc
    exact (List.mem_append.mp hc).elim (h.lt c) (g.lt c)
theorem Asc.cut {m : Nat} {z : Str} (h : Asc m z) (lo hi : Option Int) : Asc m (cutS z lo hi) := by
  have e : (cutS z lo hi).cps.toList = (z.cps.toList.drop (HT.sIx z.length 0 lo)).take (HT.sIx z.length z.length hi - HT.sIx z.length 0 lo) := rfl
  refine ⟨?_, fun c hc => ?_⟩
  · rw [← Array.length_toList, e, List.length_take, List.length_drop, Array.length_toList]
    have := h.len
    omega
  · rw [e] at hc
    exact h.lt c (List.mem_of_mem_drop (List.mem_of_mem_take hc))
theorem up1 : ∀ c : Fin 128, ∃ d : Fin 128, Unicode.upperOf c.val = [d.val] := by decide +kernel
theorem up_list : ∀ l : List Nat, (∀ c ∈ l, c < 128) → (l.map fun c => (Unicode.upperOf c).toArray.toList).flatten.length = l.length ∧ ∀ c ∈ (l.map fun c => (Unicode.upperOf c).toArray.toList).flatten, c < 128
  | [], _ => ⟨rfl, fun _ h => nomatch h⟩
  | x :: r, h => by
    obtain ⟨i1, i2⟩ := up_list r fun c hc => h c (List.mem_cons_of_mem _ hc)
    obtain ⟨d, hd⟩ := up1 ⟨x, h x (List.mem_cons_self ..)⟩
    replace hd : Unicode.upperOf x = [d.val] := hd
    rw [List.map_cons, List.flatten_cons, hd]
    refine ⟨by rw [List.length_append, i1]; show 1 + r.length = r.length + 1; omega, fun c hc => ?_⟩
    rcases List.mem_append.mp hc with z | z
    · have : c = d.val := by simpa using z
      rw [this]; exact d.isLt
    · exact i2 c z
theorem map_zip {α : Type} (g : Nat → α) : ∀ (l : List Nat) (n : Nat), (l.zipIdx n).map (fun x => g x.1) = l.map g
  | [], _ => rfl
  | x :: r, n => by rw [List.zipIdx_cons, List.map_cons, List.map_cons, map_zip g r]
theorem Asc.upper {m : Nat} {z : Str} (h : Asc m z) : Asc m (Txt.upper z) := by
  have e : (Txt.upper z).cps.toList = (z.cps.toList.map fun c => (Unicode.upperOf c).toArray.toList).flatten := by
    show (placed z fun _ c => Unicode.upperOf c).toList = _
    unfold placed
    simp [List.mapIdx_eq_zipIdx_map]
    exact congrArg List.flatten (map_zip (fun c => Unicode.upperOf c) z.cps.toList 0)
  obtain ⟨i1, i2⟩ := up_list z.cps.toList h.lt
  refine ⟨?_, fun c hc => ?_⟩
  · rw [← Array.length_toList, e, i1, Array.length_toList]; exact h.len
  · rw [e] at hc; exact i2 c hc
theorem dig1 : ∀ k : Fin 10, (Nat.digitChar k.val).toNat < 128 := by decide +kernel
theorem dig_core : ∀ (fuel n : Nat) (ds : List Char), (∀ c ∈ ds, c.toNat < 128) → ∀ c ∈ Nat.toDigitsCore 10 fuel n ds, c.toNat < 128
  | 0, _, _, h => h
  | fuel + 1, n, ds, h => by
    intro c hc
    have hk : (Nat.digitChar (n % 10)).toNat < 128 := dig1 ⟨n % 10, Nat.mod_lt _ (by decide)⟩
    have h' : ∀ c ∈ Nat.digitChar (n % 10) :: ds, c.toNat < 128 := fun c hc => (List.mem_cons.mp hc).elim (fun z => z ▸ hk) (h c)
    unfold Nat.toDigitsCore at hc
    dsimp only at hc
    split at hc
    · exact h' c hc
    · exact dig_core fuel _ _ h' c hc
theorem asc_nat {m k : Nat} (hk : 1 ≤ k) (h : m < 10 ^ k) : Asc k ⟨((Nat.toDigits 10 m).map Char.toNat).toArray⟩ := by
  refine ⟨?_, fun c hc => ?_⟩
  · show (((Nat.toDigits 10 m).map Char.toNat).toArray).size ≤ k
    rw [List.size_toArray, List.length_map]
    exact digits10_le hk h
  · obtain ⟨d, hd, rfl⟩ := List.mem_map.mp (show c ∈ (Nat.toDigits 10 m).map Char.toNat by simpa using hc)
    exact dig_core _ _ [] (fun c h => absurd h (by simp)) d hd
theorem asc_int {i : Int} {k : Nat} (hk : 1 ≤ k) (h : i.natAbs < 10 ^ k) : Asc (k + 1) (Str.ofString (toString i)) := by
  cases i with
  | ofNat m =>
    rw [text_ofNat]
    exact (asc_nat hk h).le (Nat.le_succ _)
  | negSucc m =>
    have e : Str.ofString (toString (Int.negSucc m)) = Str.ofString "-" ++ Str.ofString (toString (Int.ofNat (m + 1))) := by
      refine Str.ext' ?_
      rw [Str.cps_append]
      simp [Str.ofString_eq_toList, toString, Int.repr, instToStringInt]
    rw [e, Nat.add_comm]
    refine Asc.app ⟨by decide +kernel, by decide +kernel⟩ ?_
    rw [text_ofNat]
    exact asc_nat hk h
end Fw

set_option Elab.async false
set_option linter.all false
set_option maxRecDepth 100000
set_option maxHeartbeats 4000000
namespace Fd
open PySem PySem.Spec PyProof.Rows L2 Fw
theorem isI_not_S {d : PyData} (h : isI d = true) : isS d = false := by cases d <;> first | rfl | cases h
def Ins (as : List Addr) (H : Hp) : Prop := ∀ b ∈ as, ∃ u, H b = some u
theorem Ins.same {as : List Addr} {H H' : Hp} (h : Ins as H) (s : Same H H') : Ins as H' := fun b hb => by obtain ⟨u, hu⟩ := h b hb; exact ⟨u, s _ _ hu⟩
theorem Ins.but {as : List Addr} {a c : Addr} {n : Nat} {H H' : Hp} (h : Ins as H) (s : ButL [a, c] H H') (D : Dr H' a c n) : Ins as H' := fun b hb => by
  by_cases z : b ∈ [a, c]
  · exact D.in_ b z
  · obtain ⟨u, hu⟩ := h b hb
    exact ⟨u, s _ _ z hu⟩
theorem moreS {as bs : List Addr} {H H' : Hp} (hs : ∀ b ∈ bs, b ∈ as) (s : ButL bs H H') : ButL as H H' := fun b o nb hb => s b o (fun z => nb (hs b z)) hb
/-- a thing beside the addresses, so deep, so great -/
def Go (K : PySem.W.Frag) (as : List Addr) (e n w : Nat) (H : Hp) (v : V) : Prop := ∃ d, Dp K (rmL as H) v d ∧ OkT e n d ∧ d.weight ≤ w
theorem Go.but {K : PySem.W.Frag} {as : List Addr} {e n w : Nat} {H H' : Hp} {v : V} (h : Go K as e n w H v) (s : ButL as H H') : Go K as e n w H' v := by
  obtain ⟨d, h1, h2⟩ := h
  exact ⟨d, dp_same (rmL_but s) _ _ h1, h2⟩
theorem Go.le {K : PySem.W.Frag} {as : List Addr} {e n w e' n' w' : Nat} {H : Hp} {v : V} (h : Go K as e n w H v) (he : e ≤ e') (hn : n ≤ n') (hw : w ≤ w') : Go K as e' n' w' H v := by
  obtain ⟨d, h1, h2, h3⟩ := h
  exact ⟨d, h1, h2.mono he hn, Nat.le_trans h3 hw⟩
theorem go_str {K : PySem.W.Frag} {as : List Addr} {e n w : Nat} {H : Hp} {z : Str} (h : Asc (8 + e) z) (hw : 8 + e ≤ w) : Go K as e (n + 1) w H (.str z) := ⟨_, .str _, ⟨h.len, h.lt⟩, Nat.le_trans h.len hw⟩
theorem go_int {K : PySem.W.Frag} {as : List Addr} {e n w : Nat} {H : Hp} {i : Int} (he : e ≤ 3) (h : i.natAbs ≤ 1000001 + 1000000 * e) (hw : 24 ≤ w) : Go K as e (n + 1) w H (.int i) := ⟨_, .int _, by constructor <;> omega, Nat.le_trans (wt_int (by omega) (by omega)) hw⟩
/-- a list or a tuple of one such thing -/
theorem go_list {K : PySem.W.Frag} {as : List Addr} {e n w : Nat} {H : Hp} {p : Addr} {v : V} (hp : rmL as H p = some (.lst [v])) (h : Go K as e n w H v) : Go K as e (n + 1) (w + 1) H (.ref p) := by
  obtain ⟨d, h1, h2, h3⟩ := h
  exact ⟨.list [d], .lst (SqL.of hp) (.cons h1 .nil), ⟨by show 1 ≤ _; omega, fun x hx => by rw [List.mem_singleton.mp hx]; exact h2⟩, by show d.weight + 1 + 0 ≤ _; omega⟩
theorem go_tup {K : PySem.W.Frag} {as : List Addr} {e n w : Nat} {H : Hp} {p : Addr} {v : V} (hp : rmL as H p = some (.tup [v])) (h : Go K as e n w H v) : Go K as e (n + 1) (w + 1) H (.ref p) := by
  obtain ⟨d, h1, h2, h3⟩ := h
  exact ⟨.tuple [d], .tup (SqT.of hp) (.cons h1 .nil), ⟨by show 1 ≤ _; omega, fun x hx => by rw [List.mem_singleton.mp hx]; exact h2⟩, by show d.weight + 1 + 0 ≤ _; omega⟩
abbrev othV (t1 t2 t3 : Addr) : List V := [.non, .bl true, .bl false, .str "", .str "a1", .str "Ab", .str "abcdefghi", .str "a b", .ref t1, .ref t2, .ref t3, .int 0, .int (-1), .int 1, .int 2, .int 20, .int 21, .int (10 ^ (6 : Int).toNat)]
theorem log_small {n : Nat} (h : n ≤ 8000000) : n.log2 < 1920 := by
  by_cases z : n = 0
  · rw [z]; decide
  · exact Nat.lt_of_lt_of_le ((Nat.log2_lt z (k := 23)).mpr (by omega)) (by decide)
theorem le_line {n : Nat} (h : n ≤ 1000) : n ≤ sizeLine := Nat.le_trans h (by decide)
theorem int_of {K : PySem.W.Frag} {H : Hp} {e m : Nat} {d : PyData} {v : V} (h : Dp K H v d) (hI : isI d = true) (ok : OkT e m d) (he : e ≤ 2) : ∃ (i : Int) (z : Str), nv v = some i ∧ i.natAbs ≤ 1000001 + 1000000 * e ∧ sv v = some z ∧ Asc 8 z ∧ d.weight ≤ 24 ∧ OkT e 1 d := by
  cases m with
  | zero => exact ok.elim
  | succ m =>
    cases h with
    | int i =>
      have o1 : -(1000001 + 1000000 * (e : Int)) ≤ i ∧ i ≤ 1000001 + 1000000 * (e : Int) := ok
      exact ⟨i, _, rfl, by omega, rfl, (asc_int (k := 7) (by decide) (by omega)), wt_int (by omega) (by omega), ok⟩
    | bl b => exact ⟨_, _, rfl, by
        cases b
        · show 0 ≤ _; omega
        · show 1 ≤ _; omega, rfl, by cases b <;> exact ⟨by decide +kernel, by decide +kernel⟩, Nat.zero_le _, trivial⟩
    | _ => cases hI
theorem str_of {K : PySem.W.Frag} {H : Hp} {e m : Nat} {d : PyData} {v : V} (h : Dp K H v d) (hS : isS d = true) (ok : OkT e m d) : ∃ z : Str, v = .str z ∧ d = .str z ∧ Asc (8 + e) z := by
  cases m with
  | zero => exact ok.elim
  | succ m =>
    cases h with
    | str z => exact ⟨z, rfl, rfl, ok.1, ok.2⟩
    | _ => cases hS
section
variable {P : Program} {w : World} {K : PySem.W.Frag} {mg : Str → Option Value} {base : Heap} {f : Addr} {fd : FuncData}
abbrev sOther : Stmt := top 47
theorem scOther : FnScope ["_law_state", "_law_stuff", "_law_names_here", "_law_some_here"] ["_law_state", "_law_stuff", "_law_names_here"] (defScope sOther) := ⟨rfl, rfl, rfl, by decide +kernel, rfl, by decide +kernel, by decide +kernel⟩
def spOther (K : PySem.W.Frag) : Sp := fun vs H Q _ => ∃ (a c l : Addr) (v : V) (n e m : Nat) (as : List Addr) (d : PyData) (ws : List Str), vs = [.ref a, v, .ref l] ∧ Dr H a c n ∧ n + 1 ≤ 1000000 ∧ e ≤ 2 ∧ (∀ b ∈ [a, c], b ∈ as) ∧ Ins as H ∧
  rmL as H l = some (.lst (ws.map V.str)) ∧ ws.length ≤ 20 ∧ (∀ z ∈ ws, Asc 8 z) ∧ Dp K (rmL as H) v d ∧ OkT e m d ∧
  ∀ v' H', ButL [a, c] H H' → Dr H' a c (n + 1) → Go K as (e + 1) 2 60 H' v' → Q v' H'
theorem oth_end {H0 H : Hp} {a c l : Addr} {n e : Nat} {as : List Addr} {xs : List V} {Q : VK} {E : XK} (D : Dr H a c n) (hs : ∀ b ∈ [a, c], b ∈ as) (hl : rmL as H l = some (.lst xs)) (x0 : xs ≠ []) (x1 : xs.length ≤ 1000) (hn : n ≤ 1000000)
    (go : ∀ v ∈ xs, Go K as (e + 1) 2 60 H v) (sB : ButL [a, c] H0 H) (q : ∀ v' H', ButL [a, c] H0 H' → Dr H' a c (n + 1) → Go K as (e + 1) 2 60 H' v' → Q v' H') : spSome [.ref a, .ref l] H Q E :=
  ⟨a, c, l, n, xs, rfl, D, hn, rmL_less hs _ _ hl, x0, x1, fun j v H' hv s D' => q v H' (sB.trans s) D' ((go v (List.mem_of_getElem? hv)).but (moreS hs s))⟩
theorem ok_other {k : Nat} (F : Fun K "_law_other" "_law_other" sOther f fd) (GS : FnG P w K mg base CX0 k "_law_some" ["_law_state", "_law_things"] spSome)
    (m_isinstance : mg "isinstance" = none) (m_int : mg "int" = none) (m_str : mg "str" = none) : FnOk P w K mg base CX0 (k + 1) f fd ["_law_state", "_law_stuff", "_law_names_here"] (spOther K) := by
  obtain ⟨_, _, G__law_some, m__law_some, k__law_some, b__law_some⟩ := GS
  have sc := scOther
  refine F.ok sc (fun vs H Q E h => ?_) (fun cdv A outer s H vs Q E hr h => ?_)
  · obtain ⟨a, c, l, v, n, e, m, as, d, ws, rfl, _⟩ := h
    rfl
  obtain ⟨a, c, l, v, n, e, m, as, d, ws, rfl, D, hn, he, hs, hin, hw, wl, wa, hd, ok, q⟩ := h
  refine ⟨_, (pss_cons (ps_set (i := 3) sc.nd rfl (.inl rfl) (pe_lst (pa_cons pe_non (pa_cons pe_bl (pa_cons pe_bl (pa_cons pe_str (pa_cons pe_str (pa_cons pe_str (pa_cons pe_str (pa_cons pe_str (pa_cons (pe_tup pa_nil) (pa_cons (pe_lst pa_nil) (pa_cons (pe_tup (pa_cons pe_int pa_nil)) (pa_cons pe_int (pa_cons (pe_un un_neg pe_int) (pa_cons pe_int (pa_cons pe_int (pa_cons pe_int (pa_cons pe_int (pa_cons (pe_op op_pow pe_int pe_int) pa_nil))))))))))))))))))))
      (pss_cons (ps_if (pt_val (pe_callB call_isi (by rfl) m_isinstance (by decide +kernel) (pa_cons (pv 1) (pa_cons (pe_bltn (v := .ty "int") (by rfl) m_int (by decide +kernel) rfl) pa_nil)))) (pss_one (ps_set (i := 3) sc.nd rfl (.inl rfl) (pe_op op_cat (pv 3) (pe_lst (pa_cons (pe_op Fw.op_addN (pv 1) pe_int) (pa_cons (pe_op Fw.op_subN (pv 1) pe_int) (pa_cons (pe_op Fw.op_subR pe_int (pv 1)) (pa_cons (pe_callTy Fw.call_strN (by rfl) m_str (by decide +kernel) (pa_cons (pv 1) pa_nil)) (pa_cons (pe_tup (pa_cons (pv 1) pa_nil)) (pa_cons (pe_lst (pa_cons (pv 1) pa_nil)) (pa_cons (pe_op op_add (pe_op op_pow pe_int pe_int) pe_int) (pa_cons (pe_op op_sub (pe_op op_sub pe_int (pe_op op_pow pe_int pe_int)) pe_int) pa_nil)))))))))))) pss_nil)
      (pss_cons (ps_if (pt_val (pe_callB call_isi (by rfl) m_isinstance (by decide +kernel) (pa_cons (pv 1) (pa_cons (pe_bltn (v := .ty "str") (by rfl) m_str (by decide +kernel) rfl) pa_nil)))) (pss_one (ps_set (i := 3) sc.nd rfl (.inl rfl) (pe_op op_cat (pe_op op_cat (pv 3) (pe_lst (pa_cons (pe_op op_add_str (pv 1) pe_str) (pa_cons (pe_slice sl_str (pv 1) po_none (po_some (pe_un un_neg pe_int))) (pa_cons (pe_upper (pv 1)) (pa_cons (pe_op op_add_str (pv 1) pe_str) (pa_cons (pe_lst (pa_cons (pv 1) pa_nil)) (pa_cons (pe_tup (pa_cons (pv 1) pa_nil)) pa_nil)))))))) (pe_op op_rep (pv 2) pe_int)))) pss_nil)
      (pss_one (ps_ret (pe_call G__law_some (hr.mono (by omega)) (by rfl) m__law_some k__law_some b__law_some .nil pass0 (pa_cons (pv 0) (pa_cons (pv 3) pa_nil)))))))), ?_⟩
  have cp : CPow 10 6 := ⟨by decide, by decide, by decide⟩
  have p6 : (10 : Int) ^ (6 : Int).toNat = 1000000 := by decide
  have sB : ButL [a, c] H H := fun _ _ _ h => h
  refine ⟨by show 0 ≤ sizeLine; decide, fun t1 np_ => ?_⟩
  have x_ := same_upd (o := .tup []) np_
  have e_t1 := rmL_new (o := .tup []) hin np_
  replace hin := hin.same x_
  replace D := D.same x_
  replace sB := sB.trans (.same x_)
  replace hw := rmL_same x_ _ _ hw
  replace hd := dp_same (rmL_same x_) _ _ hd
  generalize upd H t1 (.tup []) = W1 at *
  clear x_ np_
  refine ⟨by show 0 ≤ sizeLine; decide, fun t2 np_ => ?_⟩
  have x_ := same_upd (o := .lst []) np_
  have e_t2 := rmL_new (o := .lst []) hin np_
  replace hin := hin.same x_
  replace D := D.same x_
  replace sB := sB.trans (.same x_)
  replace hw := rmL_same x_ _ _ hw
  replace hd := dp_same (rmL_same x_) _ _ hd
  replace e_t1 := rmL_same x_ _ _ e_t1
  generalize upd W1 t2 (.lst []) = W2 at *
  clear x_ np_
  refine ⟨by show 1 ≤ sizeLine; decide, fun t3 np_ => ?_⟩
  have x_ := same_upd (o := .tup [.int 0]) np_
  have e_t3 := rmL_new (o := .tup [.int 0]) hin np_
  replace hin := hin.same x_
  replace D := D.same x_
  replace sB := sB.trans (.same x_)
  replace hw := rmL_same x_ _ _ hw
  replace hd := dp_same (rmL_same x_) _ _ hd
  replace e_t1 := rmL_same x_ _ _ e_t1
  replace e_t2 := rmL_same x_ _ _ e_t2
  generalize upd W2 t3 (.tup [.int 0]) = W3 at *
  clear x_ np_
  refine ⟨_, rfl, _, _, rfl, rfl, cp, by show 18 ≤ sizeLine; decide, fun l0 np_ => ?_⟩
  have x_ := same_upd (o := .lst (othV t1 t2 t3)) np_
  have e_l0 := rmL_new (o := .lst (othV t1 t2 t3)) hin np_
  replace hin := hin.same x_
  replace D := D.same x_
  replace sB := sB.trans (.same x_)
  replace hw := rmL_same x_ _ _ hw
  replace hd := dp_same (rmL_same x_) _ _ hd
  replace e_t1 := rmL_same x_ _ _ e_t1
  replace e_t2 := rmL_same x_ _ _ e_t2
  replace e_t3 := rmL_same x_ _ _ e_t3
  generalize upd W3 l0 (.lst (othV t1 t2 t3)) = W4 at *
  clear x_ np_
  have go : ∀ v ∈ othV t1 t2 t3, Go K as (e + 1) 2 60 W4 v := by
    intro v hv
    unfold othV at hv
    simp only [List.mem_cons, List.not_mem_nil, or_false] at hv
    rcases hv with rfl | rfl | rfl | rfl | rfl | rfl | rfl | rfl | rfl | rfl | rfl | rfl | rfl | rfl | rfl | rfl | rfl | rfl
    · exact ⟨_, .non, trivial, Nat.zero_le _⟩
    · exact ⟨_, .bl _, trivial, Nat.zero_le _⟩
    · exact ⟨_, .bl _, trivial, Nat.zero_le _⟩
    · exact go_str ((⟨by decide +kernel, by decide +kernel⟩ : Asc 9 _).le (by omega)) (by omega)
    · exact go_str ((⟨by decide +kernel, by decide +kernel⟩ : Asc 9 _).le (by omega)) (by omega)
    · exact go_str ((⟨by decide +kernel, by decide +kernel⟩ : Asc 9 _).le (by omega)) (by omega)
    · exact go_str ((⟨by decide +kernel, by decide +kernel⟩ : Asc 9 _).le (by omega)) (by omega)
    · exact go_str ((⟨by decide +kernel, by decide +kernel⟩ : Asc 9 _).le (by omega)) (by omega)
    · exact ⟨.tuple [], .tup (SqT.of e_t1) .nil, ⟨Nat.zero_le _, fun d hd => absurd hd (by simp)⟩, Nat.zero_le _⟩
    · exact ⟨.list [], .lst (SqL.of e_t2) .nil, ⟨Nat.zero_le _, fun d hd => absurd hd (by simp)⟩, Nat.zero_le _⟩
    · exact (go_tup e_t3 (go_int (e := e + 1) (n := 0) (w := 24) (by omega) (by omega) (by decide))).le (by omega) (by omega) (by decide)
    all_goals exact go_int (by omega) (by first | omega | (rw [p6]; omega)) (by decide)
  clear e_t1 e_t2 e_t3
  have l18 : (othV t1 t2 t3).length = 18 := rfl
  have n18 : othV t1 t2 t3 ≠ [] := by simp
  generalize othV t1 t2 t3 = xs at *
  refine ⟨_, rfl, _, _, _, _, _, rfl, .ty _, ty_of (dp_same rmL_sub _ _ hd), kit_ty (kI d), _, rfl, ?_⟩
  by_cases hI : isI d = true
  · rw [hI]
    refine iteT ?_
    obtain ⟨i, z, hv1, hi, hv2, az, hwt, ok1⟩ := int_of hd hI ok he
    refine ⟨_, rfl, _, rfl, i, 1, hv1, rfl, _, rfl, i, 1, hv1, rfl, _, rfl, 0, i, rfl, hv1, _, rfl, v, i, z, rfl, hv1, log_small (by omega), hv2, _, rfl, by show 1 ≤ sizeLine; decide, fun u1 np_ => ?_⟩
    have x_ := same_upd (o := .tup [v]) np_
    have e_u1 := rmL_new (o := .tup [v]) hin np_
    replace hin := hin.same x_
    replace go := fun v hv => (go v hv).but (.same x_)
    replace D := D.same x_
    replace sB := sB.trans (.same x_)
    replace hw := rmL_same x_ _ _ hw
    replace hd := dp_same (rmL_same x_) _ _ hd
    replace e_l0 := rmL_same x_ _ _ e_l0
    generalize upd W4 u1 (.tup [v]) = I1 at *
    clear x_ np_
    refine ⟨_, rfl, by show 1 ≤ sizeLine; decide, fun u2 np_ => ?_⟩
    have x_ := same_upd (o := .lst [v]) np_
    have e_u2 := rmL_new (o := .lst [v]) hin np_
    replace hin := hin.same x_
    replace go := fun v hv => (go v hv).but (.same x_)
    replace D := D.same x_
    replace sB := sB.trans (.same x_)
    replace hw := rmL_same x_ _ _ hw
    replace hd := dp_same (rmL_same x_) _ _ hd
    replace e_l0 := rmL_same x_ _ _ e_l0
    replace e_u1 := rmL_same x_ _ _ e_u1
    generalize upd I1 u2 (.lst [v]) = I2 at *
    clear x_ np_
    refine ⟨_, _, rfl, rfl, cp, _, _, rfl, rfl, _, _, rfl, rfl, cp, _, _, rfl, rfl, _, _, rfl, rfl, by show 8 ≤ sizeLine; decide, fun l1 np_ => ?_⟩
    have x_ := same_upd (o := .lst [.int (i + 1), .int (i - 1), .int (0 - i), .str z, .ref u1, .ref u2, .int (10 ^ (6 : Int).toNat + 1), .int (0 - 10 ^ (6 : Int).toNat - 1)]) np_
    have e_l1 := rmL_new (o := .lst [.int (i + 1), .int (i - 1), .int (0 - i), .str z, .ref u1, .ref u2, .int (10 ^ (6 : Int).toNat + 1), .int (0 - 10 ^ (6 : Int).toNat - 1)]) hin np_
    replace hin := hin.same x_
    replace go := fun v hv => (go v hv).but (.same x_)
    replace D := D.same x_
    replace sB := sB.trans (.same x_)
    replace hw := rmL_same x_ _ _ hw
    replace hd := dp_same (rmL_same x_) _ _ hd
    replace e_l0 := rmL_same x_ _ _ e_l0
    replace e_u1 := rmL_same x_ _ _ e_u1
    replace e_u2 := rmL_same x_ _ _ e_u2
    generalize upd I2 l1 (.lst [.int (i + 1), .int (i - 1), .int (0 - i), .str z, .ref u1, .ref u2, .int (10 ^ (6 : Int).toNat + 1), .int (0 - 10 ^ (6 : Int).toNat - 1)]) = I3 at *
    clear x_ np_
    have gv : Go K as (e + 1) 1 24 I3 v := ⟨d, hd, ok1.mono (Nat.le_succ _) (Nat.le_refl _), hwt⟩
    have go1 : ∀ v ∈ [.int (i + 1), .int (i - 1), .int (0 - i), .str z, .ref u1, .ref u2, .int (10 ^ (6 : Int).toNat + 1), .int (0 - 10 ^ (6 : Int).toNat - 1)], Go K as (e + 1) 2 60 I3 v := by
      intro v hv
      simp only [List.mem_cons, List.not_mem_nil, or_false] at hv
      rcases hv with rfl | rfl | rfl | rfl | rfl | rfl | rfl | rfl
      · exact go_int (by omega) (by omega) (by decide)
      · exact go_int (by omega) (by omega) (by decide)
      · exact go_int (by omega) (by omega) (by decide)
      · exact go_str (az.le (by omega)) (by omega)
      · exact (go_tup e_u1 gv).le (by omega) (by omega) (by decide)
      · exact (go_list e_u2 gv).le (by omega) (by omega) (by decide)
      · exact go_int (by omega) (by rw [p6]; omega) (by decide)
      · exact go_int (by omega) (by rw [p6]; omega) (by decide)
    clear e_u1 e_u2 gv
    have l8 : ([.int (i + 1), .int (i - 1), .int (0 - i), .str z, .ref u1, .ref u2, .int (10 ^ (6 : Int).toNat + 1), .int (0 - 10 ^ (6 : Int).toNat - 1)] : List V).length = 8 := rfl
    generalize ([.int (i + 1), .int (i - 1), .int (0 - i), .str z, .ref u1, .ref u2, .int (10 ^ (6 : Int).toNat + 1), .int (0 - 10 ^ (6 : Int).toNat - 1)] : List V) = ys at *
    refine ⟨l0, l1, xs, ys, rfl, rfl, rmL_sub _ _ e_l0, rmL_sub _ _ e_l1, by rw [l18, l8]; decide, fun l2 np_ => ?_⟩
    have x_ := same_upd (o := .lst (xs ++ ys)) np_
    have e_l2 := rmL_new (o := .lst (xs ++ ys)) hin np_
    replace hin := hin.same x_
    replace go := fun v hv => (go v hv).but (.same x_)
    replace go1 := fun v hv => (go1 v hv).but (.same x_)
    replace D := D.same x_
    replace sB := sB.trans (.same x_)
    replace hw := rmL_same x_ _ _ hw
    replace hd := dp_same (rmL_same x_) _ _ hd
    replace e_l0 := rmL_same x_ _ _ e_l0
    replace e_l1 := rmL_same x_ _ _ e_l1
    generalize upd I3 l2 (.lst (xs ++ ys)) = I4 at *
    clear x_ np_
    refine ⟨_, rfl, _, _, _, _, _, rfl, .ty _, ty_of (dp_same rmL_sub _ _ hd), kit_ty (kS d), _, rfl, ?_⟩
    rw [isI_not_S hI]
    exact iteF ⟨_, rfl, _, rfl, oth_end (E := E) D hs e_l2 (by simp [n18]) (by rw [List.length_append, l18, l8]; decide) (by omega) (fun v hv => (List.mem_append.mp hv).elim (go v) (go1 v)) sB q⟩
  · rw [eq_false_of_ne_true hI]
    refine iteF ⟨_, rfl, _, _, _, _, _, rfl, .ty _, ty_of (dp_same rmL_sub _ _ hd), kit_ty (kS d), _, rfl, ?_⟩
    by_cases hS : isS d = false
    · rw [hS]
      exact iteF ⟨_, rfl, _, rfl, oth_end (E := E) D hs e_l0 n18 (by rw [l18]; decide) (by omega) go sB q⟩
    replace hS := eq_true_of_ne_false hS
    rw [hS]
    refine iteT ?_
    obtain ⟨z, rfl, rfl, az⟩ := str_of hd hS ok
    have zl : z.length ≤ 11 := Nat.le_trans az.len (by omega)
    refine ⟨_, rfl, _, rfl, z, "z", rfl, rfl, le_line (by show z.length + 1 ≤ 1000; omega), _, rfl, 1, rfl, -1, rfl, z, rfl, le_line (by omega), _, rfl, ⟨z, rfl⟩, z, rfl, rfl, by omega, _, rfl, z, " ", rfl, rfl, le_line (by show z.length + 1 ≤ 1000; omega), _, rfl, by show 1 ≤ sizeLine; decide, fun u1 np_ => ?_⟩
    have x_ := same_upd (o := .lst [.str z]) np_
    have e_u1 := rmL_new (o := .lst [.str z]) hin np_
    replace hin := hin.same x_
    replace go := fun v hv => (go v hv).but (.same x_)
    replace D := D.same x_
    replace sB := sB.trans (.same x_)
    replace hw := rmL_same x_ _ _ hw
    replace hd := dp_same (rmL_same x_) _ _ hd
    replace e_l0 := rmL_same x_ _ _ e_l0
    generalize upd W4 u1 (.lst [.str z]) = S1 at *
    clear x_ np_
    refine ⟨_, rfl, by show 1 ≤ sizeLine; decide, fun u2 np_ => ?_⟩
    have x_ := same_upd (o := .tup [.str z]) np_
    have e_u2 := rmL_new (o := .tup [.str z]) hin np_
    replace hin := hin.same x_
    replace go := fun v hv => (go v hv).but (.same x_)
    replace D := D.same x_
    replace sB := sB.trans (.same x_)
    replace hw := rmL_same x_ _ _ hw
    replace hd := dp_same (rmL_same x_) _ _ hd
    replace e_l0 := rmL_same x_ _ _ e_l0
    replace e_u1 := rmL_same x_ _ _ e_u1
    generalize upd S1 u2 (.tup [.str z]) = S2 at *
    clear x_ np_
    refine ⟨by show 6 ≤ sizeLine; decide, fun l1 np_ => ?_⟩
    have x_ := same_upd (o := .lst [.str (z ++ "z"), .str (cutS z none (some (-1))), .str (Txt.upper z), .str (z ++ " "), .ref u1, .ref u2]) np_
    have e_l1 := rmL_new (o := .lst [.str (z ++ "z"), .str (cutS z none (some (-1))), .str (Txt.upper z), .str (z ++ " "), .ref u1, .ref u2]) hin np_
    replace hin := hin.same x_
    replace go := fun v hv => (go v hv).but (.same x_)
    replace D := D.same x_
    replace sB := sB.trans (.same x_)
    replace hw := rmL_same x_ _ _ hw
    replace hd := dp_same (rmL_same x_) _ _ hd
    replace e_l0 := rmL_same x_ _ _ e_l0
    replace e_u1 := rmL_same x_ _ _ e_u1
    replace e_u2 := rmL_same x_ _ _ e_u2
    generalize upd S2 l1 (.lst [.str (z ++ "z"), .str (cutS z none (some (-1))), .str (Txt.upper z), .str (z ++ " "), .ref u1, .ref u2]) = S3 at *
    clear x_ np_
    have gv : Go K as (e + 1) 1 11 S3 (.str z) := go_str (az.le (by omega)) (by omega)
    have go1 : ∀ v ∈ [.str (z ++ "z"), .str (cutS z none (some (-1))), .str (Txt.upper z), .str (z ++ " "), .ref u1, .ref u2], Go K as (e + 1) 2 60 S3 v := by
      intro v hv
      simp only [List.mem_cons, List.not_mem_nil, or_false] at hv
      rcases hv with rfl | rfl | rfl | rfl | rfl | rfl
      · exact go_str ((az.app (n := 1) ⟨by decide +kernel, by decide +kernel⟩).le (by omega)) (by omega)
      · exact go_str ((az.cut _ _).le (by omega)) (by omega)
      · exact go_str (az.upper.le (by omega)) (by omega)
      · exact go_str ((az.app (n := 1) ⟨by decide +kernel, by decide +kernel⟩).le (by omega)) (by omega)
      · exact (go_list e_u1 gv).le (by omega) (by omega) (by decide)
      · exact (go_tup e_u2 gv).le (by omega) (by omega) (by decide)
    clear e_u1 e_u2 gv
    have l8 : ([.str (z ++ "z"), .str (cutS z none (some (-1))), .str (Txt.upper z), .str (z ++ " "), .ref u1, .ref u2] : List V).length = 6 := rfl
    generalize ([.str (z ++ "z"), .str (cutS z none (some (-1))), .str (Txt.upper z), .str (z ++ " "), .ref u1, .ref u2] : List V) = ys at *
    refine ⟨l0, l1, xs, ys, rfl, rfl, rmL_sub _ _ e_l0, rmL_sub _ _ e_l1, by rw [l18, l8]; decide, fun l2 np_ => ?_⟩
    have x_ := same_upd (o := .lst (xs ++ ys)) np_
    have e_l2 := rmL_new (o := .lst (xs ++ ys)) hin np_
    replace hin := hin.same x_
    replace go := fun v hv => (go v hv).but (.same x_)
    replace go1 := fun v hv => (go1 v hv).but (.same x_)
    replace D := D.same x_
    replace sB := sB.trans (.same x_)
    replace hw := rmL_same x_ _ _ hw
    replace hd := dp_same (rmL_same x_) _ _ hd
    replace e_l0 := rmL_same x_ _ _ e_l0
    replace e_l1 := rmL_same x_ _ _ e_l1
    generalize upd S3 l2 (.lst (xs ++ ys)) = S4 at *
    clear x_ np_
    refine ⟨_, rfl, l, 3, _, rfl, rfl, rmL_sub _ _ hw, by decide, by decide, by rw [List.length_map]; exact le_line (by show ws.length * 3 ≤ 1000; omega), fun l3 np_ => ?_⟩
    have x_ := same_upd (o := .lst (List.replicate (3 : Int).toNat (ws.map V.str)).flatten) np_
    have e_l3 := rmL_new (o := .lst (List.replicate (3 : Int).toNat (ws.map V.str)).flatten) hin np_
    replace hin := hin.same x_
    replace go := fun v hv => (go v hv).but (.same x_)
    replace go1 := fun v hv => (go1 v hv).but (.same x_)
    replace D := D.same x_
    replace sB := sB.trans (.same x_)
    replace hw := rmL_same x_ _ _ hw
    replace hd := dp_same (rmL_same x_) _ _ hd
    replace e_l0 := rmL_same x_ _ _ e_l0
    replace e_l1 := rmL_same x_ _ _ e_l1
    replace e_l2 := rmL_same x_ _ _ e_l2
    generalize upd S4 l3 (.lst (List.replicate (3 : Int).toNat (ws.map V.str)).flatten) = S5 at *
    clear x_ np_
    have go2 : ∀ v ∈ (List.replicate (3 : Int).toNat (ws.map V.str)).flatten, Go K as (e + 1) 2 60 S5 v := by
      intro v hv
      obtain ⟨l, hl, hv⟩ := List.mem_flatten.mp hv
      rw [(List.mem_replicate.mp hl).2] at hv
      obtain ⟨y, hy, rfl⟩ := List.mem_map.mp hv
      exact go_str ((wa y hy).le (by omega)) (by omega)
    have l60 : ((List.replicate (3 : Int).toNat (ws.map V.str)).flatten).length ≤ 60 := by
      rw [show (3 : Int).toNat = 3 from rfl]
      simp only [List.replicate, List.flatten_cons, List.flatten_nil, List.length_append, List.length_map, List.length_nil]
      omega
    generalize (List.replicate (3 : Int).toNat (ws.map V.str)).flatten = zs at *
    refine ⟨l2, l3, _, _, rfl, rfl, rmL_sub _ _ e_l2, rmL_sub _ _ e_l3, by rw [List.length_append, l18, l8]; exact le_line (by omega), fun l4 np_ => ?_⟩
    have x_ := same_upd (o := .lst ((xs ++ ys) ++ zs)) np_
    have e_l4 := rmL_new (o := .lst ((xs ++ ys) ++ zs)) hin np_
    replace hin := hin.same x_
    replace go := fun v hv => (go v hv).but (.same x_)
    replace go1 := fun v hv => (go1 v hv).but (.same x_)
    replace go2 := fun v hv => (go2 v hv).but (.same x_)
    replace D := D.same x_
    replace sB := sB.trans (.same x_)
    replace hw := rmL_same x_ _ _ hw
    replace hd := dp_same (rmL_same x_) _ _ hd
    replace e_l0 := rmL_same x_ _ _ e_l0
    replace e_l1 := rmL_same x_ _ _ e_l1
    replace e_l2 := rmL_same x_ _ _ e_l2
    replace e_l3 := rmL_same x_ _ _ e_l3
    generalize upd S5 l4 (.lst ((xs ++ ys) ++ zs)) = S6 at *
    clear x_ np_
    exact ⟨_, rfl, _, rfl, oth_end (E := E) D hs e_l4 (by simp [n18]) (by rw [List.length_append, List.length_append, l18, l8]; omega) (by omega) (fun v hv => (List.mem_append.mp hv).elim (fun h => (List.mem_append.mp h).elim (go v) (go1 v)) (go2 v)) sB q⟩
end
end Fd

set_option Elab.async false
set_option linter.all false
set_option maxRecDepth 100000
set_option maxHeartbeats 4000000
namespace Fd
open PySem PySem.Spec PyProof.Rows L2 Fw
theorem dpAll_drop {K : PySem.W.Frag} {H : Hp} : ∀ (n : Nat) {vs : List V} {ds : List PyData}, DpAll K H vs ds → DpAll K H (vs.drop n) (ds.drop n)
  | 0, _, _, h => h
  | _ + 1, _, _, .nil => .nil
  | n + 1, _, _, .cons _ r => dpAll_drop n r
theorem dpAll_take {K : PySem.W.Frag} {H : Hp} : ∀ (n : Nat) {vs : List V} {ds : List PyData}, DpAll K H vs ds → DpAll K H (vs.take n) (ds.take n)
  | 0, _, _, _ => .nil
  | _ + 1, _, _, .nil => .nil
  | n + 1, _, _, .cons q r => .cons q (dpAll_take n r)
theorem dpAll_rev {K : PySem.W.Frag} {H : Hp} : ∀ {vs : List V} {ds : List PyData}, DpAll K H vs ds → DpAll K H vs.reverse ds.reverse
  | _, _, .nil => .nil
  | _, _, .cons q r => by
    rw [List.reverse_cons, List.reverse_cons]
    exact dpAll_app (dpAll_rev r) (.cons q .nil)
theorem wt_app : ∀ (a b : List PyData), PyData.weightAll (a ++ b) = PyData.weightAll a + PyData.weightAll b
  | [], b => by show _ = 0 + _; rw [Nat.zero_add]; rfl
  | d :: a, b => by
    show d.weight + 1 + PyData.weightAll (a ++ b) = d.weight + 1 + PyData.weightAll a + _
    rw [wt_app a b]
    omega
theorem wt_split (a : List PyData) (n : Nat) : PyData.weightAll (a.take n) + PyData.weightAll (a.drop n) = PyData.weightAll a := by
  rw [← wt_app, List.take_append_drop]
theorem wt_rev : ∀ (a : List PyData), PyData.weightAll a.reverse = PyData.weightAll a
  | [] => rfl
  | d :: a => by
    rw [List.reverse_cons, wt_app, wt_rev a]
    show _ + (d.weight + 1 + 0) = d.weight + 1 + _
    omega

def isL : PyData → Bool | .list _ => true | _ => false
theorem kL : ∀ d, kitB (tyN d) "list" = some (isL d)
  | .none => (by decide +kernel : kitB "NoneType" "list" = some false) | .bool _ => (by decide +kernel : kitB "bool" "list" = some false) | .int _ => (by decide +kernel : kitB "int" "list" = some false) | .str _ => (by decide +kernel : kitB "str" "list" = some false)
  | .list _ => (by decide +kernel : kitB "list" "list" = some true) | .tuple _ => (by decide +kernel : kitB "tuple" "list" = some false) | .dict _ => (by decide +kernel : kitB "dict" "list" = some false)
theorem kitTL {K : PySem.W.Frag} {t : String} {b1 b2 : Bool} (h1 : kitB t "tuple" = some b1) (h2 : kitB t "list" = some b2) : PySem.W.kitAny K (.type t) [.type "tuple", .type "list"] = some (b1 || b2) := by
  cases b1 with
  | true => exact kitAny_cons (kit_ty h1) (fun z => nomatch z) (fun _ => rfl)
  | false =>
    refine kitAny_cons (kit_ty h1) (fun _ => ?_) (fun z => nomatch z)
    cases b2 with
    | true => exact kitAny_cons (kit_ty h2) (fun z => nomatch z) (fun _ => rfl)
    | false => exact kitAny_cons (kit_ty h2) (fun _ => rfl) (fun z => nomatch z)
def Sq (K : PySem.W.Frag) (G : Hp) (t : Addr) (xs : List V) : Prop := SqL K G t xs ∨ SqT K G t xs
theorem Sq.same {K : PySem.W.Frag} {G G' : Hp} {t : Addr} {xs : List V} (h : Sq K G t xs) (s : Same G G') : Sq K G' t xs := h.imp (fun h => s.seq h) (fun h => seqT s h)
theorem sq_of {K : PySem.W.Frag} {G : Hp} {v : V} {d : PyData} (h : Dp K G v d) (hd : (isT d || isL d) = true) : ∃ (t : Addr) (xs : List V) (ds : List PyData), v = .ref t ∧ Sq K G t xs ∧ DpAll K G xs ds ∧ d.weight = PyData.weightAll ds ∧ ∀ {e N}, OkT e (N + 1) d → ds.length ≤ 8 + e ∧ ∀ x ∈ ds, OkT e N x := by
  cases h with
  | tup h1 h2 => exact ⟨_, _, _, rfl, .inr h1, h2, rfl, fun h => h⟩
  | lst h1 h2 => exact ⟨_, _, _, rfl, .inl h1, h2, rfl, fun h => h⟩
  | _ => cases hd
/-- things of a list: so deep, so great in all -/
def Pc (K : PySem.W.Frag) (G : Hp) (e N w : Nat) (ys : List V) : Prop := ∃ es : List PyData, DpAll K G ys es ∧ (∀ x ∈ es, OkT e N x) ∧ PyData.weightAll es ≤ w
section
variable {K : PySem.W.Frag} {G G' : Hp} {e N w w' : Nat} {xs ys : List V}
theorem Pc.same (h : Pc K G e N w ys) (s : Same G G') : Pc K G' e N w ys := by
  obtain ⟨es, h1, h2⟩ := h
  exact ⟨es, dpAll_same s _ _ h1, h2⟩
theorem Pc.le {e' N' : Nat} (h : Pc K G e N w ys) (he : e ≤ e') (hN : N ≤ N') (hw : w ≤ w') : Pc K G e' N' w' ys := by
  obtain ⟨es, h1, h2, h3⟩ := h
  exact ⟨es, h1, fun x hx => (h2 x hx).mono he hN, Nat.le_trans h3 hw⟩
theorem Pc.app (h : Pc K G e N w xs) (g : Pc K G e N w' ys) : Pc K G e N (w + w') (xs ++ ys) := by
  obtain ⟨es, h1, h2, h3⟩ := h
  obtain ⟨fs, g1, g2, g3⟩ := g
  exact ⟨es ++ fs, dpAll_app h1 g1, fun x hx => (List.mem_append.mp hx).elim (h2 x) (g2 x), by rw [wt_app]; omega⟩
theorem Pc.split (h : Pc K G e N w ys) (n : Nat) : ∃ w1 w2, w1 + w2 ≤ w ∧ Pc K G e N w1 (ys.take n) ∧ Pc K G e N w2 (ys.drop n) := by
  obtain ⟨es, h1, h2, h3⟩ := h
  exact ⟨_, _, by rw [wt_split es n]; exact h3, ⟨es.take n, dpAll_take _ h1, fun x hx => h2 x (List.mem_of_mem_take hx), Nat.le_refl _⟩, ⟨es.drop n, dpAll_drop _ h1, fun x hx => h2 x (List.mem_of_mem_drop hx), Nat.le_refl _⟩⟩
theorem Pc.take (h : Pc K G e N w ys) (n : Nat) : Pc K G e N w (ys.take n) := by
  obtain ⟨w1, w2, hw, h1, _⟩ := h.split n
  exact h1.le (Nat.le_refl _) (Nat.le_refl _) (by omega)
theorem Pc.drop (h : Pc K G e N w ys) (n : Nat) : Pc K G e N w (ys.drop n) := by
  obtain ⟨w1, w2, hw, _, h1⟩ := h.split n
  exact h1.le (Nat.le_refl _) (Nat.le_refl _) (by omega)
theorem Pc.rev (h : Pc K G e N w ys) : Pc K G e N w ys.reverse := by
  obtain ⟨es, h1, h2, h3⟩ := h
  exact ⟨es.reverse, dpAll_rev h1, fun x hx => h2 x (List.mem_reverse.mp hx), by rw [wt_rev]; exact h3⟩
theorem Pc.cut (h : Pc K G e N w ys) (lo hi : Option Int) : Pc K G e N w (cutV ys lo hi) := (h.drop _).take _
theorem pc_one {v : V} {d : PyData} (hd : Dp K G v d) (ok : OkT e N d) (hw : d.weight + 1 ≤ w) : Pc K G e N w [v] := ⟨[d], .cons hd .nil, fun x hx => by rw [List.mem_singleton.mp hx]; exact ok, by show d.weight + 1 + 0 ≤ w; omega⟩
theorem Pc.one {n : Nat} {x : V} (h : Pc K G e N w (ys.drop n)) (hx : ys[n]? = some x) : ∃ (d : PyData) (w2 : Nat), Dp K G x d ∧ OkT e N d ∧ d.weight + 1 + w2 ≤ w ∧ Pc K G e N w2 (ys.drop (n + 1)) := by
  have e1 : ys.drop n = x :: ys.drop (n + 1) := by
    have hn : n < ys.length := (List.getElem?_eq_some_iff.mp hx).1
    rw [List.drop_eq_getElem_cons hn]
    rw [List.getElem?_eq_getElem hn] at hx
    rw [Option.some.inj hx]
  obtain ⟨es, h1, h2, h3⟩ := h
  rw [e1] at h1
  cases h1 with | cons a b =>
  exact ⟨_, _, a, h2 _ (List.mem_cons_self ..), h3, _, b, fun x hx => h2 x (List.mem_cons_of_mem _ hx), Nat.le_refl _⟩
theorem Pc.lst {as : List Addr} {H : Hp} {p : Addr} (h : Pc K (rmL as H) e N w ys) (hp : rmL as H p = some (.lst ys)) (hl : ys.length ≤ 8 + e) : Go K as e (N + 1) w H (.ref p) := by
  obtain ⟨es, h1, h2, h3⟩ := h
  exact ⟨.list es, .lst (SqL.of hp) h1, ⟨by rw [← dpAll_len h1]; exact hl, h2⟩, h3⟩
theorem Pc.tup {as : List Addr} {H : Hp} {p : Addr} (h : Pc K (rmL as H) e N w ys) (hp : rmL as H p = some (.tup ys)) (hl : ys.length ≤ 8 + e) : Go K as e (N + 1) w H (.ref p) := by
  obtain ⟨es, h1, h2, h3⟩ := h
  exact ⟨.tuple es, .tup (SqT.of hp) h1, ⟨by rw [← dpAll_len h1]; exact hl, h2⟩, h3⟩
end
theorem rmL_push {as : List Addr} {H : Hp} {p : Addr} {o : HO} (np : H p = none) : Same (rmL as H) (rmL (p :: as) (upd H p o)) := fun b u hb => by
  by_cases z : b ∈ as
  · rw [rmL_in z] at hb; cases hb
  · rw [rmL_at z] at hb
    have nb := ne_of_none hb np
    rw [rmL_at (fun y => (List.mem_cons.mp y).elim nb z), upd_ne nb]
    exact hb
theorem rmL_pop {as : List Addr} {H : Hp} {p : Addr} : Same (rmL (p :: as) H) (rmL as H) := rmL_less fun b hb => List.mem_cons_of_mem _ hb
theorem Go.pop {K : PySem.W.Frag} {as : List Addr} {e n w : Nat} {H : Hp} {p : Addr} {v : V} (h : Go K (p :: as) e n w H v) : Go K as e n w H v := by
  obtain ⟨d, h1, h2⟩ := h
  exact ⟨d, dp_same rmL_pop _ _ h1, h2⟩
theorem Ins.out {as : List Addr} {H : Hp} {p : Addr} (h : Ins as H) (n : H p = none) : p ∉ as := fun z => by
  obtain ⟨u, hu⟩ := h p z
  rw [n] at hu
  cases hu
theorem Ins.push {as : List Addr} {H : Hp} {p : Addr} {o : HO} (h : Ins as H) (hp : H p = some o) : Ins (p :: as) H := fun b hb => (List.mem_cons.mp hb).elim (fun z => ⟨o, z ▸ hp⟩) (h b)
end Fd

set_option Elab.async false
set_option linter.all false
set_option maxRecDepth 100000
set_option maxHeartbeats 4000000
namespace Fd
open PySem PySem.Spec PyProof.Rows L2 Fw
section
variable {P : Program} {w : World} {K : PySem.W.Frag} {mg : Str → Option Value} {base : Heap} {f : Addr} {fd : FuncData}
abbrev sBent : Stmt := top 48
theorem scBent : FnScope ["_law_state", "_law_stuff", "_law_names_here", "_law_way", "_law_pieces", "_law_at", "_law_ahead", "_law_after"] ["_law_state", "_law_stuff", "_law_names_here"] (defScope sBent) := ⟨rfl, rfl, rfl, by decide +kernel, rfl, by decide +kernel, by decide +kernel⟩
def spBent (K : PySem.W.Frag) (N : Nat) : Sp := fun vs H Q _ => ∃ (a c l : Addr) (v : V) (n e wt : Nat) (as : List Addr) (d : PyData) (ws : List Str), vs = [.ref a, v, .ref l] ∧ Dr H a c n ∧ n + 4 * N ≤ 1000000 ∧ e ≤ 2 ∧ (∀ b ∈ [a, c], b ∈ as) ∧ Ins as H ∧
  rmL as H l = some (.lst (ws.map V.str)) ∧ ws.length ≤ 20 ∧ (∀ z ∈ ws, Asc 8 z) ∧ Dp K (rmL as H) v d ∧ OkT e N d ∧ d.weight ≤ wt ∧
  ∀ v' H', ButL [a, c] H H' → Dr H' a c (n + 4 * N) → Go K as (e + 1) (N + 1) (2 * wt + 61) H' v' → Q v' H'
theorem ok_bent {k N : Nat} (F : Fun K "_law_bent" "_law_bent" sBent f fd) (GT : FnG P w K mg base CX0 k "_law_take" ["_law_state", "_law_below"] spTake) (GO : FnG P w K mg base CX0 k "_law_other" ["_law_state", "_law_stuff", "_law_names_here"] (spOther K))
    (GB : FnG P w K mg base CX0 k "_law_bent" ["_law_state", "_law_stuff", "_law_names_here"] (spBent K N))
    (m_isinstance : mg "isinstance" = none) (m_tuple : mg "tuple" = none) (m_list : mg "list" = none) (m_len : mg "len" = none) : FnOk P w K mg base CX0 (k + 1) f fd ["_law_state", "_law_stuff", "_law_names_here"] (spBent K (N + 1)) := by
  obtain ⟨_, _, G__law_take, m__law_take, k__law_take, b__law_take⟩ := GT
  obtain ⟨_, _, G__law_other, m__law_other, k__law_other, b__law_other⟩ := GO
  obtain ⟨_, _, G__law_bent, m__law_bent, k__law_bent, b__law_bent⟩ := GB
  have sc := scBent
  refine F.ok sc (fun vs H Q E h => ?_) (fun cdv A outer s H vs Q E hr h => ?_)
  · obtain ⟨a, c, l, v, n, e, wt, as, d, ws, rfl, _⟩ := h
    rfl
  obtain ⟨a, c, l, v, n, e, wt, as, d, ws, rfl, D, hn, he, hs, hin, hw, wl, wa, hd, ok, hwt, q⟩ := h
  refine ⟨_, (pss_cons (ps_set (i := 3) sc.nd rfl (.inl rfl) (pe_call G__law_take (hr.mono (by omega)) (by rfl) m__law_take k__law_take b__law_take .nil pass0 (pa_cons (pv 0) (pa_cons pe_int pa_nil))))
      (pss_cons (ps_if (PW.pt (pw_or (pt_not (pt_val (pe_callB call_isiT (by rfl) m_isinstance (by decide +kernel) (pa_cons (pv 1) (pa_cons (pe_tup (pa_cons (pe_bltn (v := .ty "tuple") (by rfl) m_tuple (by decide +kernel) rfl) (pa_cons (pe_bltn (v := .ty "list") (by rfl) m_list (by decide +kernel) rfl) pa_nil))) pa_nil))))) (pw_or (pt_cmpR op_eq (pe_callB call_len_seq (by rfl) m_len (by decide +kernel) (pa_cons (pv 1) pa_nil)) pe_int (nomark _)) (pw_or1 (pt_cmpR op_eq (pv 3) pe_int (nomark _)))))) (pss_one (ps_ret (pe_call G__law_other (hr.mono (by omega)) (by rfl) m__law_other k__law_other b__law_other .nil pass0 (pa_cons (pv 0) (pa_cons (pv 1) (pa_cons (pv 2) pa_nil)))))) pss_nil)
      (pss_cons (ps_par (i := 4) (j := 5) (by rfl) sc.nd rfl rfl (by decide) rfl rfl (pa_cons (pe_callTy call_list_of (by rfl) m_list (by decide +kernel) (pa_cons (pv 1) pa_nil)) (pa_cons (pe_ix ix_list (pe_lst (pa_cons (pe_op op_sub (pe_callB call_len_seq (by rfl) m_len (by decide +kernel) (pa_cons (pv 1) pa_nil)) pe_int) (pa_cons (pe_call G__law_take (hr.mono (by omega)) (by rfl) m__law_take k__law_take b__law_take .nil pass0 (pa_cons (pv 0) (pa_cons (pe_callB call_len_seq (by rfl) m_len (by decide +kernel) (pa_cons (pv 1) pa_nil)) pa_nil))) pa_nil))) (pe_call G__law_take (hr.mono (by omega)) (by rfl) m__law_take k__law_take b__law_take .nil pass0 (pa_cons (pv 0) (pa_cons pe_int pa_nil))) (fun _ _ => rfl)) pa_nil)) (by rfl))
      (pss_cons (ps_if (pt_cmpR op_eq (pv 3) pe_int (nomark _)) (pss_one (ps_ret (pe_ifExp (pt_val (pe_callB call_isi (by rfl) m_isinstance (by decide +kernel) (pa_cons (pv 1) (pa_cons (pe_bltn (v := .ty "list") (by rfl) m_list (by decide +kernel) rfl) pa_nil)))) (pe_callTy call_tuple_of (by rfl) m_tuple (by decide +kernel) (pa_cons (pv 4) pa_nil)) (pv 4)))) pss_nil)
      (pss_cons (ps_par (i := 6) (j := 7) (by rfl) sc.nd rfl rfl (by decide) rfl rfl (pa_cons (pe_slice sl_list (pv 4) po_none (po_some (pv 5))) (pa_cons (pe_slice sl_list (pv 4) (po_some (pe_op op_add (pv 5) pe_int)) po_none) pa_nil)) (by rfl))
      (pss_cons (ps_if (pt_cmpR op_eq (pv 3) pe_int (nomark _)) (pss_one (ps_set (i := 4) sc.nd rfl (.inl rfl) (pe_op op_cat (pv 6) (pv 7)))) (pss_one (ps_if (pt_cmpR op_eq (pv 3) pe_int (nomark _)) (pss_one (ps_set (i := 4) sc.nd rfl (.inl rfl) (pe_op op_cat (pe_op op_cat (pv 6) (pe_lst (pa_cons (pe_ix ix_list (pv 4) (pv 5) (fun _ _ => rfl)) pa_nil))) (pe_slice sl_list (pv 4) (po_some (pv 5)) po_none)))) (pss_one (ps_if (pt_cmpR op_eq (pv 3) pe_int (nomark _)) (pss_one (ps_set (i := 4) sc.nd rfl (.inl rfl) (pe_op op_cat (pe_op op_cat (pv 6) (pe_revL (pe_slice sl_list (pv 4) (po_some (pv 5)) (po_some (pe_op op_add (pv 5) pe_int))))) (pe_slice sl_list (pv 4) (po_some (pe_op op_add (pv 5) pe_int)) po_none)))) (pss_one (ps_if (pt_cmpR op_eq (pv 3) pe_int (nomark _)) (pss_one (ps_set (i := 4) sc.nd rfl (.inl rfl) (pe_revL (pv 4)))) (pss_one (ps_if (pt_cmpR op_eq (pv 3) pe_int (nomark _)) (pss_one (ps_set (i := 4) sc.nd rfl (.inl rfl) (pe_op op_cat (pe_op op_cat (pv 6) (pe_lst (pa_cons (pe_call G__law_other (hr.mono (by omega)) (by rfl) m__law_other k__law_other b__law_other .nil pass0 (pa_cons (pv 0) (pa_cons pe_non (pa_cons (pv 2) pa_nil)))) pa_nil))) (pe_slice sl_list (pv 4) (po_some (pv 5)) po_none)))) (pss_one (ps_asg (pe_call G__law_bent (hr.mono (by omega)) (by rfl) m__law_bent k__law_bent b__law_bent .nil pass0 (pa_cons (pv 0) (pa_cons (pe_ix ix_list (pv 4) (pv 5) (fun _ _ => rfl)) (pa_cons (pv 2) pa_nil)))) (pg_sub (pv 4) (pv 5) set_list))))))))))))
      (pss_one (ps_ret (pe_ifExp (pt_val (pe_callB call_isi (by rfl) m_isinstance (by decide +kernel) (pa_cons (pv 1) (pa_cons (pe_bltn (v := .ty "list") (by rfl) m_list (by decide +kernel) rfl) pa_nil)))) (pv 4) (pe_callTy call_tuple_of (by rfl) m_tuple (by decide +kernel) (pa_cons (pv 4) pa_nil))))))))))), ?_⟩
  have sB : ButL [a, c] H H := fun _ _ _ h => h
  refine ⟨_, rfl, a, c, n, 16, rfl, D, by omega, by decide, by decide, fun r T1 r_0 r_1 s_ D_ => ?_⟩
  replace hin := hin.but s_ D_
  replace D := D_
  replace sB := sB.trans s_
  replace hw := rmL_but (moreS hs s_) _ _ hw
  replace hd := dp_same (rmL_but (moreS hs s_)) _ _ hd
  clear s_
  refine ⟨_, rfl, by show 2 ≤ sizeLine; decide, fun tt np_ => ?_⟩
  have x_ := same_upd (o := .tup [.ty "tuple", .ty "list"]) np_
  have e_tt := rmL_new (o := .tup [.ty "tuple", .ty "list"]) hin np_
  replace hin := hin.same x_
  replace D := D.same x_
  replace sB := sB.trans (.same x_)
  replace hw := rmL_same x_ _ _ hw
  replace hd := dp_same (rmL_same x_) _ _ hd
  generalize upd T1 tt (.tup [.ty "tuple", .ty "list"]) = W2 at *
  clear x_ np_
  refine ⟨_, tt, [.ty "tuple", .ty "list"], _, [.type "tuple", .type "list"], _, rfl, rmL_sub _ _ e_tt, .cons (.ty _) (.cons (.ty _) .nil), ty_of (dp_same rmL_sub _ _ hd), kitTL (kT d) (kL d), _, rfl, ?_⟩
  clear e_tt
  apply late
  · intro other
    by_cases hq : (isT d || isL d) = true
    · rw [hq]
      refine iteF ?_
      obtain ⟨t, xs, ds, vt, hx, ax, wd, okd⟩ := sq_of hd hq
      have okl := (okd ok).1
      have okx := (okd ok).2
      have hpc : Pc K (rmL as W2) e N wt xs := ⟨ds, ax, okx, by rw [← wd]; exact hwt⟩
      have lds := dpAll_len ax
      refine ⟨_, rfl, t, xs, congrArg (fun z => [z]) vt, hx.same rmL_sub, rfl, _, rfl, ?_⟩
      by_cases c0 : (xs.length : Int) = 0
      · rw [decide_eq_true (by rw [c0])]
        exact iteT (iteT other)
      have x0 : 0 < xs.length := by omega
      rw [decide_eq_false (fun z => c0 (by injection z))]
      refine iteF ⟨_, rfl, rfl, _, rfl, ite2 (fun c1 => other) (fun c1 => ?_)⟩
      clear other
      clear okd ok ax okx
      subst vt
      refine ⟨_, rfl, t, xs, rfl, hx.same rmL_sub, fun p np => ?_⟩
      have x_ := same_upd (o := .lst xs) np
      have up := rmL_push (as := as) (o := .lst xs) np
      have hp : (upd W2 p (.lst xs)) p = some (.lst xs) := upd_same
      have npA : p ∉ as := hin.out np
      have fp := sB.free D.in_ np
      have ne : p ∉ [a, c] := fun z => npA (hs _ z)
      have hs2 : ∀ b ∈ [a, c], b ∈ p :: as := fun b hb => List.mem_cons_of_mem _ (hs b hb)
      replace hin : Ins (p :: as) (upd W2 p (.lst xs)) := (hin.same x_).push hp
      replace hw := up _ _ hw
      replace hd := dp_same up _ _ hd
      replace hx := hx.same up
      replace hpc := hpc.same up
      replace sB := sB.trans (.same x_)
      replace D := D.same x_
      clear x_ up
      generalize upd W2 p (.lst xs) = HP at *
      clear np
      refine ⟨_, rfl, t, xs, rfl, hx.same rmL_sub, _, _, rfl, rfl, _, rfl, _, rfl, t, xs, rfl, hx.same rmL_sub, a, c, n + 1, _, rfl, D, by omega, by omega, by omega, fun r1 T1 r1_0 r1_1 s_ D_ => ?_⟩
      replace hin := hin.but s_ D_
      replace hx := hx.same (rmL_but (moreS hs2 s_))
      replace hpc := hpc.same (rmL_but (moreS hs2 s_))
      replace D := D_
      replace sB := sB.trans s_
      replace hw := rmL_but (moreS hs2 s_) _ _ hw
      replace hd := dp_same (rmL_but (moreS hs2 s_)) _ _ hd
      replace hp := s_ _ _ ne hp
      clear s_
      refine ⟨by show 2 ≤ sizeLine; decide, fun ul np_ => ?_⟩
      have x_ := same_upd (o := .lst [.int (xs.length - 1), .int r1]) np_
      have e_ul := rmL_new (o := .lst [.int (xs.length - 1), .int r1]) hin np_
      replace hin := hin.same x_
      replace hx := hx.same (rmL_same x_)
      replace hpc := hpc.same (rmL_same x_)
      replace D := D.same x_
      replace sB := sB.trans (.same x_)
      replace hw := rmL_same x_ _ _ hw
      replace hd := dp_same (rmL_same x_) _ _ hd
      replace hp := x_ _ _ hp
      generalize upd T1 ul (.lst [.int (xs.length - 1), .int r1]) = Y2 at *
      clear x_ np_
      refine ⟨_, rfl, a, c, n + 1 + 1, 2, rfl, D, by omega, by decide, by decide, fun r2 T3 r2_0 r2_1 s_ D_ => ?_⟩
      replace hin := hin.but s_ D_
      replace hx := hx.same (rmL_but (moreS hs2 s_))
      replace hpc := hpc.same (rmL_but (moreS hs2 s_))
      replace D := D_
      replace sB := sB.trans s_
      replace hw := rmL_but (moreS hs2 s_) _ _ hw
      replace hd := dp_same (rmL_but (moreS hs2 s_)) _ _ hd
      replace hp := s_ _ _ ne hp
      replace e_ul := rmL_but (moreS hs2 s_) _ _ e_ul
      clear s_
      obtain ⟨i, hi, az⟩ : ∃ i : Nat, i < xs.length ∧ atI [V.int (xs.length - 1), .int r1] r2 = some (.int i) := by
        have : r2 = 0 ∨ r2 = 1 := by omega
        rcases this with rfl | rfl
        · exact ⟨xs.length - 1, by omega, by rw [show ((xs.length - 1 : Nat) : Int) = (xs.length : Int) - 1 by omega]; rfl⟩
        · exact ⟨r1.toNat, by omega, by rw [show ((r1.toNat : Nat) : Int) = r1 by omega]; rfl⟩
      refine ⟨ul, _, r2, _, rfl, rfl, SqL.of (rmL_sub _ _ e_ul), az, _, _, rfl, ?_⟩
      clear e_ul az
      have lx : xs.length ≤ 8 + e := by omega
      refine ⟨_, rfl, rfl, _, rfl, ite2 (fun c2 => ?_) (fun c2 => ?_)⟩
      · skip
        refine ⟨_, rfl, _, _, _, _, _, rfl, .ty _, ty_of (dp_same rmL_sub _ _ hd), kit_ty (kL d), _, rfl, ?_⟩
        by_cases hL : isL d = true
        · rw [hL]
          refine iteT ⟨_, rfl, p, xs, rfl, .inl ⟨SqL.of hp, fun t_ np_ => ?_⟩⟩
          have x_ := same_upd (o := .tup xs) np_
          exact q _ _ (sB.trans (.same x_)) ((D.le (by omega)).same x_) (((hpc.same (rmL_same x_)).tup (rmL_new hin np_) lx).pop.le (Nat.le_succ _) (Nat.le_succ _) (by omega))
        · rw [eq_false_of_ne_true hL]
          exact iteF ⟨_, rfl, q _ _ sB (D.le (by omega)) (((hpc.same rmL_pop).lst (by rw [rmL_at npA]; exact hp) lx).le (Nat.le_succ _) (Nat.le_succ _) (by omega))⟩
      refine ⟨_, rfl, _, rfl, _, rfl, p, _, rfl, SqL.of hp, fun ah np_ => ?_⟩
      rw [cut_to]
      have x_ := same_upd (o := .lst (xs.take i)) np_
      have e_ah := rmL_new (o := .lst (xs.take i)) hin np_
      replace hin := hin.same x_
      replace hx := hx.same (rmL_same x_)
      replace hpc := hpc.same (rmL_same x_)
      replace D := D.same x_
      replace sB := sB.trans (.same x_)
      replace hw := rmL_same x_ _ _ hw
      replace hd := dp_same (rmL_same x_) _ _ hd
      replace hp := x_ _ _ hp
      generalize upd T3 ah (.lst (xs.take i)) = Y4 at *
      clear x_ np_
      refine ⟨_, rfl, _, rfl, _, _, rfl, rfl, _, rfl, p, _, rfl, SqL.of hp, fun af np_ => ?_⟩
      rw [show cutV xs (some ((i : Int) + 1)) none = xs.drop (i + 1) from cut_from xs (i + 1)]
      have x_ := same_upd (o := .lst (xs.drop (i + 1))) np_
      have e_af := rmL_new (o := .lst (xs.drop (i + 1))) hin np_
      replace hin := hin.same x_
      replace hx := hx.same (rmL_same x_)
      replace hpc := hpc.same (rmL_same x_)
      replace D := D.same x_
      replace sB := sB.trans (.same x_)
      replace hw := rmL_same x_ _ _ hw
      replace hd := dp_same (rmL_same x_) _ _ hd
      replace hp := x_ _ _ hp
      replace e_ah := rmL_same x_ _ _ e_ah
      generalize upd Y4 af (.lst (xs.drop (i + 1))) = Y5 at *
      clear x_ np_
      refine ⟨_, _, rfl, ?_⟩
      obtain ⟨x, hv⟩ : ∃ x, xs[i]? = some x := ⟨_, List.getElem?_eq_getElem hi⟩
      refine ⟨_, rfl, rfl, _, rfl, ite2 (fun c3 => ?_) (fun c3 => ?_)⟩
      · skip
        refine ⟨_, rfl, _, rfl, ah, af, _, _, rfl, rfl, rmL_sub _ _ e_ah, rmL_sub _ _ e_af, le_line (by simp only [List.length_append, List.length_take, List.length_drop, List.length_reverse, List.length_cons, List.length_nil]; omega), fun pn np_ => ?_⟩
        have x_ := same_upd (o := .lst (xs.take i ++ xs.drop (i + 1))) np_
        have e_pn := rmL_new (o := .lst (xs.take i ++ xs.drop (i + 1))) hin np_
        replace hin := hin.same x_
        replace hx := hx.same (rmL_same x_)
        replace hpc := hpc.same (rmL_same x_)
        replace D := D.same x_
        replace sB := sB.trans (.same x_)
        replace hw := rmL_same x_ _ _ hw
        replace hd := dp_same (rmL_same x_) _ _ hd
        replace hp := x_ _ _ hp
        replace e_ah := rmL_same x_ _ _ e_ah
        replace e_af := rmL_same x_ _ _ e_af
        generalize upd Y5 pn (.lst (xs.take i ++ xs.drop (i + 1))) = B1 at *
        clear x_ np_
        obtain ⟨w1, w2, hw12, pa, pb⟩ := hpc.split i
        obtain ⟨dx, w3, hdx, okx, hwx, pr⟩ := pb.one hv
        replace pa := pa.le (Nat.le_succ e) (Nat.le_succ N) (Nat.le_refl _)
        have pc : Pc K (rmL (p :: as) B1) (e + 1) (N + 1) (2 * wt + 61) (xs.take i ++ xs.drop (i + 1)) := (pa.app (pr.le (Nat.le_succ e) (Nat.le_succ N) (Nat.le_refl _))).le (Nat.le_refl _) (Nat.le_refl _) (by omega)
        refine ⟨_, rfl, _, _, _, _, _, rfl, .ty _, ty_of (dp_same rmL_sub _ _ hd), kit_ty (kL d), _, rfl, ?_⟩
        by_cases hL : isL d = true
        · rw [hL]
          exact iteT ⟨_, rfl, q _ _ sB (D.le (by omega)) (pc.lst e_pn (by simp only [List.length_append, List.length_take, List.length_drop, List.length_reverse, List.length_cons, List.length_nil]; omega)).pop⟩
        · rw [eq_false_of_ne_true hL]
          refine iteF ⟨_, rfl, pn, _, rfl, .inl ⟨SqL.of (rmL_sub _ _ e_pn), fun t_ np_ => ?_⟩⟩
          have x_ := same_upd (o := .tup (xs.take i ++ xs.drop (i + 1))) np_
          exact q _ _ (sB.trans (.same x_)) ((D.le (by omega)).same x_) ((pc.same (rmL_same x_)).tup (rmL_new hin np_) (by simp only [List.length_append, List.length_take, List.length_drop, List.length_reverse, List.length_cons, List.length_nil]; omega)).pop
      refine ⟨_, rfl, rfl, _, rfl, ite2 (fun c3 => ?_) (fun c3 => ?_)⟩
      · skip
        refine ⟨_, rfl, _, rfl, _, rfl, p, xs, i, x, rfl, rfl, SqL.of hp, atI_nat hv, by show 1 ≤ sizeLine; decide, fun o1 np_ => ?_⟩
        have x_ := same_upd (o := .lst [x]) np_
        have e_o1 := rmL_new (o := .lst [x]) hin np_
        replace hin := hin.same x_
        replace hx := hx.same (rmL_same x_)
        replace hpc := hpc.same (rmL_same x_)
        replace D := D.same x_
        replace sB := sB.trans (.same x_)
        replace hw := rmL_same x_ _ _ hw
        replace hd := dp_same (rmL_same x_) _ _ hd
        replace hp := x_ _ _ hp
        replace e_ah := rmL_same x_ _ _ e_ah
        replace e_af := rmL_same x_ _ _ e_af
        generalize upd Y5 o1 (.lst [x]) = C1 at *
        clear x_ np_
        refine ⟨ah, o1, _, _, rfl, rfl, rmL_sub _ _ e_ah, rmL_sub _ _ e_o1, le_line (by simp only [List.length_append, List.length_take, List.length_drop, List.length_reverse, List.length_cons, List.length_nil]; omega), fun c1 np_ => ?_⟩
        have x_ := same_upd (o := .lst (xs.take i ++ [x])) np_
        have e_c1 := rmL_new (o := .lst (xs.take i ++ [x])) hin np_
        replace hin := hin.same x_
        replace hx := hx.same (rmL_same x_)
        replace hpc := hpc.same (rmL_same x_)
        replace D := D.same x_
        replace sB := sB.trans (.same x_)
        replace hw := rmL_same x_ _ _ hw
        replace hd := dp_same (rmL_same x_) _ _ hd
        replace hp := x_ _ _ hp
        replace e_ah := rmL_same x_ _ _ e_ah
        replace e_af := rmL_same x_ _ _ e_af
        replace e_o1 := rmL_same x_ _ _ e_o1
        generalize upd C1 c1 (.lst (xs.take i ++ [x])) = C2 at *
        clear x_ np_
        refine ⟨_, rfl, _, rfl, _, rfl, p, _, rfl, SqL.of hp, fun dr np_ => ?_⟩
        rw [cut_from]
        have x_ := same_upd (o := .lst (xs.drop i)) np_
        have e_dr := rmL_new (o := .lst (xs.drop i)) hin np_
        replace hin := hin.same x_
        replace hx := hx.same (rmL_same x_)
        replace hpc := hpc.same (rmL_same x_)
        replace D := D.same x_
        replace sB := sB.trans (.same x_)
        replace hw := rmL_same x_ _ _ hw
        replace hd := dp_same (rmL_same x_) _ _ hd
        replace hp := x_ _ _ hp
        replace e_ah := rmL_same x_ _ _ e_ah
        replace e_af := rmL_same x_ _ _ e_af
        replace e_o1 := rmL_same x_ _ _ e_o1
        replace e_c1 := rmL_same x_ _ _ e_c1
        generalize upd C2 dr (.lst (xs.drop i)) = C3 at *
        clear x_ np_
        refine ⟨c1, dr, _, _, rfl, rfl, rmL_sub _ _ e_c1, rmL_sub _ _ e_dr, le_line (by simp only [List.length_append, List.length_take, List.length_drop, List.length_reverse, List.length_cons, List.length_nil]; omega), fun pn np_ => ?_⟩
        have x_ := same_upd (o := .lst ((xs.take i ++ [x]) ++ xs.drop i)) np_
        have e_pn := rmL_new (o := .lst ((xs.take i ++ [x]) ++ xs.drop i)) hin np_
        replace hin := hin.same x_
        replace hx := hx.same (rmL_same x_)
        replace hpc := hpc.same (rmL_same x_)
        replace D := D.same x_
        replace sB := sB.trans (.same x_)
        replace hw := rmL_same x_ _ _ hw
        replace hd := dp_same (rmL_same x_) _ _ hd
        replace hp := x_ _ _ hp
        replace e_ah := rmL_same x_ _ _ e_ah
        replace e_af := rmL_same x_ _ _ e_af
        replace e_o1 := rmL_same x_ _ _ e_o1
        replace e_c1 := rmL_same x_ _ _ e_c1
        replace e_dr := rmL_same x_ _ _ e_dr
        generalize upd C3 pn (.lst ((xs.take i ++ [x]) ++ xs.drop i)) = C4 at *
        clear x_ np_
        obtain ⟨w1, w2, hw12, pa, pb⟩ := hpc.split i
        obtain ⟨dx, w3, hdx, okx, hwx, pr⟩ := pb.one hv
        replace pa := pa.le (Nat.le_succ e) (Nat.le_succ N) (Nat.le_refl _)
        have pc : Pc K (rmL (p :: as) C4) (e + 1) (N + 1) (2 * wt + 61) ((xs.take i ++ [x]) ++ xs.drop i) := ((pa.app ((pc_one hdx okx (w := w2) (by omega)).le (Nat.le_succ e) (Nat.le_succ N) (Nat.le_refl _))).app (pb.le (Nat.le_succ e) (Nat.le_succ N) (Nat.le_refl _))).le (Nat.le_refl _) (Nat.le_refl _) (by omega)
        refine ⟨_, rfl, _, _, _, _, _, rfl, .ty _, ty_of (dp_same rmL_sub _ _ hd), kit_ty (kL d), _, rfl, ?_⟩
        by_cases hL : isL d = true
        · rw [hL]
          exact iteT ⟨_, rfl, q _ _ sB (D.le (by omega)) (pc.lst e_pn (by simp only [List.length_append, List.length_take, List.length_drop, List.length_reverse, List.length_cons, List.length_nil]; omega)).pop⟩
        · rw [eq_false_of_ne_true hL]
          refine iteF ⟨_, rfl, pn, _, rfl, .inl ⟨SqL.of (rmL_sub _ _ e_pn), fun t_ np_ => ?_⟩⟩
          have x_ := same_upd (o := .tup ((xs.take i ++ [x]) ++ xs.drop i)) np_
          exact q _ _ (sB.trans (.same x_)) ((D.le (by omega)).same x_) ((pc.same (rmL_same x_)).tup (rmL_new hin np_) (by simp only [List.length_append, List.length_take, List.length_drop, List.length_reverse, List.length_cons, List.length_nil]; omega)).pop
      refine ⟨_, rfl, rfl, _, rfl, ite2 (fun c3 => ?_) (fun c3 => ?_)⟩
      · skip
        have hcl : (cutV xs (some (i : Int)) (some ((i : Int) + 2))).length ≤ 2 := by
          unfold cutV
          rw [HT.sIx_nat, show ((i : Int) + 2) = ((i + 2 : Nat) : Int) from rfl, HT.sIx_nat, List.length_take]
          omega
        have hcp : ∀ {G}, Pc K G e N wt xs → Pc K G e N wt (cutV xs (some (i : Int)) (some ((i : Int) + 2))) := fun h => h.cut _ _
        refine ⟨_, rfl, _, rfl, _, rfl, _, rfl, _, rfl, _, _, rfl, rfl, _, rfl, p, _, rfl, SqL.of hp, ?_⟩
        generalize cutV xs (some (i : Int)) (some ((i : Int) + 2)) = ct at *
        intro s1 np_
        have x_ := same_upd (o := .lst ct) np_
        have e_s1 := rmL_new (o := .lst ct) hin np_
        replace hin := hin.same x_
        replace hx := hx.same (rmL_same x_)
        replace hpc := hpc.same (rmL_same x_)
        replace D := D.same x_
        replace sB := sB.trans (.same x_)
        replace hw := rmL_same x_ _ _ hw
        replace hd := dp_same (rmL_same x_) _ _ hd
        replace hp := x_ _ _ hp
        replace e_ah := rmL_same x_ _ _ e_ah
        replace e_af := rmL_same x_ _ _ e_af
        generalize upd Y5 s1 (.lst ct) = HS at *
        clear x_ np_
        refine ⟨s1, _, rfl, SqL.of (rmL_sub _ _ e_s1), fun s2 np_ => ?_⟩
        have x_ := same_upd (o := .lst (ct.reverse)) np_
        have e_s2 := rmL_new (o := .lst (ct.reverse)) hin np_
        replace hin := hin.same x_
        replace hx := hx.same (rmL_same x_)
        replace hpc := hpc.same (rmL_same x_)
        replace D := D.same x_
        replace sB := sB.trans (.same x_)
        replace hw := rmL_same x_ _ _ hw
        replace hd := dp_same (rmL_same x_) _ _ hd
        replace hp := x_ _ _ hp
        replace e_ah := rmL_same x_ _ _ e_ah
        replace e_af := rmL_same x_ _ _ e_af
        replace e_s1 := rmL_same x_ _ _ e_s1
        generalize upd HS s2 (.lst (ct.reverse)) = D1 at *
        clear x_ np_
        refine ⟨ah, s2, _, _, rfl, rfl, rmL_sub _ _ e_ah, rmL_sub _ _ e_s2, le_line (by simp only [List.length_append, List.length_take, List.length_drop, List.length_reverse, List.length_cons, List.length_nil]; omega), fun c1 np_ => ?_⟩
        have x_ := same_upd (o := .lst (xs.take i ++ ct.reverse)) np_
        have e_c1 := rmL_new (o := .lst (xs.take i ++ ct.reverse)) hin np_
        replace hin := hin.same x_
        replace hx := hx.same (rmL_same x_)
        replace hpc := hpc.same (rmL_same x_)
        replace D := D.same x_
        replace sB := sB.trans (.same x_)
        replace hw := rmL_same x_ _ _ hw
        replace hd := dp_same (rmL_same x_) _ _ hd
        replace hp := x_ _ _ hp
        replace e_ah := rmL_same x_ _ _ e_ah
        replace e_af := rmL_same x_ _ _ e_af
        replace e_s1 := rmL_same x_ _ _ e_s1
        replace e_s2 := rmL_same x_ _ _ e_s2
        generalize upd D1 c1 (.lst (xs.take i ++ ct.reverse)) = D2 at *
        clear x_ np_
        refine ⟨_, rfl, _, rfl, _, _, rfl, rfl, _, rfl, p, _, rfl, SqL.of hp, fun s3 np_ => ?_⟩
        rw [show cutV xs (some ((i : Int) + 2)) none = xs.drop (i + 2) from cut_from xs (i + 2)]
        have x_ := same_upd (o := .lst (xs.drop (i + 2))) np_
        have e_s3 := rmL_new (o := .lst (xs.drop (i + 2))) hin np_
        replace hin := hin.same x_
        replace hx := hx.same (rmL_same x_)
        replace hpc := hpc.same (rmL_same x_)
        replace D := D.same x_
        replace sB := sB.trans (.same x_)
        replace hw := rmL_same x_ _ _ hw
        replace hd := dp_same (rmL_same x_) _ _ hd
        replace hp := x_ _ _ hp
        replace e_ah := rmL_same x_ _ _ e_ah
        replace e_af := rmL_same x_ _ _ e_af
        replace e_s1 := rmL_same x_ _ _ e_s1
        replace e_s2 := rmL_same x_ _ _ e_s2
        replace e_c1 := rmL_same x_ _ _ e_c1
        generalize upd D2 s3 (.lst (xs.drop (i + 2))) = D3 at *
        clear x_ np_
        refine ⟨c1, s3, _, _, rfl, rfl, rmL_sub _ _ e_c1, rmL_sub _ _ e_s3, le_line (by simp only [List.length_append, List.length_take, List.length_drop, List.length_reverse, List.length_cons, List.length_nil]; omega), fun pn np_ => ?_⟩
        have x_ := same_upd (o := .lst ((xs.take i ++ ct.reverse) ++ xs.drop (i + 2))) np_
        have e_pn := rmL_new (o := .lst ((xs.take i ++ ct.reverse) ++ xs.drop (i + 2))) hin np_
        replace hin := hin.same x_
        replace hx := hx.same (rmL_same x_)
        replace hpc := hpc.same (rmL_same x_)
        replace D := D.same x_
        replace sB := sB.trans (.same x_)
        replace hw := rmL_same x_ _ _ hw
        replace hd := dp_same (rmL_same x_) _ _ hd
        replace hp := x_ _ _ hp
        replace e_ah := rmL_same x_ _ _ e_ah
        replace e_af := rmL_same x_ _ _ e_af
        replace e_s1 := rmL_same x_ _ _ e_s1
        replace e_s2 := rmL_same x_ _ _ e_s2
        replace e_c1 := rmL_same x_ _ _ e_c1
        replace e_s3 := rmL_same x_ _ _ e_s3
        generalize upd D3 pn (.lst ((xs.take i ++ ct.reverse) ++ xs.drop (i + 2))) = D4 at *
        clear x_ np_
        obtain ⟨w1, w2, hw12, pa, pb⟩ := hpc.split i
        obtain ⟨dx, w3, hdx, okx, hwx, pr⟩ := pb.one hv
        replace pa := pa.le (Nat.le_succ e) (Nat.le_succ N) (Nat.le_refl _)
        have pr1 : Pc K (rmL (p :: as) D4) e N w3 (xs.drop (i + 2)) := by have := pr.drop 1; rwa [List.drop_drop] at this
        have pc : Pc K (rmL (p :: as) D4) (e + 1) (N + 1) (2 * wt + 61) ((xs.take i ++ ct.reverse) ++ xs.drop (i + 2)) := ((pa.app ((hcp hpc).rev.le (Nat.le_succ e) (Nat.le_succ N) (Nat.le_refl _))).app (pr1.le (Nat.le_succ e) (Nat.le_succ N) (Nat.le_refl _))).le (Nat.le_refl _) (Nat.le_refl _) (by omega)
        refine ⟨_, rfl, _, _, _, _, _, rfl, .ty _, ty_of (dp_same rmL_sub _ _ hd), kit_ty (kL d), _, rfl, ?_⟩
        by_cases hL : isL d = true
        · rw [hL]
          exact iteT ⟨_, rfl, q _ _ sB (D.le (by omega)) (pc.lst e_pn (by simp only [List.length_append, List.length_take, List.length_drop, List.length_reverse, List.length_cons, List.length_nil]; omega)).pop⟩
        · rw [eq_false_of_ne_true hL]
          refine iteF ⟨_, rfl, pn, _, rfl, .inl ⟨SqL.of (rmL_sub _ _ e_pn), fun t_ np_ => ?_⟩⟩
          have x_ := same_upd (o := .tup ((xs.take i ++ ct.reverse) ++ xs.drop (i + 2))) np_
          exact q _ _ (sB.trans (.same x_)) ((D.le (by omega)).same x_) ((pc.same (rmL_same x_)).tup (rmL_new hin np_) (by simp only [List.length_append, List.length_take, List.length_drop, List.length_reverse, List.length_cons, List.length_nil]; omega)).pop
      refine ⟨_, rfl, rfl, _, rfl, ite2 (fun c3 => ?_) (fun c3 => ?_)⟩
      · skip
        refine ⟨_, rfl, p, xs, rfl, SqL.of hp, fun pn np_ => ?_⟩
        have x_ := same_upd (o := .lst (xs.reverse)) np_
        have e_pn := rmL_new (o := .lst (xs.reverse)) hin np_
        replace hin := hin.same x_
        replace hx := hx.same (rmL_same x_)
        replace hpc := hpc.same (rmL_same x_)
        replace D := D.same x_
        replace sB := sB.trans (.same x_)
        replace hw := rmL_same x_ _ _ hw
        replace hd := dp_same (rmL_same x_) _ _ hd
        replace hp := x_ _ _ hp
        replace e_ah := rmL_same x_ _ _ e_ah
        replace e_af := rmL_same x_ _ _ e_af
        generalize upd Y5 pn (.lst (xs.reverse)) = F1 at *
        clear x_ np_
        have pc : Pc K (rmL (p :: as) F1) (e + 1) (N + 1) (2 * wt + 61) (xs.reverse) := ((hpc.rev.le (Nat.le_succ e) (Nat.le_succ N) (Nat.le_refl _))).le (Nat.le_refl _) (Nat.le_refl _) (by omega)
        refine ⟨_, rfl, _, _, _, _, _, rfl, .ty _, ty_of (dp_same rmL_sub _ _ hd), kit_ty (kL d), _, rfl, ?_⟩
        by_cases hL : isL d = true
        · rw [hL]
          exact iteT ⟨_, rfl, q _ _ sB (D.le (by omega)) (pc.lst e_pn (by simp only [List.length_append, List.length_take, List.length_drop, List.length_reverse, List.length_cons, List.length_nil]; omega)).pop⟩
        · rw [eq_false_of_ne_true hL]
          refine iteF ⟨_, rfl, pn, _, rfl, .inl ⟨SqL.of (rmL_sub _ _ e_pn), fun t_ np_ => ?_⟩⟩
          have x_ := same_upd (o := .tup (xs.reverse)) np_
          exact q _ _ (sB.trans (.same x_)) ((D.le (by omega)).same x_) ((pc.same (rmL_same x_)).tup (rmL_new hin np_) (by simp only [List.length_append, List.length_take, List.length_drop, List.length_reverse, List.length_cons, List.length_nil]; omega)).pop
      refine ⟨_, rfl, rfl, _, rfl, ite2 (fun c3 => ?_) (fun c3 => ?_)⟩
      · skip
        refine ⟨_, rfl, _, rfl, _, rfl, a, c, l, .non, n + 1 + 1 + 1, e, N + 1, p :: as, .none, ws, rfl, D, by omega, he, hs2, hin, hw, wl, wa, .non, trivial, fun vo HO_ s_ D_ g => ?_⟩
        replace hin := hin.but s_ D_
        replace hx := hx.same (rmL_but (moreS hs2 s_))
        replace hpc := hpc.same (rmL_but (moreS hs2 s_))
        replace D := D_
        replace sB := sB.trans s_
        replace hw := rmL_but (moreS hs2 s_) _ _ hw
        replace hd := dp_same (rmL_but (moreS hs2 s_)) _ _ hd
        replace hp := s_ _ _ ne hp
        replace e_ah := rmL_but (moreS hs2 s_) _ _ e_ah
        replace e_af := rmL_but (moreS hs2 s_) _ _ e_af
        clear s_
        refine ⟨by show 1 ≤ sizeLine; decide, fun o1 np_ => ?_⟩
        have x_ := same_upd (o := .lst [vo]) np_
        have e_o1 := rmL_new (o := .lst [vo]) hin np_
        replace hin := hin.same x_
        replace hx := hx.same (rmL_same x_)
        replace hpc := hpc.same (rmL_same x_)
        replace g := g.but (.same x_)
        replace D := D.same x_
        replace sB := sB.trans (.same x_)
        replace hw := rmL_same x_ _ _ hw
        replace hd := dp_same (rmL_same x_) _ _ hd
        replace hp := x_ _ _ hp
        replace e_ah := rmL_same x_ _ _ e_ah
        replace e_af := rmL_same x_ _ _ e_af
        generalize upd HO_ o1 (.lst [vo]) = G1 at *
        clear x_ np_
        refine ⟨ah, o1, _, _, rfl, rfl, rmL_sub _ _ e_ah, rmL_sub _ _ e_o1, le_line (by simp only [List.length_append, List.length_take, List.length_drop, List.length_reverse, List.length_cons, List.length_nil]; omega), fun c1 np_ => ?_⟩
        have x_ := same_upd (o := .lst (xs.take i ++ [vo])) np_
        have e_c1 := rmL_new (o := .lst (xs.take i ++ [vo])) hin np_
        replace hin := hin.same x_
        replace hx := hx.same (rmL_same x_)
        replace hpc := hpc.same (rmL_same x_)
        replace g := g.but (.same x_)
        replace D := D.same x_
        replace sB := sB.trans (.same x_)
        replace hw := rmL_same x_ _ _ hw
        replace hd := dp_same (rmL_same x_) _ _ hd
        replace hp := x_ _ _ hp
        replace e_ah := rmL_same x_ _ _ e_ah
        replace e_af := rmL_same x_ _ _ e_af
        replace e_o1 := rmL_same x_ _ _ e_o1
        generalize upd G1 c1 (.lst (xs.take i ++ [vo])) = G2 at *
        clear x_ np_
        refine ⟨_, rfl, _, rfl, _, rfl, p, _, rfl, SqL.of hp, fun dr np_ => ?_⟩
        rw [cut_from]
        have x_ := same_upd (o := .lst (xs.drop i)) np_
        have e_dr := rmL_new (o := .lst (xs.drop i)) hin np_
        replace hin := hin.same x_
        replace hx := hx.same (rmL_same x_)
        replace hpc := hpc.same (rmL_same x_)
        replace g := g.but (.same x_)
        replace D := D.same x_
        replace sB := sB.trans (.same x_)
        replace hw := rmL_same x_ _ _ hw
        replace hd := dp_same (rmL_same x_) _ _ hd
        replace hp := x_ _ _ hp
        replace e_ah := rmL_same x_ _ _ e_ah
        replace e_af := rmL_same x_ _ _ e_af
        replace e_o1 := rmL_same x_ _ _ e_o1
        replace e_c1 := rmL_same x_ _ _ e_c1
        generalize upd G2 dr (.lst (xs.drop i)) = G3 at *
        clear x_ np_
        refine ⟨c1, dr, _, _, rfl, rfl, rmL_sub _ _ e_c1, rmL_sub _ _ e_dr, le_line (by simp only [List.length_append, List.length_take, List.length_drop, List.length_reverse, List.length_cons, List.length_nil]; omega), fun pn np_ => ?_⟩
        have x_ := same_upd (o := .lst ((xs.take i ++ [vo]) ++ xs.drop i)) np_
        have e_pn := rmL_new (o := .lst ((xs.take i ++ [vo]) ++ xs.drop i)) hin np_
        replace hin := hin.same x_
        replace hx := hx.same (rmL_same x_)
        replace hpc := hpc.same (rmL_same x_)
        replace g := g.but (.same x_)
        replace D := D.same x_
        replace sB := sB.trans (.same x_)
        replace hw := rmL_same x_ _ _ hw
        replace hd := dp_same (rmL_same x_) _ _ hd
        replace hp := x_ _ _ hp
        replace e_ah := rmL_same x_ _ _ e_ah
        replace e_af := rmL_same x_ _ _ e_af
        replace e_o1 := rmL_same x_ _ _ e_o1
        replace e_c1 := rmL_same x_ _ _ e_c1
        replace e_dr := rmL_same x_ _ _ e_dr
        generalize upd G3 pn (.lst ((xs.take i ++ [vo]) ++ xs.drop i)) = G4 at *
        clear x_ np_
        obtain ⟨w1, w2, hw12, pa, pb⟩ := hpc.split i
        obtain ⟨dx, w3, hdx, okx, hwx, pr⟩ := pb.one hv
        replace pa := pa.le (Nat.le_succ e) (Nat.le_succ N) (Nat.le_refl _)
        have N1 : 1 ≤ N := by
          cases N with
          | zero => exact okx.elim
          | succ m => omega
        obtain ⟨dg, hdg, okg, hwg⟩ := g
        have pc : Pc K (rmL (p :: as) G4) (e + 1) (N + 1) (2 * wt + 61) ((xs.take i ++ [vo]) ++ xs.drop i) := ((pa.app (pc_one hdg (okg.mono (Nat.le_refl _) (by omega)) (w := 61) (by omega))).app (pb.le (Nat.le_succ e) (Nat.le_succ N) (Nat.le_refl _))).le (Nat.le_refl _) (Nat.le_refl _) (by omega)
        refine ⟨_, rfl, _, _, _, _, _, rfl, .ty _, ty_of (dp_same rmL_sub _ _ hd), kit_ty (kL d), _, rfl, ?_⟩
        by_cases hL : isL d = true
        · rw [hL]
          exact iteT ⟨_, rfl, q _ _ sB (D.le (by omega)) (pc.lst e_pn (by simp only [List.length_append, List.length_take, List.length_drop, List.length_reverse, List.length_cons, List.length_nil]; omega)).pop⟩
        · rw [eq_false_of_ne_true hL]
          refine iteF ⟨_, rfl, pn, _, rfl, .inl ⟨SqL.of (rmL_sub _ _ e_pn), fun t_ np_ => ?_⟩⟩
          have x_ := same_upd (o := .tup ((xs.take i ++ [vo]) ++ xs.drop i)) np_
          exact q _ _ (sB.trans (.same x_)) ((D.le (by omega)).same x_) ((pc.same (rmL_same x_)).tup (rmL_new hin np_) (by simp only [List.length_append, List.length_take, List.length_drop, List.length_reverse, List.length_cons, List.length_nil]; omega)).pop
      obtain ⟨w1, w2, hw12, pa, pb⟩ := hpc.split i
      obtain ⟨dx, w3, hdx, okx, hwx, pr⟩ := pb.one hv
      replace pa := pa.le (Nat.le_succ e) (Nat.le_succ N) (Nat.le_refl _)
      refine ⟨_, rfl, _, rfl, _, rfl, p, xs, i, x, rfl, rfl, SqL.of hp, atI_nat hv, _, rfl, a, c, l, x, n + 1 + 1 + 1, e, dx.weight, p :: as, dx, ws, rfl, D, by omega, he, hs2, hin, hw, wl, wa, hdx, okx, Nat.le_refl _, fun vo HO_ s_ D_ g => ?_⟩
      clear pb hdx
      replace hin := hin.but s_ D_
      replace hx := hx.same (rmL_but (moreS hs2 s_))
      replace hpc := hpc.same (rmL_but (moreS hs2 s_))
      replace pa := pa.same (rmL_but (moreS hs2 s_))
      replace pr := pr.same (rmL_but (moreS hs2 s_))
      replace D := D_
      replace sB := sB.trans s_
      replace hw := rmL_but (moreS hs2 s_) _ _ hw
      replace hd := dp_same (rmL_but (moreS hs2 s_)) _ _ hd
      replace hp := s_ _ _ ne hp
      replace e_ah := rmL_but (moreS hs2 s_) _ _ e_ah
      replace e_af := rmL_but (moreS hs2 s_) _ _ e_af
      clear s_
      refine ⟨_, rfl, _, rfl, p, xs, i, i, rfl, rfl, hp, by
        unfold ixN
        rw [if_pos (by omega), if_pos (by omega)]
        simp, ?_⟩
      have es : xs.set i vo = xs.take i ++ ([vo] ++ xs.drop (i + 1)) := by
        rw [List.set_eq_take_append_cons_drop, if_pos hi]
        rfl
      obtain ⟨dg, hdg, okg, hwg⟩ := g
      have pc : Pc K (rmL (p :: as) HO_) (e + 1) (N + 1) (2 * wt + 61) (xs.set i vo) := by
        rw [es]
        exact (pa.app ((pc_one hdg okg (w := 2 * dx.weight + 62) (by omega)).app (pr.le (Nat.le_succ e) (Nat.le_succ N) (Nat.le_refl _)))).le (Nat.le_refl _) (Nat.le_refl _) (by omega)
      have eU : rmL (p :: as) (upd HO_ p (.lst (xs.set i vo))) = rmL (p :: as) HO_ := rmL_upd (List.mem_cons_self ..)
      rw [← eU] at hd pc
      replace hd := dp_same rmL_pop _ _ hd
      replace pc := pc.same rmL_pop
      replace D := D.upd (o := .lst (xs.set i vo)) ne
      replace sB : ButL [a, c] H (upd HO_ p (.lst (xs.set i vo))) := fun b o nb hb => by
        rw [upd_ne (ne_of_none hb fp)]
        exact sB b o nb hb
      replace hin : Ins as (upd HO_ p (.lst (xs.set i vo))) := fun b hb => by
        obtain ⟨u, hu⟩ := hin b (List.mem_cons_of_mem _ hb)
        exact ⟨u, by rw [upd_ne (fun z : b = p => npA (z ▸ hb))]; exact hu⟩
      have e_p : rmL as (upd HO_ p (.lst (xs.set i vo))) p = some (.lst (xs.set i vo)) := by
        rw [rmL_at npA]
        exact upd_same
      clear hw hx hpc hp hdg eU pa pr
      generalize upd HO_ p (.lst (xs.set i vo)) = HF at *
      refine ⟨_, rfl, _, _, _, _, _, rfl, .ty _, ty_of (dp_same rmL_sub _ _ hd), kit_ty (kL d), _, rfl, ?_⟩
      by_cases hL : isL d = true
      · rw [hL]
        exact iteT ⟨_, rfl, q _ _ sB (D.le (by omega)) (pc.lst e_p (by rw [List.length_set]; omega))⟩
      · rw [eq_false_of_ne_true hL]
        refine iteF ⟨_, rfl, p, _, rfl, .inl ⟨SqL.of (rmL_sub _ _ e_p), fun t_ np_ => ?_⟩⟩
        have x_ := same_upd (o := .tup (xs.set i vo)) np_
        exact q _ _ (sB.trans (.same x_)) ((D.le (by omega)).same x_) ((pc.same (rmL_same x_)).tup (rmL_new hin np_) (by rw [List.length_set]; omega))
    · rw [eq_false_of_ne_true hq]
      exact iteT (iteT other)
  exact ⟨_, rfl, _, rfl, _, rfl, a, c, l, v, n + 1, e, N + 1, as, d, ws, rfl, D, by omega, he, hs, hin, hw, wl, wa, hd, ok, fun v' H' s' D' g' => q v' H' (sB.trans s') (D'.le (by omega)) (g'.le (Nat.le_refl _) (by omega) (by omega))⟩
theorem ok_bents {k : Nat} (DB : Df K mg "_law_bent" sBent ["_law_state", "_law_stuff", "_law_names_here"] f fd) (GT : FnG P w K mg base CX0 k "_law_take" ["_law_state", "_law_below"] spTake) (GO : FnG P w K mg base CX0 k "_law_other" ["_law_state", "_law_stuff", "_law_names_here"] (spOther K))
    (m_isinstance : mg "isinstance" = none) (m_tuple : mg "tuple" = none) (m_list : mg "list" = none) (m_len : mg "len" = none) : ∀ N, FnG P w K mg base CX0 (k + N) "_law_bent" ["_law_state", "_law_stuff", "_law_names_here"] (spBent K N)
  | 0 => DB.g ⟨fun vs H Q E h => by
      obtain ⟨a, c, l, v, n, e, wt, as, d, ws, rfl, _⟩ := h
      rfl, fun A outer s H args us vs Q E _ _ _ _ h => by
      obtain ⟨a, c, l, v, n, e, wt, as, d, ws, _, _, _, _, _, _, _, _, _, _, ok, _⟩ := h
      exact ok.elim⟩
  | N + 1 => DB.g (ok_bent (k := k + N) DB.F (GT.mono (by omega)) (GO.mono (by omega)) (ok_bents DB GT GO m_isinstance m_tuple m_list m_len N) m_isinstance m_tuple m_list m_len)
end
end Fd

set_option Elab.async false
set_option linter.all false
set_option maxRecDepth 100000
set_option maxHeartbeats 4000000
namespace Fd
open PySem PySem.Spec PyProof.Rows L2
/-! ### repr of any plain thing -/
section
variable {X : Cx}
def rReprA (K : PySem.W.Frag) : List V → Hp → VK → Prop := fun xs H Q => ∃ (v : V) (d : PyData), xs = [v] ∧ Dp K H v d ∧ d.showable = true ∧ d.hasDict = false ∧ d.depth ≤ 60 ∧ d.shown.length ≤ sizeLine ∧ ∃ z, d.shown = z ∧ Q (.str z) H
theorem call_reprA (hg : X.A.guards = some []) (hu : X.A.units + 64 < cLine) : CallR X (.builtin "repr") (rReprA X.K) := by
  intro pins s σ H xs us Q I r h
  obtain ⟨v, d, rfl, hd, h2, h3, h4, h5, _, rfl, q⟩ := h
  obtain ⟨u, rfl, rx⟩ := vals1 r
  cases d with
  | none =>
    cases hd
    cases (show u = Value.none from rx)
    exact PySem.P.repr_of_none ⟨.str "None", H, I.tok _, ⟨_, rfl⟩, q⟩
  | bool b =>
    cases hd
    cases (show u = Value.bool b from rx)
    exact PySem.P.repr_of_bool ⟨.str (if b then "True" else "False"), H, I.tok _, ⟨_, rfl⟩, q⟩
  | int i =>
    cases hd
    obtain ⟨t, rfl⟩ := rx
    exact PySem.P.repr_of_int (of_decide_eq_true h2) ⟨.str (toString i), H, I.tok _, ⟨_, rfl⟩, q⟩
  | str x =>
    cases hd
    obtain ⟨t, rfl⟩ := rx
    exact PySem.P.repr_of_str ⟨.str (reprText x), H, I.tok _, ⟨_, rfl⟩, q⟩ (hsz := h5)
  | list ds =>
    obtain ⟨as, rd⟩ := Dp.reads I _ v u hd rx
    obtain ⟨a, rfl⟩ := PyProof.Rows.isRef_of_reads rd rfl
    exact repr_of_reads' rd h2 (PyData.noDict_hsm h3) hg (by omega) (fun _ _ e => e) (fun h' u tk hk => ⟨.str (PyData.list ds).shown, H, I.kept hk, ⟨_, rfl⟩, q⟩) h5
  | tuple ds =>
    obtain ⟨as, rd⟩ := Dp.reads I _ v u hd rx
    obtain ⟨a, rfl⟩ := PyProof.Rows.isRef_of_reads rd rfl
    exact repr_of_reads' rd h2 (PyData.noDict_hsm h3) hg (by omega) (fun _ _ e => e) (fun h' u tk hk => ⟨.str (PyData.tuple ds).shown, H, I.kept hk, ⟨_, rfl⟩, q⟩) h5
  | dict _ => cases hd
end
theorem sh_all : ∀ {ds : List PyData}, (∀ d ∈ ds, d.showable = true ∧ d.hasDict = false ∧ d.leavesShort 13 = true) → PyData.showableAll ds = true ∧ PyData.hasDictAll ds = false ∧ PyData.leavesShortAll 13 ds = true
  | [], _ => ⟨rfl, rfl, rfl⟩
  | d :: ds, h => by
    obtain ⟨a1, a2, a3⟩ := h d (List.mem_cons_self ..)
    obtain ⟨b1, b2, b3⟩ := sh_all fun x hx => h x (List.mem_cons_of_mem _ hx)
    refine ⟨?_, ?_, ?_⟩
    · show (d.showable && PyData.showableAll ds) = true
      rw [a1, b1]; rfl
    · show (d.hasDict || PyData.hasDictAll ds) = false
      rw [a2, b2]; rfl
    · show (d.leavesShort 13 && PyData.leavesShortAll 13 ds) = true
      rw [a3, b3]; rfl
theorem OkT.shows {e : Nat} (he : e ≤ 3) : ∀ {n : Nat} {d : PyData}, OkT e n d → d.showable = true ∧ d.hasDict = false ∧ d.leavesShort 13 = true
  | 0, _, h => h.elim
  | _ + 1, .none, _ => ⟨rfl, rfl, rfl⟩
  | _ + 1, .bool _, _ => ⟨rfl, rfl, rfl⟩
  | _ + 1, .int i, h => by
    obtain ⟨h1, h2⟩ := (show -(1000001 + 1000000 * (e : Int)) ≤ i ∧ i ≤ 1000001 + 1000000 * (e : Int) from h)
    refine ⟨decide_eq_true ?_, rfl, decide_eq_true (PyData.shown_int_le2 (by omega) (by omega))⟩
    by_cases z : i.natAbs = 0
    · rw [z]; decide
    · have := (Nat.log2_lt z (k := 23)).mpr (by omega)
      omega
  | _ + 1, .str z, h => ⟨rfl, rfl, List.all_eq_true.mpr fun c hc => decide_eq_true (Nat.lt_of_lt_of_le (h.2 c hc) (by decide))⟩
  | n + 1, .list ds, h => sh_all fun d hd => (h.2 d hd).shows he
  | n + 1, .tuple ds, h => sh_all fun d hd => (h.2 d hd).shows he
  | _ + 1, .dict _, h => h.elim
theorem shown_fits {e n : Nat} {d : PyData} (he : e ≤ 3) (h : OkT e n d) (hw : d.weight ≤ 1000000) : d.shown.length ≤ sizeLine := by
  have := PyData.shown_le 13 (by decide) d (h.shows he).2.2
  have e : sizeLine = 16777216 := by decide
  omega
section
variable {P : Program} {w : World} {K : PySem.W.Frag} {mg : Str → Option Value} {base : Heap}
/-- one entry of a def, by its body there -/
theorem enter {x qual : Str} {st : Stmt} {f : Addr} {fd : FuncData} {N ps : List Str} {k : Nat} {A : Around} {outer : List Env} {s : Shared} {H : Hp} {args : Args} {us : List Value} {vs : List V} {Q : VK} {E : XK} (F : Fun K x qual st f fd) (S : FnScope N ps (defScope st))
    (hl : vs.length = ps.length) (hr : Room (k + 1) A) (e0 : Env0 P w K mg base A outer s H) (hb : BindsTo s fd args (ps.zip us)) (r : Vals vs us)
    (body : ∀ cdv : Value, Room k (A.deeper (envOfC qual (defScope st) s.heap.objs.size f cdv)) → ∃ t, PSs (cxOf CX0 P w K mg base N qual (defScope st) f cdv A outer s H E).nox (defBody st) t ∧ t { nx := fun _ H' => Q .non H', rt := Q } (L2.start N vs) H) :
    codeAny (model P w) A (.call (.ref f) args) (CR CX0 outer P w H s Q E) s := by
  obtain ⟨oc, od, kV, doc, pm, an, cdv, ct, osl, rfl, lk, hcd⟩ := F.ex
  obtain ⟨t, ht, hq⟩ := body cdv (hr.deeper _)
  have old : ∀ b o, base.get? b = some o → s.heap.get? b = some o := fun b o e => (e0.bs b o e).1
  refine codeAny_call_function hr.depth ((e0.mod.kin.keeps old) _ _ lk) rfl S.co S.gen rfl (PySem.W.codeRec_of (e0.mod.kin.keeps old) hcd) (hb _ _ _ _ (wpAny_newFunctionEnv_cells S.kind (fun y hy => ?_) fun env he s1 x => ?_))
  · exact (S.par y.1 (List.of_mem_zip (show (y.1, y.2) ∈ ps.zip us from hy)).1).elim .inl fun z => .inr ⟨z, PySem.W.cellsFrom_some _ _ _ (.inl z)⟩
  subst he
  refine ⟨(e0.mod.nolimit.keeps old).keeps x.toInCall.keep, codeAny_func (wpAny_mono (ht.nox.run [] s1 _ H _ (inv_start S hr.hd e0 hl r x) hq) (fun fl s' hs => ?_) fun _ _ hs => hs)⟩
  cases fl with
  | ret u =>
    obtain ⟨v, _, H', J, rv, q⟩ := hs
    exact ⟨v, H', J.os, J.bare, J.base, J.hok, rv, q⟩
  | next =>
    obtain ⟨_, H', J, q⟩ := hs
    exact ⟨.non, H', J.os, J.bare, J.base, J.hok, (rfl : RelV .non Value.none), q⟩
  | brk => obtain ⟨_, _, _, q⟩ := hs; exact q.elim
  | cont => obtain ⟨_, _, _, q⟩ := hs; exact q.elim
end
/-! ### defs that are called where nothing guards -/
structure FnOkG (P : Program) (w : World) (K : PySem.W.Frag) (mg : Str → Option Value) (base : Heap) (k : Nat) (f : Addr) (fd : FuncData) (ps : List Str) (sp : Sp) : Prop where
  len : ∀ vs H Q E, sp vs H Q E → vs.length = ps.length
  run : ∀ (A : Around) (outer : List Env) (s : Shared) (H : Hp) (args : Args) (us : List Value) (vs : List V) (Q : VK) (E : XK), A.guards = some [] → Room k A → Env0 P w K mg base A outer s H → BindsTo s fd args (ps.zip us) → Vals vs us → sp vs H Q E →
    codeAny (model P w) A (.call (.ref f) args) (CR CX0 outer P w H s Q E) s
theorem pe_callG {X : Cx} {k : Nat} {f : Addr} {fd : FuncData} {ps : List Str} {sp : Sp} {x : Str} {e : Expr} {es : List Expr} {t : TA} {p pos : Pos} (F : FnOkG X.prog X.w X.K X.mg X.base k f fd ps sp) (hA : X.A.guards = some []) (hr : Room k X.A) (hg : Gl X x) (hm : X.mg x = some (.ref f)) (hk : PySem.W.keepIn X.K (.ref f) = true) (hb : Binds X.K fd ps [])
    (ha : PA X (e :: es) t) (hdb : (x == ("__debug__" : Str)) = false := by decide) (he : starEach (e :: es) X.env = (false, eval e X.env) :: starEach es X.env := by rfl) (hpl : (backTo pos (starEach es X.env)).any (·.1) = false := by rfl) :
    PE X (.Call (.Name x p) (e :: es) [] pos) (tCall sp [] E0 t) := by
  refine ⟨fun pins s σ H Q I h => ?_⟩
  refine wpAny_Call_Name_kw (ld_glob I hg hm ?_ hdb)
  refine PySem.W.callWith_K (h₀ := X.base) I.ok.mod.kin hk (thn (ha.run pos pins s σ H _ I h) fun us s1 ⟨vs, H1, I1, r, q⟩ => ⟨I1.kIn, ?_⟩) he hpl
  have q' : sp vs H1 Q E0 := by
    have q0 : sp (vs ++ []) H1 Q E0 := q
    rw [List.append_nil] at q0
    exact q0
  have hl : us.length = ps.length := by rw [← r.length]; exact F.len _ _ _ _ q'
  have hb' := hb s1 us I1.kIn (by rw [List.append_nil]; exact hl)
  rw [List.append_nil] at hb'
  refine wpAny_call (codeAny_mono (F.run X.A X.stack s1 H1 ⟨us, []⟩ us vs Q E0 hA hr I1.env0 hb' r q') fun r s' hq => ?_)
  cases r with
  | error e => exact pass0 pins σ H1 s1 e s' I1 hq
  | ok fl =>
    cases fl with
    | ret u => exact I1.after hq
    | next => exact False.elim hq
    | brk => exact False.elim hq
    | cont => exact False.elim hq

section
variable {P : Program} {w : World} {K : PySem.W.Frag} {mg : Str → Option Value} {base : Heap} {f : Addr} {fd : FuncData}
abbrev sRight : Stmt := top 49
theorem scRight : FnScope ["_law_stuff", "_law_text", "_law_found"] ["_law_stuff"] (defScope sRight) := ⟨rfl, rfl, rfl, by decide +kernel, rfl, by decide +kernel, by decide +kernel⟩
def spRight (K : PySem.W.Frag) : Sp := fun vs H Q _ => ∃ (v : V) (d : PyData), vs = [v] ∧ Dp K H v d ∧ OkT 3 60 d ∧ d.weight ≤ 1000000 ∧ ∀ H', Same H H' → Q (.bl true) H'
theorem ok_right {k : Nat} (F : Fun K "_law_told_right" "_law_told_right" sRight f fd) (GB : FnG P w K mg base CX0 k "is_block" ["thing"] (spB K OkA (innerB 4))) (GL : FnG P w K mg base CX0 k "_law_is_block" ["_law_stuff", "_law_left"] (spBkL K 4))
    (m_repr : mg "repr" = none) (m_isinstance : mg "isinstance" = none) (m_bool : mg "bool" = none) : FnOkG P w K mg base (k + 1) f fd ["_law_stuff"] (spRight K) := by
  obtain ⟨_, _, G_is_block, m_is_block, k_is_block, b_is_block⟩ := GB
  obtain ⟨_, _, G__law_is_block, m__law_is_block, k__law_is_block, b__law_is_block⟩ := GL
  have sc := scRight
  refine ⟨fun vs H Q E h => ?_, fun A outer s H args us vs Q E hA hr0 e0 hb0 rv h => enter F sc ?_ hr0 e0 hb0 rv fun cdv hr => ?_⟩
  · obtain ⟨v, d, rfl, _⟩ := h
    rfl
  · obtain ⟨v, d, rfl, _⟩ := h
    rfl
  obtain ⟨v, d, rfl, hd, ok, hw, q⟩ := h
  refine ⟨_, (pss_cons (ps_par (i := 1) (j := 2) (by rfl) sc.nd rfl rfl (by decide) rfl rfl (pa_cons (pe_callB (call_reprA hA hr.units) (by rfl) m_repr (by decide +kernel) (pa_cons (pv 0) pa_nil)) (pa_cons (pe_call G_is_block (hr.mono (by omega)) (by rfl) m_is_block k_is_block b_is_block .nil pass0 (pa_cons (pv 0) pa_nil)) pa_nil)) (by rfl))
      (pss_one (ps_ret (pe_and (pe_callB call_isi (by rfl) m_isinstance (by decide +kernel) (pa_cons (pv 2) (pa_cons (pe_bltn (v := .ty "bool") (by rfl) m_bool (by decide +kernel) rfl) pa_nil))) (pe_and (pe_cmpR op_eq (pv 2) (pe_call G__law_is_block (hr.mono (by omega)) (by rfl) m__law_is_block k__law_is_block b__law_is_block .nil pass0 (pa_cons (pv 0) (pa_cons pe_int pa_nil))) (nomark _)) (pe_one (pe_cmpR op_eq (pe_callB (call_reprA hA hr.units) (by rfl) m_repr (by decide +kernel) (pa_cons (pv 0) pa_nil)) (pv 1) (nomark _)))))))), ?_⟩
  obtain ⟨s1, s2, _⟩ := ok.shows (Nat.le_refl _)
  obtain ⟨z, hz⟩ : ∃ z, d.shown = z := ⟨_, rfl⟩
  have hD : ∀ {H'}, Same H H' → Dp K H' v d := fun s => dp_same s _ _ hd
  refine ⟨_, rfl, v, d, rfl, hd, s1, s2, Nat.le_trans ok.lay.2 (by decide), shown_fits (Nat.le_refl _) ok hw, z, hz, ?_⟩
  refine ⟨_, rfl, v, d, rfl, hd, ⟨60, Nat.le_refl _, ok⟩, fun H1 s1 => ⟨_, _, rfl, ?_⟩⟩
  refine ⟨_, rfl, _, _, _, _, _, rfl, .ty _, ty_of (d := .bool (innerB 4 d)) (.bl _), kit_ty (kB (.bool (innerB 4 d))), _, rfl, iteT ?_⟩
  refine ⟨_, rfl, _, rfl, v, d, rfl, hD s1, ⟨60, Nat.le_refl _, ok⟩, fun H2 s2 => ?_⟩
  refine ⟨rfl, _, rfl, ?_⟩
  rw [decide_eq_true rfl]
  refine iteT ?_
  refine ⟨_, rfl, v, d, rfl, hD (s1.trans s2), ‹d.showable = true›, ‹d.hasDict = false›, Nat.le_trans ok.lay.2 (by decide), shown_fits (Nat.le_refl _) ok hw, z, hz, ?_⟩
  refine ⟨_, rfl, rfl, ?_⟩
  rw [decide_eq_true rfl]
  exact q _ (s1.trans s2)
end
end Fd

set_option Elab.async false
set_option linter.all false
set_option maxRecDepth 100000
set_option maxHeartbeats 2000000
/-! A call by names alone, in the parameters' order turned round, that may raise: f(d=.., c=.., b=.., a=..). -/
namespace KwX
open PySem PySem.Spec PyProof.Rows L2
/-- names ks, values ws: the def takes them as its parameters ps, turned round -/
def Turned (K : PySem.W.Frag) (fd : FuncData) (ps ks : List Str) : Prop := ∀ (s : Shared) (ws : List Value), K.In s.heap → ws.length = ks.length → BindsTo s fd ⟨[], ks.zip ws⟩ (ps.zip ws.reverse)
theorem vals_rev : ∀ {vs : List V} {us : List Value}, Vals vs us → Vals vs.reverse us.reverse
  | [], _, h => by cases h; exact .nil
  | v :: vs, _, h => by
    cases h with
    | cons r t =>
      rw [List.reverse_cons, List.reverse_cons]
      exact (vals_rev t).append (.cons r .nil)
def tTurned (sp : Sp) (n : Nat) (E : L2.St → XK) (t : TA) : TE := fun σ H Q => t σ H fun zs H1 => zs.length = n ∧ sp zs.reverse H1 Q (E σ)
theorem pe_turned {X : Cx} {k : Nat} {f : Addr} {fd : FuncData} {ps ks : List Str} {sp : Sp} {E : L2.St → XK} {x : Str} {p pos : Pos} {kws : List Keyword} {t : TA} {CX : CXT}
    (F : FnOk X.prog X.w X.K X.mg X.base CX k f fd ps sp) (hr : Room k X.A) (hg : Gl X x) (hm : X.mg x = some (.ref f)) (hk : PySem.W.keepIn X.K (.ref f) = true) (hb : Turned X.K fd ps ks) (hx : ∀ σ, PassesAt CX X σ (E σ)) (ha : PK X kws t)
    (h1 : (backToKw pos (keywordEach kws X.env)).all (·.1.isSome) = true := by rfl) (h2 : (backToKw pos (keywordEach kws X.env)).filterMap (·.1) = ks := by rfl)
    (h3 : ((backTo pos (starEach [] X.env)).any (·.1) || (backToKw pos (keywordEach kws X.env)).any (·.1.isNone)) = false := by rfl) (h4 : (x == ("__debug__" : Str)) = false := by decide) :
    PE X (.Call (.Name x p) [] kws pos) (tTurned sp ks.length E t) where
  run pins s σ H Q I h := by
    apply wpAny_Call_Name_kw
    apply ld_glob I hg hm _ h4
    apply PySem.W.callWith_KW0 (h₀ := X.base) I.ok.mod.kin hk h1 _ h3
    apply thn (ha.run pos pins s σ H _ I h)
    rintro ws s1 ⟨zs, H1, I1, rz, lz, hq⟩
    refine ⟨I1.kIn, ?_⟩
    rw [h2]
    have B : BindsTo s1 fd ⟨[], ks.zip ws⟩ (ps.zip ws.reverse) := hb s1 ws I1.kIn (rz.length.symm.trans lz)
    have R := F.run X.A X.stack s1 H1 ⟨[], ks.zip ws⟩ ws.reverse zs.reverse Q (E σ) hr I1.env0 B (vals_rev rz) hq
    refine wpAny_call (codeAny_mono R ?_)
    rintro (e | u | _ | _ | _) s2 z
    · exact hx σ pins H1 s1 e s2 I1 z
    all_goals first | exact I1.after z | exact False.elim z
end KwX

set_option Elab.async false
set_option linter.all false
set_option maxRecDepth 100000
set_option maxHeartbeats 4000000
namespace Fd
open PySem PySem.Spec PyProof.Rows L2 Fw
theorem passAt0 {X : Cx} {σ : L2.St} {E : XK} : PassesAt CX0 X σ E := fun _ _ _ _ _ _ h => h.elim
theorem dpB_mono {f g : PyData → Bool} (h : ∀ d, f d = true → g d = true) {k : Str} {d : PyData} (hd : dpB f k d = true) : dpB g k d = true := by
  unfold dpB at hd ⊢
  split at hd
  · rename_i c; rw [if_pos c]; exact hd
  rename_i c1
  rw [if_neg c1]
  split at hd
  · rename_i c; rw [if_pos c]; exact hd
  rename_i c2
  rw [if_neg c2]
  split at hd
  · rename_i c; rw [if_pos c]; exact h d hd
  rename_i c3
  rw [if_neg c3]
  exact hd
theorem deedB_mono {f g : PyData → Bool} (h : ∀ d, f d = true → g d = true) {d : PyData} (hd : deedB f d = true) : deedB g d = true := by
  unfold deedB at hd ⊢
  split at hd
  · rename_i w r
    cases e : gD w with
    | none => rw [e] at hd; cases hd
    | some ks =>
      rw [e] at hd
      dsimp only at hd ⊢
      rw [Bool.and_eq_true, List.all_eq_true] at hd ⊢
      exact ⟨hd.1, fun p hp => dpB_mono h (hd.2 p hp)⟩
  · cases hd
theorem innerB_mono : ∀ {n : Nat} {d : PyData}, innerB n d = true → innerB (n + 1) d = true
  | 0, _, h => by cases h
  | n + 1, d, h => by
    cases d with
    | tuple ds =>
      have h' : (decide (ds.length ≤ 8) && ds.all (deedB (innerB n))) = true := h
      show (decide (ds.length ≤ 8) && ds.all (deedB (innerB (n + 1)))) = true
      rw [Bool.and_eq_true, List.all_eq_true] at h' ⊢
      exact ⟨h'.1, fun x hx => deedB_mono (fun _ => innerB_mono) (h'.2 x hx)⟩
    | _ => cases h
theorem right_of {K : PySem.W.Frag} {as : List Addr} {e n w : Nat} {H : Hp} {v : V} {Q : VK} {E : XK} (g : Go K as e n w H v) (he : e ≤ 3) (hn : n ≤ 60) (hw : w ≤ 1000000) (q : ∀ H', Same H H' → Q (.bl true) H') : spRight K [v] H Q E := by
  obtain ⟨d, h1, h2, h3⟩ := g
  exact ⟨v, d, rfl, dp_same rmL_sub _ _ h1, h2.mono he hn, Nat.le_trans h3 hw, q⟩
abbrev wordsL : List Str := ["move", "set", "put", "write", "wait", "if", "times", "ever", "do", "copy", "stop", "all", "name", "plus"]
theorem words_ok : ∀ z ∈ wordsL, Asc 8 z := by
  intro z hz
  simp only [List.mem_cons, List.not_mem_nil, or_false] at hz
  rcases hz with rfl | rfl | rfl | rfl | rfl | rfl | rfl | rfl | rfl | rfl | rfl | rfl | rfl | rfl <;> exact ⟨by decide +kernel, by decide +kernel⟩
def spBentA (K : PySem.W.Frag) : Sp := fun vs H Q E => ∃ N, N ≤ 12 ∧ spBent K N vs H Q E
def FnT (P : Program) (w : World) (K : PySem.W.Frag) (mg : Str → Option Value) (base : Heap) (k : Nat) (x : Str) (ps ks : List Str) (sp : Sp) : Prop :=
  ∃ f fd, FnOk P w K mg base CX0 k f fd ps sp ∧ mg x = some (.ref f) ∧ PySem.W.keepIn K (.ref f) = true ∧ Binds K fd ps [] ∧ KwX.Turned K fd ps ks
section
variable {P : Program} {w : World} {K : PySem.W.Frag} {mg : Str → Option Value} {base : Heap} {f : Addr} {fd : FuncData}
theorem ok_bentF {k : Nat} (DB : Df K mg "_law_bent" sBent ["_law_state", "_law_stuff", "_law_names_here"] f fd) (GT : FnG P w K mg base CX0 k "_law_take" ["_law_state", "_law_below"] spTake) (GO : FnG P w K mg base CX0 k "_law_other" ["_law_state", "_law_stuff", "_law_names_here"] (spOther K))
    (m_isinstance : mg "isinstance" = none) (m_tuple : mg "tuple" = none) (m_list : mg "list" = none) (m_len : mg "len" = none) : ∀ N, FnOk P w K mg base CX0 (k + N) f fd ["_law_state", "_law_stuff", "_law_names_here"] (spBent K N)
  | 0 => ⟨fun vs H Q E h => by
      obtain ⟨a, c, l, v, n, e, wt, as, d, ws, rfl, _⟩ := h
      rfl, fun A outer s H args us vs Q E _ _ _ _ h => by
      obtain ⟨a, c, l, v, n, e, wt, as, d, ws, _, _, _, _, _, _, _, _, _, _, ok, _⟩ := h
      exact ok.elim⟩
  | N + 1 => ok_bent (k := k + N) DB.F (GT.mono (by omega)) (GO.mono (by omega)) (ok_bents DB GT GO m_isinstance m_tuple m_list m_len N) m_isinstance m_tuple m_list m_len
theorem ok_bentA {k : Nat} (DB : Df K mg "_law_bent" sBent ["_law_state", "_law_stuff", "_law_names_here"] f fd) (GT : FnG P w K mg base CX0 k "_law_take" ["_law_state", "_law_below"] spTake) (GO : FnG P w K mg base CX0 k "_law_other" ["_law_state", "_law_stuff", "_law_names_here"] (spOther K))
    (m_isinstance : mg "isinstance" = none) (m_tuple : mg "tuple" = none) (m_list : mg "list" = none) (m_len : mg "len" = none) : FnG P w K mg base CX0 (k + 12) "_law_bent" ["_law_state", "_law_stuff", "_law_names_here"] (spBentA K) :=
  DB.g ⟨fun vs H Q E ⟨N, _, h⟩ => (ok_bentF DB GT GO m_isinstance m_tuple m_list m_len N).1 vs H Q E h, fun A outer s H args us vs Q E a b c d ⟨N, hN, h⟩ => ((ok_bentF DB GT GO m_isinstance m_tuple m_list m_len N).mono (by omega)).2 A outer s H args us vs Q E a b c d h⟩
abbrev sLaw : Stmt := top 50
theorem scLaw : FnScope ["_law_script", "_law_state", "_law_words", "_law_turn", "_law_block_here", "_law_more", "_law_stuff"] ["_law_script"] (defScope sLaw) := ⟨rfl, rfl, rfl, by decide +kernel, rfl, by decide +kernel, by decide +kernel⟩
def spLaw (K : PySem.W.Frag) : Sp := fun vs H Q _ => ∃ (a : Addr) (ns : List Int), vs = [.ref a] ∧ SqL K H a (ns.map V.int) ∧ ns.length ≤ 63 ∧ ∀ H', Q (.bl true) H'
/-- the defs that the law calls -/
structure LawD (P : Program) (w : World) (K : PySem.W.Frag) (mg : Str → Option Value) (base : Heap) (k : Nat) : Prop where
  GB : FnG P w K mg base CX0 k "_law_begin" ["_law_script"] (spBegin K)
  GT : FnG P w K mg base CX0 k "_law_take" ["_law_state", "_law_below"] spTake
  GK : FnG P w K mg base CX0 k "_law_known" ["_law_state"] spKnown
  GL : FnG P w K mg base CX0 k "_law_block" ["_law_state", "_law_w", "_law_deep"] (spBlockG K 2)
  GI : FnG P w K mg base CX0 k "_law_is_block" ["_law_stuff", "_law_left"] (spBkL K 4)
  GE : FnG P w K mg base CX0 k "_law_bent" ["_law_state", "_law_stuff", "_law_names_here"] (spBentA K)
  GO : FnG P w K mg base CX0 k "_law_other" ["_law_state", "_law_stuff", "_law_names_here"] (spOther K)
  GR : ∃ f fd, FnOkG P w K mg base k f fd ["_law_stuff"] (spRight K) ∧ mg "_law_told_right" = some (.ref f) ∧ PySem.W.keepIn K (.ref f) = true ∧ Binds K fd ["_law_stuff"] []
  GP : FnT P w K mg base k "is_block" ["thing"] ["thing"] (spB K OkA (innerB 4))
  mr : mg "range" = none
theorem law_body {k : Nat} (D : LawD P w K mg base k) (cdv : Value) (A : Around) (outer : List Env) (s : Shared) (H : Hp) (vs : List V) (Q : VK) (E : XK) (hA : A.guards = some []) (hr : Room k (A.deeper (envOfC "law" (defScope sLaw) s.heap.objs.size f cdv))) (h : spLaw K vs H Q E) :
    ∃ t, PSs (cxOf CX0 P w K mg base ["_law_script", "_law_state", "_law_words", "_law_turn", "_law_block_here", "_law_more", "_law_stuff"] "law" (defScope sLaw) f cdv A outer s H E).nox (defBody sLaw) t ∧ t { nx := fun _ H' => Q .non H', rt := Q } (L2.start ["_law_script", "_law_state", "_law_words", "_law_turn", "_law_block_here", "_law_more", "_law_stuff"] vs) H := by
  obtain ⟨⟨_, _, G__law_begin, m__law_begin, k__law_begin, b__law_begin⟩, ⟨_, _, G__law_take, m__law_take, k__law_take, b__law_take⟩, ⟨_, _, G__law_known, m__law_known, k__law_known, b__law_known⟩, ⟨_, _, G__law_block, m__law_block, k__law_block, b__law_block⟩, ⟨_, _, G__law_is_block, m__law_is_block, k__law_is_block, b__law_is_block⟩, ⟨_, _, G__law_bent, m__law_bent, k__law_bent, b__law_bent⟩, ⟨_, _, G__law_other, m__law_other, k__law_other, b__law_other⟩, ⟨_, _, G_tr, m_tr, k_tr, b_tr⟩, ⟨_, _, G_is_block, m_is_block, k_is_block, b_is_block, bk_is_block⟩, m_range⟩ := D
  have sc := scLaw
  obtain ⟨a0, ns, rfl, hS, hl, q⟩ := h
  refine ⟨_, (pss_cons (ps_set (i := 1) sc.nd rfl (.inl rfl) (pe_call G__law_begin (hr.mono (by omega)) (by rfl) m__law_begin k__law_begin b__law_begin .nil pass0 (pa_cons (pv 0) pa_nil)))
      (pss_cons (ps_set (i := 2) sc.nd rfl (.inl rfl) (pe_lst (pa_cons pe_str (pa_cons pe_str (pa_cons pe_str (pa_cons pe_str (pa_cons pe_str (pa_cons pe_str (pa_cons pe_str (pa_cons pe_str (pa_cons pe_str (pa_cons pe_str (pa_cons pe_str (pa_cons pe_str (pa_cons pe_str (pa_cons pe_str pa_nil))))))))))))))))
      (pss_cons (ps_for PassesOwn.never rfl (pi_range1 (by rfl) m_range (pa_cons pe_int pa_nil)) (pg_name (i := 3) sc.nd rfl (.inl rfl)) (pss_cons (ps_set (i := 4) sc.nd rfl (.inl rfl) (pe_call G__law_block (hr.mono (by omega)) (by rfl) m__law_block k__law_block b__law_block .nil pass0 (pa_cons (pv 1) (pa_cons (pe_call G__law_known (hr.mono (by omega)) (by rfl) m__law_known k__law_known b__law_known .nil pass0 (pa_cons (pv 1) pa_nil)) (pa_cons pe_int pa_nil)))))
      (pss_cons (ps_if (PW.pt (pw_or (pt_not (pt_val (pe_call G__law_is_block (hr.mono (by omega)) (by rfl) m__law_is_block k__law_is_block b__law_is_block .nil pass0 (pa_cons (pv 4) (pa_cons pe_int pa_nil))))) (pw_or (pt_not (pt_val (pe_callG G_tr hA (hr.mono (by omega)) (by rfl) m_tr k_tr b_tr (by exact (pa_cons (pv 4) pa_nil))))) (pw_or1 (pt_cmpR op_isnot_bl (KwX.pe_turned (E := fun _ => E0) G_is_block (hr.mono (by omega)) (by rfl) m_is_block k_is_block bk_is_block (fun σ => passAt0) (pk_cons (pv 4) pk_nil)) pe_bl (nomark _)))))) (pss_one (ps_ret pe_bl)) pss_nil)
      (pss_one (ps_for PassesOwn.never rfl (pi_range1 (by rfl) m_range (pa_cons pe_int pa_nil)) (pg_name (i := 5) sc.nd rfl (.inl rfl)) (pss_cons (ps_set (i := 6) sc.nd rfl (.inl rfl) (pe_call G__law_bent (hr.mono (by omega)) (by rfl) m__law_bent k__law_bent b__law_bent .nil pass0 (pa_cons (pv 1) (pa_cons (pv 4) (pa_cons (pv 2) pa_nil)))))
      (pss_cons (ps_if (pt_cmpR op_eq (pe_call G__law_take (hr.mono (by omega)) (by rfl) m__law_take k__law_take b__law_take .nil pass0 (pa_cons (pv 1) (pa_cons pe_int pa_nil))) pe_int (nomark _)) (pss_one (ps_set (i := 6) sc.nd rfl (.inl rfl) (pe_call G__law_bent (hr.mono (by omega)) (by rfl) m__law_bent k__law_bent b__law_bent .nil pass0 (pa_cons (pv 1) (pa_cons (pv 6) (pa_cons (pv 2) pa_nil)))))) pss_nil)
      (pss_one (ps_if (PW.pt (pw_or (pt_not (pt_val (pe_callG G_tr hA (hr.mono (by omega)) (by rfl) m_tr k_tr b_tr (by exact (pa_cons (pv 6) pa_nil))))) (pw_or1 (pt_not (pt_val (pe_callG G_tr hA (hr.mono (by omega)) (by rfl) m_tr k_tr b_tr (by exact (pa_cons (pe_call G__law_other (hr.mono (by omega)) (by rfl) m__law_other k__law_other b__law_other .nil pass0 (pa_cons (pv 1) (pa_cons pe_int (pa_cons (pv 2) pa_nil)))) pa_nil)))))))) (pss_one (ps_ret pe_bl)) pss_nil)))))))))
      (pss_one (ps_ret (pe_and (pe_callG G_tr hA (hr.mono (by omega)) (by rfl) m_tr k_tr b_tr (by exact (pa_cons (pe_tup pa_nil) pa_nil))) (pe_and (pe_callG G_tr hA (hr.mono (by omega)) (by rfl) m_tr k_tr b_tr (by exact (pa_cons (pe_lst pa_nil) pa_nil))) (pe_one (pe_callG G_tr hA (hr.mono (by omega)) (by rfl) m_tr k_tr b_tr (by exact (pa_cons (pe_tup (pa_cons (pe_tup (pa_cons pe_str pa_nil)) (pa_cons (pe_tup (pa_cons pe_str pa_nil)) pa_nil))) pa_nil))))))))))), ?_⟩
  have k2 : 4 * dtk 2 + 1 = 27761 := by decide
  have k3 : 4 * (wdp 2 + 1) = 142404 := by decide
  have hs : ∀ b ∈ [a0, a0], b ∈ [a0, a0] := fun _ h => h
  clear hs
  refine ⟨_, rfl, a0, ns, rfl, hS, hl, fun a c H1 s1 na D1 => ?_⟩
  refine ⟨by show 14 ≤ sizeLine; decide, fun l nl => ?_⟩
  have x_ := same_upd (o := .lst (wordsL.map V.str)) nl
  have hw : rmL [a, c] (upd H1 l (.lst (wordsL.map V.str))) l = some (.lst (wordsL.map V.str)) := rmL_new D1.in_ nl
  replace D1 := D1.same x_
  show tSeq _ _ _ _ (upd H1 l (.lst (wordsL.map V.str)))
  clear x_ nl
  generalize upd H1 l (.lst (wordsL.map V.str)) = H2 at *
  refine ⟨3, rfl, by decide, by decide, for_it walk_range (fun i σ H' => Dr H' a c (30000 * i) ∧ rmL [a, c] H' l = some (.lst (wordsL.map V.str)) ∧ ∃ o3 o4 o5 o6, σ = [some (.ref a0), some (.ref a), some (.ref l), o3, o4, o5, o6]) ⟨D1, hw, _, _, _, _, rfl⟩ (fun _ _ _ _ _ => trivial) ?_ ?_⟩
  · clear D1 hw s1 na
    rintro i x σ _ H2 hi ⟨D, hw, o3, o4, o5, o6, rfl⟩ ⟨rfl, ex⟩
    have hi3 : i < 3 := hi
    generalize hN : 30000 * i = N at D
    have hN2 : N ≤ 60000 := by omega
    refine ⟨_, rfl, _, rfl, a, c, N, rfl, D, by omega, fun W e H3 s3 D3 wd ne lf fe => ?_⟩
    refine ⟨a, c, e, N + 13, W, rfl, D3, wd, ne, lf, by omega, fun v d H4 s4 D4 lf4 dv bk => ?_⟩
    have b2 := but2 s3 fe s4
    replace hw := rmL_but b2 _ _ hw
    have g0 : Go K [a, c] 0 11 142404 H4 v := ⟨d, dp_same (rmL_less fun b hb => by
      rcases List.mem_cons.mp hb with z | z
      · rw [z]; exact List.mem_cons_self ..
      · rw [List.mem_singleton.mp z]; exact List.mem_cons_of_mem _ (List.mem_cons_self ..)) _ _ dv, bk.sz.ok, by rw [← k3]; exact bk.sz.wt⟩
    have okA : OkA d := ⟨11, by decide, bk.sz.ok.mono (by decide) (Nat.le_refl _)⟩
    have in4 := innerB_mono bk.is
    clear s3 s4 wd lf lf4 fe b2 D3
    refine ⟨_, rfl, v, d, rfl, dp_same rmL_sub _ _ dv, okA, fun H5 s5 => ⟨_, rfl, ?_⟩⟩
    rw [in4]
    refine iteF ?_
    replace g0 := g0.but (.same s5)
    refine ⟨_, rfl, ?_⟩
    unfold tNil
    refine right_of g0 (by decide) (by decide) (by decide) fun H6 s6 => ⟨_, rfl, iteF ?_⟩
    refine ⟨_, rfl, rfl, v, d, rfl, dp_same (s5.trans s6) _ _ (dp_same rmL_sub _ _ dv), okA, fun H7 s7 => ⟨_, true, rfl, rfl, ?_⟩⟩
    rw [in4]
    refine ⟨_, rfl, iteF ?_⟩
    replace g0 := (g0.but (.same s6)).but (.same s7)
    replace hw := rmL_same s7 _ _ (rmL_same s6 _ _ (rmL_same s5 _ _ hw))
    replace D4 := ((D4.same s5).same s6).same s7
    clear dv bk okA in4 s5 s6 s7
    refine ⟨10, rfl, by decide, by decide, for_it walk_range (fun j σ H' => Dr H' a c (N + 27774 + 100 * j) ∧ rmL [a, c] H' l = some (.lst (wordsL.map V.str)) ∧ Go K [a, c] 0 11 142404 H' v ∧ ∃ o3 o5 o6, σ = [some (.ref a0), some (.ref a), some (.ref l), o3, some v, o5, o6]) ⟨D4.le (by omega), hw, g0, _, _, _, rfl⟩ (fun _ _ _ _ _ => trivial) ?_ ?_⟩
    · clear D4 hw g0
      rintro j x σ _ H2 hj ⟨D, hw, g0, o3, o5, o6, rfl⟩ ⟨rfl, ex⟩
      have hj10 : j < 10 := hj
      generalize hM : N + 27774 + 100 * j = M at D
      have hM2 : M ≤ 100000 := by omega
      have hsub : ∀ b ∈ [a, c], b ∈ [a, c] := fun _ h => h
      obtain ⟨d, h1, h2, h3⟩ := g0
      refine ⟨_, rfl, _, rfl, _, rfl, 11, by decide, a, c, l, v, M, 0, 142404, [a, c], d, wordsL, rfl, D, by omega, by decide, hsub, D.in_, hw, by decide, words_ok, h1, h2, h3, fun v1 H3 s3 D3 g1 => ?_⟩
      replace g1 : Go K [a, c] 1 12 284869 H3 v1 := g1.le (by decide) (by decide) (by decide)
      replace hw := rmL_but s3 _ _ hw
      have g0 : Go K [a, c] 0 11 142404 H3 v := ⟨d, dp_same (rmL_but s3) _ _ h1, h2, h3⟩
      refine ⟨_, rfl, a, c, M + 4 * 11, 3, rfl, D3, by omega, by decide, by decide, fun r H4 r0 r1 s4 D4 => ⟨rfl, _, rfl, ?_⟩⟩
      replace g1 := g1.but s4
      replace g0 := g0.but s4
      replace hw := rmL_but s4 _ _ hw
      replace D3 := D4
      clear h1 s3 s4 D4
      refine ite2 (fun c1 => ?_) (fun c1 => ?_)
      · obtain ⟨d1, e1, e2, e3⟩ := g1
        refine ⟨_, rfl, _, rfl, _, rfl, 12, by decide, a, c, l, v1, M + 4 * 11 + 1, 1, 284869, [a, c], d1, wordsL, rfl, D3, by omega, by decide, hsub, D3.in_, hw, by decide, words_ok, e1, e2, e3, fun v2 H5 s5 D5 g2 => ?_⟩
        replace g0 := g0.but s5
        replace hw := rmL_but s5 _ _ hw
        replace D3 := D5
        clear e1 s5 D5
        refine ⟨_, rfl, ?_⟩
        refine right_of g2 (by decide) (by decide) (by decide) fun H7 s7 => ⟨_, rfl, iteF ?_⟩
        replace g0 := g0.but (.same s7)
        replace hw := rmL_same s7 _ _ hw
        replace D3 := D3.same s7
        refine ⟨_, rfl, _, rfl, a, c, l, .int 3, M + 4 * 11 + 1 + 4 * 12, 0, 1, [a, c], .int 3, wordsL, rfl, D3, by omega, by decide, hsub, D3.in_, hw, by decide, words_ok, .int 3, by constructor <;> decide, fun v7 H8 s8 D8 g8 => ?_⟩
        refine right_of g8 (by decide) (by decide) (by decide) fun H9 s9 => ⟨_, rfl, iteF ?_⟩
        exact ⟨(D8.same s9).le (by omega), rmL_same s9 _ _ (rmL_but s8 _ _ hw), (g0.but s8).but (.same s9), _, _, _, rfl⟩
      · skip
        refine ⟨_, rfl, ?_⟩
        refine right_of g1 (by decide) (by decide) (by decide) fun H7 s7 => ⟨_, rfl, iteF ?_⟩
        replace g0 := g0.but (.same s7)
        replace hw := rmL_same s7 _ _ hw
        replace D3 := D3.same s7
        refine ⟨_, rfl, _, rfl, a, c, l, .int 3, M + 4 * 11 + 1, 0, 1, [a, c], .int 3, wordsL, rfl, D3, by omega, by decide, hsub, D3.in_, hw, by decide, words_ok, .int 3, by constructor <;> decide, fun v7 H8 s8 D8 g8 => ?_⟩
        refine right_of g8 (by decide) (by decide) (by decide) fun H9 s9 => ⟨_, rfl, iteF ?_⟩
        exact ⟨(D8.same s9).le (by omega), rmL_same s9 _ _ (rmL_but s8 _ _ hw), (g0.but s8).but (.same s9), _, _, _, rfl⟩
    · rintro σ H3 ⟨D, hw, g0, o3, o5, o6, rfl⟩
      exact ⟨D.le (by omega), hw, _, _, _, _, rfl⟩
  · rintro σ H3 ⟨D, hw, o3, o4, o5, o6, rfl⟩
    clear hw
    refine ⟨Nat.zero_le _, fun t1 n1 => ?_⟩
    have g1 : Go K [a, c] 0 1 0 (upd H3 t1 (.tup [])) (.ref t1) := ⟨.tuple [], .tup (SqT.of (rmL_new D.in_ n1)) .nil, ⟨Nat.zero_le _, fun d hd => absurd hd (by simp)⟩, Nat.zero_le _⟩
    replace D := D.same (same_upd (o := .tup []) n1)
    unfold tNil
    refine right_of g1 (by decide) (by decide) (by decide) fun H4 s4 => ⟨_, rfl, iteT ?_⟩
    replace D := D.same s4
    clear g1 s4
    refine ⟨Nat.zero_le _, fun t2 n2 => ?_⟩
    have g2 : Go K [a, c] 0 1 0 (upd H4 t2 (.lst [])) (.ref t2) := ⟨.list [], .lst (SqL.of (rmL_new D.in_ n2)) .nil, ⟨Nat.zero_le _, fun d hd => absurd hd (by simp)⟩, Nat.zero_le _⟩
    replace D := D.same (same_upd (o := .lst []) n2)
    refine right_of g2 (by decide) (by decide) (by decide) fun H5 s5 => ⟨_, rfl, iteT ?_⟩
    replace D := D.same s5
    clear g2 s5
    refine ⟨by show 1 ≤ sizeLine; decide, fun t3 n3 => ?_⟩
    have x3 := same_upd (o := .tup [.str "show"]) n3
    have e3 := rmL_new (o := .tup [.str "show"]) D.in_ n3
    replace D := D.same x3
    generalize upd H5 t3 (.tup [.str "show"]) = H6 at *
    refine ⟨by show 1 ≤ sizeLine; decide, fun t4 n4 => ?_⟩
    have x4 := same_upd (o := .tup [.str "hide"]) n4
    have e4 := rmL_new (o := .tup [.str "hide"]) D.in_ n4
    replace D := D.same x4
    replace e3 := rmL_same x4 _ _ e3
    generalize upd H6 t4 (.tup [.str "hide"]) = H7 at *
    refine ⟨by show 2 ≤ sizeLine; decide, fun t5 n5 => ?_⟩
    have x5 := same_upd (o := .tup [.ref t3, .ref t4]) n5
    have e5 := rmL_new (o := .tup [.ref t3, .ref t4]) D.in_ n5
    replace e3 := rmL_same x5 _ _ e3
    replace e4 := rmL_same x5 _ _ e4
    generalize upd H7 t5 (.tup [.ref t3, .ref t4]) = H8 at *
    refine ⟨.ref t5, .tuple [.tuple [.str "show"], .tuple [.str "hide"]], rfl, dp_same rmL_sub _ _ (.tup (SqT.of e5) (.cons (.tup (SqT.of e3) (.cons (.str _) .nil)) (.cons (.tup (SqT.of e4) (.cons (.str _) .nil)) .nil))), ⟨by decide, fun x hx => ?_⟩, by decide +kernel, fun H' _ => q _⟩
    rcases List.mem_cons.mp hx with z | hx
    · rw [z]; exact ⟨by decide, fun x hx => by rw [List.mem_singleton.mp hx]; exact ⟨by decide +kernel, by decide +kernel⟩⟩
    · rw [List.mem_singleton.mp hx]; exact ⟨by decide, fun x hx => by rw [List.mem_singleton.mp hx]; exact ⟨by decide +kernel, by decide +kernel⟩⟩
end
end Fd

set_option Elab.async false
set_option linter.all false
set_option maxRecDepth 100000
set_option maxHeartbeats 4000000
namespace Fd
open PySem PySem.Spec PyProof.Rows L2
section
variable {P : Program} {w : World} {K : PySem.W.Frag} {mg : Str → Option Value} {base : Heap}
theorem ok_lkls {f : Addr} {fd : FuncData} (DL : Df K mg "_law_is_look" sLkL ["_law_stuff", "_law_left"] f fd) (GW : FnG P w K mg base CX0 1 "_law_whole" ["_law_stuff", "_law_low", "_law_high"] (spWh K)) (GN : FnG P w K mg base CX0 1 "_law_is_name" ["_law_stuff"] (spB K TxOk isNm)) (m_isinstance : mg "isinstance" = none) (m_tuple : mg "tuple" = none) (m_str : mg "str" = none) (m_len : mg "len" = none) (m_all : mg "all" = none) (m_int : mg "int" = none) :
    ∀ n, FnG P w K mg base CX0 (n + 2) "_law_is_look" ["_law_stuff", "_law_left"] (spLkL K n)
  | 0 => DL.g (ok_lkl (k := 1) (n := 0) DL.F GW GN (fun m e => nomatch e) ⟨_, _, (⟨fun _ _ _ _ h => h.elim, fun _ _ _ _ _ _ _ _ _ _ _ _ _ h => h.elim⟩ : FnOk P w K mg base CX0 _ _ _ _ (fun _ _ _ _ => False)), DL.m, DL.F.kp, DL.b⟩ m_isinstance m_tuple m_str m_len m_all m_int)
  | n + 1 => DL.g (ok_lkl (k := n + 2) (n := n + 1) DL.F (GW.mono (by omega)) (GN.mono (by omega)) (fun m e => by cases e; exact ok_lkls DL GW GN m_isinstance m_tuple m_str m_len m_all m_int n) ⟨_, _, (⟨fun _ _ _ _ h => h.elim, fun _ _ _ _ _ _ _ _ _ _ _ _ _ h => h.elim⟩ : FnOk P w K mg base CX0 _ _ _ _ (fun _ _ _ _ => False)), DL.m, DL.F.kp, DL.b⟩ m_isinstance m_tuple m_str m_len m_all m_int)
theorem ok_tsls {f f' : Addr} {fd fd' : FuncData} (DT : Df K mg "_law_is_test" sTsL ["_law_stuff", "_law_left"] f fd) (DL : Df K mg "_law_is_look" sLkL ["_law_stuff", "_law_left"] f' fd') (GN : FnG P w K mg base CX0 1 "_law_is_name" ["_law_stuff"] (spB K TxOk isNm)) (GK : ∀ n, FnG P w K mg base CX0 (n + 2) "_law_is_look" ["_law_stuff", "_law_left"] (spLkL K n)) (m_isinstance : mg "isinstance" = none) (m_tuple : mg "tuple" = none) (m_str : mg "str" = none) (m_len : mg "len" = none) (m_all : mg "all" = none) :
    ∀ n, FnG P w K mg base CX0 (n + 3) "_law_is_test" ["_law_stuff", "_law_left"] (spTsL K n)
  | 0 => DT.g (ok_tsl (k := 2) (n := 0) DT.F (GN.mono (by omega)) (fun m e => nomatch e) ⟨_, _, (⟨fun _ _ _ _ h => h.elim, fun _ _ _ _ _ _ _ _ _ _ _ _ _ h => h.elim⟩ : FnOk P w K mg base CX0 _ _ _ _ (fun _ _ _ _ => False)), DL.m, DL.F.kp, DL.b⟩ (fun m e => nomatch e) ⟨_, _, (⟨fun _ _ _ _ h => h.elim, fun _ _ _ _ _ _ _ _ _ _ _ _ _ h => h.elim⟩ : FnOk P w K mg base CX0 _ _ _ _ (fun _ _ _ _ => False)), DT.m, DT.F.kp, DT.b⟩ m_isinstance m_tuple m_str m_len m_all)
  | n + 1 => DT.g (ok_tsl (k := n + 3) (n := n + 1) DT.F (GN.mono (by omega)) (fun m e => by cases e; exact (GK n).mono (by omega)) ⟨_, _, (⟨fun _ _ _ _ h => h.elim, fun _ _ _ _ _ _ _ _ _ _ _ _ _ h => h.elim⟩ : FnOk P w K mg base CX0 _ _ _ _ (fun _ _ _ _ => False)), DL.m, DL.F.kp, DL.b⟩ (fun m e => by cases e; exact ok_tsls DT DL GN GK m_isinstance m_tuple m_str m_len m_all n) ⟨_, _, (⟨fun _ _ _ _ h => h.elim, fun _ _ _ _ _ _ _ _ _ _ _ _ _ h => h.elim⟩ : FnOk P w K mg base CX0 _ _ _ _ (fun _ _ _ _ => False)), DT.m, DT.F.kp, DT.b⟩ m_isinstance m_tuple m_str m_len m_all)
theorem ok_bkls {f f' f'' : Addr} {fd fd' fd'' : FuncData} (DB : Df K mg "_law_is_block" sBkL ["_law_stuff", "_law_left"] f fd) (DD : Df K mg "_law_is_deed" sDdL ["_law_stuff", "_law_left"] f' fd') (DP : Df K mg "_law_is_part" sPtL ["_law_sort", "_law_stuff", "_law_left"] f'' fd'') (GN : FnG P w K mg base CX0 1 "_law_is_name" ["_law_stuff"] (spB K TxOk isNm)) (GS : FnG P w K mg base CX0 1 "_law_shape" ["_law_word"] spShpL)
    (GL : FnG P w K mg base CX0 8 "_law_is_look" ["_law_stuff", "_law_left"] (spLkL K 6)) (GT : FnG P w K mg base CX0 9 "_law_is_test" ["_law_stuff", "_law_left"] (spTsL K 6)) (m_isinstance : mg "isinstance" = none) (m_tuple : mg "tuple" = none) (m_str : mg "str" = none) (m_len : mg "len" = none) (m_all : mg "all" = none) (m_zip : mg "zip" = none) : ∀ n, FnG P w K mg base CX0 (3 * n + 10) "_law_is_block" ["_law_stuff", "_law_left"] (spBkL K n)
  | 0 => DB.g (ok_bkl (k := 9) (n := 0) DB.F (fun m e => nomatch e) ⟨_, _, (⟨fun _ _ _ _ h => h.elim, fun _ _ _ _ _ _ _ _ _ _ _ _ _ h => h.elim⟩ : FnOk P w K mg base CX0 _ _ _ _ (fun _ _ _ _ => False)), DD.m, DD.F.kp, DD.b⟩ m_isinstance m_tuple m_len m_all)
  | n + 1 => DB.g (ok_bkl (k := 3 * n + 12) (n := n + 1) DB.F (fun m e => by
      cases e
      exact DD.g (ok_ddl (k := 3 * n + 11) DD.F (GS.mono (by omega)) (DP.g (ok_ptl (k := 3 * n + 10) DP.F (GN.mono (by omega)) (GL.mono (by omega)) (GT.mono (by omega)) (ok_bkls DB DD DP GN GS GL GT m_isinstance m_tuple m_str m_len m_all m_zip n) m_isinstance m_tuple m_str m_len m_all)) m_isinstance m_tuple m_str m_len m_all m_zip)) ⟨_, _, (⟨fun _ _ _ _ h => h.elim, fun _ _ _ _ _ _ _ _ _ _ _ _ _ h => h.elim⟩ : FnOk P w K mg base CX0 _ _ _ _ (fun _ _ _ _ => False)), DD.m, DD.F.kp, DD.b⟩ m_isinstance m_tuple m_len m_all)
theorem ok_lookA {f : Addr} {fd : FuncData} (DL : Df K mg "_law_look" sLook ["_law_state", "_law_w", "_law_deep"] f fd) (GT : FnG P w K mg base CX0 2 "_law_take" ["_law_state", "_law_below"] spTake) (GO : FnG P w K mg base CX0 2 "_law_one_of" ["_law_state", "_law_some_here"] spOne) (GN : FnG P w K mg base CX0 2 "_law_number" ["_law_state"] spNumb) :
    FnG P w K mg base CX0 6 "_law_look" ["_law_state", "_law_w", "_law_deep"] (spLookA K 3) :=
  DL.g ⟨fun vs H Q E ⟨j, _, h⟩ => (ok_looks (base := base) DL GT GO GN j).1 vs H Q E h, fun A outer s H args us vs Q E a b c d ⟨j, hj, h⟩ => ((ok_looks DL GT GO GN j).mono (by omega : j + 3 ≤ 6)).2 A outer s H args us vs Q E a b c d h⟩
theorem ok_testA {f : Addr} {fd : FuncData} (DT : Df K mg "_law_test" sTest ["_law_state", "_law_w", "_law_deep"] f fd) (GT : FnG P w K mg base CX0 2 "_law_take" ["_law_state", "_law_below"] spTake) (GO : FnG P w K mg base CX0 2 "_law_one_of" ["_law_state", "_law_some_here"] spOne)
    (GK : FnG P w K mg base CX0 6 "_law_look" ["_law_state", "_law_w", "_law_deep"] (spLookA K 3)) : FnG P w K mg base CX0 8 "_law_test" ["_law_state", "_law_w", "_law_deep"] (spTest K 3) := by
  have g2 : FnG P w K mg base CX0 6 "_law_test" ["_law_state", "_law_w", "_law_deep"] (spTestL K 2) := DT.g ⟨fun vs H Q E h => absurd h.1 (by decide), fun A outer s H args us vs Q E _ _ _ _ h => absurd h.1 (by decide)⟩
  have f2 := ok_test (k := 6) (m := 2) DT.F (GT.mono (by decide)) (GO.mono (by decide)) GK g2
  have g3 : FnG P w K mg base CX0 7 "_law_test" ["_law_state", "_law_w", "_law_deep"] (spTestL K 3) := DT.g ⟨fun vs H Q E h => f2.1 vs H Q E h.2, fun A outer s H args us vs Q E a b c d h => f2.2 A outer s H args us vs Q E a b c d h.2⟩
  exact DT.g (ok_test (k := 7) (m := 3) DT.F (GT.mono (by decide)) (GO.mono (by decide)) (GK.mono (by decide)) g3)
theorem FnT.mono {k m : Nat} {x : Str} {ps ks : List Str} {sp : Sp} (g : FnT P w K mg base k x ps ks sp) (h : k ≤ m) : FnT P w K mg base m x ps ks sp := by
  obtain ⟨f, fd, a, b⟩ := g
  exact ⟨f, fd, a.mono h, b⟩
/-- the tracked heap at the law's entry: nothing, or the script alone -/
structure Entry (P : Program) (w : World) (K : PySem.W.Frag) (a : Addr) (h : Heap) (H : Hp) : Prop where
  only : Only H
  ok : HOk P w H h
  one : ∀ b, H b ≠ none → b = a
  free : H a ≠ none → K.lookup a = none
theorem Entry.none_of {a b : Addr} {h : Heap} {H : Hp} {o : Obj} (e : Entry P w K a h H) (hb : K.lookup b = some o) : H b = none := by
  cases z : H b with
  | none => rfl
  | some u =>
    have n : H b ≠ none := by rw [z]; exact nofun
    obtain rfl := e.one b n
    rw [e.free n] at hb
    cases hb
theorem Entry.dict {a b : Addr} {h : Heap} {H : Hp} {vs : Array Value} {o : Obj} {es : Array DictEntry} {ep n : Nat} (e : Entry P w K a h H) (ha : h.get? a = some { cls := .type "list", data := .seq vs n }) (hb : h.get? b = some o) (hd : o.data = .dict es ep) : H b = none := by
  cases z : H b with
  | none => rfl
  | some u =>
    obtain rfl := e.one b (by rw [z]; exact nofun)
    rw [ha] at hb
    cases hb
    cases hd
theorem entry_of {a : Addr} {h : Heap} {vs : List Value} {ns : List Int} (KX : K.In h) (ha : h.get? a = some { cls := .type "list", data := .seq vs.toArray }) (hi : IntsAre vs ns) (hl : ns.length ≤ sizeLine) : ∃ H, Entry P w K a h H ∧ SqL K H a (ns.map V.int) := by
  cases hk : K.lookup a with
  | some o =>
    have e := KX a o hk
    rw [ha] at e
    cases e
    exact ⟨fun _ => none, ⟨fun _ => .inl rfl, fun b u z => (nomatch (show (none : Option HO) = some u from z)), fun b z => absurd rfl z, fun z => absurd rfl z⟩,
      .inr ⟨_, vs.toArray, _, hk, rfl, rfl, rfl, by rw [List.size_toArray, hi.length]; exact hl, by simpa using vals_ints hi⟩⟩
  | none =>
    let o : HO := .frz { cls := .type "list", data := .seq vs.toArray } (.lst (ns.map V.int))
    have u1 : upd (fun _ => none) a o a = some o := upd_same
    have un : ∀ {b}, b ≠ a → upd (fun _ => none) a o b = none := fun n => upd_ne n
    refine ⟨upd (fun _ => none) a o, ⟨fun b => ?_, fun b u z => ?_, fun b n => ?_, fun _ => hk⟩, .inl (.inr ⟨_, u1⟩)⟩
    · by_cases e : b = a
      · subst e; exact .inr ⟨_, _, u1⟩
      · exact .inl (un e)
    · by_cases e : b = a
      · subst e
        rw [u1] at z
        cases z
        exact ⟨ha, by rw [List.length_map]; exact hl, vs, _, vals_ints hi, ha⟩
      · rw [un e] at z; cases z
    · exact Classical.byContradiction fun e => n (un e)
theorem law_at {mb : Str → Option Value} {k : Nat} {fa a : Addr} {fd : FuncData} {x : Str} {st : Stmt} {N : List Str} {nm : Str} {s₁ : Shared} {vs : List Value} {ns : List Int} (F : Fun K nm nm st fa fd) (S : FnScope N [x] (defScope st))
    (KX : K.In s₁.heap) (hns : s₁.heap.Ns mainGlobals mg) (hb : s₁.heap.Ns builtinsNs mb) (hbb : ∀ x : Str, x ≠ "__name__" → mb x = bootBuiltins x) (hlim : s₁.heap.NoLimit) (hg : s₁.gens = #[])
    (ha : s₁.heap.get? a = some { cls := .type "list", data := .seq vs.toArray }) (hi : IntsAre vs ns) (hl : ns.length ≤ sizeLine) (hr : Room (k + 1) callerA) (hbind : ∀ (s : Shared) (u : Value), BindsTo s fd ⟨[u], []⟩ [(x, u)])
    (body : ∀ (base : Heap) (cdv : Value) (H : Hp), K.In base → base.Ns mainGlobals mg → SqL K H a (ns.map V.int) → Room k (callerA.deeper (envOfC nm (defScope st) s₁.heap.objs.size fa cdv)) →
      ∃ t, PSs (cxOf CX0 P w K mg base N nm (defScope st) fa cdv callerA [] s₁ H fun _ _ _ => False).nox (defBody st) t ∧ t { nx := fun _ _ => V.non = .bl true, rt := fun v _ => v = .bl true } (L2.start N [.ref a]) H) :
    codeAny (model P w) callerA (.call (.ref fa) ⟨[.ref a], []⟩) (fun r s' => r = .ok (.ret (.bool true)) ∧ OldK s₁.heap s'.heap ∧ s'.os = s₁.os ∧ AllBare s'.gens) s₁ := by
  obtain ⟨H, en, hS⟩ := entry_of (P := P) (w := w) KX ha hi hl
  have kb : K.In (hidT s₁.heap H) := fun b o e => hidT_get (KX b o e) (en.none_of e)
  have nb : ∀ {b : Addr} {m : Str → Option Value}, s₁.heap.Ns b m → (hidT s₁.heap H).Ns b m := fun ⟨o, es, ep, e, d, r⟩ => ⟨o, es, ep, hidT_get e (en.dict ha e d), d, r⟩
  have lim : (hidT s₁.heap H).NoLimit := by
    obtain ⟨mc, h1, h2⟩ := hlim
    exact ⟨mc, nb h1, h2⟩
  have e0 : Env0 P w K mg (hidT s₁.heap H) callerA [] s₁ H := ⟨rfl, ⟨kb, nb hns, ⟨mb, nb hb, hbb⟩, lim⟩, fun b o e => of_hidT e, Nat.le_of_eq (hidT_size _ _), trivial, fun b hb => absurd (show b ∈ ([] : List Addr) from hb) (by simp), en.ok, .of_eq hg⟩
  refine codeAny_mono (enter (vs := [.ref a]) (us := [.ref a]) (Q := fun v _ => v = .bl true) (E := fun _ _ _ => False) F S rfl hr e0 (hbind s₁ (.ref a)) (.cons rfl .nil) fun cdv hr' => body _ cdv H kb (nb hns) hS hr') fun r s' h => ?_
  cases r with
  | error e => exact h.elim
  | ok fl =>
    cases fl with
    | ret u =>
      obtain ⟨v, H', os, bare, un, ok', rv, q⟩ := h
      obtain rfl : v = .bl true := q
      obtain rfl : u = Value.bool true := rv
      refine ⟨rfl, OldK.of_keep fun b o e => ?_, os, bare⟩
      rcases en.only b with z | ⟨ob, xs, z⟩
      · exact un.keep b o e z (fun y => absurd (show b ∈ ([] : List Addr) from y) (by simp)) (by simp)
      · obtain ⟨e1, _⟩ := en.ok b _ z
        obtain ⟨e2, _⟩ := ok' b _ (un.frzs b ob _ z)
        rw [e] at e1
        cases e1
        exact e2
    | next => exact h.elim
    | brk => exact h.elim
    | cont => exact h.elim
end
theorem walk_ex {l : PySem.W.OpenLaw} {n : Nat} {q : Program} {loose : List Str} {XP : (Str → Option Value) → Heap → Prop} {YP : World → Heap → Prop} {d : DefRec} (hn : l.most = some n) (hn2 : n ≤ 63) (hdf : d.params.defaults = []) (hd : d.name = "law")
    (F : ∀ (w : World) (mg : Str → Option Value) (fa : Addr) (h : Heap), YP w h → h.Ns mainGlobals mg → mg "law" = some (.ref fa) →
      ∃ (K : PySem.W.Frag) (fd : FuncData), K.In h ∧ Fun K "law" "law" sLaw fa fd ∧ (∀ (s : Shared) (v : Value), BindsTo s fd ⟨[v], []⟩ [("_law_script", v)]) ∧ ∀ base : Heap, K.In base → base.Ns mainGlobals mg → LawD l.prog w K mg base 40) :
    PySem.W.WalkO q loose XP YP l.row.toRowW d [] (fun f vs => PySem.call f vs) := by
  refine Att.attach_call hn hdf fun w s₀ s₁ mg mb fa o pm cd doc a vs ns G Y ho hd' hcd hmg hobj hints hlen hg => ?_
  rw [hd] at hmg
  obtain ⟨K, fd, hK, hF, hb, hL⟩ := F w mg fa _ Y G.T.g hmg
  exact law_at (k := 40) (x := "_law_script") hF scLaw hK G.T.g G.T.b G.T.builtins G.T.nolimit hg hobj hints (Nat.le_trans (Nat.le_trans hlen hn2) (by decide)) ⟨rfl, by decide, by decide⟩ hb
    fun base cdv H kb nb hS hr => law_body (hL base kb nb) cdv callerA [] s₁ H [.ref a] (fun v _ => v = .bl true) (fun _ _ _ => False) rfl hr ⟨a, ns, rfl, hS, Nat.le_trans hlen hn2, fun _ => rfl⟩
end Fd

set_option Elab.async false
set_option linter.all false
set_option maxRecDepth 100000
set_option maxHeartbeats 2000000
/-! The top with the display in its midst, run in the kernel ahead of it and behind it. -/
noncomputable section
namespace Fw
open PySem PySem.W PySem.Calls PyProof.Rows HandSHeadRun
section
variable (st : SharedT → Thread → Option (SharedT × Thread)) (n0 : Nat) (ann : Option Value)
def goS : Nat → SharedT → Thread → Option (SharedT × Thread)
  | 0, s, t => some (s, t)
  | m + 1, s, t => match through t with
    | true => none
    | false => match stepOk n0 ann t with
      | false => none
      | true => match st s t with
        | some (s', t') => frS s' fun s' => goS m s' t'
        | none => none
def segF : Nat → SharedT → Thread → Option (Flow × SharedT × Code × Pos)
  | 0, _, _ => none
  | m + 1, s, t => match endAt 1 t with
    | some f => some (f, s, t.code, t.pos)
    | none => match stepOk n0 ann t with
      | false => none
      | true => match st s t with
        | some (s', t') => frS s' fun s' => segF m s' t'
        | none => none
end
section
variable {tb : String → Option Builtin} {p : Program} {w : World} {n0 : Nat} {ann : Option Value}
theorem goS_ok : ∀ {m : Nat} {s s' : SharedT} {t t' : Thread}, goS (stepT (denote tb) p w) n0 ann m s t = some (s', t') → topGo tb p w n0 ann m s.abs t = some (s'.abs, t')
  | 0, s, s', t, t', h => by
    cases (show some (s, t) = some (s', t') from h)
    rfl
  | m + 1, s, s', t, t', h => by
    have h : (match through t with
      | true => none
      | false => match stepOk n0 ann t with
        | false => none
        | true => match stepT (denote tb) p w s t with
          | some (s', t') => frS s' fun s' => goS (stepT (denote tb) p w) n0 ann m s' t'
          | none => none) = some (s', t') := h
    cases h1 : through t with
    | true => rw [h1] at h; exact nomatch h
    | false =>
      cases h2 : stepOk n0 ann t with
      | false => rw [h1, h2] at h; exact nomatch h
      | true =>
        rw [h1, h2] at h
        cases h3 : stepT (denote tb) p w s t with
        | none => rw [h3] at h; exact nomatch h
        | some r =>
          obtain ⟨s2, t2⟩ := r
          rw [h3] at h
          have h : (frS s2 fun s' => goS (stepT (denote tb) p w) n0 ann m s' t2) = some (s', t') := h
          rw [frS_eq] at h
          exact go_one h1 h2 (stepT_spec h3) (goS_ok h)
theorem segF_ok : ∀ {m : Nat} {s s' : SharedT} {t : Thread} {f : Flow} {c : Code} {q : Pos}, segF (stepT (denote tb) p w) n0 ann m s t = some (f, s', c, q) → segRun tb p w n0 ann 1 m s.abs t = some (f, s'.abs, c, q)
  | 0, _, _, _, _, _, _, h => nomatch (show (none : Option (Flow × SharedT × Code × Pos)) = some _ from h)
  | m + 1, s, s', t, f, c, q, h => by
    have h : (match endAt 1 t with
      | some f => some (f, s, t.code, t.pos)
      | none => match stepOk n0 ann t with
        | false => none
        | true => match stepT (denote tb) p w s t with
          | some (s', t') => frS s' fun s' => segF (stepT (denote tb) p w) n0 ann m s' t'
          | none => none) = some (f, s', c, q) := h
    unfold segRun
    cases h1 : endAt 1 t with
    | some g =>
      rw [h1] at h
      cases (show some (g, s, t.code, t.pos) = some (f, s', c, q) from h)
      rfl
    | none =>
      cases h2 : stepOk n0 ann t with
      | false => rw [h1, h2] at h; exact nomatch h
      | true =>
        rw [h1, h2] at h
        cases h3 : stepT (denote tb) p w s t with
        | none => rw [h3] at h; exact nomatch h
        | some r =>
          obtain ⟨s2, t2⟩ := r
          rw [h3] at h
          have h : (frS s2 fun s' => segF (stepT (denote tb) p w) n0 ann m s' t2) = some (f, s', c, q) := h
          rw [frS_eq] at h
          show (match step (denote tb) p w s.abs t with
            | .go s' t' => segRun tb p w n0 ann 1 m s' t'
            | .halt _ _ => none) = some (f, s'.abs, c, q)
          rw [stepT_spec h3]
          exact segF_ok h
end
/-! ### the display's objects behind a tree -/
def finObjs (w : World) (prog : Program) (m t : Nat) (L : List PK) (p : PK) : List Obj :=
  dO ((lx (m + 1) L ++ lx (m + 1 + 2 * L.length + 1) [p]).map (entryOfKey (tupleKind (strKind prog w)))) :: (lo t L ++ dO ((lx (m + 1 + 2 * L.length + 1) [p]).map (entryOfKey (tupleKind (strKind prog w)))) :: lo (lt t L) [p])
def layT (w : World) (prog : Program) (L : List PK) (p : PK) (s : SharedT) : Option SharedT := match putAll (finObjs w prog s.n s.toks L p) s.tree s.n with
  | some (t, n) => frNat n fun n => some ⟨t, n, s.life, s.gens, s.drawn, lt s.toks (L ++ [p]), s.os⟩
  | none => none
theorem ext_foldl : ∀ (l : List Obj) (h : Heap), l.foldl (fun h o => h.push o) h = ext h l
  | [], h => (ext_nil h).symm
  | o :: l, h => by
    show l.foldl _ (h.push o) = _
    rw [ext_foldl l (h.push o)]
    have z := ext_push h [] o
    rw [ext_nil] at z
    rw [z, ext_ext]
    rfl
theorem layT_ok {w : World} {prog : Program} {L : List PK} {p : PK} {s s' : SharedT} (h : layT w prog L p s = some s') : s'.abs = fin w prog s.abs L p := by
  unfold layT at h
  cases e : putAll (finObjs w prog s.n s.toks L p) s.tree s.n with
  | none => rw [e] at h; exact nomatch h
  | some r =>
    obtain ⟨t, n⟩ := r
    rw [e] at h
    have h : (frNat n fun n => some (⟨t, n, s.life, s.gens, s.drawn, lt s.toks (L ++ [p]), s.os⟩ : SharedT)) = some s' := h
    rw [frNat_eq] at h
    cases h
    have q := putAll_ok (life := s.life) e
    rw [ext_foldl] at q
    have sz : (absHeap s.tree s.n s.life).objs.size = s.n := absHeap_size s.tree s.n s.life
    show Shared.mk (absHeap t n s.life) s.gens s.drawn _ s.os = Shared.mk (ext (absHeap s.tree s.n s.life) _) s.gens s.drawn _ s.os
    rw [q]
    show _ = Shared.mk (ext (absHeap s.tree s.n s.life) (finObjs w prog (absHeap s.tree s.n s.life).objs.size s.toks L p)) s.gens s.drawn _ s.os
    rw [sz]
    rfl
/-! ### the whole -/
structure Plan where
  p : Program
  env : Env
  q0 : Pos
  pos0 : Pos
  l : List Stmt
  rest : List Stmt
  x : Str
  np : Pos
  keys : List (Option Expr)
  values : List Expr
  dpos : Pos
  apos : Pos
  L : List PK
  pk : PK
  k0 : Nat
  kB : Nat
  kL : Nat
  kF : Nat
  M : Nat
def Plan.st (D : Plan) : Stmt := .Assign [.Name D.x D.np] (.Dict D.keys D.values D.dpos) D.apos
def Plan.b (D : Plan) : List Stmt := D.l ++ D.st :: D.rest
def Plan.c (D : Plan) : Code := .body (behindTheImports D.p) D.env
def Plan.B (D : Plan) : List Frame := [topFrame D.q0]
def Plan.F (D : Plan) (v : Value) : Sem Flow := do
  standAt D.np
  bindName D.env D.x v
  pure .next
structure Big where
  tA : Thread
  n1 : Nat
  cB : Code
  c1 : Code
  c3 : Code
  s4 : SharedT
def bigF (st : SharedT → Thread → Option (SharedT × Thread)) (D : Plan) (w : World) (os : OsState) (p2 : Pos) : Option Big := match putAll (boot_heap w.params).objs.toList .nil 0 with
  | none => none
  | some (t, n) => frNat n fun n0 => match goS st n0 (bootAnn w) D.k0 (bootT w os (t, n0)) (topStub D.p) with
    | none => none
    | some (sA, tA) => match segF st n0 (bootAnn w) D.kB sA (blockOf (behindTheImports D.p) D.env D.c D.pos0 D.B) with
      | some (.next, sB, cB, pB) => (match segF st n0 (bootAnn w) D.kL sB (piecesOf D.l D.env D.c pB D.B) with
        | some (.next, s1, c1, _) => (match layT w D.p D.L D.pk s1 with
          | some s2 => (match segF st n0 (bootAnn w) D.kF s2 ⟨(D.F (.ref s1.n)).wrap doneF deadEnd id id, D.c, p2, D.B⟩ with
            | some (.next, s3, c3, p3) => (match goF st n0 (bootAnn w) D.M s3 (restOf D.rest D.env D.c p3 D.B) with
              | some s4 => some ⟨tA, s1.n, cB, c1, c3, s4⟩
              | none => none)
            | _ => none)
          | none => none)
        | _ => none)
      | _ => none
end Fw

end
set_option Elab.async false
set_option linter.all false
set_option maxRecDepth 100000
set_option maxHeartbeats 2000000
noncomputable section
namespace Fw
open PySem PySem.W PySem.Calls PyProof.Rows HandSHeadRun
/-- an expression by wp, with what stands behind it; its end told by a property -/
theorem halts_mid' {p : Program} {w : World} {α : Type} {m : Sem α} {K : α → Sem Fin} {H : Value → Sem Fin} {gd : Bool → Bool} {lv : List Value → List Value} {s : Shared} {c : Code} {pos : Pos} {B : List Frame} {Q : α → Pos → Shared → Prop} {G : Shared → Prop}
    (hw : Sem.wp (model p w) ((⟨c, none, none, [], none⟩ : Ctx).over B) m Q (fun _ _ _ => False) pos s) (hk : ∀ a p' s', Q a p' s' → ∃ S, Halts p w s' ⟨K a, c, p', B⟩ S ∧ S.gens = #[] ∧ G S) : ∃ S, Halts p w s ⟨m.wrap K H gd lv, c, pos, B⟩ S ∧ S.gens = #[] ∧ G S := by
  obtain ⟨e, S, hr, f, he, hg, hS⟩ := runs_wrap_of_wp (M := model p w) (Γ := ⟨c, none, none, [], none⟩) (fs := B) (Φ := fun e s'' => ∃ f, e = .ret (.ok f) ∧ s''.gens = #[] ∧ G s'') K H gd lv m hw
    (fun a p' s' q => by
      obtain ⟨S, h1, h2, h3⟩ := hk a p' s' q
      obtain ⟨f, r⟩ := halts_runs h1 h2
      exact ⟨_, _, r, f, rfl, h2, h3⟩) (fun _ _ _ q => q.elim)
  subst he
  exact ⟨S, runs_halts hr hg, hg, hS⟩
/-- what an end keeps of a state -/
structure Keeps (n₀ : Nat) (ann : Option Value) (s S : Shared) : Prop where
  life : S.heap.life = s.heap.life
  os : S.os = s.os
  fr : ∀ b o, b < n₀ → b ≠ mainNs → b ≠ cStatics → ann ≠ some (.ref b) → s.heap.get? b = some o → S.heap.get? b = some o
theorem Keeps.trans {n₀ : Nat} {ann : Option Value} {a b c : Shared} (x : Keeps n₀ ann a b) (y : Keeps n₀ ann b c) : Keeps n₀ ann a c :=
  ⟨y.life.trans x.life, y.os.trans x.os, fun i o h1 h2 h3 h4 h => y.fr i o h1 h2 h3 h4 (x.fr i o h1 h2 h3 h4 h)⟩
theorem keeps_go {p : Program} {w : World} {tb : String → Option Builtin} {n₀ : Nat} {ann : Option Value} {n : Nat} {s s' : Shared} {t t' : Thread} (h : topGo tb p w n₀ ann n s t = some (s', t')) : Keeps n₀ ann s s' := by
  obtain ⟨a, b, c⟩ := go_keeps h
  exact ⟨a, b, c⟩
theorem keeps_fin {w : World} {prog : Program} {n₀ : Nat} {ann : Option Value} (s : Shared) (L : List PK) (p : PK) : Keeps n₀ ann s (fin w prog s L p) :=
  ⟨rfl, rfl, fun b o _ _ _ _ h => by
    have lt := Heap.lt_size h
    show (ext s.heap _).get? b = some o
    unfold Heap.get? ext at *
    rw [Array.getElem?_append_left lt]
    exact h⟩
section
variable {D : Plan} {w : World} {os : OsState}
/-- the Around of the top's body -/
def topA (D : Plan) : Around := { handled := none, depth := frameCount [(.builtin "claim.caller" {}, D.q0)] + D.c.weight, frames := none, guards := none, units := D.c.cUnits + unitsOf [(.builtin "claim.caller" {}, D.q0)] }
theorem top_in : ((⟨D.c, none, none, [], none⟩ : Ctx).over D.B).In (topA D) :=
  ⟨rfl, Nat.le_refl _, fun l hl => (nomatch (show (none : Option (List Env)) = some l from hl)), fun g hg => (nomatch (show (none : Option (List Code)) = some g from hg)), Nat.le_refl _⟩
/-- what must be shown of a plan -/
structure Plan.Ok (D : Plan) : Prop where
  body : behindTheImports D.p = D.l ++ D.st :: D.rest
  sw : swapsWith (.Dict D.keys D.values D.dpos) (some (.Name D.x D.np)) D.apos.line D.env = pure false
  shape : ∃ (a : List PS) (b c : PS), a.length = 16 ∧ (evalEachOpt D.keys D.env).zip ((evalEach D.values D.env).map fun v => do let x ← v; standAt D.dpos; pure x) = (a ++ [b, c]).map (fun p => (some p.1, p.2)) ∧ PairsAre D.env D.dpos (a ++ [b]) D.L ∧ PairsAre D.env D.dpos [c] [D.pk]
  nd : ((D.L ++ [D.pk]).map key).Nodup
  un : D.c.cUnits + unitsOf [(.builtin "claim.caller" {}, D.q0)] < cLine
theorem big_ends {D : Plan} {w : World} {os : OsState} {G : SharedT → Prop} (O : D.Ok)
    (run : ∀ p2, ∃ r, bigF (stepT (denote table) D.p w) D w os p2 = some r ∧ r.tA = ⟨denote table D.c, D.c, D.pos0, D.B⟩ ∧ Nat.blt sysModules r.n1 = true ∧ r.cB = D.c ∧ r.c1 = D.c ∧ r.c3 = D.c ∧ r.s4.gens = #[] ∧ G r.s4) (hz : (⟨boot_heap w.params, #[], boot_drawn, boot_toks, os⟩ : Shared).asleep) :
    ∃ S : SharedT, Halts D.p w ⟨boot_heap w.params, #[], boot_drawn, boot_toks, os⟩ (topStub D.p) S.abs ∧ S.gens = #[] ∧ Keeps (boot_heap w.params).objs.size (bootAnn w) ⟨boot_heap w.params, #[], boot_drawn, boot_toks, os⟩ S.abs ∧ G S := by
  -- what the run is, piece by piece
  have parts : ∀ p2, ∃ (sA sB s1 s2 s3 s4 : SharedT) (pB p1 p3 : Pos) (t : PySem.W.BT) (n : Nat), putAll (boot_heap w.params).objs.toList .nil 0 = some (t, n) ∧ goS (stepT (denote table) D.p w) n (bootAnn w) D.k0 (bootT w os (t, n)) (topStub D.p) = some (sA, ⟨denote table D.c, D.c, D.pos0, D.B⟩) ∧
      segF (stepT (denote table) D.p w) n (bootAnn w) D.kB sA (blockOf (behindTheImports D.p) D.env D.c D.pos0 D.B) = some (.next, sB, D.c, pB) ∧ segF (stepT (denote table) D.p w) n (bootAnn w) D.kL sB (piecesOf D.l D.env D.c pB D.B) = some (.next, s1, D.c, p1) ∧ Nat.blt sysModules s1.n = true ∧ layT w D.p D.L D.pk s1 = some s2 ∧
      segF (stepT (denote table) D.p w) n (bootAnn w) D.kF s2 ⟨(D.F (.ref s1.n)).wrap doneF deadEnd id id, D.c, p2, D.B⟩ = some (.next, s3, D.c, p3) ∧ goF (stepT (denote table) D.p w) n (bootAnn w) D.M s3 (restOf D.rest D.env D.c p3 D.B) = some s4 ∧ s4.gens = #[] ∧ G s4 := by
    intro p2
    obtain ⟨r, hr, e1, en1, e2, e3, e4, hg, hG⟩ := run p2
    unfold bigF at hr
    split at hr
    · exact nomatch hr
    rename_i t n ht
    rw [frNat_eq] at hr
    split at hr
    · exact nomatch hr
    rename_i sA tA hA
    split at hr
    · rename_i sB cB pB hB
      split at hr
      · rename_i s1 c1 p1 h1
        split at hr
        · rename_i s2 h2
          split at hr
          · rename_i s3 c3 p3 h3
            split at hr
            · rename_i s4 h4
              cases hr
              dsimp only at e1 en1 e2 e3 e4 hg hG
              subst e1 e2 e3 e4
              exact ⟨sA, sB, s1, s2, s3, s4, pB, p1, p3, t, n, ht, hA, hB, h1, en1, h2, h3, h4, hg, hG⟩
            · exact nomatch hr
          · exact nomatch hr
        · exact nomatch hr
      · exact nomatch hr
    · exact nomatch hr
  obtain ⟨sA, sB, s1, s2, _, _, pB, p1, _, t, n, ht, hA, hB, h1, n1, h2, _⟩ := parts default
  have eh := putAll_heap ht
  have en : (boot_heap w.params).objs.size = n := by
    rw [← eh]
    exact absHeap_size t n _
  have eb : (bootT w os (t, n)).abs = ⟨boot_heap w.params, #[], boot_drawn, boot_toks, os⟩ := by
    show (⟨absHeap t n (boot_heap w.params).life, #[], boot_drawn, boot_toks, os⟩ : Shared) = _
    rw [eh]
  have suffix : ∀ p2, ∃ (s3 s4 : SharedT) (p3 : Pos), segF (stepT (denote table) D.p w) n (bootAnn w) D.kF s2 ⟨(D.F (.ref s1.n)).wrap doneF deadEnd id id, D.c, p2, D.B⟩ = some (.next, s3, D.c, p3) ∧ goF (stepT (denote table) D.p w) n (bootAnn w) D.M s3 (restOf D.rest D.env D.c p3 D.B) = some s4 ∧ s4.gens = #[] ∧ G s4 := by
    intro p2
    obtain ⟨sA', sB', s1', s2', s3, s4, pB', p1', p3, t', n', ht', hA', hB', h1', _, h2', h3, h4, hg, hG⟩ := parts p2
    rw [ht] at ht'
    cases ht'
    rw [hA] at hA'
    cases hA'
    rw [hB] at hB'
    cases hB'
    rw [h1] at h1'
    cases h1'
    rw [h2] at h2'
    cases h2'
    exact ⟨s3, s4, p3, h3, h4, hg, hG⟩
  have goA := goS_ok hA
  rw [eb] at goA
  have kA := keeps_go goA
  have sB0 : splitAtGen D.B = none := rfl
  obtain ⟨_, mB, _, goB⟩ := seg_goes (res := fun _ : Unit => Flow.next) (K' := fun _ => (execs (behindTheImports D.p) D.env).wrap doneF (leaveH D.env) id id) (H' := Sem.raise) (B := D.B) sB0 D.kB (t := blockOf (behindTheImports D.p) D.env D.c D.pos0 D.B)
    (t' := ⟨(blockStart (behindTheImports D.p) D.env).wrap (fun _ => (execs (behindTheImports D.p) D.env).wrap doneF (leaveH D.env) id id) .raise id id, D.c, D.pos0, D.B⟩) ⟨rfl, rfl, .inl ⟨rfl, rfl, _, rfl, rfl⟩⟩ (segF_ok hB)
  have kB := keeps_go goB
  obtain ⟨fC, mC, eC, goC⟩ := seg_goes (res := fun f : Flow => f) (K' := fun f => match f with | .next => (execs (D.st :: D.rest) D.env).wrap doneF (leaveH D.env) id id | f => doneF f) (H' := leaveH D.env) (B := D.B) sB0 D.kL (t := piecesOf D.l D.env D.c pB D.B)
    (t' := ⟨(execs D.l D.env).wrap (fun f => match f with | .next => (execs (D.st :: D.rest) D.env).wrap doneF (leaveH D.env) id id | f => doneF f) (leaveH D.env) id id, D.c, pB, D.B⟩) ⟨rfl, rfl, .inl ⟨rfl, rfl, _, rfl, rfl⟩⟩ (segF_ok h1)
  have eC : fC = .next := eC
  subst eC
  have kC := keeps_go goC
  have K1 : Keeps n (bootAnn w) ⟨boot_heap w.params, #[], boot_drawn, boot_toks, os⟩ s1.abs := (kA.trans kB).trans kC
  have sz : s1.abs.heap.objs.size = s1.n := absHeap_size s1.tree s1.n s1.life
  -- behind the display
  have behind : ∀ p', ∃ S, Halts D.p w (fin w D.p s1.abs D.L D.pk) ⟨(D.F (.ref s1.abs.heap.objs.size)).wrap (fun f => match f with | .next => (execs D.rest D.env).wrap doneF (leaveH D.env) id id | f => doneF f) (leaveH D.env) id id, D.c, p', D.B⟩ S ∧ S.gens = #[] ∧
      ∃ S4 : SharedT, S = S4.abs ∧ S4.gens = #[] ∧ Keeps n (bootAnn w) s1.abs S ∧ G S4 := by
    intro p'
    obtain ⟨s3, s4, p3, h3, h4, hg, hG⟩ := suffix p'
    rw [sz, ← layT_ok h2]
    obtain ⟨fE, mE, eE, goE⟩ := seg_goes (res := fun f : Flow => f) (K' := fun f => match f with | .next => (execs D.rest D.env).wrap doneF (leaveH D.env) id id | f => doneF f) (H' := leaveH D.env) (B := D.B) sB0 D.kF (t := ⟨(D.F (.ref s1.n)).wrap doneF deadEnd id id, D.c, p', D.B⟩)
      (t' := ⟨(D.F (.ref s1.n)).wrap (fun f => match f with | .next => (execs D.rest D.env).wrap doneF (leaveH D.env) id id | f => doneF f) (leaveH D.env) id id, D.c, p', D.B⟩) ⟨rfl, rfl, .inl ⟨rfl, rfl, _, rfl, rfl⟩⟩ (segF_ok h3)
    have eE : fE = .next := eE
    subst eE
    have top := goF_ok h4
    have kE := keeps_go goE
    have k2 : Keeps n (bootAnn w) s1.abs s2.abs := by
      rw [layT_ok h2]
      exact keeps_fin _ _ _
    have K3 := (K1.trans k2).trans kE
    obtain ⟨_, l4, o4, f4⟩ := topRun_spec _ _ _ _ (Shared.asleep_of_life K3.life hz) top
    have k4 : Keeps n (bootAnn w) s3.abs s4.abs := ⟨l4, o4, f4⟩
    exact ⟨s4.abs, halts_go goE (halts_top top hg), hg, s4, rfl, hg, (k2.trans kE).trans k4, hG⟩
  have ex : exec D.st D.env = ((do standAt D.apos; eval (.Dict D.keys D.values D.dpos) D.env) : Sem Value) >>= D.F := by
    show exec (.Assign [.Name D.x D.np] (.Dict D.keys D.values D.dpos) D.apos) D.env = _
    rw [exec_Assign_Name _ _ _ _ _ O.sw]
    rfl
  obtain ⟨a, b, c, ha, hsh, c1, c2⟩ := O.shape
  have hu : (topA D).units < cLine := O.un
  have hm : sysModules < s1.abs.heap.objs.size := by
    rw [sz]
    exact Nat.le_of_ble_eq_true n1
  have wpD : wpAny (model D.p w) (topA D) ((do standAt D.apos; eval (.Dict D.keys D.values D.dpos) D.env) : Sem Value) (fun v s' => v = .ref s1.abs.heap.objs.size ∧ s' = fin w D.p s1.abs D.L D.pk) (fun _ _ => False) s1.abs := by
    refine wpAny_bind (wpAny_standAt ?_)
    rw [arm_eval_Dict, hsh]
    exact wpAny_bind (wpAny_standAt (wp_display hu ha c1 c2 O.nd hm ⟨rfl, rfl⟩))
  obtain ⟨S, hS, hg, S4, rfl, hg4, hk4, hG⟩ := halts_mid' (p := D.p) (w := w) (K := fun v => (D.F v).wrap (fun f => match f with | .next => (execs D.rest D.env).wrap doneF (leaveH D.env) id id | f => doneF f) (leaveH D.env) id id) (H := leaveH D.env) (gd := id) (lv := id) (c := D.c) (pos := p1) (B := D.B)
    (G := fun S => ∃ S4 : SharedT, S = S4.abs ∧ S4.gens = #[] ∧ Keeps n (bootAnn w) s1.abs S ∧ G S4) (wpD _ p1 top_in) (fun v p' s' q => by
      obtain ⟨rfl, rfl⟩ := q
      exact behind p')
  refine ⟨S4, ?_, hg4, by rw [en]; exact K1.trans hk4, hG⟩
  refine halts_go goA ?_
  have eB : denote table D.c = (blockStart (behindTheImports D.p) D.env).wrap (fun _ => (execs (behindTheImports D.p) D.env).wrap doneF (leaveH D.env) id id) .raise id id := body_wrap _
  rw [eB]
  refine halts_go goB ?_
  rw [show (execs (behindTheImports D.p) D.env).wrap doneF (leaveH D.env) id id = (execs D.l D.env).wrap (fun f => match f with | .next => (execs (D.st :: D.rest) D.env).wrap doneF (leaveH D.env) id id | f => doneF f) (leaveH D.env) id id by rw [O.body, execs_app_wrap]; rfl]
  refine halts_go goC ?_
  show Halts D.p w s1.abs ⟨(execs (D.st :: D.rest) D.env).wrap doneF (leaveH D.env) id id, D.c, p1, D.B⟩ S4.abs
  rw [execs_cons_wrap, ex, Sem.bind_eq_wrap', Sem.wrap_wrap]
  exact hS
end
end Fw

end
set_option Elab.async false
set_option linter.all false
set_option maxRecDepth 100000
set_option maxHeartbeats 2000000
noncomputable section
namespace Fw
open PySem PySem.W PySem.Calls PyProof.Rows HandSHeadRun
/-- what is read off a run's end -/
def seeB (D : Plan) (q : Program) (loose : List Str) (Xt : Shared → Bool) {α : Type} (ob : SharedT → α) (w : World) (r : Big) := (r.tA, Nat.blt sysModules r.n1, r.cB, r.c1, r.c3, r.s4.gens.size, looksF D.p (boot_heap w.params) r.s4.abs, seenQ q loose (importedModules D.p.main.body) Xt r.s4.abs, ob r.s4)
def RunB (D : Plan) (q : Program) (loose : List Str) (Xt : Shared → Bool) {α : Type} (ob : SharedT → α) (val : World → α) : Prop :=
  ∀ (w : World) (os : OsState) (p2 : Pos), (bigF (stepQ (denQ tabQ) D.p w) D w os p2).map (seeB D q loose Xt ob w) = some (⟨denQ tabQ D.c, D.c, D.pos0, D.B⟩, true, D.c, D.c, D.c, 0, true, openGood q loose, val w)
theorem tops_of {D : Plan} {q : Program} {loose : List Str} {Xt : Shared → Bool} {H : Hook} {ob : SharedT → H.α} (O : D.Ok) (ho : ∀ s : SharedT, ob s = H.obs s.abs) (e : opening D.p = plainProg D.p.main.scope.names) (f : ∀ s, fenceModules? D.p s = some s) (run : RunB D q loose Xt ob H.val) :
    TopsE D.p q loose Xt H.obs H.val := fun w => by
  obtain ⟨⟨hp, gs, dr, tk, os⟩, hf, e0⟩ := Option.map_eq_some_iff.mp (boot_open (N := 600) e rfl f w)
  obtain ⟨rfl, rfl, rfl, rfl⟩ : hp = boot_heap w.params ∧ gs = Array.mk [] ∧ dr = boot_drawn ∧ tk = boot_toks := by simpa using e0
  rw [← table_eq_tree] at hf
  obtain ⟨s, hi, hfe⟩ := Option.bind_eq_some_iff.mp hf
  have A := AfterImport.of_importEnds hi
  have hz := Shared.asleep_of_life (fence_lifeW hfe) A.life
  have eq : ∀ p2, bigF (stepQ (denQ tabQ) D.p w) D w os p2 = bigF (stepT (denote table) D.p w) D w os p2 := fun p2 => by
    rw [← stepQ_eq, ← denQ_eq, ← tabQ_eq, table_eq_tree]
  obtain ⟨S, hS, hg, kS, g1, g2, g3⟩ := big_ends (w := w) (os := os) (G := fun S => looksF D.p (boot_heap w.params) S.abs = true ∧ openSeen q loose (importedModules D.p.main.body) Xt true S.abs = openGood q loose ∧ H.obs S.abs = H.val w) O (fun p2 => by
    obtain ⟨r, hr, hv⟩ := Option.map_eq_some_iff.mp (run w os p2)
    rw [eq] at hr
    have hv : seeB D q loose Xt ob w r = _ := hv
    unfold seeB at hv
    simp only [Prod.mk.injEq] at hv
    obtain ⟨v1, v2, v3, v4, v5, v6, v7, v8, v9⟩ := hv
    refine ⟨r, hr, ?_, v2, v3, v4, v5, Array.eq_empty_of_size_eq_zero v6, v7, ?_, ?_⟩
    · rw [v1, ← denQ_eq, ← tabQ_eq, table_eq_tree]
    · rw [seenQ_eq]
      exact v8
    · rw [← ho]
      exact v9) hz
  exact ⟨600, _, S.abs, hf, ⟨hS, boot_ns _, rfl, hg, kS.life, kS.os, kS.fr, g1, g2, g3⟩⟩
/-- a row whose top has the display in its midst -/
theorem head_big {r : OpenRow} {D : Plan} {q : Program} {loose : List Str} {H : Hook} {ob : SharedT → H.α} {d : DefRec} {kwd : List (Str × Expr)} (hD : D.p = r.prog) (O : D.Ok) (ho : ∀ s : SharedT, ob s = H.obs s.abs) (e : opening D.p = plainProg D.p.main.scope.names) (f : ∀ s, fenceModules? D.p s = some s)
    (run : RunB D q loose (fun s => xlAt q [] s && recOk r.toRowW.records s) ob H.val) (hdef : defOf q r.name = some (d, kwd)) (hp : r.prog.theDef r.name = some (d.params, d.body, d.scope)) (hk : kwWritten? d.params.kwonlyargs d.params.kw_defaults = some kwd)
    (hwr : (!r.writes || r.records.isEmpty) = true) (k1 : r.wellSaid = true) (ok : (chainsOk q && opensWell r.prog && (frees r.toRowW && r.within.isEmpty)) = true) (hb : r.prog.bare) (hw : r.toRowW.promised)
    (call : WalkO q loose (XL q []) H.says r.toRowW d kwd fun f vs => PySem.call f vs) : r.Holds := by
  have T := tops_of O ho e f run
  rw [hD] at T
  exact holdsE T (fun s z => xl_of s (Bool.and_eq_true_iff.mp z).1) XL.keeps hdef hp hk (fun s z => recFacts_of (Bool.and_eq_true_iff.mp z).2) hwr k1 ok hb hw call
/-! ### the hook: functions, facts, and some objects outright -/
def obsX (fa : List He.Fa) (fn : List He.FnD) (gs : List (Str × Addr)) (m k n : Nat) (g : Addr → Option Obj) : He.Al × Bool × List (Option Obj) :=
  let K := He.frG g (List.range n)
  (He.obsE fa fn K, gs.all fun x => He.eqO (nsIn K mainGlobals x.1) (some (some (.ref x.2))), (List.range k).map fun i => K.lookup (m + i))
def hookX (fa : List He.Fa) (fn : List He.FnD) (gs : List (Str × Addr)) (m k n : Nat) (os : World → List Obj) : Hook where
  α := He.Al × Bool × List (Option Obj)
  obs := fun s => obsX fa fn gs m k n s.heap.get?
  val := fun w => (He.valE fn, true, (os w).map some)
  says := fun w h => ∃ K : Frag, K.In h ∧ He.SaysE fa fn K ∧ (∀ x ∈ gs, nsIn K mainGlobals x.1 = some (some (.ref x.2))) ∧ ∀ i o, (os w)[i]? = some o → K.lookup (m + i) = some o
  of := fun w s e => by
    have e1 := congrArg (fun z : He.Al × Bool × List (Option Obj) => z.1) e
    have e2 := congrArg (fun z : He.Al × Bool × List (Option Obj) => z.2.1) e
    have e3 : (List.range k).map (fun i => (He.frG s.heap.get? (List.range n)).lookup (m + i)) = (os w).map some := congrArg (fun z : He.Al × Bool × List (Option Obj) => z.2.2) e
    refine ⟨_, He.frG_in, e1, fun x hx => He.eqO_ok (List.all_eq_true.mp e2 x hx), fun i o h => ?_⟩
    have z : ((List.range k).map (fun i => (He.frG s.heap.get? (List.range n)).lookup (m + i)))[i]? = ((os w).map some)[i]? := by rw [e3]
    rw [List.getElem?_map, List.getElem?_map, h] at z
    cases q : (List.range k)[i]? with
    | none => rw [q] at z; exact nomatch z
    | some j =>
      rw [q] at z
      have ej : j = i := by
        have := (List.getElem?_eq_some_iff.mp q)
        obtain ⟨h1, h2⟩ := this
        rw [List.getElem_range] at h2
        exact h2.symm
      subst ej
      exact Option.some.inj z
  keeps := fun _ _ _ ⟨K, hK, c⟩ k => ⟨K, Frag.In.keeps hK k, c⟩
def obX (fa : List He.Fa) (fn : List He.FnD) (gs : List (Str × Addr)) (m k n : Nat) (s : SharedT) : He.Al × Bool × List (Option Obj) := obsX fa fn gs m k n (getT s)
theorem obX_eq (fa : List He.Fa) (fn : List He.FnD) (gs : List (Str × Addr)) (m k n : Nat) (os : World → List Obj) (s : SharedT) : obX fa fn gs m k n s = (hookX fa fn gs m k n os).obs s.abs := by
  have e : getT s = s.abs.heap.get? := funext (getT_eq s)
  show obsX fa fn gs m k n (getT s) = obsX fa fn gs m k n s.abs.heap.get?
  rw [e]
end Fw

end
set_option Elab.async false
set_option linter.all false
set_option maxRecDepth 100000
set_option maxHeartbeats 2000000
/-! the hook with any looks at the fragment (ck), and some objects outright by their addresses; the class Fell by such looks -/
noncomputable section
namespace Fw
open PySem PySem.W PySem.Calls PyProof.Rows HandSHeadRun
def obsY (fa : List He.Fa) (fn : List He.FnD) (ck : Frag → Bool) (as : List Addr) (n : Nat) (g : Addr → Option Obj) : He.Al × Bool × List (Option Obj) :=
  let K := He.frG g (List.range n)
  (He.obsE fa fn K, ck K, as.map fun a => K.lookup a)
def hookY (fa : List He.Fa) (fn : List He.FnD) (ck : Frag → Bool) (as : List Addr) (n : Nat) (os : World → List Obj) : Hook where
  α := He.Al × Bool × List (Option Obj)
  obs := fun s => obsY fa fn ck as n s.heap.get?
  val := fun w => (He.valE fn, true, (os w).map some)
  says := fun w h => ∃ K : Frag, K.In h ∧ He.SaysE fa fn K ∧ ck K = true ∧ ∀ (i : Nat) (a : Addr) (o : Obj), as[i]? = some a → (os w)[i]? = some o → K.lookup a = some o
  of := fun w s e => by
    have e1 := congrArg (fun z : He.Al × Bool × List (Option Obj) => z.1) e
    have e2 := congrArg (fun z : He.Al × Bool × List (Option Obj) => z.2.1) e
    have e3 : as.map (fun a => (He.frG s.heap.get? (List.range n)).lookup a) = (os w).map some := congrArg (fun z : He.Al × Bool × List (Option Obj) => z.2.2) e
    refine ⟨_, He.frG_in, e1, e2, fun i a o ha ho => ?_⟩
    have z : (as.map (fun a => (He.frG s.heap.get? (List.range n)).lookup a))[i]? = ((os w).map some)[i]? := by rw [e3]
    rw [List.getElem?_map, List.getElem?_map, ha, ho] at z
    exact Option.some.inj z
  keeps := fun _ _ _ ⟨K, hK, c⟩ k => ⟨K, Frag.In.keeps hK k, c⟩
def obY (fa : List He.Fa) (fn : List He.FnD) (ck : Frag → Bool) (as : List Addr) (n : Nat) (s : SharedT) : He.Al × Bool × List (Option Obj) := obsY fa fn ck as n (getT s)
theorem obY_eq (fa : List He.Fa) (fn : List He.FnD) (ck : Frag → Bool) (as : List Addr) (n : Nat) (os : World → List Obj) (s : SharedT) : obY fa fn ck as n s = (hookY fa fn ck as n os).obs s.abs := by
  have e : getT s = s.abs.heap.get? := funext (getT_eq s)
  show obsY fa fn ck as n (getT s) = obsY fa fn ck as n s.abs.heap.get?
  rw [e]
/-! ### the class Fell -/
def clsB (K : Frag) (C : Addr) : Bool := match K.lookup C with
  | some ⟨.type "type", _, .cls cd, sl⟩ => (match cd.mro, sl.toList with
    | .ref C' :: bm, [_, _, _, _, some (.builtin n), _] => decide (C' = C) && decide (n = "RuntimeError.__new__") && !cd.hasDel && cd.hasDict && decide (bm = PySem.FellX.rtTail)
    | _, _ => false)
  | _ => false
theorem clsB_ok {K : Frag} {C : Addr} (q : clsB K C = true) : ∃ nm qn N bs bm sn sub ab col dd k0 k1 k2 k3 k5, K.lookup C = some (excClassObj nm qn C N bs bm true sn sub ab col dd k0 k1 k2 k3 k5 "RuntimeError.__new__") ∧ bm = PySem.FellX.rtTail := by
  unfold clsB at q
  split at q
  · rename_i dd cd sl ho
    split at q
    · rename_i C' bm k0 k1 k2 k3 n k5 hm hs
      simp only [Bool.and_eq_true, decide_eq_true_eq, Bool.not_eq_true'] at q
      obtain ⟨⟨⟨⟨rfl, rfl⟩, hdel⟩, hdct⟩, ht⟩ := q
      obtain ⟨nm, bs, mro, ns, qn, hd, sn, sub, ab, col, del⟩ := cd
      dsimp only at hm hdel hdct
      subst hm hdel hdct
      have hsl : sl = #[k0, k1, k2, k3, some (.builtin "RuntimeError.__new__"), k5] := by
        obtain ⟨l⟩ := sl
        simp only at hs
        rw [hs]
      subst hsl
      exact ⟨nm, qn, ns, bs, bm, sn, sub, ab, col, dd, k0, k1, k2, k3, k5, ho, ht⟩
    · cases q
  · cases q
def kwB (K : Frag) (a : Addr) : Bool := match K.lookup a with
  | some ⟨_, _, .func fd, _⟩ => decide (fd.kwdefaults = .none)
  | _ => false
def fellB (K : Frag) : Bool :=
  let C := He.ga K "Fell"
  let I := He.ma K C "__init__"
  clsB K C && He.eqO (findIn K (.ref C) "__setattr__") (some (some (.builtin "object.__setattr__"))) && He.eqO (findIn K (.ref C) "__getattribute__") (some (some (.builtin "BaseException.__getattribute__"))) && He.eqO (findIn K (.ref C) "__getattr__") (some none) &&
  He.eqO (findIn K (.ref C) "word") (some none) && He.eqO (findIn K (.ref C) "__init__") (some (some (.ref I))) && decide (typeIn K (.ref I) = some (.type "function")) && keepIn K (.ref C) && decide (subIn K (.ref C) (.type "BaseException") = some true) && decide (typeIn K (.ref C) = some (.type "type")) &&
  hasDictIn K C && decide (subIn K (.ref C) (.ref C) = some true) && kwB K I && He.eqO (findIn K (.ref C) "__class__") (some (some (.builtin "object.__class__"))) && He.eqO (specialIn K (.builtin "object.__class__") "__get__") (some (some (.builtin "getset_descriptor.__get__"))) &&
  decide (takesIn K (.builtin "object.__class__") = some true) && decide (mroIn K C (.type "object") = some true) && decide (subIn K (.ref C) (.type "RuntimeError") = some true)
theorem fell_of {K : Frag} {h : Heap} {mg : Str → Option Value} (X : K.In h) (G : h.Ns mainGlobals mg) (g : (He.Fa.glo "Fell").ok K = true) (q : fellB K = true) {p1 p2 q1 q2 q3 q4 : Pos}
    (fn : ∃ oc od osl kV doc pm an cdv ct, K.lookup (He.ma K (He.ga K "Fell") "__init__") = some ⟨oc, od, .func (fnOf "__init__" "Fell.__init__" (PySem.FellX.iA p1 p2) (PySem.FellX.iB q1 q2 q3 q4) PySem.FellX.iS .none kV doc pm an cdv ct), osl⟩ ∧ codeIn K cdv "Fell.__init__" = true) :
    PySem.FellX.FellTxt K mg (He.ga K "Fell") (He.ma K (He.ga K "Fell") "__init__") ∧ L2.ErrC K (He.ga K "Fell") ∧ subIn K (.ref (He.ga K "Fell")) (.type "RuntimeError") = some true := by
  unfold fellB at q
  dsimp only at q
  simp only [Bool.and_eq_true, decide_eq_true_eq] at q
  obtain ⟨⟨⟨⟨⟨⟨⟨⟨⟨⟨⟨⟨⟨⟨⟨⟨⟨c1, c2⟩, c3⟩, c4⟩, c5⟩, c6⟩, c7⟩, c8⟩, c9⟩, c10⟩, c11⟩, c12⟩, c13⟩, c14⟩, c15⟩, c16⟩, c17⟩, c18⟩ := q
  obtain ⟨oc, od, osl, kV, doc, pm, an, cdv, ct, l, e⟩ := fn
  have ek : kV = .none := by
    unfold kwB at c13
    rw [l] at c13
    exact of_decide_eq_true c13
  subst ek
  refine ⟨⟨He.glo_ok X G g, clsB_ok c1, He.eqO_ok c2, He.eqO_ok c3, He.eqO_ok c4, He.eqO_ok c5, He.eqO_ok c6, c7, c8, c9, c10, c11, exm_ref c9 c11 c10 c12, ⟨oc, od, doc, pm, an, cdv, ct, osl, p1, p2, q1, q2, q3, q4, l, e⟩⟩,
    { ga := He.eqO_ok c3, gg := He.eqO_ok c4, exC := c9, hdC := c11, ac := He.eqO_ok c14, sg := He.eqO_ok c15, tk := c16, mo := c17 }, c18⟩
end Fw

end
set_option Elab.async false
set_option linter.all false
set_option maxRecDepth 100000
set_option maxHeartbeats 2000000
/-! a top with any number of displays: pieces in the kernel, displays by wp -/
noncomputable section
namespace Fw
open PySem PySem.W PySem.Calls PyProof.Rows HandSHeadRun
structure Base where
  p : Program
  env : Env
  q0 : Pos
  pos0 : Pos
  k0 : Nat
  kB : Nat
def Base.c (D : Base) : Code := .body (behindTheImports D.p) D.env
def Base.B (D : Base) : List Frame := [topFrame D.q0]
def Base.A (D : Base) : Around := { handled := none, depth := frameCount [(.builtin "claim.caller" {}, D.q0)] + D.c.weight, frames := none, guards := none, units := D.c.cUnits + unitsOf [(.builtin "claim.caller" {}, D.q0)] }
theorem base_in {D : Base} : ((⟨D.c, none, none, [], none⟩ : Ctx).over D.B).In D.A :=
  ⟨rfl, Nat.le_refl _, fun l hl => (nomatch (show (none : Option (List Env)) = some l from hl)), fun g hg => (nomatch (show (none : Option (List Code)) = some g from hg)), Nat.le_refl _⟩
def bindF (env : Env) (x : Str) (np : Pos) (v : Value) : Sem Flow := do
  standAt np
  bindName env x v
  pure .next
section
variable {D : Base} {w : World} {n₀ : Nat} {ann : Option Value} {G : SharedT → Prop}
/-- the pieces b come to an end from here -/
def EndsAt (D : Base) (w : World) (n₀ : Nat) (ann : Option Value) (G : SharedT → Prop) (b : List Stmt) (s : SharedT) (p : Pos) : Prop :=
  s.abs.asleep → ∃ S : SharedT, Halts D.p w s.abs ⟨(execs b D.env).wrap doneF (leaveH D.env) id id, D.c, p, D.B⟩ S.abs ∧ S.gens = #[] ∧ Keeps n₀ ann s.abs S.abs ∧ G S
theorem ends_seg {l b : List Stmt} {k : Nat} {s s1 : SharedT} {p p1 : Pos} (h : segF (stepT (denote table) D.p w) n₀ ann k s (piecesOf l D.env D.c p D.B) = some (.next, s1, D.c, p1)) (e : EndsAt D w n₀ ann G b s1 p1) : EndsAt D w n₀ ann G (l ++ b) s p := by
  intro hz
  have sB0 : splitAtGen D.B = none := rfl
  obtain ⟨fC, mC, eC, goC⟩ := seg_goes (res := fun f : Flow => f) (K' := fun f => match f with | .next => (execs b D.env).wrap doneF (leaveH D.env) id id | f => doneF f) (H' := leaveH D.env) (B := D.B) sB0 k (t := piecesOf l D.env D.c p D.B)
    (t' := ⟨(execs l D.env).wrap (fun f => match f with | .next => (execs b D.env).wrap doneF (leaveH D.env) id id | f => doneF f) (leaveH D.env) id id, D.c, p, D.B⟩) ⟨rfl, rfl, .inl ⟨rfl, rfl, _, rfl, rfl⟩⟩ (segF_ok h)
  have eC : fC = .next := eC
  subst eC
  have kC := keeps_go goC
  obtain ⟨S, h1, h2, h3, h4⟩ := e (Shared.asleep_of_life kC.life hz)
  refine ⟨S, ?_, h2, kC.trans h3, h4⟩
  rw [execs_app_wrap]
  exact halts_go goC h1
theorem ends_go {b : List Stmt} {M : Nat} {s s4 : SharedT} {p : Pos} (h : goF (stepT (denote table) D.p w) n₀ ann M s (restOf b D.env D.c p D.B) = some s4) (hg : s4.gens = #[]) (hG : G s4) : EndsAt D w n₀ ann G b s p := by
  intro hz
  have top := goF_ok h
  obtain ⟨_, l4, o4, f4⟩ := topRun_spec _ _ _ _ hz top
  exact ⟨s4, halts_top top hg, hg, ⟨l4, o4, f4⟩, hG⟩
theorem ends_dict {b : List Stmt} {k : Nat} {s s2 : SharedT} {p : Pos} {x : Str} {np : Pos} {keys : List (Option Expr)} {values : List Expr} {dpos apos : Pos}
    (sw : swapsWith (.Dict keys values dpos) (some (.Name x np)) apos.line D.env = pure false)
    (wpD : wpAny (model D.p w) D.A (eval (.Dict keys values dpos) D.env) (fun v s' => v = .ref s.n ∧ s' = s2.abs) (fun _ _ => False) s.abs) (k2 : Keeps n₀ ann s.abs s2.abs)
    (h : ∀ p', ∃ s3 p3, segF (stepT (denote table) D.p w) n₀ ann k s2 ⟨(bindF D.env x np (.ref s.n)).wrap doneF deadEnd id id, D.c, p', D.B⟩ = some (.next, s3, D.c, p3) ∧ EndsAt D w n₀ ann G b s3 p3) :
    EndsAt D w n₀ ann G (.Assign [.Name x np] (.Dict keys values dpos) apos :: b) s p := by
  intro hz
  have sB0 : splitAtGen D.B = none := rfl
  have behind : ∀ p', ∃ S, Halts D.p w s2.abs ⟨(bindF D.env x np (.ref s.n)).wrap (fun f => match f with | .next => (execs b D.env).wrap doneF (leaveH D.env) id id | f => doneF f) (leaveH D.env) id id, D.c, p', D.B⟩ S ∧ S.gens = #[] ∧
      ∃ S4 : SharedT, S = S4.abs ∧ S4.gens = #[] ∧ Keeps n₀ ann s.abs S ∧ G S4 := by
    intro p'
    obtain ⟨s3, p3, h3, e⟩ := h p'
    obtain ⟨fE, mE, eE, goE⟩ := seg_goes (res := fun f : Flow => f) (K' := fun f => match f with | .next => (execs b D.env).wrap doneF (leaveH D.env) id id | f => doneF f) (H' := leaveH D.env) (B := D.B) sB0 k (t := ⟨(bindF D.env x np (.ref s.n)).wrap doneF deadEnd id id, D.c, p', D.B⟩)
      (t' := ⟨(bindF D.env x np (.ref s.n)).wrap (fun f => match f with | .next => (execs b D.env).wrap doneF (leaveH D.env) id id | f => doneF f) (leaveH D.env) id id, D.c, p', D.B⟩) ⟨rfl, rfl, .inl ⟨rfl, rfl, _, rfl, rfl⟩⟩ (segF_ok h3)
    have eE : fE = .next := eE
    subst eE
    have kE := keeps_go goE
    have k3 := k2.trans kE
    obtain ⟨S, h1, h2, h4, h5⟩ := e (Shared.asleep_of_life k3.life hz)
    exact ⟨S.abs, halts_go goE h1, h2, S, rfl, h2, k3.trans h4, h5⟩
  have ex : exec (.Assign [.Name x np] (.Dict keys values dpos) apos) D.env = ((do standAt apos; eval (.Dict keys values dpos) D.env) : Sem Value) >>= bindF D.env x np := by
    rw [exec_Assign_Name _ _ _ _ _ sw]
    rfl
  have wpE : wpAny (model D.p w) D.A ((do standAt apos; eval (.Dict keys values dpos) D.env) : Sem Value) (fun v s' => v = .ref s.n ∧ s' = s2.abs) (fun _ _ => False) s.abs := wpAny_bind (wpAny_standAt wpD)
  obtain ⟨S, hS, hg, S4, rfl, hg4, hk4, hG⟩ := halts_mid' (p := D.p) (w := w) (K := fun v => (bindF D.env x np v).wrap (fun f => match f with | .next => (execs b D.env).wrap doneF (leaveH D.env) id id | f => doneF f) (leaveH D.env) id id) (H := leaveH D.env) (gd := id) (lv := id) (c := D.c) (pos := p) (B := D.B)
    (G := fun S => ∃ S4 : SharedT, S = S4.abs ∧ S4.gens = #[] ∧ Keeps n₀ ann s.abs S ∧ G S4) (wpE _ p base_in) (fun v p' s' q => by
      obtain ⟨rfl, rfl⟩ := q
      exact behind p')
  refine ⟨S4, ?_, hg4, hk4, hG⟩
  rw [execs_cons_wrap, ex, Sem.bind_eq_wrap', Sem.wrap_wrap]
  exact hS
end
/-! ### the stages of a top -/
inductive Stg where
  | seg (l : List Stmt) (k : Nat)
  | big (x : Str) (np : Pos) (keys : List (Option Expr)) (values : List Expr) (dpos apos : Pos) (L : List PK) (pk : PK) (k : Nat)
  | txt (x : Str) (np : Pos) (keys : List (Option Expr)) (values : List Expr) (dpos apos : Pos) (L : List SV) (ok : SharedT → Bool) (k : Nat)
  | two (x : Str) (np : Pos) (keys : List (Option Expr)) (values : List Expr) (dpos apos : Pos) (L M : List SP) (k : Nat)
def Stg.ss : Stg → List Stmt
  | .seg l _ => l
  | .big x np ks vs dp ap .. => [.Assign [.Name x np] (.Dict ks vs dp) ap]
  | .txt x np ks vs dp ap .. => [.Assign [.Name x np] (.Dict ks vs dp) ap]
  | .two x np ks vs dp ap .. => [.Assign [.Name x np] (.Dict ks vs dp) ap]
def layU (w : World) (prog : Program) (L M : List SP) (s : SharedT) : Option SharedT := match putAll (objsT w prog s.n s.toks L M) s.tree s.n with
  | some (t, n) => frNat n fun n => some ⟨t, n, s.life, s.gens, s.drawn, tk 1 (tk 2 s.toks L) M + M.length, s.os⟩
  | none => none
theorem layU_ok {w : World} {prog : Program} {L M : List SP} {s s' : SharedT} (h : layU w prog L M s = some s') : s'.abs = finT w prog s.abs L M := by
  unfold layU at h
  cases e : putAll (objsT w prog s.n s.toks L M) s.tree s.n with
  | none => rw [e] at h; exact nomatch h
  | some r =>
    obtain ⟨t, n⟩ := r
    rw [e] at h
    have h : (frNat n fun n => some (⟨t, n, s.life, s.gens, s.drawn, tk 1 (tk 2 s.toks L) M + M.length, s.os⟩ : SharedT)) = some s' := h
    rw [frNat_eq] at h
    cases h
    have q := putAll_ok (life := s.life) e
    rw [ext_foldl] at q
    have sz : (absHeap s.tree s.n s.life).objs.size = s.n := absHeap_size s.tree s.n s.life
    show Shared.mk (absHeap t n s.life) s.gens s.drawn _ s.os = Shared.mk (ext (absHeap s.tree s.n s.life) (objsT w prog (absHeap s.tree s.n s.life).objs.size s.toks L M)) s.gens s.drawn _ s.os
    rw [q, sz]
    rfl
theorem keeps_finT {w : World} {prog : Program} {n₀ : Nat} {ann : Option Value} (s : Shared) (L M : List SP) : Keeps n₀ ann s (finT w prog s L M) :=
  ⟨rfl, rfl, fun b o _ _ _ _ h => by
    have lt := Heap.lt_size h
    show (ext s.heap _).get? b = some o
    unfold Heap.get? ext at *
    rw [Array.getElem?_append_left lt]
    exact h⟩
def layS (w : World) (prog : Program) (L : List SV) (s : SharedT) : Option SharedT := match putAll [dO (sEs w prog s.toks L)] s.tree s.n with
  | some (t, n) => frNat n fun n => some ⟨t, n, s.life, s.gens, s.drawn, s.toks + 2 * L.length, s.os⟩
  | none => none
theorem layS_ok {w : World} {prog : Program} {L : List SV} {s s' : SharedT} (h : layS w prog L s = some s') : s'.abs = midS w prog s.abs s.abs.toks (s.abs.toks + 2 * L.length) L := by
  unfold layS at h
  cases e : putAll [dO (sEs w prog s.toks L)] s.tree s.n with
  | none => rw [e] at h; exact nomatch h
  | some r =>
    obtain ⟨t, n⟩ := r
    rw [e] at h
    have h : (frNat n fun n => some (⟨t, n, s.life, s.gens, s.drawn, s.toks + 2 * L.length, s.os⟩ : SharedT)) = some s' := h
    rw [frNat_eq] at h
    cases h
    have q := putAll_ok (life := s.life) e
    rw [ext_foldl] at q
    show Shared.mk (absHeap t n s.life) s.gens s.drawn _ s.os = Shared.mk (ext (absHeap s.tree s.n s.life) _) s.gens s.drawn _ s.os
    rw [q]
    rfl
structure Trail where
  s : SharedT
  p : Pos
  cs : List Code
  fl : List Bool
def goStg (st : SharedT → Thread → Option (SharedT × Thread)) (D : Base) (w : World) (n₀ : Nat) (ann : Option Value) : List Stg → List Pos → SharedT → Pos → Option Trail
  | [], _, s, p => some ⟨s, p, [], []⟩
  | .seg l k :: r, ps, s, p => match segF st n₀ ann k s (piecesOf l D.env D.c p D.B) with
    | some (.next, s1, c1, p1) => (match goStg st D w n₀ ann r ps s1 p1 with
      | some t => some ⟨t.s, t.p, c1 :: t.cs, t.fl⟩
      | none => none)
    | _ => none
  | .big x np _ _ _ _ L pk k :: r, ps, s, p => match layT w D.p L pk s with
    | some s2 => (match segF st n₀ ann k s2 ⟨(bindF D.env x np (.ref s.n)).wrap doneF deadEnd id id, D.c, ps.headD p, D.B⟩ with
      | some (.next, s3, c3, p3) => (match goStg st D w n₀ ann r ps.tail s3 p3 with
        | some t => some ⟨t.s, t.p, c3 :: t.cs, Nat.blt sysModules s.n :: t.fl⟩
        | none => none)
      | _ => none)
    | none => none
  | .txt x np _ _ _ _ L ok k :: r, ps, s, p => match layS w D.p L s with
    | some s2 => (match segF st n₀ ann k s2 ⟨(bindF D.env x np (.ref s.n)).wrap doneF deadEnd id id, D.c, ps.headD p, D.B⟩ with
      | some (.next, s3, c3, p3) => (match goStg st D w n₀ ann r ps.tail s3 p3 with
        | some t => some ⟨t.s, t.p, c3 :: t.cs, ok s :: t.fl⟩
        | none => none)
      | _ => none)
    | none => none
  | .two x np _ _ _ _ L M k :: r, ps, s, p => match layU w D.p L M s with
    | some s2 => (match segF st n₀ ann k s2 ⟨(bindF D.env x np (.ref s.n)).wrap doneF deadEnd id id, D.c, ps.headD p, D.B⟩ with
      | some (.next, s3, c3, p3) => (match goStg st D w n₀ ann r ps.tail s3 p3 with
        | some t => some ⟨t.s, t.p, c3 :: t.cs, Nat.blt sysModules s.n :: t.fl⟩
        | none => none)
      | _ => none)
    | none => none
def Stg.Ok (D : Base) (w : World) : Stg → Prop
  | .seg _ _ => True
  | .big x np keys values dpos apos L pk _ => swapsWith (.Dict keys values dpos) (some (.Name x np)) apos.line D.env = pure false ∧ ((L ++ [pk]).map key).Nodup ∧
      ∃ (a : List PS) (b c : PS), a.length = 16 ∧ (evalEachOpt keys D.env).zip ((evalEach values D.env).map fun v => do let x ← v; standAt dpos; pure x) = (a ++ [b, c]).map (fun p => (some p.1, p.2)) ∧ PairsAre D.env dpos (a ++ [b]) L ∧ PairsAre D.env dpos [c] [pk]
  | .txt x np keys values dpos apos L ok _ => swapsWith (.Dict keys values dpos) (some (.Name x np)) apos.line D.env = pure false ∧ (L.map (·.1)).Nodup ∧
      ∀ s : SharedT, ok s = true → ∃ ps : List PS, (evalEachOpt keys D.env).zip ((evalEach values D.env).map fun v => do let x ← v; standAt dpos; pure x) = ps.map (fun p => (some p.1, p.2)) ∧ PairsS D.p w D.A (fun _ _ => False) D.env s.abs ps L ∧ ps ≠ [] ∧ ps.length ≤ 15
  | .two x np keys values dpos apos L M _ => swapsWith (.Dict keys values dpos) (some (.Name x np)) apos.line D.env = pure false ∧ ((L ++ M).map (·.1)).Nodup ∧
      ∃ (a c : List PS) (b : PS), a.length = 16 ∧ c ≠ [] ∧ c.length ≤ 15 ∧ (evalEachOpt keys D.env).zip ((evalEach values D.env).map fun v => do let x ← v; standAt dpos; pure x) = (a ++ b :: c).map (fun p => (some p.1, p.2)) ∧ PairsT D.env dpos (a ++ [b]) L ∧ PairsT D.env dpos c M
def Stg.disp : Stg → Nat
  | .seg _ _ => 0
  | _ => 1
theorem keeps_midS {w : World} {prog : Program} {n₀ : Nat} {ann : Option Value} (s : Shared) (t k : Nat) (L : List SV) : Keeps n₀ ann s (midS w prog s t k L) :=
  ⟨rfl, rfl, fun b o _ _ _ _ h => by
    have lt := Heap.lt_size h
    show (ext s.heap _).get? b = some o
    unfold Heap.get? ext at *
    rw [Array.getElem?_append_left lt]
    exact h⟩
theorem stg_ends {D : Base} {w : World} {n₀ : Nat} {ann : Option Value} {G : SharedT → Prop} {b : List Stmt} (un : D.A.units < cLine) : ∀ (L : List Stg) (s : SharedT) (p : Pos), (∀ x ∈ L, x.Ok D w) →
    (∀ ps : List Pos, ps.length = (L.map Stg.disp).sum → ∃ t, goStg (stepT (denote table) D.p w) D w n₀ ann L ps s p = some t ∧ (∀ c ∈ t.cs, c = D.c) ∧ (∀ f ∈ t.fl, f = true) ∧ EndsAt D w n₀ ann G b t.s t.p) →
    EndsAt D w n₀ ann G (L.flatMap Stg.ss ++ b) s p
  | [], s, p, _, run => by
    obtain ⟨t, h, _, _, e⟩ := run [] rfl
    cases h
    exact e
  | .seg l k :: r, s, p, ok, run => by
    show EndsAt D w n₀ ann G ((l ++ r.flatMap Stg.ss) ++ b) s p
    rw [List.append_assoc]
    obtain ⟨t0, h0, c0, _, _⟩ := run (List.replicate ((Stg.seg l k :: r).map Stg.disp).sum default) (List.length_replicate ..)
    cases hs : segF (stepT (denote table) D.p w) n₀ ann k s (piecesOf l D.env D.c p D.B) with
    | none => simp [goStg, hs] at h0
    | some v =>
      obtain ⟨f, s1, c1, p1⟩ := v
      cases f with
      | next =>
        have ec : c1 = D.c := by
          simp only [goStg, hs] at h0
          split at h0
          · cases h0
            exact c0 c1 (List.mem_cons_self ..)
          · cases h0
        subst ec
        refine ends_seg hs (stg_ends un r s1 p1 (fun x hx => ok x (List.mem_cons_of_mem _ hx)) fun ps hp => ?_)
        obtain ⟨t, h, c, f, e⟩ := run ps (by rw [hp, List.map_cons, List.sum_cons]; exact (Nat.zero_add _).symm)
        simp only [goStg, hs] at h
        split at h
        · rename_i t' ht'
          cases h
          exact ⟨t', ht', fun x hx => c x (List.mem_cons_of_mem _ hx), f, e⟩
        · cases h
      | _ => simp [goStg, hs] at h0
  | .big x np keys values dpos apos L pk k :: r, s, p, ok, run => by
    obtain ⟨sw, nd, a, bb, cc, al, hsh, p1, p2⟩ := ok _ (List.mem_cons_self ..)
    show EndsAt D w n₀ ann G (.Assign [.Name x np] (.Dict keys values dpos) apos :: (r.flatMap Stg.ss ++ b)) s p
    obtain ⟨t0, h0, _, f0, _⟩ := run (List.replicate ((Stg.big x np keys values dpos apos L pk k :: r).map Stg.disp).sum default) (List.length_replicate ..)
    cases hs : layT w D.p L pk s with
    | none => simp [goStg, hs] at h0
    | some s2 =>
      have sz : s.abs.heap.objs.size = s.n := absHeap_size s.tree s.n s.life
      have blt : Nat.blt sysModules s.n = true := by
        simp only [goStg, hs] at h0
        split at h0
        · split at h0
          · cases h0
            exact f0 _ (List.mem_cons_self ..)
          · cases h0
        · cases h0
      refine ends_dict (k := k) sw ?_ (by rw [layT_ok hs]; exact keeps_fin _ _ _) fun p' => ?_
      · rw [arm_eval_Dict, hsh]
        refine wpAny_bind (wpAny_standAt (wp_display un al p1 p2 nd (by rw [sz]; exact Nat.le_of_ble_eq_true blt) ?_))
        rw [sz, layT_ok hs]
        exact ⟨rfl, rfl⟩
      · obtain ⟨t1, h1, c1, _, _⟩ := run (p' :: List.replicate (r.map Stg.disp).sum default) (by rw [List.length_cons, List.length_replicate, List.map_cons, List.sum_cons]; exact Nat.add_comm _ _)
        simp only [goStg, hs, List.headD_cons, List.tail_cons] at h1
        split at h1
        · rename_i s3 c3 p3 h3
          have ec : c3 = D.c := by
            split at h1
            · cases h1
              exact c1 c3 (List.mem_cons_self ..)
            · cases h1
          subst ec
          refine ⟨s3, p3, h3, stg_ends un r s3 p3 (fun x hx => ok x (List.mem_cons_of_mem _ hx)) fun ps hp => ?_⟩
          obtain ⟨t, h, c, f, e⟩ := run (p' :: ps) (by rw [List.length_cons, hp, List.map_cons, List.sum_cons]; exact Nat.add_comm _ _)
          simp only [goStg, hs, List.headD_cons, List.tail_cons, h3] at h
          split at h
          · rename_i t' ht'
            cases h
            exact ⟨t', ht', fun x hx => c x (List.mem_cons_of_mem _ hx), fun x hx => f x (List.mem_cons_of_mem _ hx), e⟩
          · cases h
        · cases h1
  | .txt x np keys values dpos apos L okB k :: r, s, p, ok, run => by
    obtain ⟨sw, nd, hps⟩ := ok _ (List.mem_cons_self ..)
    show EndsAt D w n₀ ann G (.Assign [.Name x np] (.Dict keys values dpos) apos :: (r.flatMap Stg.ss ++ b)) s p
    obtain ⟨t0, h0, _, f0, _⟩ := run (List.replicate ((Stg.txt x np keys values dpos apos L okB k :: r).map Stg.disp).sum default) (List.length_replicate ..)
    cases hs : layS w D.p L s with
    | none => simp [goStg, hs] at h0
    | some s2 =>
      have sz : s.abs.heap.objs.size = s.n := absHeap_size s.tree s.n s.life
      have okS : okB s = true := by
        simp only [goStg, hs] at h0
        split at h0
        · split at h0
          · cases h0
            exact f0 _ (List.mem_cons_self ..)
          · cases h0
        · cases h0
      obtain ⟨pss, hsh, hP, h0', h15⟩ := hps s okS
      refine ends_dict (k := k) sw ?_ (by rw [layS_ok hs]; exact keeps_midS _ _ _ _) fun p' => ?_
      · refine wp_displayS hsh hP h0' h15 nd ?_
        rw [sz, layS_ok hs]
        exact ⟨rfl, rfl⟩
      · obtain ⟨t1, h1, c1, _, _⟩ := run (p' :: List.replicate (r.map Stg.disp).sum default) (by rw [List.length_cons, List.length_replicate, List.map_cons, List.sum_cons]; exact Nat.add_comm _ _)
        simp only [goStg, hs, List.headD_cons, List.tail_cons] at h1
        split at h1
        · rename_i s3 c3 p3 h3
          have ec : c3 = D.c := by
            split at h1
            · cases h1
              exact c1 c3 (List.mem_cons_self ..)
            · cases h1
          subst ec
          refine ⟨s3, p3, h3, stg_ends un r s3 p3 (fun x hx => ok x (List.mem_cons_of_mem _ hx)) fun ps hp => ?_⟩
          obtain ⟨t, h, c, f, e⟩ := run (p' :: ps) (by rw [List.length_cons, hp, List.map_cons, List.sum_cons]; exact Nat.add_comm _ _)
          simp only [goStg, hs, List.headD_cons, List.tail_cons, h3] at h
          split at h
          · rename_i t' ht'
            cases h
            exact ⟨t', ht', fun x hx => c x (List.mem_cons_of_mem _ hx), fun x hx => f x (List.mem_cons_of_mem _ hx), e⟩
          · cases h
        · cases h1
  | .two x np keys values dpos apos L M k :: r, s, p, ok, run => by
    obtain ⟨sw, nd, a, cc, bb, al, hc0, hc, hsh, p1, p2⟩ := ok _ (List.mem_cons_self ..)
    show EndsAt D w n₀ ann G (.Assign [.Name x np] (.Dict keys values dpos) apos :: (r.flatMap Stg.ss ++ b)) s p
    obtain ⟨t0, h0, _, f0, _⟩ := run (List.replicate ((Stg.two x np keys values dpos apos L M k :: r).map Stg.disp).sum default) (List.length_replicate ..)
    cases hs : layU w D.p L M s with
    | none => simp [goStg, hs] at h0
    | some s2 =>
      have sz : s.abs.heap.objs.size = s.n := absHeap_size s.tree s.n s.life
      have blt : Nat.blt sysModules s.n = true := by
        simp only [goStg, hs] at h0
        split at h0
        · split at h0
          · cases h0
            exact f0 _ (List.mem_cons_self ..)
          · cases h0
        · cases h0
      refine ends_dict (k := k) sw ?_ (by rw [layU_ok hs]; exact keeps_finT _ _ _) fun p' => ?_
      · rw [arm_eval_Dict, hsh]
        refine wpAny_bind (wpAny_standAt (wp_displayT al hc0 hc p1 p2 nd (by rw [sz]; exact Nat.le_of_ble_eq_true blt) ?_))
        rw [sz, layU_ok hs]
        exact ⟨rfl, rfl⟩
      · obtain ⟨t1, h1, c1, _, _⟩ := run (p' :: List.replicate (r.map Stg.disp).sum default) (by rw [List.length_cons, List.length_replicate, List.map_cons, List.sum_cons]; exact Nat.add_comm _ _)
        simp only [goStg, hs, List.headD_cons, List.tail_cons] at h1
        split at h1
        · rename_i s3 c3 p3 h3
          have ec : c3 = D.c := by
            split at h1
            · cases h1
              exact c1 c3 (List.mem_cons_self ..)
            · cases h1
          subst ec
          refine ⟨s3, p3, h3, stg_ends un r s3 p3 (fun x hx => ok x (List.mem_cons_of_mem _ hx)) fun ps hp => ?_⟩
          obtain ⟨t, h, c, f, e⟩ := run (p' :: ps) (by rw [List.length_cons, hp, List.map_cons, List.sum_cons]; exact Nat.add_comm _ _)
          simp only [goStg, hs, List.headD_cons, List.tail_cons, h3] at h
          split at h
          · rename_i t' ht'
            cases h
            exact ⟨t', ht', fun x hx => c x (List.mem_cons_of_mem _ hx), fun x hx => f x (List.mem_cons_of_mem _ hx), e⟩
          · cases h
        · cases h1
end Fw

end
set_option Elab.async false
set_option linter.all false
set_option maxRecDepth 100000
set_option maxHeartbeats 2000000
/-! the head of a row whose top has displays: as HeadX, for the stages of TopMany -/
noncomputable section
namespace Fw
open PySem PySem.W PySem.Calls PyProof.Rows HandSHeadRun
structure Many extends Base where
  L : List Stg
  rest : List Stmt
  M : Nat
structure ManyR where
  tA : Thread
  cB : Code
  cs : List Code
  fl : List Bool
  s4 : SharedT
def manyF (st : SharedT → Thread → Option (SharedT × Thread)) (D : Many) (w : World) (os : OsState) (ps : List Pos) : Option ManyR := match putAll (boot_heap w.params).objs.toList .nil 0 with
  | none => none
  | some (t, n) => frNat n fun n0 => match goS st n0 (bootAnn w) D.k0 (bootT w os (t, n0)) (topStub D.p) with
    | none => none
    | some (sA, tA) => match segF st n0 (bootAnn w) D.kB sA (blockOf (behindTheImports D.p) D.env D.toBase.c D.pos0 D.toBase.B) with
      | some (.next, sB, cB, pB) => (match goStg st D.toBase w n0 (bootAnn w) D.L ps sB pB with
        | some t => (match goF st n0 (bootAnn w) D.M t.s (restOf D.rest D.env D.toBase.c t.p D.toBase.B) with
          | some s4 => some ⟨tA, cB, t.cs, t.fl, s4⟩
          | none => none)
        | none => none)
      | _ => none
def Many.d (D : Many) : Nat := (D.L.map Stg.disp).sum
structure Many.Ok (D : Many) : Prop where
  body : behindTheImports D.p = D.L.flatMap Stg.ss ++ D.rest
  st : ∀ w, ∀ x ∈ D.L, x.Ok D.toBase w
  un : D.toBase.A.units < cLine
theorem many_ends {D : Many} {w : World} {os : OsState} {G : SharedT → Prop} (O : D.Ok)
    (run : ∀ ps : List Pos, ps.length = D.d → ∃ r, manyF (stepT (denote table) D.p w) D w os ps = some r ∧ r.tA = ⟨denote table D.toBase.c, D.toBase.c, D.pos0, D.toBase.B⟩ ∧ r.cB = D.toBase.c ∧ (∀ c ∈ r.cs, c = D.toBase.c) ∧ (∀ f ∈ r.fl, f = true) ∧ r.s4.gens = #[] ∧ G r.s4)
    (hz : (⟨boot_heap w.params, #[], boot_drawn, boot_toks, os⟩ : Shared).asleep) :
    ∃ S : SharedT, Halts D.p w ⟨boot_heap w.params, #[], boot_drawn, boot_toks, os⟩ (topStub D.p) S.abs ∧ S.gens = #[] ∧ Keeps (boot_heap w.params).objs.size (bootAnn w) ⟨boot_heap w.params, #[], boot_drawn, boot_toks, os⟩ S.abs ∧ G S := by
  have parts : ∀ ps : List Pos, ps.length = D.d → ∃ (sA sB : SharedT) (pB : Pos) (t : PySem.W.BT) (n : Nat) (tr : Trail) (s4 : SharedT), putAll (boot_heap w.params).objs.toList .nil 0 = some (t, n) ∧ goS (stepT (denote table) D.p w) n (bootAnn w) D.k0 (bootT w os (t, n)) (topStub D.p) = some (sA, ⟨denote table D.toBase.c, D.toBase.c, D.pos0, D.toBase.B⟩) ∧
      segF (stepT (denote table) D.p w) n (bootAnn w) D.kB sA (blockOf (behindTheImports D.p) D.env D.toBase.c D.pos0 D.toBase.B) = some (.next, sB, D.toBase.c, pB) ∧ goStg (stepT (denote table) D.p w) D.toBase w n (bootAnn w) D.L ps sB pB = some tr ∧ (∀ c ∈ tr.cs, c = D.toBase.c) ∧ (∀ f ∈ tr.fl, f = true) ∧
      goF (stepT (denote table) D.p w) n (bootAnn w) D.M tr.s (restOf D.rest D.env D.toBase.c tr.p D.toBase.B) = some s4 ∧ s4.gens = #[] ∧ G s4 := by
    intro ps hp
    obtain ⟨r, hr, e1, e2, e3, e4, hg, hG⟩ := run ps hp
    unfold manyF at hr
    split at hr
    · exact nomatch hr
    rename_i t n ht
    rw [frNat_eq] at hr
    split at hr
    · exact nomatch hr
    rename_i sA tA hA
    split at hr
    · rename_i sB cB pB hB
      split at hr
      · rename_i tr h1
        split at hr
        · rename_i s4 h4
          cases hr
          dsimp only at e1 e2 e3 e4 hg hG
          subst e1 e2
          exact ⟨sA, sB, pB, t, n, tr, s4, ht, hA, hB, h1, e3, e4, h4, hg, hG⟩
        · exact nomatch hr
      · exact nomatch hr
    · exact nomatch hr
  obtain ⟨sA, sB, pB, t, n, _, _, ht, hA, hB, _⟩ := parts (List.replicate D.d default) (List.length_replicate ..)
  have eh := putAll_heap ht
  have en : (boot_heap w.params).objs.size = n := by
    rw [← eh]
    exact absHeap_size t n _
  have eb : (bootT w os (t, n)).abs = ⟨boot_heap w.params, #[], boot_drawn, boot_toks, os⟩ := by
    show (⟨absHeap t n (boot_heap w.params).life, #[], boot_drawn, boot_toks, os⟩ : Shared) = _
    rw [eh]
  have goA := goS_ok hA
  rw [eb] at goA
  have kA := keeps_go goA
  have sB0 : splitAtGen D.toBase.B = none := rfl
  obtain ⟨_, mB, _, goB⟩ := seg_goes (res := fun _ : Unit => Flow.next) (K' := fun _ => (execs (behindTheImports D.p) D.env).wrap doneF (leaveH D.env) id id) (H' := Sem.raise) (B := D.toBase.B) sB0 D.kB (t := blockOf (behindTheImports D.p) D.env D.toBase.c D.pos0 D.toBase.B)
    (t' := ⟨(blockStart (behindTheImports D.p) D.env).wrap (fun _ => (execs (behindTheImports D.p) D.env).wrap doneF (leaveH D.env) id id) .raise id id, D.toBase.c, D.pos0, D.toBase.B⟩) ⟨rfl, rfl, .inl ⟨rfl, rfl, _, rfl, rfl⟩⟩ (segF_ok hB)
  have kB := keeps_go goB
  have KB := kA.trans kB
  have E : EndsAt D.toBase w n (bootAnn w) G (D.L.flatMap Stg.ss ++ D.rest) sB pB := stg_ends O.un D.L sB pB (O.st w) fun ps hp => by
    obtain ⟨sA', sB', pB', t', n', tr, s4, ht', hA', hB', h1, c1, f1, h4, hg, hG⟩ := parts ps hp
    rw [ht] at ht'
    cases ht'
    rw [hA] at hA'
    cases hA'
    rw [hB] at hB'
    cases hB'
    exact ⟨tr, h1, c1, f1, ends_go h4 hg hG⟩
  obtain ⟨S, h1, h2, h3, h4⟩ := E (Shared.asleep_of_life KB.life hz)
  refine ⟨S, ?_, h2, by rw [en]; exact KB.trans h3, h4⟩
  refine halts_go goA ?_
  have eB : denote table D.toBase.c = (blockStart (behindTheImports D.p) D.env).wrap (fun _ => (execs (behindTheImports D.p) D.env).wrap doneF (leaveH D.env) id id) .raise id id := body_wrap _
  rw [eB]
  refine halts_go goB ?_
  rw [O.body]
  exact h1
/-- what is read off a run's end -/
def seeM (D : Many) (q : Program) (loose : List Str) (Xt : Shared → Bool) {α : Type} (ob : SharedT → α) (w : World) (r : ManyR) := (r.tA, r.cB, r.cs, r.fl, r.s4.gens.size, looksF D.p (boot_heap w.params) r.s4.abs, seenQ q loose (importedModules D.p.main.body) Xt r.s4.abs, ob r.s4)
def RunM (D : Many) (q : Program) (loose : List Str) (Xt : Shared → Bool) {α : Type} (ob : SharedT → α) (val : World → α) : Prop :=
  ∀ (w : World) (os : OsState) (ps : List Pos), ps.length = D.d → (manyF (stepQ (denQ tabQ) D.p w) D w os ps).map (seeM D q loose Xt ob w) = some (⟨denQ tabQ D.toBase.c, D.toBase.c, D.pos0, D.toBase.B⟩, D.toBase.c, List.replicate D.L.length D.toBase.c, List.replicate D.d true, 0, true, openGood q loose, val w)
theorem tops_many {D : Many} {q : Program} {loose : List Str} {Xt : Shared → Bool} {H : Hook} {ob : SharedT → H.α} (O : D.Ok) (ho : ∀ s : SharedT, ob s = H.obs s.abs) (e : opening D.p = plainProg D.p.main.scope.names) (f : ∀ s, fenceModules? D.p s = some s) (run : RunM D q loose Xt ob H.val) :
    TopsE D.p q loose Xt H.obs H.val := fun w => by
  obtain ⟨⟨hp, gs, dr, tk, os⟩, hf, e0⟩ := Option.map_eq_some_iff.mp (boot_open (N := 600) e rfl f w)
  obtain ⟨rfl, rfl, rfl, rfl⟩ : hp = boot_heap w.params ∧ gs = Array.mk [] ∧ dr = boot_drawn ∧ tk = boot_toks := by simpa using e0
  rw [← table_eq_tree] at hf
  obtain ⟨s, hi, hfe⟩ := Option.bind_eq_some_iff.mp hf
  have A := AfterImport.of_importEnds hi
  have hz := Shared.asleep_of_life (fence_lifeW hfe) A.life
  have eq : ∀ ps, manyF (stepQ (denQ tabQ) D.p w) D w os ps = manyF (stepT (denote table) D.p w) D w os ps := fun ps => by
    rw [← stepQ_eq, ← denQ_eq, ← tabQ_eq, table_eq_tree]
  obtain ⟨S, hS, hg, kS, g1, g2, g3⟩ := many_ends (w := w) (os := os) (G := fun S => looksF D.p (boot_heap w.params) S.abs = true ∧ openSeen q loose (importedModules D.p.main.body) Xt true S.abs = openGood q loose ∧ H.obs S.abs = H.val w) O (fun ps hps => by
    obtain ⟨r, hr, hv⟩ := Option.map_eq_some_iff.mp (run w os ps hps)
    rw [eq] at hr
    have hv : seeM D q loose Xt ob w r = _ := hv
    unfold seeM at hv
    simp only [Prod.mk.injEq] at hv
    obtain ⟨v1, v2, v3, v4, v5, v6, v7, v8⟩ := hv
    refine ⟨r, hr, ?_, v2, fun c hc => ?_, fun f hf => ?_, Array.eq_empty_of_size_eq_zero v5, v6, ?_, ?_⟩
    · rw [v1, ← denQ_eq, ← tabQ_eq, table_eq_tree]
    · rw [v3] at hc
      exact List.eq_of_mem_replicate hc
    · rw [v4] at hf
      exact List.eq_of_mem_replicate hf
    · rw [seenQ_eq]
      exact v7
    · rw [← ho]
      exact v8) hz
  exact ⟨600, _, S.abs, hf, ⟨hS, boot_ns _, rfl, hg, kS.life, kS.os, kS.fr, g1, g2, g3⟩⟩
theorem head_many {r : OpenRow} {D : Many} {q : Program} {loose : List Str} {H : Hook} {ob : SharedT → H.α} {d : DefRec} {kwd : List (Str × Expr)} (hD : D.p = r.prog) (O : D.Ok) (ho : ∀ s : SharedT, ob s = H.obs s.abs) (e : opening D.p = plainProg D.p.main.scope.names) (f : ∀ s, fenceModules? D.p s = some s)
    (run : RunM D q loose (fun s => xlAt q [] s && recOk r.toRowW.records s) ob H.val) (hdef : defOf q r.name = some (d, kwd)) (hp : r.prog.theDef r.name = some (d.params, d.body, d.scope)) (hk : kwWritten? d.params.kwonlyargs d.params.kw_defaults = some kwd)
    (hwr : (!r.writes || r.records.isEmpty) = true) (k1 : r.wellSaid = true) (ok : (chainsOk q && opensWell r.prog && (frees r.toRowW && r.within.isEmpty)) = true) (hb : r.prog.bare) (hw : r.toRowW.promised)
    (call : WalkO q loose (XL q []) H.says r.toRowW d kwd fun f vs => PySem.call f vs) : r.Holds := by
  have T := tops_many O ho e f run
  rw [hD] at T
  exact holdsE T (fun s z => xl_of s (Bool.and_eq_true_iff.mp z).1) XL.keeps hdef hp hk (fun s z => recFacts_of (Bool.and_eq_true_iff.mp z).2) hwr k1 ok hb hw call
end Fw

end
set_option Elab.async false
set_option linter.all false
set_option maxRecDepth 100000
set_option maxHeartbeats 2000000
/-! a plan is sound: by looks that the kernel takes -/
namespace Fw
open PySem PySem.W PySem.Calls PyProof.Rows
def csB : List Expr → List Str → Bool
  | [], [] => true
  | .Constant (.str x) _ _ :: es, z :: zs => decide (x = z) && csB es zs
  | _, _ => false
theorem csB_ok : ∀ {es : List Expr} {zs : List Str}, csB es zs = true → CS es zs
  | [], [], _ => .nil
  | e :: es, z :: zs, h => by
    unfold csB at h
    split at h
    · rename_i h1 h2; cases h1
    · rename_i x k pos es' z' zs' h1 h2
      cases h1
      cases h2
      obtain ⟨a, b⟩ := Bool.and_eq_true_iff.mp h
      have := of_decide_eq_true a
      subst this
      exact .cons (csB_ok b)
    · cases h
  | [], _ :: _, h => by simp [csB] at h
  | e :: es, [], h => by
    unfold csB at h
    split at h
    · rename_i h1 h2; cases h1
    · rename_i h1 h2; cases h2
    · cases h
def pairB : Option Expr → Expr → PK → Bool
  | some (.Tuple ke _ _), .Tuple ve _ _, p => csB ke (key p) && csB ve p.2.2 && decide (p.2.2.length ≤ 100)
  | _, _, _ => false
def pairsB : List (Option Expr) → List Expr → List PK → Bool
  | [], [], [] => true
  | k :: ks, v :: vs, p :: ps => pairB k v p && pairsB ks vs ps
  | _, _, _ => false
theorem pairsB_ok {env : Env} {pos : Pos} : ∀ {ks : List (Option Expr)} {vs : List Expr} {L : List PK}, pairsB ks vs L = true →
    ∃ ps : List PS, PairsAre env pos ps L ∧ (evalEachOpt ks env).zip ((evalEach vs env).map fun v => do let x ← v; standAt pos; pure x) = ps.map (fun p => (some p.1, p.2))
  | [], [], [], _ => ⟨[], .nil, rfl⟩
  | k :: ks, v :: vs, p :: ps, h => by
    have h : (pairB k v p && pairsB ks vs ps) = true := h
    obtain ⟨h1, h2⟩ := Bool.and_eq_true_iff.mp h
    obtain ⟨r, hr, e⟩ := pairsB_ok h2
    unfold pairB at h1
    split at h1
    · rename_i ke kk kp ve vk vp hh
      obtain ⟨h3, h5⟩ := Bool.and_eq_true_iff.mp h1
      obtain ⟨h3, h4⟩ := Bool.and_eq_true_iff.mp h3
      refine ⟨_ :: r, .cons (kk := kk) (vk := vk) (kp := kp) (vp := vp) (csB_ok h3) (csB_ok h4) (of_decide_eq_true h5) hr, ?_⟩
      show (some (eval (.Tuple ke kk kp) env), _) :: (evalEachOpt ks env).zip _ = (some _, _) :: r.map _
      rw [e]
    · cases h1
  | [], [], _ :: _, h => by simp [pairsB] at h
  | [], _ :: _, _, h => by simp [pairsB] at h
  | _ :: _, [], _, h => by simp [pairsB] at h
  | _ :: _, _ :: _, [], h => by simp [pairsB] at h
theorem pairs_split {env : Env} {pos : Pos} : ∀ {L : List PK} {p : PK} {ps : List PS}, PairsAre env pos ps (L ++ [p]) → ∃ a c, ps = a ++ [c] ∧ a.length = L.length ∧ PairsAre env pos a L ∧ PairsAre env pos [c] [p]
  | [], p, _, .cons h1 h2 h3 .nil => ⟨[], _, rfl, rfl, .nil, .cons h1 h2 h3 .nil⟩
  | q :: L, p, _, .cons h1 h2 h3 r => by
    obtain ⟨a, c, rfl, hl, ha, hc⟩ := pairs_split r
    exact ⟨_ :: a, c, rfl, congrArg (· + 1) hl, .cons h1 h2 h3 ha, hc⟩
theorem Plan.ok_of {D : Plan} (body : behindTheImports D.p = D.l ++ D.st :: D.rest) (sw : swapsWith (.Dict D.keys D.values D.dpos) (some (.Name D.x D.np)) D.apos.line D.env = pure false) (hp : pairsB D.keys D.values (D.L ++ [D.pk]) = true) (hl : D.L.length = 17)
    (nd : ((D.L ++ [D.pk]).map key).Nodup) (un : D.c.cUnits + unitsOf [(.builtin "claim.caller" {}, D.q0)] < cLine) : D.Ok := by
  refine ⟨body, sw, ?_, nd, un⟩
  obtain ⟨ps, h1, h2⟩ := pairsB_ok (env := D.env) (pos := D.dpos) hp
  obtain ⟨a, c, rfl, al, ha, hc⟩ := pairs_split h1
  rw [hl] at al
  obtain ⟨a', b, rfl⟩ : ∃ a' b, a = a' ++ [b] := ⟨a.dropLast, a.getLast (fun z => by rw [z] at al; cases al), (List.dropLast_concat_getLast _).symm⟩
  rw [List.length_append] at al
  have al' : a'.length + 1 = 17 := al
  exact ⟨a', b, c, by omega, by rw [h2, List.append_assoc]; rfl, ha, hc⟩
end Fw

set_option Elab.async false
set_option linter.all false
set_option maxRecDepth 100000
set_option maxHeartbeats 2000000
/-! a display of texts whose values are names of the module: its stage is sound, by looks that the kernel takes -/
noncomputable section
namespace Fw
open PySem PySem.W PySem.Calls PyProof.Rows HandSHeadRun
abbrev TN : Type := Str × Str × Addr
def okN (T : List TN) (s : SharedT) : Bool :=
  let K := He.frG (getT s) (List.range s.n)
  nsOkIn K mainGlobals && T.all fun x => He.eqO (nsIn K mainGlobals x.2.1) (some (some (.ref x.2.2)))
def svT (T : List TN) : List SV := T.map fun x => (x.1, .ref x.2.2)
def txtB : List (Option Expr) → List Expr → List TN → Bool
  | [], [], [] => true
  | some (.Constant (.str x) _ _) :: ks, .Name y _ :: vs, t :: T => decide (x = t.1) && decide (y = t.2.1) && !(y == ("__debug__" : Str)) && txtB ks vs T
  | _, _, _ => false
theorem okN_ok {T : List TN} {s : SharedT} (h : okN T s = true) : ∃ mg, s.abs.heap.Ns mainGlobals mg ∧ ∀ x ∈ T, mg x.2.1 = some (.ref x.2.2) := by
  have eg : getT s = s.abs.heap.get? := funext (getT_eq s)
  unfold okN at h
  rw [eg] at h
  obtain ⟨h1, h2⟩ := Bool.and_eq_true_iff.mp h
  have X : (He.frG s.abs.heap.get? (List.range s.n)).In s.abs.heap := He.frG_in
  have N : s.abs.heap.Ns mainGlobals _ := .of_isNs (isNs_of_in X h1)
  exact ⟨_, N, fun x hx => mg_of X N (He.eqO_ok (List.all_eq_true.mp h2 x hx))⟩
theorem txt_pairs {prog : Program} {w : World} {A : Around} {E : Value → Shared → Prop} {env : Env} {pos : Pos} {s : Shared} {mg : Str → Option Value} (hk : env.scope.kind = .module) (hl : env.locals = env.globals) (hg : env.globals = mainGlobals) (N : s.heap.Ns mainGlobals mg) :
    ∀ {ks : List (Option Expr)} {vs : List Expr} {T : List TN}, txtB ks vs T = true → (∀ x ∈ T, mg x.2.1 = some (.ref x.2.2)) →
    ∃ ps : List PS, (evalEachOpt ks env).zip ((evalEach vs env).map fun v => do let x ← v; standAt pos; pure x) = ps.map (fun p => (some p.1, p.2)) ∧ PairsS prog w A E env s ps (svT T)
  | [], [], [], _, _ => ⟨[], rfl, .nil⟩
  | some (.Constant (.str x) k kp) :: ks, .Name y yp :: vs, t :: T, h, hm => by
    have h : (decide (x = t.1) && decide (y = t.2.1) && !(y == ("__debug__" : Str)) && txtB ks vs T) = true := h
    obtain ⟨h, h4⟩ := Bool.and_eq_true_iff.mp h
    obtain ⟨h, h3⟩ := Bool.and_eq_true_iff.mp h
    obtain ⟨h1, h2⟩ := Bool.and_eq_true_iff.mp h
    obtain ⟨tx, ty, ta⟩ := t
    obtain rfl : x = tx := of_decide_eq_true h1
    obtain rfl : y = ty := of_decide_eq_true h2
    have h3 : (y == ("__debug__" : Str)) = false := by simpa using h3
    obtain ⟨ps, e, P⟩ := txt_pairs hk hl hg N h4 fun z hz => hm z (List.mem_cons_of_mem _ hz)
    refine ⟨(eval (.Constant (.str x) k kp) env, do let x ← eval (.Name y yp) env; standAt pos; pure x) :: ps, ?_, .cons (fun s' Q kp' q => ?_) P⟩
    · show (some _, _) :: (evalEachOpt ks env).zip _ = _ :: ps.map _
      rw [e]
    · refine wpAny_bind (Name_module hk hl (loadGlobal_global (mg := mg) (by rw [hg]; exact N.keeps kp') (hm (x, y, ta) (List.mem_cons_self ..)) ?_) h3)
      exact wpAny_bind (wpAny_standAt (wpAny_pure q))
  | [], [], _ :: _, h, _ => by simp [txtB] at h
  | [], _ :: _, _, h, _ => by simp [txtB] at h
  | _ :: _, [], _, h, _ => by simp [txtB] at h
  | _ :: _, _ :: _, [], h, _ => by simp [txtB] at h
theorem txt_ok {D : Base} {w : World} {x : Str} {np dpos apos : Pos} {keys : List (Option Expr)} {values : List Expr} {T : List TN} {k : Nat} (hk : D.env.scope.kind = .module) (hl : D.env.locals = D.env.globals) (hg : D.env.globals = mainGlobals)
    (sw : swapsWith (.Dict keys values dpos) (some (.Name x np)) apos.line D.env = pure false) (nd : (T.map (·.1)).Nodup) (hB : txtB keys values T = true) (h0 : T ≠ []) (h15 : T.length ≤ 15) :
    Stg.Ok D w (.txt x np keys values dpos apos (svT T) (okN T) k) := by
  refine ⟨sw, ?_, fun s h => ?_⟩
  · show ((T.map _).map _).Nodup
    rw [List.map_map]
    exact nd
  · obtain ⟨mg, N, hm⟩ := okN_ok h
    obtain ⟨ps, e, P⟩ := txt_pairs (prog := D.p) (w := w) (A := D.A) (E := fun _ _ => False) (pos := dpos) hk hl hg N hB hm
    have ll := pairsS_len P
    have l2 : (svT T).length = T.length := List.length_map ..
    refine ⟨ps, e, P, fun z => ?_, by omega⟩
    subst z
    cases T with
    | nil => exact h0 rfl
    | cons a T => cases ll
theorem big_ok {D : Base} {w : World} {x : Str} {np dpos apos : Pos} {keys : List (Option Expr)} {values : List Expr} {L : List PK} {pk : PK} {k : Nat} (sw : swapsWith (.Dict keys values dpos) (some (.Name x np)) apos.line D.env = pure false)
    (hp : pairsB keys values (L ++ [pk]) = true) (hl : L.length = 17) (nd : ((L ++ [pk]).map key).Nodup) : Stg.Ok D w (.big x np keys values dpos apos L pk k) := by
  refine ⟨sw, nd, ?_⟩
  obtain ⟨ps, h1, h2⟩ := pairsB_ok (env := D.env) (pos := dpos) hp
  obtain ⟨a, c, rfl, al, ha, hc⟩ := pairs_split h1
  rw [hl] at al
  obtain ⟨a', b, rfl⟩ : ∃ a' b, a = a' ++ [b] := ⟨a.dropLast, a.getLast (fun z => by rw [z] at al; cases al), (List.dropLast_concat_getLast _).symm⟩
  rw [List.length_append] at al
  have al' : a'.length + 1 = 17 := al
  exact ⟨a', b, c, by omega, by rw [h2, List.append_assoc]; rfl, ha, hc⟩
end Fw

end
set_option Elab.async false
set_option linter.all false
set_option maxRecDepth 100000
set_option maxHeartbeats 2000000
/-! a display of texts whose values are written truths -/
noncomputable section
namespace Fw
open PySem PySem.W PySem.Calls PyProof.Rows HandSHeadRun
def svB (T : List (Str × Bool)) : List SV := T.map fun x => (x.1, .bool x.2)
def boolB : List (Option Expr) → List Expr → List (Str × Bool) → Bool
  | [], [], [] => true
  | some (.Constant (.str x) _ _) :: ks, .Constant (.bool b) _ _ :: vs, t :: T => decide (x = t.1) && decide (b = t.2) && boolB ks vs T
  | _, _, _ => false
theorem bool_pairs {prog : Program} {w : World} {A : Around} {E : Value → Shared → Prop} {env : Env} {pos : Pos} {s : Shared} : ∀ {ks : List (Option Expr)} {vs : List Expr} {T : List (Str × Bool)}, boolB ks vs T = true →
    ∃ ps : List PS, (evalEachOpt ks env).zip ((evalEach vs env).map fun v => do let x ← v; standAt pos; pure x) = ps.map (fun p => (some p.1, p.2)) ∧ PairsS prog w A E env s ps (svB T)
  | [], [], [], _ => ⟨[], rfl, .nil⟩
  | some (.Constant (.str x) k kp) :: ks, .Constant (.bool b) bk bp :: vs, t :: T, h => by
    have h : (decide (x = t.1) && decide (b = t.2) && boolB ks vs T) = true := h
    obtain ⟨h, h3⟩ := Bool.and_eq_true_iff.mp h
    obtain ⟨h1, h2⟩ := Bool.and_eq_true_iff.mp h
    obtain ⟨tx, tb⟩ := t
    obtain rfl : x = tx := of_decide_eq_true h1
    obtain rfl : b = tb := of_decide_eq_true h2
    obtain ⟨ps, e, P⟩ := bool_pairs (prog := prog) (w := w) (A := A) (E := E) (env := env) (pos := pos) (s := s) h3
    refine ⟨(eval (.Constant (.str x) k kp) env, do let x ← eval (.Constant (.bool b) bk bp) env; standAt pos; pure x) :: ps, ?_, .cons (fun s' Q kp' q => ?_) P⟩
    · show (some _, _) :: (evalEachOpt ks env).zip _ = _ :: ps.map _
      rw [e]
    · exact wpAny_bind (wpAny_Constant_bool (wpAny_bind (wpAny_standAt (wpAny_pure q))))
  | [], [], _ :: _, h => by simp [boolB] at h
  | [], _ :: _, _, h => by simp [boolB] at h
  | _ :: _, [], _, h => by simp [boolB] at h
  | _ :: _, _ :: _, [], h => by simp [boolB] at h
theorem bool_ok {D : Base} {w : World} {x : Str} {np dpos apos : Pos} {keys : List (Option Expr)} {values : List Expr} {T : List (Str × Bool)} {k : Nat}
    (sw : swapsWith (.Dict keys values dpos) (some (.Name x np)) apos.line D.env = pure false) (nd : (T.map (·.1)).Nodup) (hB : boolB keys values T = true) (h0 : T ≠ []) (h15 : T.length ≤ 15) :
    Stg.Ok D w (.txt x np keys values dpos apos (svB T) (fun _ => true) k) := by
  refine ⟨sw, ?_, fun s _ => ?_⟩
  · show ((T.map _).map _).Nodup
    rw [List.map_map]
    exact nd
  · obtain ⟨ps, e, P⟩ := bool_pairs (prog := D.p) (w := w) (A := D.A) (E := fun _ _ => False) (pos := dpos) (env := D.env) (s := s.abs) hB
    have ll := pairsS_len P
    have l2 : (svB T).length = T.length := List.length_map ..
    refine ⟨ps, e, P, fun z => ?_, by omega⟩
    subst z
    cases T with
    | nil => exact h0 rfl
    | cons a T => cases ll
end Fw

end
set_option Elab.async false
set_option linter.all false
set_option maxRecDepth 100000
set_option maxHeartbeats 2000000
/-! a display of 18 to 32 pairs, keys texts, values tuples of texts: its stage is sound, by looks that the kernel takes -/
noncomputable section
namespace Fw
open PySem PySem.W PySem.Calls PyProof.Rows HandSHeadRun
def twoB : List (Option Expr) → List Expr → List SP → Bool
  | [], [], [] => true
  | some (.Constant (.str x) _ _) :: ks, .Tuple es _ _ :: vs, p :: r => decide (x = p.1) && csB es p.2 && decide (p.2.length ≤ 100) && twoB ks vs r
  | _, _, _ => false
theorem twoB_ok {env : Env} {pos : Pos} : ∀ {ks : List (Option Expr)} {vs : List Expr} {L : List SP}, twoB ks vs L = true →
    ∃ ps : List PS, PairsT env pos ps L ∧ (evalEachOpt ks env).zip ((evalEach vs env).map fun v => do let x ← v; standAt pos; pure x) = ps.map (fun p => (some p.1, p.2))
  | [], [], [], _ => ⟨[], .nil, rfl⟩
  | some (.Constant (.str x) kk kp) :: ks, .Tuple es vk vp :: vs, p :: r, h => by
    have h : (decide (x = p.1) && csB es p.2 && decide (p.2.length ≤ 100) && twoB ks vs r) = true := h
    obtain ⟨h, h4⟩ := Bool.and_eq_true_iff.mp h
    obtain ⟨h, h3⟩ := Bool.and_eq_true_iff.mp h
    obtain ⟨h1, h2⟩ := Bool.and_eq_true_iff.mp h
    obtain ⟨px, pz⟩ := p
    obtain rfl : x = px := of_decide_eq_true h1
    obtain ⟨ps, hr, e⟩ := twoB_ok (env := env) (pos := pos) h4
    refine ⟨_ :: ps, .cons (kk := kk) (vk := vk) (kp := kp) (vp := vp) (csB_ok h2) (of_decide_eq_true h3) hr, ?_⟩
    show (some (eval (.Constant (.str x) kk kp) env), _) :: (evalEachOpt ks env).zip _ = (some _, _) :: ps.map _
    rw [e]
  | [], [], _ :: _, h => by simp [twoB] at h
  | [], _ :: _, _, h => by simp [twoB] at h
  | _ :: _, [], _, h => by simp [twoB] at h
  | _ :: _, _ :: _, [], h => by simp [twoB] at h
theorem pairsT_split {env : Env} {pos : Pos} : ∀ {L : List SP} {ps : List PS} {M : List SP}, PairsT env pos ps (L ++ M) → ∃ a c, ps = a ++ c ∧ a.length = L.length ∧ PairsT env pos a L ∧ PairsT env pos c M
  | [], ps, M, h => ⟨[], ps, rfl, rfl, .nil, h⟩
  | p :: L, _, M, h => by
    cases h with
    | cons c1 c2 c3 =>
      obtain ⟨a, c, rfl, al, h1, h2⟩ := pairsT_split (L := L) c3
      exact ⟨_ :: a, c, rfl, congrArg (· + 1) al, .cons c1 c2 h1, h2⟩
theorem two_ok {D : Base} {w : World} {x : Str} {np dpos apos : Pos} {keys : List (Option Expr)} {values : List Expr} {L M : List SP} {k : Nat} (sw : swapsWith (.Dict keys values dpos) (some (.Name x np)) apos.line D.env = pure false)
    (hp : twoB keys values (L ++ M) = true) (hl : L.length = 17) (h0 : M ≠ []) (hM : M.length ≤ 15) (nd : ((L ++ M).map (·.1)).Nodup) : Stg.Ok D w (.two x np keys values dpos apos L M k) := by
  refine ⟨sw, nd, ?_⟩
  obtain ⟨ps, h1, h2⟩ := twoB_ok (env := D.env) (pos := dpos) hp
  obtain ⟨a, c, rfl, al, ha, hc⟩ := pairsT_split h1
  rw [hl] at al
  obtain ⟨a', b, rfl⟩ : ∃ a' b, a = a' ++ [b] := ⟨a.dropLast, a.getLast (fun z => by rw [z] at al; cases al), (List.dropLast_concat_getLast _).symm⟩
  rw [List.length_append] at al
  have al' : a'.length + 1 = 17 := al
  have lc := pairsT_len hc
  exact ⟨a', c, b, by omega, fun z => by rw [z] at lc; exact h0 (List.eq_nil_of_length_eq_zero lc.symm), by omega, by rw [h2, List.append_assoc]; rfl, ha, hc⟩
end Fw

end
set_option Elab.async false
set_option linter.all false
set_option maxRecDepth 100000
set_option maxHeartbeats 0
noncomputable section
namespace K8
open PySem PySem.W PySem.Calls PyProof.Rows HandSHeadRun Fw
abbrev pr : Program := PySem.Challenge.pw_figuredeeds_k08_what_blocks_are
def dk (s : Stmt) : List (Option Expr) := match s with
  | .Assign _ (.Dict ks _ _) _ => ks
  | _ => []
def dv (s : Stmt) : List Expr := match s with
  | .Assign _ (.Dict _ vs _) _ => vs
  | _ => []
def dp (s : Stmt) : Pos := match s with
  | .Assign _ (.Dict _ _ p) _ => p
  | _ => default
def ap (s : Stmt) : Pos := match s with
  | .Assign _ _ p => p
  | _ => default
def np (s : Stmt) : Pos := match s with
  | .Assign [.Name _ p] _ _ => p
  | _ => default
def top (i : Nat) : Stmt := pr.main.body.getD i (.Pass ⟨0, 0, 0, 0⟩)
def st6 : Stmt := top 6
def st20 : Stmt := top 20
def parts : List PK := [("look", "name", ["name"]), ("look", "plus", ["look", "look"]), ("look", "minus", ["look", "look"]), ("look", "by", ["look", "look"]), ("look", "over", ["look", "look"]), ("look", "rest", ["look", "look"]), ("look", "item", ["list", "look"]), ("look", "many", ["list"]), ("look", "x", []), ("look", "y", []), ("look", "way", []), ("look", "number", []), ("test", "like", ["look", "look"]), ("test", "below", ["look", "look"]), ("test", "not", ["test"]), ("test", "both", ["test", "test"]), ("test", "any", ["test", "test"])]
def tl20 : List SP := [("move", ["look"]), ("turn", ["look"]), ("place", ["look", "look"]), ("show", []), ("hide", []), ("say", ["look"]), ("set", ["own", "look"]), ("add", ["own", "look"]), ("put", ["list", "look"]), ("drop", ["list", "look"]), ("write", ["list", "look", "look"]), ("wait", ["look"]), ("until", ["test"]), ("if", ["test", "block", "block"]), ("times", ["look", "block"]), ("while", ["test", "block"]), ("ever", ["block"])]
def tm20 : List SP := [("do", ["piece", "looks"]), ("tell", ["news"]), ("await", ["news"]), ("copy", ["figure"]), ("end", []), ("stop", ["word"])]
def D : Many where
  p := pr
  env := { scope := pr.main.scope, locals := mainNs, globals := mainNs, cells := [], code := .ref 13, frame := some 14 }
  q0 := ⟨0, 0, 0, 0⟩
  pos0 := ⟨0, 0, 0, 0⟩
  k0 := 12
  kB := 3
  L := [.seg ((pr.main.body.drop 0).take 6) 226, .big "PARTS" (np st6) (dk st6) (dv st6) (dp st6) (ap st6) parts ("test", "meets", ["figure"]) 60, .seg ((pr.main.body.drop 7).take 13) 654, .two "DEEDS" (np st20) (dk st20) (dv st20) (dp st20) (ap st20) tl20 tm20 60]
  rest := pr.main.body.drop 21
  M := 1926
def fnd (x : Str) (i : Nat) : He.FnD := ⟨(x, none), x, x, L2.defArgs (top i), L2.defBody (top i), L2.defScope (top i)⟩
def inC (i j : Nat) : Stmt := match top i with
  | .ClassDef _ _ _ b .. => b.getD j (.Pass ⟨0, 0, 0, 0⟩)
  | _ => .Pass ⟨0, 0, 0, 0⟩
def fn : List He.FnD := [fnd "is_number" 7, fnd "is_value" 8, fnd "is_name" 9, fnd "is_look" 10, fnd "is_test" 11, fnd "is_part" 12, fnd "is_worded" 13, fnd "has_parts" 14, fnd "is_row" 21, fnd "is_block" 22, fnd "is_inner_block" 23, fnd "is_deed" 24, fnd "is_deed_part" 25, fnd "_law_begin" 27, fnd "_law_take" 28, fnd "_law_some" 29, fnd "_law_names" 30, fnd "_law_one_of" 31, fnd "_law_number" 32, fnd "_law_look" 33, fnd "_law_test" 34, fnd "_law_body" 35, fnd "_law_deed" 36, fnd "_law_block" 37, fnd "_law_known" 38, fnd "_law_whole" 39, fnd "_law_is_name" 40, fnd "_law_is_look" 41, fnd "_law_is_test" 42, fnd "_law_shape" 43, fnd "_law_is_part" 44, fnd "_law_is_deed" 45, fnd "_law_is_block" 46, fnd "_law_other" 47, fnd "_law_bent" 48, fnd "_law_told_right" 49, fnd "law" 50]
def fa : List He.Fa := [.glo "is_number", .keep "is_number", .glo "is_value", .keep "is_value", .glo "is_name", .keep "is_name", .glo "is_look", .keep "is_look", .glo "is_test", .keep "is_test", .glo "is_part", .keep "is_part", .glo "is_worded", .keep "is_worded", .glo "has_parts", .keep "has_parts", .glo "is_row", .keep "is_row", .glo "is_block", .keep "is_block", .glo "is_inner_block", .keep "is_inner_block", .glo "is_deed", .keep "is_deed", .glo "is_deed_part", .keep "is_deed_part", .glo "_law_begin", .keep "_law_begin", .glo "_law_take", .keep "_law_take", .glo "_law_some", .keep "_law_some", .glo "_law_names", .keep "_law_names", .glo "_law_one_of", .keep "_law_one_of", .glo "_law_number", .keep "_law_number", .glo "_law_look", .keep "_law_look", .glo "_law_test", .keep "_law_test", .glo "_law_body", .keep "_law_body", .glo "_law_deed", .keep "_law_deed", .glo "_law_block", .keep "_law_block", .glo "_law_known", .keep "_law_known", .glo "_law_whole", .keep "_law_whole", .glo "_law_is_name", .keep "_law_is_name", .glo "_law_is_look", .keep "_law_is_look", .glo "_law_is_test", .keep "_law_is_test", .glo "_law_shape", .keep "_law_shape", .glo "_law_is_part", .keep "_law_is_part", .glo "_law_is_deed", .keep "_law_is_deed", .glo "_law_is_block", .keep "_law_is_block", .glo "_law_other", .keep "_law_other", .glo "_law_bent", .keep "_law_bent", .glo "_law_told_right", .keep "_law_told_right", .glo "law", .keep "law", .free "len", .free "int", .free "divmod", .free "list", .free "isinstance", .free "tuple", .free "all", .free "zip", .free "str", .free "bool", .free "range", .free "repr", .free "min", .free "max", .int "LEAST_VALUE" (-1000000), .int "MOST_VALUE" (1000000), .int "LONGEST_NAME" (8), .int "DEEPEST" (6), .int "MOST_DEEDS" (8), .int "DEEPEST_BLOCK" (4), .int "MOST_PARAMS" (2)]
def ck (K : Frag) : Bool := He.eqO (nsIn K mainGlobals "NAME_KINDS") (some (some (.ref 15))) && He.eqO (nsIn K mainGlobals "PARTS") (some (some (.ref 16))) && He.eqO (nsIn K mainGlobals "STOP_WORDS") (some (some (.ref 106))) && He.eqO (nsIn K mainGlobals "DEEDS") (some (some (.ref 107)))
def as : List Addr := [15, 16, 17, 18, 19, 20, 21, 22, 23, 24, 25, 26, 27, 28, 29, 30, 31, 32, 33, 34, 35, 36, 37, 38, 39, 40, 41, 42, 43, 44, 45, 46, 47, 48, 49, 50, 51, 52, 53, 106, 107, 108, 109, 110, 111, 112, 113, 114, 115, 116, 117, 118, 119, 120, 121, 122, 123, 124, 125, 126, 127, 128, 129, 130, 131]
def objs (w : World) : List Obj := ([tO 198 ["name", "list", "figure"]]) ++ (finObjs w pr 16 202 parts ("test", "meets", ["figure"])) ++ ([tO 381 ["run", "others", "all"]]) ++ (objsT w pr 107 385 tl20 tm20)
abbrev R : OpenRow := OpenLaw.row PySem.Challenge.rw_figuredeeds_k08_what_blocks_are
abbrev q : Program := view R.prog [50]
def loose : List PySem.Str := (["__name__", "LEAST_VALUE", "MOST_VALUE", "LONGEST_NAME", "DEEPEST", "NAME_KINDS", "PARTS", "is_number", "is_value", "is_name", "is_look", "is_test", "is_part", "is_worded", "has_parts"] : List PySem.Str) ++ (["MOST_DEEDS", "DEEPEST_BLOCK", "MOST_PARAMS", "STOP_WORDS", "DEEDS", "is_row", "is_block", "is_inner_block", "is_deed", "is_deed_part", "_law_begin", "_law_take", "_law_some", "_law_names", "_law_one_of"] : List PySem.Str) ++ (["_law_number", "_law_look", "_law_test", "_law_body", "_law_deed", "_law_block", "_law_known", "_law_whole", "_law_is_name", "_law_is_look", "_law_is_test", "_law_shape", "_law_is_part", "_law_is_deed", "_law_is_block"] : List PySem.Str) ++ (["_law_other", "_law_bent", "_law_told_right"] : List PySem.Str)
theorem run : RunM D q loose (fun s => xlAt q [] s && recOk R.toRowW.records s) (obY fa fn ck as 311) (hookY fa fn ck as 311 objs).val := by
  intro w os ps hp
  match ps, hp with
  | [p0, p1], _ => kernel_rfl
end K8

end
set_option Elab.async false
set_option linter.all false
set_option maxRecDepth 100000
set_option maxHeartbeats 0
namespace K8
open PySem PySem.W PySem.Calls PyProof.Rows HandSHeadRun Fw
theorem D_ok : D.Ok := by
  refine ⟨by kernel_rfl, fun w x hx => ?_, by decide +kernel⟩
  have hx : x ∈ ([.seg ((pr.main.body.drop 0).take 6) 226, .big "PARTS" (np st6) (dk st6) (dv st6) (dp st6) (ap st6) parts ("test", "meets", ["figure"]) 60, .seg ((pr.main.body.drop 7).take 13) 654, .two "DEEDS" (np st20) (dk st20) (dv st20) (dp st20) (ap st20) tl20 tm20 60] : List Stg) := hx
  rcases List.mem_cons.mp hx with rfl | hx
  · exact trivial
  rcases List.mem_cons.mp hx with rfl | hx
  · exact big_ok (by rfl) (by kernel_rfl) (by rfl) (by decide +kernel)
  rcases List.mem_cons.mp hx with rfl | hx
  · exact trivial
  rcases List.mem_cons.mp hx with rfl | hx
  · exact two_ok (by rfl) (by kernel_rfl) (by rfl) (by decide +kernel) (by decide +kernel) (by decide +kernel)
  · exact nomatch hx
theorem op_ok : opening D.p = plainProg D.p.main.scope.names := by kernel_rfl
theorem fe_ok : ∀ s, fenceModules? D.p s = some s := fun s => by rfl
end K8

set_option Elab.async false
set_option linter.all false
set_option maxRecDepth 100000
set_option maxHeartbeats 2000000
/-! the display's objects, as Parts -/
namespace Fw
open PySem PySem.Spec PyProof.Rows L2
theorem lo_at : ∀ {L : List PK} {j t : Nat} {p : PK}, L[j]? = some p → (∃ t', (lo t L)[2 * j]? = some (tO t' (key p))) ∧ ∃ t', (lo t L)[2 * j + 1]? = some (tO t' p.2.2)
  | [], _, _, _, h => by simp at h
  | q :: L, 0, t, p, h => by
    cases Option.some.inj h
    exact ⟨⟨t, rfl⟩, ⟨t + 2, rfl⟩⟩
  | q :: L, j + 1, t, p, h => by
    obtain ⟨h1, h2⟩ := lo_at (L := L) (j := j) (t := t + q.2.2.length + 5) h
    rw [show 2 * (j + 1) = 2 * j + 1 + 1 by omega, show 2 * j + 1 + 1 + 1 = (2 * j + 1) + 1 + 1 by omega]
    exact ⟨h1, h2⟩
theorem lx_at : ∀ {L : List PK} {i : Nat} {x : List Str × Addr × Value}, x ∈ lx i L → ∃ j p, L[j]? = some p ∧ x = (key p, i + 2 * j, .ref (i + 2 * j + 1))
  | [], _, _, h => nomatch h
  | q :: L, i, x, h => by
    rcases List.mem_cons.mp h with z | z
    · exact ⟨0, q, rfl, z⟩
    · obtain ⟨j, p, h1, h2⟩ := lx_at z
      exact ⟨j + 1, p, h1, by rw [h2, show i + 2 + 2 * j = i + 2 * (j + 1) by omega]⟩
theorem find_lx (k : List Str) : ∀ (L : List PK) (i : Nat), ((pairsH (lx i L)).find? (fun kv => decide (kv.1 = k)) = none ∧ L.find? (fun p => decide (key p = k)) = none) ∨
    ∃ j p, L[j]? = some p ∧ L.find? (fun p => decide (key p = k)) = some p ∧ (pairsH (lx i L)).find? (fun kv => decide (kv.1 = k)) = some (key p, .ref (i + 2 * j + 1))
  | [], _ => .inl ⟨rfl, rfl⟩
  | q :: L, i => by
    by_cases h : key q = k
    · refine .inr ⟨0, q, rfl, ?_, ?_⟩
      · rw [List.find?_cons, decide_eq_true h]
      · show ((key q, Value.ref (i + 1)) :: pairsH (lx (i + 2) L)).find? _ = _
        rw [List.find?_cons, decide_eq_true h]
    · rcases find_lx k L (i + 2) with ⟨h1, h2⟩ | ⟨j, p, h1, h2, h3⟩
      · refine .inl ⟨?_, ?_⟩
        · show ((key q, Value.ref (i + 1)) :: pairsH (lx (i + 2) L)).find? _ = _
          rw [List.find?_cons, decide_eq_false h]
          exact h1
        · rw [List.find?_cons, decide_eq_false h]
          exact h2
      · refine .inr ⟨j + 1, p, h1, ?_, ?_⟩
        · rw [List.find?_cons, decide_eq_false h]
          exact h2
        · show ((key q, Value.ref (i + 1)) :: pairsH (lx (i + 2) L)).find? _ = _
          rw [List.find?_cons, decide_eq_false h, show i + 2 * (j + 1) + 1 = i + 2 + 2 * j + 1 by omega]
          exact h3
theorem parts_of {prog : Program} {w : World} {K : PySem.W.Frag} {m t : Nat} {L : List PK} {p : PK} (h : ∀ i o, (finObjs w prog m t L p)[i]? = some o → K.lookup (m + i) = some o) (hm : (m == sysModules) = false) (nd : ((L ++ [p]).map key).Nodup)
    (hl : ∀ x ∈ L ++ [p], x.2.2.length ≤ sizeLine) : Parts prog w K m (fun k => ((L ++ [p]).find? fun q => decide (key q = k)).map (·.2.2)) := by
  have ll : ∀ s, (lo s L).length = 2 * L.length := lo_len L
  have inL : ∀ {j : Nat} {o : Obj}, (lo t L)[j]? = some o → K.lookup (m + 1 + j) = some o := fun {j o} e => by
    have hj : j < (lo t L).length := (List.getElem?_eq_some_iff.mp e).1
    have := h (j + 1) o (by
      show ((lo t L) ++ _)[j]? = some o
      rw [List.getElem?_append_left hj]
      exact e)
    rw [show m + 1 + j = m + (j + 1) by omega]
    exact this
  have inP : ∀ {j : Nat} {o : Obj}, (lo (lt t L) [p])[j]? = some o → K.lookup (m + 1 + 2 * L.length + 1 + j) = some o := fun {j o} e => by
    have := h (2 * L.length + 1 + j + 1) o (by
      show ((lo t L) ++ _)[2 * L.length + 1 + j]? = some o
      rw [List.getElem?_append_right (by rw [ll]; omega), ll, show 2 * L.length + 1 + j - 2 * L.length = j + 1 by omega]
      exact e)
    rw [show m + 1 + 2 * L.length + 1 + j = m + (2 * L.length + 1 + j + 1) by omega]
    exact this
  refine ⟨⟨lx (m + 1) L ++ lx (m + 1 + 2 * L.length + 1) [p], _, _, h 0 _ rfl, ⟨rfl, rfl, ?_⟩, rfl, fun x hx => ?_, ?_, fun k => ?_⟩, hm⟩
  · rfl
  · rcases List.mem_append.mp hx with z | z
    · obtain ⟨j, q, h1, rfl⟩ := lx_at z
      obtain ⟨⟨t', h2⟩, _⟩ := lo_at (t := t) h1
      exact ⟨t', inL h2⟩
    · obtain ⟨j, q, h1, rfl⟩ := lx_at z
      obtain ⟨⟨t', h2⟩, _⟩ := lo_at (t := lt t L) h1
      exact ⟨t', inP h2⟩
  · rw [List.map_append, lx_keys, lx_keys, ← List.map_append]
    exact nd
  · have val : ∀ {j : Nat} {q : PK}, L[j]? = some q → ∃ t', K.lookup (m + 1 + 2 * j + 1) = some (tO t' q.2.2) := fun {j q} e => by
      obtain ⟨_, t', h2⟩ := lo_at (t := t) e
      exact ⟨t', inL h2⟩
    have e1 : pairsH (lx (m + 1) L ++ lx (m + 1 + 2 * L.length + 1) [p]) = pairsH (lx (m + 1) L) ++ pairsH (lx (m + 1 + 2 * L.length + 1) [p]) := List.map_append
    unfold valueAt
    rw [e1, List.find?_append, List.find?_append]
    rcases find_lx k L (m + 1) with ⟨h1, h2⟩ | ⟨j, q, h1, h2, h3⟩
    · rw [h1, h2]
      rcases find_lx k [p] (m + 1 + 2 * L.length + 1) with ⟨h3, h4⟩ | ⟨j, q, h3, h4, h5⟩
      · rw [h3, h4]
        exact .inl ⟨rfl, rfl⟩
      · rw [h4, h5]
        obtain ⟨_, t', h6⟩ := lo_at (t := lt t L) h3
        exact .inr ⟨_, t', _, rfl, rfl, inP h6, hl q (List.mem_append.mpr (.inr (List.mem_of_getElem? h3)))⟩
    · rw [h2, h3]
      obtain ⟨t', ht'⟩ := val h1
      exact .inr ⟨_, t', _, rfl, rfl, ht', hl q (List.mem_append.mpr (.inl (List.mem_of_getElem? h1)))⟩
end Fw

set_option Elab.async false
set_option linter.all false
/-! a run of objects that a hook gives outright -/
namespace Fw
open PySem PySem.W
theorem seg_of {K : Frag} {as : List Addr} {l pre seg post : List Obj} {m k n : Nat} (hob : ∀ (i : Nat) (a : Addr) (o : Obj), as[i]? = some a → l[i]? = some o → K.lookup a = some o) (hl : l = pre ++ (seg ++ post)) (hk : pre.length = k) (hn : seg.length = n)
    (ha : ∀ i, i < n → as[k + i]? = some (m + i)) : ∀ (i : Nat) (o : Obj), seg[i]? = some o → K.lookup (m + i) = some o := fun i o ho => by
  have hi : i < seg.length := (List.getElem?_eq_some_iff.mp ho).1
  refine hob (k + i) (m + i) o (ha i (by omega)) ?_
  rw [hl, List.getElem?_append_right (by omega), hk, show k + i - k = i by omega, List.getElem?_append_left hi]
  exact ho
end Fw

open PySem PySem.W PyProof.Rows
set_option Elab.async false
set_option linter.all false
set_option maxRecDepth 100000
set_option maxHeartbeats 8000000
namespace Fd
open PySem PySem.Spec PyProof.Rows L2
theorem law_mk {w : World} {h : Heap} {mg : Str → Option Value} {fa : Addr} (Y : (Fw.hookY K8.fa K8.fn K8.ck K8.as 311 K8.objs).says w h) (G : h.Ns mainGlobals mg) (hfa : mg "law" = some (.ref fa)) :
    ∃ (K : PySem.W.Frag) (fd : FuncData), K.In h ∧ Fun K "law" "law" sLaw fa fd ∧ (∀ (s : Shared) (v : Value), BindsTo s fd ⟨[v], []⟩ [("_law_script", v)]) ∧ ∀ base : Heap, K.In base → base.Ns mainGlobals mg → LawD PySem.Challenge.rw_figuredeeds_k08_what_blocks_are.prog w K mg base 40 := by
  obtain ⟨K, X, c, hck, hob⟩ := Y
  obtain ⟨oc0, od0, osl0, kV0, dc0, pm0, an0, cd0, ct0, l0, e0⟩ := c.def_ 0
  have F_is_number := fun_mk (x := "is_number") (qual := "is_number") (st := sIsNumB) (f := He.ga K "is_number") l0 e0 (He.keep_ok (c.fact 1))
  have D_is_number : Df K mg "is_number" sIsNumB ["thing"] (He.ga K "is_number") _ := ⟨F_is_number, He.glo_ok X G (c.fact 0), F_is_number.binds fun _ _ _ _ _ _ us hl => match us, hl with | [_], _ => rfl⟩
  obtain ⟨oc1, od1, osl1, kV1, dc1, pm1, an1, cd1, ct1, l1, e1⟩ := c.def_ 1
  have F_is_value := fun_mk (x := "is_value") (qual := "is_value") (st := sIsValB) (f := He.ga K "is_value") l1 e1 (He.keep_ok (c.fact 3))
  have D_is_value : Df K mg "is_value" sIsValB ["thing"] (He.ga K "is_value") _ := ⟨F_is_value, He.glo_ok X G (c.fact 2), F_is_value.binds fun _ _ _ _ _ _ us hl => match us, hl with | [_], _ => rfl⟩
  obtain ⟨oc2, od2, osl2, kV2, dc2, pm2, an2, cd2, ct2, l2, e2⟩ := c.def_ 2
  have F_is_name := fun_mk (x := "is_name") (qual := "is_name") (st := sIsName) (f := He.ga K "is_name") l2 e2 (He.keep_ok (c.fact 5))
  have D_is_name : Df K mg "is_name" sIsName ["thing"] (He.ga K "is_name") _ := ⟨F_is_name, He.glo_ok X G (c.fact 4), F_is_name.binds fun _ _ _ _ _ _ us hl => match us, hl with | [_], _ => rfl⟩
  obtain ⟨oc3, od3, osl3, kV3, dc3, pm3, an3, cd3, ct3, l3, e3⟩ := c.def_ 3
  have F_is_look := fun_mk (x := "is_look") (qual := "is_look") (st := sIsLk) (f := He.ga K "is_look") l3 e3 (He.keep_ok (c.fact 7))
  have D_is_look : Df K mg "is_look" sIsLk ["thing"] (He.ga K "is_look") _ := ⟨F_is_look, He.glo_ok X G (c.fact 6), F_is_look.binds fun _ _ _ _ _ _ us hl => match us, hl with | [_], _ => rfl⟩
  obtain ⟨oc4, od4, osl4, kV4, dc4, pm4, an4, cd4, ct4, l4, e4⟩ := c.def_ 4
  have F_is_test := fun_mk (x := "is_test") (qual := "is_test") (st := sIsTs) (f := He.ga K "is_test") l4 e4 (He.keep_ok (c.fact 9))
  have D_is_test : Df K mg "is_test" sIsTs ["thing"] (He.ga K "is_test") _ := ⟨F_is_test, He.glo_ok X G (c.fact 8), F_is_test.binds fun _ _ _ _ _ _ us hl => match us, hl with | [_], _ => rfl⟩
  obtain ⟨oc5, od5, osl5, kV5, dc5, pm5, an5, cd5, ct5, l5, e5⟩ := c.def_ 5
  have F_is_part := fun_mk (x := "is_part") (qual := "is_part") (st := sPart) (f := He.ga K "is_part") l5 e5 (He.keep_ok (c.fact 11))
  have D_is_part : Df K mg "is_part" sPart ["thing", "kind", "deep"] (He.ga K "is_part") _ := ⟨F_is_part, He.glo_ok X G (c.fact 10), F_is_part.binds fun _ _ _ _ _ _ us hl => match us, hl with | [_, _, _], _ => rfl⟩
  obtain ⟨oc6, od6, osl6, kV6, dc6, pm6, an6, cd6, ct6, l6, e6⟩ := c.def_ 6
  have F_is_worded := fun_mk (x := "is_worded") (qual := "is_worded") (st := sIsWd) (f := He.ga K "is_worded") l6 e6 (He.keep_ok (c.fact 13))
  have D_is_worded : Df K mg "is_worded" sIsWd ["thing"] (He.ga K "is_worded") _ := ⟨F_is_worded, He.glo_ok X G (c.fact 12), F_is_worded.binds fun _ _ _ _ _ _ us hl => match us, hl with | [_], _ => rfl⟩
  obtain ⟨oc7, od7, osl7, kV7, dc7, pm7, an7, cd7, ct7, l7, e7⟩ := c.def_ 7
  have F_has_parts := fun_mk (x := "has_parts") (qual := "has_parts") (st := sHas) (f := He.ga K "has_parts") l7 e7 (He.keep_ok (c.fact 15))
  have D_has_parts : Df K mg "has_parts" sHas ["thing", "kind", "deep"] (He.ga K "has_parts") _ := ⟨F_has_parts, He.glo_ok X G (c.fact 14), F_has_parts.binds fun _ _ _ _ _ _ us hl => match us, hl with | [_, _, _], _ => rfl⟩
  obtain ⟨oc8, od8, osl8, kV8, dc8, pm8, an8, cd8, ct8, l8, e8⟩ := c.def_ 8
  have F_is_row := fun_mk (x := "is_row") (qual := "is_row") (st := sRow) (f := He.ga K "is_row") l8 e8 (He.keep_ok (c.fact 17))
  have D_is_row : Df K mg "is_row" sRow ["thing", "least", "most"] (He.ga K "is_row") _ := ⟨F_is_row, He.glo_ok X G (c.fact 16), F_is_row.binds fun _ _ _ _ _ _ us hl => match us, hl with | [_, _, _], _ => rfl⟩
  obtain ⟨oc9, od9, osl9, kV9, dc9, pm9, an9, cd9, ct9, l9, e9⟩ := c.def_ 9
  have F_is_block := fun_mk (x := "is_block") (qual := "is_block") (st := sBlock) (f := He.ga K "is_block") l9 e9 (He.keep_ok (c.fact 19))
  have D_is_block : Df K mg "is_block" sBlock ["thing"] (He.ga K "is_block") _ := ⟨F_is_block, He.glo_ok X G (c.fact 18), F_is_block.binds fun _ _ _ _ _ _ us hl => match us, hl with | [_], _ => rfl⟩
  obtain ⟨oc10, od10, osl10, kV10, dc10, pm10, an10, cd10, ct10, l10, e10⟩ := c.def_ 10
  have F_is_inner_block := fun_mk (x := "is_inner_block") (qual := "is_inner_block") (st := sInner) (f := He.ga K "is_inner_block") l10 e10 (He.keep_ok (c.fact 21))
  have D_is_inner_block : Df K mg "is_inner_block" sInner ["thing", "deep"] (He.ga K "is_inner_block") _ := ⟨F_is_inner_block, He.glo_ok X G (c.fact 20), F_is_inner_block.binds fun _ _ _ _ _ _ us hl => match us, hl with | [_, _], _ => rfl⟩
  obtain ⟨oc11, od11, osl11, kV11, dc11, pm11, an11, cd11, ct11, l11, e11⟩ := c.def_ 11
  have F_is_deed := fun_mk (x := "is_deed") (qual := "is_deed") (st := sDeed) (f := He.ga K "is_deed") l11 e11 (He.keep_ok (c.fact 23))
  have D_is_deed : Df K mg "is_deed" sDeed ["thing", "deep"] (He.ga K "is_deed") _ := ⟨F_is_deed, He.glo_ok X G (c.fact 22), F_is_deed.binds fun _ _ _ _ _ _ us hl => match us, hl with | [_, _], _ => rfl⟩
  obtain ⟨oc12, od12, osl12, kV12, dc12, pm12, an12, cd12, ct12, l12, e12⟩ := c.def_ 12
  have F_is_deed_part := fun_mk (x := "is_deed_part") (qual := "is_deed_part") (st := sDP) (f := He.ga K "is_deed_part") l12 e12 (He.keep_ok (c.fact 25))
  have D_is_deed_part : Df K mg "is_deed_part" sDP ["part", "kind", "deep"] (He.ga K "is_deed_part") _ := ⟨F_is_deed_part, He.glo_ok X G (c.fact 24), F_is_deed_part.binds fun _ _ _ _ _ _ us hl => match us, hl with | [_, _, _], _ => rfl⟩
  obtain ⟨oc13, od13, osl13, kV13, dc13, pm13, an13, cd13, ct13, l13, e13⟩ := c.def_ 13
  have F__law_begin := fun_mk (x := "_law_begin") (qual := "_law_begin") (st := sBegin) (f := He.ga K "_law_begin") l13 e13 (He.keep_ok (c.fact 27))
  have D__law_begin : Df K mg "_law_begin" sBegin ["_law_script"] (He.ga K "_law_begin") _ := ⟨F__law_begin, He.glo_ok X G (c.fact 26), F__law_begin.binds fun _ _ _ _ _ _ us hl => match us, hl with | [_], _ => rfl⟩
  obtain ⟨oc14, od14, osl14, kV14, dc14, pm14, an14, cd14, ct14, l14, e14⟩ := c.def_ 14
  have F__law_take := fun_mk (x := "_law_take") (qual := "_law_take") (st := sTake) (f := He.ga K "_law_take") l14 e14 (He.keep_ok (c.fact 29))
  have D__law_take : Df K mg "_law_take" sTake ["_law_state", "_law_below"] (He.ga K "_law_take") _ := ⟨F__law_take, He.glo_ok X G (c.fact 28), F__law_take.binds fun _ _ _ _ _ _ us hl => match us, hl with | [_, _], _ => rfl⟩
  obtain ⟨oc15, od15, osl15, kV15, dc15, pm15, an15, cd15, ct15, l15, e15⟩ := c.def_ 15
  have F__law_some := fun_mk (x := "_law_some") (qual := "_law_some") (st := sSome) (f := He.ga K "_law_some") l15 e15 (He.keep_ok (c.fact 31))
  have D__law_some : Df K mg "_law_some" sSome ["_law_state", "_law_things"] (He.ga K "_law_some") _ := ⟨F__law_some, He.glo_ok X G (c.fact 30), F__law_some.binds fun _ _ _ _ _ _ us hl => match us, hl with | [_, _], _ => rfl⟩
  obtain ⟨oc16, od16, osl16, kV16, dc16, pm16, an16, cd16, ct16, l16, e16⟩ := c.def_ 16
  have F__law_names := fun_mk (x := "_law_names") (qual := "_law_names") (st := sNames) (f := He.ga K "_law_names") l16 e16 (He.keep_ok (c.fact 33))
  have D__law_names : Df K mg "_law_names" sNames ["_law_state", "_law_many"] (He.ga K "_law_names") _ := ⟨F__law_names, He.glo_ok X G (c.fact 32), F__law_names.binds fun _ _ _ _ _ _ us hl => match us, hl with | [_, _], _ => rfl⟩
  obtain ⟨oc17, od17, osl17, kV17, dc17, pm17, an17, cd17, ct17, l17, e17⟩ := c.def_ 17
  have F__law_one_of := fun_mk (x := "_law_one_of") (qual := "_law_one_of") (st := sOne) (f := He.ga K "_law_one_of") l17 e17 (He.keep_ok (c.fact 35))
  have D__law_one_of : Df K mg "_law_one_of" sOne ["_law_state", "_law_some_here"] (He.ga K "_law_one_of") _ := ⟨F__law_one_of, He.glo_ok X G (c.fact 34), F__law_one_of.binds fun _ _ _ _ _ _ us hl => match us, hl with | [_, _], _ => rfl⟩
  obtain ⟨oc18, od18, osl18, kV18, dc18, pm18, an18, cd18, ct18, l18, e18⟩ := c.def_ 18
  have F__law_number := fun_mk (x := "_law_number") (qual := "_law_number") (st := sNumb) (f := He.ga K "_law_number") l18 e18 (He.keep_ok (c.fact 37))
  have D__law_number : Df K mg "_law_number" sNumb ["_law_state"] (He.ga K "_law_number") _ := ⟨F__law_number, He.glo_ok X G (c.fact 36), F__law_number.binds fun _ _ _ _ _ _ us hl => match us, hl with | [_], _ => rfl⟩
  obtain ⟨oc19, od19, osl19, kV19, dc19, pm19, an19, cd19, ct19, l19, e19⟩ := c.def_ 19
  have F__law_look := fun_mk (x := "_law_look") (qual := "_law_look") (st := sLook) (f := He.ga K "_law_look") l19 e19 (He.keep_ok (c.fact 39))
  have D__law_look : Df K mg "_law_look" sLook ["_law_state", "_law_w", "_law_deep"] (He.ga K "_law_look") _ := ⟨F__law_look, He.glo_ok X G (c.fact 38), F__law_look.binds fun _ _ _ _ _ _ us hl => match us, hl with | [_, _, _], _ => rfl⟩
  obtain ⟨oc20, od20, osl20, kV20, dc20, pm20, an20, cd20, ct20, l20, e20⟩ := c.def_ 20
  have F__law_test := fun_mk (x := "_law_test") (qual := "_law_test") (st := sTest) (f := He.ga K "_law_test") l20 e20 (He.keep_ok (c.fact 41))
  have D__law_test : Df K mg "_law_test" sTest ["_law_state", "_law_w", "_law_deep"] (He.ga K "_law_test") _ := ⟨F__law_test, He.glo_ok X G (c.fact 40), F__law_test.binds fun _ _ _ _ _ _ us hl => match us, hl with | [_, _, _], _ => rfl⟩
  obtain ⟨oc21, od21, osl21, kV21, dc21, pm21, an21, cd21, ct21, l21, e21⟩ := c.def_ 21
  have F__law_body := fun_mk (x := "_law_body") (qual := "_law_body") (st := sBody) (f := He.ga K "_law_body") l21 e21 (He.keep_ok (c.fact 43))
  have D__law_body : Df K mg "_law_body" sBody ["_law_state", "_law_w"] (He.ga K "_law_body") _ := ⟨F__law_body, He.glo_ok X G (c.fact 42), F__law_body.binds fun _ _ _ _ _ _ us hl => match us, hl with | [_, _], _ => rfl⟩
  obtain ⟨oc22, od22, osl22, kV22, dc22, pm22, an22, cd22, ct22, l22, e22⟩ := c.def_ 22
  have F__law_deed := fun_mk (x := "_law_deed") (qual := "_law_deed") (st := sDeedG) (f := He.ga K "_law_deed") l22 e22 (He.keep_ok (c.fact 45))
  have D__law_deed : Df K mg "_law_deed" sDeedG ["_law_state", "_law_w", "_law_deep"] (He.ga K "_law_deed") _ := ⟨F__law_deed, He.glo_ok X G (c.fact 44), F__law_deed.binds fun _ _ _ _ _ _ us hl => match us, hl with | [_, _, _], _ => rfl⟩
  obtain ⟨oc23, od23, osl23, kV23, dc23, pm23, an23, cd23, ct23, l23, e23⟩ := c.def_ 23
  have F__law_block := fun_mk (x := "_law_block") (qual := "_law_block") (st := sBlkG) (f := He.ga K "_law_block") l23 e23 (He.keep_ok (c.fact 47))
  have D__law_block : Df K mg "_law_block" sBlkG ["_law_state", "_law_w", "_law_deep"] (He.ga K "_law_block") _ := ⟨F__law_block, He.glo_ok X G (c.fact 46), F__law_block.binds fun _ _ _ _ _ _ us hl => match us, hl with | [_, _, _], _ => rfl⟩
  obtain ⟨oc24, od24, osl24, kV24, dc24, pm24, an24, cd24, ct24, l24, e24⟩ := c.def_ 24
  have F__law_known := fun_mk (x := "_law_known") (qual := "_law_known") (st := sKnown) (f := He.ga K "_law_known") l24 e24 (He.keep_ok (c.fact 49))
  have D__law_known : Df K mg "_law_known" sKnown ["_law_state"] (He.ga K "_law_known") _ := ⟨F__law_known, He.glo_ok X G (c.fact 48), F__law_known.binds fun _ _ _ _ _ _ us hl => match us, hl with | [_], _ => rfl⟩
  obtain ⟨oc25, od25, osl25, kV25, dc25, pm25, an25, cd25, ct25, l25, e25⟩ := c.def_ 25
  have F__law_whole := fun_mk (x := "_law_whole") (qual := "_law_whole") (st := sWh) (f := He.ga K "_law_whole") l25 e25 (He.keep_ok (c.fact 51))
  have D__law_whole : Df K mg "_law_whole" sWh ["_law_stuff", "_law_low", "_law_high"] (He.ga K "_law_whole") _ := ⟨F__law_whole, He.glo_ok X G (c.fact 50), F__law_whole.binds fun _ _ _ _ _ _ us hl => match us, hl with | [_, _, _], _ => rfl⟩
  obtain ⟨oc26, od26, osl26, kV26, dc26, pm26, an26, cd26, ct26, l26, e26⟩ := c.def_ 26
  have F__law_is_name := fun_mk (x := "_law_is_name") (qual := "_law_is_name") (st := sLName) (f := He.ga K "_law_is_name") l26 e26 (He.keep_ok (c.fact 53))
  have D__law_is_name : Df K mg "_law_is_name" sLName ["_law_stuff"] (He.ga K "_law_is_name") _ := ⟨F__law_is_name, He.glo_ok X G (c.fact 52), F__law_is_name.binds fun _ _ _ _ _ _ us hl => match us, hl with | [_], _ => rfl⟩
  obtain ⟨oc27, od27, osl27, kV27, dc27, pm27, an27, cd27, ct27, l27, e27⟩ := c.def_ 27
  have F__law_is_look := fun_mk (x := "_law_is_look") (qual := "_law_is_look") (st := sLkL) (f := He.ga K "_law_is_look") l27 e27 (He.keep_ok (c.fact 55))
  have D__law_is_look : Df K mg "_law_is_look" sLkL ["_law_stuff", "_law_left"] (He.ga K "_law_is_look") _ := ⟨F__law_is_look, He.glo_ok X G (c.fact 54), F__law_is_look.binds fun _ _ _ _ _ _ us hl => match us, hl with | [_, _], _ => rfl⟩
  obtain ⟨oc28, od28, osl28, kV28, dc28, pm28, an28, cd28, ct28, l28, e28⟩ := c.def_ 28
  have F__law_is_test := fun_mk (x := "_law_is_test") (qual := "_law_is_test") (st := sTsL) (f := He.ga K "_law_is_test") l28 e28 (He.keep_ok (c.fact 57))
  have D__law_is_test : Df K mg "_law_is_test" sTsL ["_law_stuff", "_law_left"] (He.ga K "_law_is_test") _ := ⟨F__law_is_test, He.glo_ok X G (c.fact 56), F__law_is_test.binds fun _ _ _ _ _ _ us hl => match us, hl with | [_, _], _ => rfl⟩
  obtain ⟨oc29, od29, osl29, kV29, dc29, pm29, an29, cd29, ct29, l29, e29⟩ := c.def_ 29
  have F__law_shape := fun_mk (x := "_law_shape") (qual := "_law_shape") (st := sShpL) (f := He.ga K "_law_shape") l29 e29 (He.keep_ok (c.fact 59))
  have D__law_shape : Df K mg "_law_shape" sShpL ["_law_word"] (He.ga K "_law_shape") _ := ⟨F__law_shape, He.glo_ok X G (c.fact 58), F__law_shape.binds fun _ _ _ _ _ _ us hl => match us, hl with | [_], _ => rfl⟩
  obtain ⟨oc30, od30, osl30, kV30, dc30, pm30, an30, cd30, ct30, l30, e30⟩ := c.def_ 30
  have F__law_is_part := fun_mk (x := "_law_is_part") (qual := "_law_is_part") (st := sPtL) (f := He.ga K "_law_is_part") l30 e30 (He.keep_ok (c.fact 61))
  have D__law_is_part : Df K mg "_law_is_part" sPtL ["_law_sort", "_law_stuff", "_law_left"] (He.ga K "_law_is_part") _ := ⟨F__law_is_part, He.glo_ok X G (c.fact 60), F__law_is_part.binds fun _ _ _ _ _ _ us hl => match us, hl with | [_, _, _], _ => rfl⟩
  obtain ⟨oc31, od31, osl31, kV31, dc31, pm31, an31, cd31, ct31, l31, e31⟩ := c.def_ 31
  have F__law_is_deed := fun_mk (x := "_law_is_deed") (qual := "_law_is_deed") (st := sDdL) (f := He.ga K "_law_is_deed") l31 e31 (He.keep_ok (c.fact 63))
  have D__law_is_deed : Df K mg "_law_is_deed" sDdL ["_law_stuff", "_law_left"] (He.ga K "_law_is_deed") _ := ⟨F__law_is_deed, He.glo_ok X G (c.fact 62), F__law_is_deed.binds fun _ _ _ _ _ _ us hl => match us, hl with | [_, _], _ => rfl⟩
  obtain ⟨oc32, od32, osl32, kV32, dc32, pm32, an32, cd32, ct32, l32, e32⟩ := c.def_ 32
  have F__law_is_block := fun_mk (x := "_law_is_block") (qual := "_law_is_block") (st := sBkL) (f := He.ga K "_law_is_block") l32 e32 (He.keep_ok (c.fact 65))
  have D__law_is_block : Df K mg "_law_is_block" sBkL ["_law_stuff", "_law_left"] (He.ga K "_law_is_block") _ := ⟨F__law_is_block, He.glo_ok X G (c.fact 64), F__law_is_block.binds fun _ _ _ _ _ _ us hl => match us, hl with | [_, _], _ => rfl⟩
  obtain ⟨oc33, od33, osl33, kV33, dc33, pm33, an33, cd33, ct33, l33, e33⟩ := c.def_ 33
  have F__law_other := fun_mk (x := "_law_other") (qual := "_law_other") (st := sOther) (f := He.ga K "_law_other") l33 e33 (He.keep_ok (c.fact 67))
  have D__law_other : Df K mg "_law_other" sOther ["_law_state", "_law_stuff", "_law_names_here"] (He.ga K "_law_other") _ := ⟨F__law_other, He.glo_ok X G (c.fact 66), F__law_other.binds fun _ _ _ _ _ _ us hl => match us, hl with | [_, _, _], _ => rfl⟩
  obtain ⟨oc34, od34, osl34, kV34, dc34, pm34, an34, cd34, ct34, l34, e34⟩ := c.def_ 34
  have F__law_bent := fun_mk (x := "_law_bent") (qual := "_law_bent") (st := sBent) (f := He.ga K "_law_bent") l34 e34 (He.keep_ok (c.fact 69))
  have D__law_bent : Df K mg "_law_bent" sBent ["_law_state", "_law_stuff", "_law_names_here"] (He.ga K "_law_bent") _ := ⟨F__law_bent, He.glo_ok X G (c.fact 68), F__law_bent.binds fun _ _ _ _ _ _ us hl => match us, hl with | [_, _, _], _ => rfl⟩
  obtain ⟨oc35, od35, osl35, kV35, dc35, pm35, an35, cd35, ct35, l35, e35⟩ := c.def_ 35
  have F__law_told_right := fun_mk (x := "_law_told_right") (qual := "_law_told_right") (st := sRight) (f := He.ga K "_law_told_right") l35 e35 (He.keep_ok (c.fact 71))
  have D__law_told_right : Df K mg "_law_told_right" sRight ["_law_stuff"] (He.ga K "_law_told_right") _ := ⟨F__law_told_right, He.glo_ok X G (c.fact 70), F__law_told_right.binds fun _ _ _ _ _ _ us hl => match us, hl with | [_], _ => rfl⟩
  obtain ⟨oc36, od36, osl36, kV36, dc36, pm36, an36, cd36, ct36, l36, e36⟩ := c.def_ 36
  have F_law := fun_mk (x := "law") (qual := "law") (st := sLaw) (f := He.ga K "law") l36 e36 (He.keep_ok (c.fact 73))
  obtain rfl : fa = He.ga K "law" := Value.ref.inj (Option.some.inj (hfa.symm.trans (He.glo_ok X G (c.fact 72))))
  have m_len : mg "len" = none := He.free_ok X G (c.fact 74)
  have m_int : mg "int" = none := He.free_ok X G (c.fact 75)
  have m_divmod : mg "divmod" = none := He.free_ok X G (c.fact 76)
  have m_list : mg "list" = none := He.free_ok X G (c.fact 77)
  have m_isinstance : mg "isinstance" = none := He.free_ok X G (c.fact 78)
  have m_tuple : mg "tuple" = none := He.free_ok X G (c.fact 79)
  have m_all : mg "all" = none := He.free_ok X G (c.fact 80)
  have m_zip : mg "zip" = none := He.free_ok X G (c.fact 81)
  have m_str : mg "str" = none := He.free_ok X G (c.fact 82)
  have m_bool : mg "bool" = none := He.free_ok X G (c.fact 83)
  have m_range : mg "range" = none := He.free_ok X G (c.fact 84)
  have m_repr : mg "repr" = none := He.free_ok X G (c.fact 85)
  have m_min : mg "min" = none := He.free_ok X G (c.fact 86)
  have m_max : mg "max" = none := He.free_ok X G (c.fact 87)
  obtain ⟨t_LEAST_VALUE, m_LEAST_VALUE⟩ := He.int_ok X G (c.fact 88)
  obtain ⟨t_MOST_VALUE, m_MOST_VALUE⟩ := He.int_ok X G (c.fact 89)
  obtain ⟨t_LONGEST_NAME, m_LONGEST_NAME⟩ := He.int_ok X G (c.fact 90)
  obtain ⟨t_DEEPEST, m_DEEPEST⟩ := He.int_ok X G (c.fact 91)
  obtain ⟨t_MOST_DEEDS, m_MOST_DEEDS⟩ := He.int_ok X G (c.fact 92)
  obtain ⟨t_DEEPEST_BLOCK, m_DEEPEST_BLOCK⟩ := He.int_ok X G (c.fact 93)
  obtain ⟨t_MOST_PARAMS, m_MOST_PARAMS⟩ := He.int_ok X G (c.fact 94)
  unfold K8.ck at hck
  simp only [Bool.and_eq_true] at hck
  obtain ⟨⟨⟨q0, q1⟩, q2⟩, q3⟩ := hck
  have m_NAME_KINDS : mg "NAME_KINDS" = some (.ref 15) := PySem.W.mg_of X G (He.eqO_ok q0)
  have m_PARTS : mg "PARTS" = some (.ref 16) := PySem.W.mg_of X G (He.eqO_ok q1)
  have m_STOP_WORDS : mg "STOP_WORDS" = some (.ref 106) := PySem.W.mg_of X G (He.eqO_ok q2)
  have m_DEEDS : mg "DEEDS" = some (.ref 107) := PySem.W.mg_of X G (He.eqO_ok q3)
  have seg0 : ∀ (i : Nat) (o : Obj), ([Fw.tO 198 ["name", "list", "figure"]])[i]? = some o → K.lookup (15 + i) = some o := Fw.seg_of (pre := []) (post := (Fw.finObjs w K8.pr 16 202 K8.parts ("test", "meets", ["figure"])) ++ ([Fw.tO 381 ["run", "others", "all"]]) ++ (Fw.objsT w K8.pr 107 385 K8.tl20 K8.tm20)) (k := 0) (n := 1) hob (by simp only [K8.objs, List.append_assoc, List.nil_append, List.append_nil, List.cons_append]) rfl rfl (by decide)
  have seg1 : ∀ (i : Nat) (o : Obj), (Fw.finObjs w K8.pr 16 202 K8.parts ("test", "meets", ["figure"]))[i]? = some o → K.lookup (16 + i) = some o := Fw.seg_of (pre := ([Fw.tO 198 ["name", "list", "figure"]])) (post := ([Fw.tO 381 ["run", "others", "all"]]) ++ (Fw.objsT w K8.pr 107 385 K8.tl20 K8.tm20)) (k := 1) (n := 38) hob (by simp only [K8.objs, List.append_assoc, List.nil_append, List.append_nil, List.cons_append]) rfl rfl (by decide)
  have seg2 : ∀ (i : Nat) (o : Obj), ([Fw.tO 381 ["run", "others", "all"]])[i]? = some o → K.lookup (106 + i) = some o := Fw.seg_of (pre := ([Fw.tO 198 ["name", "list", "figure"]]) ++ (Fw.finObjs w K8.pr 16 202 K8.parts ("test", "meets", ["figure"]))) (post := (Fw.objsT w K8.pr 107 385 K8.tl20 K8.tm20)) (k := 39) (n := 1) hob (by simp only [K8.objs, List.append_assoc, List.nil_append, List.append_nil, List.cons_append]) rfl rfl (by decide)
  have seg3 : ∀ (i : Nat) (o : Obj), (Fw.objsT w K8.pr 107 385 K8.tl20 K8.tm20)[i]? = some o → K.lookup (107 + i) = some o := Fw.seg_of (pre := ([Fw.tO 198 ["name", "list", "figure"]]) ++ (Fw.finObjs w K8.pr 16 202 K8.parts ("test", "meets", ["figure"])) ++ ([Fw.tO 381 ["run", "others", "all"]])) (post := []) (k := 40) (n := 25) hob (by simp only [K8.objs, List.append_assoc, List.nil_append, List.append_nil, List.cons_append]) rfl rfl (by decide)
  have hT15 : ∀ H, SqT K H 15 ((["name", "list", "figure"] : List Str).map V.str) := fun H => Fw.tO_sqT (t := 198) (seg0 0 _ rfl) (by decide)
  have hP : Fw.Parts PySem.Challenge.rw_figuredeeds_k08_what_blocks_are.prog w K 16 gP := Fw.parts_of (t := 202) (L := K8.parts) (p := ("test", "meets", ["figure"])) seg1 (by decide) (by decide +kernel) (fun x hx => by
    have : ∀ x ∈ K8.parts ++ ([("test", "meets", ["figure"])] : List Fw.PK), x.2.2.length ≤ 2 := by decide +kernel
    exact Nat.le_trans (this x hx) (by decide))
  have hT106 : ∀ H, SqT K H 106 ((["run", "others", "all"] : List Str).map V.str) := fun H => Fw.tO_sqT (t := 381) (seg2 0 _ rfl) (by decide)
  have hD : Fw.Deeds PySem.Challenge.rw_figuredeeds_k08_what_blocks_are.prog w K 107 gD := Fw.deeds_of (t := 385) (L := K8.tl20) (M := K8.tm20) seg3 (by decide) (by decide +kernel) (fun x hx => by
    have : ∀ x ∈ K8.tl20 ++ K8.tm20, x.2.length ≤ 3 := by decide +kernel
    exact Nat.le_trans (this x hx) (by decide))
  refine ⟨K, _, X, F_law, fun s v => .of_eq rfl, fun base _ _ => ?_⟩
  have gNB : FnG PySem.Challenge.rw_figuredeeds_k08_what_blocks_are.prog w K mg base CX0 1 "is_number" ["thing"] (spB K (fun _ => True) isNum) := D_is_number.g (ok_isNumB D_is_number.F m_isinstance m_int m_bool)
  have gIB : FnG PySem.Challenge.rw_figuredeeds_k08_what_blocks_are.prog w K mg base CX0 2 "is_value" ["thing"] (spB K (fun _ => True) isVal) := D_is_value.g (ok_isValB D_is_value.F gNB m_LEAST_VALUE m_MOST_VALUE)
  have gM : FnG PySem.Challenge.rw_figuredeeds_k08_what_blocks_are.prog w K mg base CX0 1 "is_name" ["thing"] (spB K TxOk isNm) := D_is_name.g (ok_isName D_is_name.F m_isinstance m_str m_len m_all m_LONGEST_NAME)
  have gW : FnG PySem.Challenge.rw_figuredeeds_k08_what_blocks_are.prog w K mg base CX0 1 "is_worded" ["thing"] (spB K (fun _ => True) isWd) := D_is_worded.g (ok_isWd D_is_worded.F m_isinstance m_tuple m_str m_len)
  have gPt := ok_parts (base := base) D_is_part D_has_parts (gM.mono (by decide)) (gIB.mono (by decide)) (gW.mono (by decide)) m_len m_all m_zip m_PARTS hP m_NAME_KINDS hT15 6
  have gLk : FnG PySem.Challenge.rw_figuredeeds_k08_what_blocks_are.prog w K mg base CX0 17 "is_look" ["thing"] (spB K OkA (isPart 6 "look")) := D_is_look.g (ok_isLk D_is_look.F gPt m_DEEPEST)
  have gTs : FnG PySem.Challenge.rw_figuredeeds_k08_what_blocks_are.prog w K mg base CX0 17 "is_test" ["thing"] (spB K OkA (isPart 6 "test")) := D_is_test.g (ok_isTs D_is_test.F gPt m_DEEPEST)
  have gRw : FnG PySem.Challenge.rw_figuredeeds_k08_what_blocks_are.prog w K mg base CX0 1 "is_row" ["thing", "least", "most"] (spRow K) := D_is_row.g (ok_row D_is_row.F m_isinstance m_tuple m_len)
  have gIn := ok_inners (base := base) ⟨gM.mono (by decide), gLk.mono (by decide), gTs.mono (by decide), gW.mono (by decide), gRw.mono (by decide), D_is_inner_block, D_is_deed, D_is_deed_part, m_len, m_all, m_zip, ⟨_, m_MOST_DEEDS⟩, ⟨_, m_MOST_PARAMS⟩, m_STOP_WORDS, hT106, m_DEEDS, hD⟩ 4
  have gBk : FnG PySem.Challenge.rw_figuredeeds_k08_what_blocks_are.prog w K mg base CX0 33 "is_block" ["thing"] (spB K OkA (innerB 4)) := D_is_block.g (ok_block D_is_block.F gIn m_DEEPEST_BLOCK)
  have gBe : FnG PySem.Challenge.rw_figuredeeds_k08_what_blocks_are.prog w K mg base CX0 1 "_law_begin" ["_law_script"] (spBegin K) := D__law_begin.g (ok_begin D__law_begin.F m_list)
  have gT : FnG PySem.Challenge.rw_figuredeeds_k08_what_blocks_are.prog w K mg base CX0 1 "_law_take" ["_law_state", "_law_below"] spTake := D__law_take.g (ok_take D__law_take.F m_divmod m_len)
  have gS : FnG PySem.Challenge.rw_figuredeeds_k08_what_blocks_are.prog w K mg base CX0 2 "_law_some" ["_law_state", "_law_things"] spSome := D__law_some.g (ok_some D__law_some.F gT m_len)
  have gNm : FnG PySem.Challenge.rw_figuredeeds_k08_what_blocks_are.prog w K mg base CX0 2 "_law_names" ["_law_state", "_law_many"] spNames := D__law_names.g (ok_names D__law_names.F gT m_len m_range)
  have gO : FnG PySem.Challenge.rw_figuredeeds_k08_what_blocks_are.prog w K mg base CX0 2 "_law_one_of" ["_law_state", "_law_some_here"] spOne := D__law_one_of.g (ok_one D__law_one_of.F gT m_len)
  have gNu : FnG PySem.Challenge.rw_figuredeeds_k08_what_blocks_are.prog w K mg base CX0 2 "_law_number" ["_law_state"] spNumb := D__law_number.g (ok_numb D__law_number.F gT)
  have gT2 := gT.mono (show 1 ≤ 2 by decide)
  have gK := ok_lookA (base := base) D__law_look gT2 gO gNu
  have gE := ok_testA (base := base) D__law_test gT2 gO gK
  have gY : FnG PySem.Challenge.rw_figuredeeds_k08_what_blocks_are.prog w K mg base CX0 7 "_law_body" ["_law_state", "_law_w"] (spBody K) := D__law_body.g (ok_body D__law_body.F (gT.mono (by decide)) (gO.mono (by decide)) gK)
  have fB := ok_blocks (base := base) (k := 8) D__law_block D__law_deed (gT.mono (by decide)) (gO.mono (by decide)) (gK.mono (by decide)) gE (gY.mono (by decide)) m_min m_max m_range m_tuple 2 (by decide)
  have gKn : FnG PySem.Challenge.rw_figuredeeds_k08_what_blocks_are.prog w K mg base CX0 3 "_law_known" ["_law_state"] spKnown := D__law_known.g (ok_known D__law_known.F gT2 gNm)
  have gWh : FnG PySem.Challenge.rw_figuredeeds_k08_what_blocks_are.prog w K mg base CX0 1 "_law_whole" ["_law_stuff", "_law_low", "_law_high"] (spWh K) := D__law_whole.g (ok_wh D__law_whole.F m_isinstance m_int m_bool)
  have gLN : FnG PySem.Challenge.rw_figuredeeds_k08_what_blocks_are.prog w K mg base CX0 1 "_law_is_name" ["_law_stuff"] (spB K TxOk isNm) := D__law_is_name.g (ok_lName D__law_is_name.F m_isinstance m_str m_len m_all)
  have gLkL := ok_lkls (base := base) D__law_is_look gWh gLN m_isinstance m_tuple m_str m_len m_all m_int
  have gTsL := ok_tsls (base := base) D__law_is_test D__law_is_look gLN gLkL m_isinstance m_tuple m_str m_len m_all
  have gSh : FnG PySem.Challenge.rw_figuredeeds_k08_what_blocks_are.prog w K mg base CX0 1 "_law_shape" ["_law_word"] spShpL := D__law_shape.g (ok_shpl D__law_shape.F)
  have gBkL := ok_bkls (base := base) D__law_is_block D__law_is_deed D__law_is_part gLN gSh (gLkL 6) (gTsL 6) m_isinstance m_tuple m_str m_len m_all m_zip 4
  have gOt : FnG PySem.Challenge.rw_figuredeeds_k08_what_blocks_are.prog w K mg base CX0 3 "_law_other" ["_law_state", "_law_stuff", "_law_names_here"] (spOther K) := D__law_other.g (ok_other D__law_other.F gS m_isinstance m_int m_str)
  have gBt := ok_bentA (base := base) (k := 3) D__law_bent (gT.mono (by decide)) gOt m_isinstance m_tuple m_list m_len
  exact ⟨gBe.mono (by decide), gT.mono (by decide), gKn.mono (by decide), D__law_block.g (fB.mono (by decide)), gBkL.mono (by decide), gBt.mono (by decide), gOt.mono (by decide), ⟨_, _, ok_right (k := 39) D__law_told_right.F (gBk.mono (by decide)) (gBkL.mono (by decide)) m_repr m_isinstance m_bool, D__law_told_right.m, D__law_told_right.F.kp, D__law_told_right.b⟩,
    FnT.mono ⟨_, _, ok_block D_is_block.F gIn m_DEEPEST_BLOCK, D_is_block.m, D_is_block.F.kp, D_is_block.b, fun _ us _ hl => match us, hl with | [_], _ => .of_eq rfl⟩ (by decide), m_range⟩
end Fd

open PySem PySem.W PyProof.Rows
set_option Elab.async false
set_option linter.all false
set_option maxRecDepth 100000 in
set_option maxHeartbeats 0 in
theorem PySem.Challenge.cw_figuredeeds_k08_what_blocks_are_holds : PySem.Challenge.rw_figuredeeds_k08_what_blocks_are.Holds := by
  w_on; o_law
  refine Fw.head_many (r := K8.R) (D := K8.D) (q := K8.q) (loose := K8.loose) (H := Fw.hookY K8.fa K8.fn K8.ck K8.as 311 K8.objs) (ob := Fw.obY K8.fa K8.fn K8.ck K8.as 311) (d := HandSHeadRun.topDef K8.R.prog 50) (kwd := []) rfl K8.D_ok (fun s => Fw.obY_eq _ _ _ _ _ _ s) K8.op_ok K8.fe_ok K8.run
    (by kernel_rfl) (by kernel_rfl) (by kernel_rfl) (by rfl) (by first | assumption | decide +kernel) (by decide +kernel) ⟨rfl, rfl, rfl, rfl, rfl, by decide +kernel⟩ ?hw ?hc
  case hw => w_witness2
  case hc =>
    refine Fd.walk_ex (l := PySem.Challenge.rw_figuredeeds_k08_what_blocks_are) (n := 63) rfl (by decide) (by kernel_rfl) (by kernel_rfl) ?F
    intro w mg fa h Y G hmg
    exact Fd.law_mk Y G hmg

