import PyProof.Rows.All
import Wide.All
import OpenK.AllK
import Wide.FinOn
import HandS.Lambda
import HandS.Conv
import HandS.Dict
import KE.SortKeyHeap
import KE.KeyNested
import PyProof.DictRoadsH
import HandS.DictTup
import HandS.OwnEq
import OpenK.KOps
import HandS.DictComp
import HandS.Walk
import HandS.Defaults
import OpenK.KMore
import HandS.Call
import HandS.NoneIn
import HandS.TryOnly
import HandS.Wide
import HandS.Zip
import HandS.IsInst
import HandS.TupLe
import HandS.TupLen
import HandS.ListItems
import HandS.Codes
import HandS.ForMost
import PyProof.Rows.StrIntSpec
import HandS.TupAny
import HandS.Style
import HandS.Text
import HandS.Ends
import PyProof.EqAt
import PyProof.EqKinds
import PyProof.TupleCall
import KE.KExcInit
import KE.KExcIs
import HandS.ForExc
import HandS.ExcValue
import HandS.ExcField
import HandS.CallLocal
import HandS.Strs
import HandS.More
import HandS.Flow
import KE.GoesRaise
import HandS.CallSlots
import HandS.Head0
import HandS.Head1
import HandS.Head2
import KE.KDictDisplayH
import HandS.HeadHook1
import HandS.ExcIs
import HandS.HeadHook4
import HandS.MakeKwOnly
import HandS.EndTab
import HandS.Words
import PySem.Challenge.RW_figuredeeds_k23_known_grounds
set_option Elab.async false
set_option linter.all false
set_option maxRecDepth 100000
set_option maxHeartbeats 400000
/-! sorted(xs, key=lambda x: (y[x[0]], x[1])): y a captured dict of texts -/
namespace Fw
open PySem PySem.Spec PySem.Calls PyProof.Rows L2 LamX
section
variable {prog : Program} {w : World} {A : Around} {E : Value → Shared → Prop} {s : Shared}
abbrev keyBody (x y : Str) (k0 k1 c : Nat) (p1 p2 p3 p4 p5 p6 p7 p8 p9 : Pos) : Expr :=
  .Tuple [.Subscript (.Name y p1) (.Subscript (.Name x p2) (.Constant (.int 0) k0 p3) p4) p5, .Subscript (.Name x p6) (.Constant (.int 1) k1 p7) p8] c p9
/-- t[j], t a pair that a local name holds -/
theorem loc_item {env : Env} {x : Str} {m : Str → Option Value} {t : Addr} {u0 u1 : Value} {i : Int} {j : Nat} {k : Nat} {p1 p2 p3 : Pos} {v : Value} {Q : Value → Shared → Prop} (hk : env.scope.kind = .function) (hx : env.kindOf x = some .local)
    (hn : s.heap.Ns env.locals m) (hm : m x = some (.ref t)) (ht : IsTup s.heap t #[u0, u1]) (hi : seqIndex? i 2 = some j) (hv : #[u0, u1][j]? = some v) (h1 : -2 ^ 63 ≤ i) (h2 : i < 2 ^ 63) (h : Q v { s with toks := s.toks + 1 }) (hd : (x == ("__debug__" : Str)) = false := by decide) :
    wpAny (model prog w) A (eval (.Subscript (.Name x p1) (.Constant (.int i) k p2) p3) env) Q E s := by
  refine Subscript_ (wpAny_Name (wpAny_loadName_local hk hx hn hm ?_) hd)
  refine wpAny_Constant_int ?_
  refine subscriptTail_builtinR (x := v) (T := "tuple") (id := "tuple.__getitem__") ?_ slot_tuple_getitem.lookup ?_ (by rfl)
  · obtain ⟨o, e, c, _⟩ := ht
    exact ⟨o, e, c⟩
  · exact getItem_tuple (j := j) (items := #[u0, u1]) ht h1 h2 hi hv ⟨rfl, h⟩
theorem key_body {env : Env} {x y : Str} {m : Str → Option Value} {t d cr : Addr} {u0 u1 r : Value} {z : Str} {vs : List (Key × Value)} {k0 k1 c : Nat} {p1 p2 p3 p4 p5 p6 p7 p8 p9 : Pos} {Q : Value → Shared → Prop} (hk : env.scope.kind = .function)
    (hx : env.kindOf x = some .local) (hy : env.kindOf y = some .free) (hcy : env.cells.lookup y = some cr) (hcell : s.heap.IsCell cr (some (.ref d))) (hn : s.heap.Ns env.locals m) (hm : m x = some (.ref t)) (ht : IsTup s.heap t #[u0, u1])
    (hdd : s.heap.DictOf (mixKind prog w) d vs) (hkey : (mixKind prog w).is (Sum.inr z) u0 = true) (hv : valueAt vs (Sum.inr z) = some r)
    (h : ∀ tk, Q (.ref s.heap.objs.size) { s with heap := s.heap.push { cls := Value.type "tuple", data := Data.seq #[r, u1] }, toks := tk }) (hdx : (x == ("__debug__" : Str)) = false := by decide) (hdy : (y == ("__debug__" : Str)) = false := by decide) (hcd : (y == ("__classdict__" : Str)) = false := by decide) :
    wpAny (model prog w) A (eval (keyBody x y k0 k1 c p1 p2 p3 p4 p5 p6 p7 p8 p9) env) Q E s := by
  refine wpAny_Tuple_spliced ?_
  refine Calls.spliced_cons ?_
  refine subD_of PySem.F.slot_dict_getitem.lookup (fun _ _ => rfl) (wpAny_Name (wpAny_loadName_free hk hy hcy hcell ?_ hcd) hdy)
  refine loc_item (j := 0) (v := u0) hk hx hn hm ht rfl rfl (by decide) (by decide) ⟨hdd.typeIs, ?_⟩ hdx
  refine wpAny_getItem_of (s := { s with toks := s.toks + 1 }) hkey (show Heap.MapOf (mixKind prog w) s.heap d _ from hdd.mapOf) hv ?_
  refine Calls.spliced_cons ?_
  refine loc_item (s := { s with toks := s.toks + 1 + 1 }) (j := 1) (v := u1) hk hx hn hm ht rfl rfl (by decide) (by decide) ?_ hdx
  refine Calls.spliced_nil ⟨by show 2 ≤ sizeLine; decide, ?_⟩
  exact h _
theorem key_turn {f c' d cr t : Addr} {q x y : Str} {params : Arguments} {scope : Scope} {cl : List (Str × Addr)} {pm ctv u0 : Value} {z : Str} {n r : Int} {tn tr : Tok} {vs : List (Key × Value)} {k0 k1 c : Nat} {p1 p2 p3 p4 p5 p6 p7 p8 p9 : Pos}
    (hdep : A.depth < recursionLimit) (hf : s.heap.get? f = some (PySem.W.kla_obj "<lambda>" q params (keyBody x y k0 k1 c p1 p2 p3 p4 p5 p6 p7 p8 p9) scope cl pm c' ctv)) (hco : ∃ (oc : Obj) (vs : Array Value) (tq : Tok), s.heap.get? c' = some oc ∧ oc.data = .fields vs ∧ vs[1]? = some (.str q tq))
    (hk : scope.kind = .function) (hc1 : scope.isCoroutine = false) (hc2 : scope.isGenerator = false) (hc3 : ∀ z ∈ scope.names, z.2 ≠ .cell) (hx : scope.names.lookup x = some .local) (hy : scope.names.lookup y = some .free)
    (hcl : cl.lookup y = some cr) (hcell : s.heap.IsCell cr (some (.ref d))) (hbind : bindArgs (PySem.W.kla_fn "<lambda>" q params (keyBody x y k0 k1 c p1 p2 p3 p4 p5 p6 p7 p8 p9) scope cl pm (.ref c') ctv) ⟨[.ref t], []⟩ = pure [(x, .ref t)]) (hnl : s.heap.NoLimit)
    (ht : IsTup s.heap t #[u0, .int n tn]) (hdd : s.heap.DictOf (mixKind prog w) d vs) (hkey : (mixKind prog w).is (Sum.inr z) u0 = true) (hv : valueAt vs (Sum.inr z) = some (.int r tr))
    (hdx : (x == ("__debug__" : Str)) = false := by decide) (hdy : (y == ("__debug__" : Str)) = false := by decide) (hcd : (y == ("__classdict__" : Str)) = false := by decide) :
    wpAny (model prog w) A (call (.ref f) [.ref t]) (PySem.W.KeyPure (.tuple [.int r, .int n]) s) (fun _ _ => False) s := by
  obtain ⟨oc, fs, tq, e1, e2, e3⟩ := hco
  refine wpAny_call ?_
  refine PySem.W.kla_callFunE hdep hf rfl hc1 hc2 rfl ⟨c', oc, fs, tq, rfl, e1, e2, e3⟩ ?_
  rw [hbind]
  refine wpAny_pure (wpAny_newFunctionEnv hc3 (fun b hb => by cases List.mem_singleton.mp hb; exact hx) (fun h₁ hns hsb => ⟨hnl.fresh _ hsb, ?_⟩) hk)
  have kp : ∀ b o, s.heap.get? b = some o → h₁.get? b = some o := fun b o e => hsb.extBut b o (Nat.ne_of_lt (Heap.lt_size e)) (Heap.get?_push_of_some _ e)
  refine PySem.W.kla_codeExpr ?_
  obtain ⟨ob, es, ep, d1, d2⟩ := hdd
  obtain ⟨oo, t1, t2⟩ := ht
  obtain ⟨ocl, cc1, cc2⟩ := hcell
  refine key_body (cr := cr) (d := d) (t := t) (u0 := u0) (u1 := .int n tn) (r := .int r tr) (z := z) (vs := vs) (m := fun y => ([(x, Value.ref t)] : List (Str × Value)).reverse.lookup y) hk hx hy hcl ⟨ocl, kp _ _ cc1, cc2⟩ hns ?_ ⟨oo, kp _ _ t1, t2⟩ ⟨ob, es, ep, kp _ _ d1, d2⟩ hkey hv (fun tk => ?_) hdx hdy hcd
  · show ([(x, Value.ref t)] : List (Str × Value)).lookup x = some (.ref t)
    simp [List.lookup]
  · refine ⟨_, tk, rfl, fun b o e => Heap.get?_push_of_some _ (kp b o e), ?_⟩
    exact .tuple (Heap.get?_push_size _ rfl) rfl rfl (.cons (.int _ _) (.cons (.int _ _) .nil))
end
/-- an item that is sorted: a pair's place, its text, its number, the text's rank -/
structure KI where
  a : Addr
  z : Str
  n : Int
  r : Int
def kiKey (it : KI) : PyData := .tuple [.int it.r, .int it.n]
abbrev kiLe : KI → KI → Bool := PySem.W.dataLe false kiKey
def tSrtL (K : PySem.W.Frag) (T : List (Addr × Str)) (i : Nat) (t : TA) : TE := fun σ H Q => t σ H fun vs H1 => ∃ (l d : Addr) (L : List KI) (kvs : List (Key × V)), vs = [.ref l] ∧ SqL K H1 l (L.map fun it => V.ref it.a) ∧ L.length ≤ 1000 ∧ σ[i]? = some (some (.ref d)) ∧ H1 d = some (.dK kvs) ∧
  (∀ it ∈ L, SqT K H1 it.a [.str it.z, .int it.n] ∧ valV kvs (Sum.inr it.z) = some (.int it.r)) ∧ Tabs T H1 ∧ ∀ H2 p, ExtN H1 H2 → Tabs T H2 → H2 p = none → Q (.ref p) (upd H2 p (.lst ((L.mergeSort kiLe).map fun it => V.ref it.a)))
theorem each_refs : ∀ {L : List KI} {its : List Value}, Vals (L.map fun it => V.ref it.a) its → PySem.W.EachIs (fun v (it : KI) => v = .ref it.a) its L
  | [], _, .nil => .nil
  | it :: L, _, .cons r t => .cons r (each_refs t)
theorem refs_each : ∀ {L : List KI} {out : List Value}, PySem.W.EachIs (fun v (it : KI) => v = .ref it.a) out L → Vals (L.map fun it => V.ref it.a) out
  | _, _, .nil => .nil
  | _, _, .cons r t => .cons r (refs_each t)
theorem sqT_extN {K : PySem.W.Frag} {H H' : Hp} {a : Addr} {xs : List V} (h : SqT K H a xs) (e : ExtN H H') : SqT K H' a xs := by
  rcases h with (h | ⟨o, h⟩) | h
  · exact .inl (.inl (e _ _ h nofun))
  · exact .inl (.inr ⟨o, e _ _ h nofun⟩)
  · exact .inr h
theorem sqL_extN {K : PySem.W.Frag} {H H' : Hp} {a : Addr} {xs : List V} (h : SqL K H a xs) (e : ExtN H H') : SqL K H' a xs := by
  rcases h with (h | ⟨o, h⟩) | h
  · exact .inl (.inl (e _ _ h nofun))
  · exact .inl (.inr ⟨o, e _ _ h nofun⟩)
  · exact .inr h
theorem kiLe_eq (a b : KI) : kiLe a b = decide (a.r < b.r ∨ a.r = b.r ∧ a.n ≤ b.n) := by
  show (!PyProof.Rows.lexLt PyProof.Rows.itemOrd (PySem.W.keyToks (kiKey b)) (PySem.W.keyToks (kiKey a))) = _
  rw [show PySem.W.keyToks (kiKey b) = [Sum.inl 1, .inl b.r, .inl 1, .inl b.n, .inl 0] from rfl, show PySem.W.keyToks (kiKey a) = [Sum.inl 1, .inl a.r, .inl 1, .inl a.n, .inl 0] from rfl]
  simp only [PyProof.Rows.lexLt, PyProof.Rows.itemLt]
  by_cases h1 : a.r < b.r
  · have : ¬ b.r < a.r := by omega
    simp [h1, this]
  · by_cases h2 : a.r = b.r
    · by_cases h3 : a.n ≤ b.n
      · have : ¬ b.n < a.n := by omega
        simp [h2, h3, this]
      · have : b.n < a.n := by omega
        simp [h2, h3, this]
    · have : b.r < a.r := by omega
      simp [h1, h2, this]
theorem ki_sorted {L : List KI} (h : L.Pairwise fun a b => a.r < b.r ∨ a.r = b.r ∧ a.n ≤ b.n) : L.mergeSort kiLe = L := by
  refine List.mergeSort_of_pairwise (h.imp fun {a b} h => ?_)
  rw [kiLe_eq]
  exact decide_eq_true h
section
variable {X : Cx}
theorem pe_srtL {T : List (Addr × Str)} {e : Expr} {t : TA} {i : Nat} {c P : Addr} {x y : Str} {params : Arguments} {scope : Scope} {k0 k1 kc : Nat} {q1 q2 q3 q4 q5 q6 q7 q8 q9 p lp kp pos : Pos}
    (hPA : PA X [e] t) (hg : Gl X "sorted") (hm : X.mg "sorted" = none) (TB : TabB X.base X.mg c P) (hcode : X.env.code = .ref c) (hmT : (P, X.env.qual ++ "<lambda>") ∈ T) (hu : ∀ p ∈ T, p.1 = P → p.2 = X.env.qual ++ "<lambda>")
    (hdef : defaultsOf params X.env = ([], [])) (hbind : ∀ (q : Str) (cl : List (Str × Addr)) (pm cv ctv u : Value), bindArgs (PySem.W.kla_fn "<lambda>" q params (keyBody x y k0 k1 kc q1 q2 q3 q4 q5 q6 q7 q8 q9) scope cl pm cv ctv) ⟨[u], []⟩ = pure [(x, u)])
    (hk : scope.kind = .function) (hc1 : scope.isCoroutine = false) (hc2 : scope.isGenerator = false) (hc3 : ∀ z ∈ scope.names, z.2 ≠ .cell) (hx : scope.names.lookup x = some .local) (hy : scope.names.lookup y = some .free) (hone : ∀ z ∈ scope.names, z.2 = .free → z.1 = y)
    (hN : X.N[i]? = some y) (hcy : X.env.scope.names.lookup y = some .cell) (hdep : X.A.depth < recursionLimit) (hun : X.A.units + 70 < cLine)
    (hb1 : backTo pos (starEach [e] X.env) = (false, eval e X.env) :: backTo pos (starEach [] X.env) := by rfl) (hpl : (backTo pos (starEach [e] X.env)).any (·.1) = false := by rfl)
    (hdx : (x == ("__debug__" : Str)) = false := by decide) (hdy : (y == ("__debug__" : Str)) = false := by decide) (hcd : (y == ("__classdict__" : Str)) = false := by decide) :
    PE X (.Call (.Name "sorted" p) [e] [⟨some "key", .Lambda params (keyBody x y k0 k1 kc q1 q2 q3 q4 q5 q6 q7 q8 q9) scope lp, kp⟩] pos) (tSrtL X.K T i t) := by
  refine ⟨fun pins s σ H Q I h' => ?_⟩
  refine wpAny_Call_Name_kw (ld_blt I hg hm (u := .builtin "sorted") (by rfl) ?_ (by decide) (by decide))
  refine PyProof.Rows.callWith_kw (thn (hPA.run pos pins s σ H _ I h') fun us s1 ⟨vs, H1, I1, r1, l, d, L, kvs, hvs, hS, hL, hσ, hd, hits, hT, q⟩ => ?_) hb1 hpl (by rfl) (by rfl)
  subst hvs
  cases r1 with | @cons _ u0 _ _ ru r0 =>
  cases r0
  obtain rfl : u0 = Value.ref l := ru
  show wpAny _ _ (evalAll [(do let v ← eval (.Lambda params (keyBody x y k0 k1 kc q1 q2 q3 q4 q5 q6 q7 q8 q9) scope lp) X.env; standAt pos; pure v)]) _ _ s1
  have hfree : ∀ z ∈ scope.names, z.2 = .free → ∃ c, X.env.cells.lookup z.1 = some c := fun z hz e => by
    rw [hone z hz e]
    exact I.ok.has y (.inl hcy)
  refine wpAny_evalAll_cons (wpAny_bind (lam_make2 I1 TB hcode hmT hu hT hdef hfree fun f c' pm ctv H2 s2 I2 eN T2 hf hfn hfr hco => wpAny_bind (wpAny_standAt (wpAny_pure ?_))))
  refine wpAny_evalAll_nil ?_
  show wpAny _ _ (call (.builtin "sorted") [.ref l] [(Str.ofString "key", .ref f)]) _ _ s2
  obtain ⟨its, rv, hl, hz⟩ := I2.list (sqL_extN hS eN)
  have each := each_refs rv
  obtain ⟨⟨oc, fs, tq, hoc, hdc, hvc⟩, _, _⟩ := I2.hok c' _ hco
  obtain ⟨m, hn, hloc⟩ := I2.loc
  obtain ⟨u, ru', look⟩ := hloc i y (.ref d) hN hσ (.inr (.inl hcy))
  obtain rfl : u = Value.ref d := ru'
  obtain ⟨cr, hcr, hcell⟩ : ∃ cr, X.env.cells.lookup y = some cr ∧ s2.heap.IsCell cr (some (.ref d)) := by
    rcases look with ⟨k, _⟩ | ⟨_, c, h1, h2⟩
    · have k : X.env.scope.names.lookup y = some .local := k
      rw [hcy] at k
      cases k
    · exact ⟨c, h1, h2⟩
  have hcl : (cloFrom X.env.cells scope.names []).lookup y = some cr := by
    obtain ⟨c2, h2⟩ := mem_lookup (cloFrom_has (cells := X.env.cells) (acc := []) (PySem.mem_of_lookup hy))
    rcases cloFrom_mem (PySem.mem_of_lookup h2) with hm | ⟨h1, h3⟩
    · cases hm
    · rw [h2, h3, hcr]
      rfl
  obtain ⟨_, _, vs, rel, ob, es, ep, d1, d2⟩ := I2.hok d _ (eN _ _ hd nofun)
  refine PySem.W.sorted_key_data (β := KI) (R := fun v it => v = .ref it.a) (bs := L) (b := false) kiKey hl.isList each ?al (.inl fun k hk => ?so) (Nat.le_trans hL (by decide)) (fun it hit => ?hu) (PyProof.Rows.ksk_s1 _ _) (fun x => PyProof.Rows.ksk_l1 _ _) (fun x => PyProof.Rows.ksk_t1 _ _) (fun v it hv hit g tk kp => ?turn) (fun out c3 g tk kp fr hout ho eo => ?fin)
  case al =>
    intro k hk k' hk'
    obtain ⟨a, _, rfl⟩ := List.mem_map.mp hk
    obtain ⟨b, _, rfl⟩ := List.mem_map.mp hk'
    rfl
  case so =>
    obtain ⟨a, _, rfl⟩ := List.mem_map.mp hk
    exact ⟨_, _, rfl⟩
  case hu =>
    show X.A.units + 2 + (PyData.tuple [.int it.r, .int it.n]).depth < cLine
    have : (PyData.tuple [.int it.r, .int it.n]).depth ≤ 2 := by show max 0 (max 0 0) + 1 ≤ 2; decide
    omega
  case fin =>
    refine ⟨.ref _, upd H2 (s2.heap.objs.size + 1) (.lst ((L.mergeSort kiLe).map fun it => V.ref it.a)), I2.laid (t' := tk) kp (Nat.le_succ _) ⟨?_, out, c3, refs_each eo, hout⟩, rfl, q H2 _ eN T2 (I2.hok.fresh (Nat.le_succ _))⟩
    rw [List.length_map, List.length_mergeSort]
    exact Nat.le_trans hL (by decide)
  case turn =>
    subst hv
    obtain ⟨hq, hvv⟩ := hits it hit
    obtain ⟨is2, r2, ⟨ot, t1, t2⟩, _⟩ := I2.tuple (sqT_extN hq eN)
    cases r2 with | @cons _ w0 _ _ rw0 r2 =>
    cases r2 with | @cons _ w1 _ _ rw1 r2 =>
    cases r2
    obtain ⟨t0, rfl⟩ := rw0
    obtain ⟨tn, rfl⟩ := rw1
    obtain ⟨w', hw, rw'⟩ := RelO.some_of (v := .int it.r) (o := valueAt vs (Sum.inr it.z)) (by rw [← hvv]; exact rel.val _)
    obtain ⟨tr, rfl⟩ := rw'
    obtain ⟨ocl, cc1, cc2⟩ := hcell
    exact key_turn (s := { s2 with heap := g, toks := tk }) (A := X.A.in1.in1) (tn := tn) (tr := tr) (vs := vs) (u0 := .str it.z t0) (z := it.z) hdep (kp _ _ hf) ⟨oc, fs, tq, kp _ _ hoc, hdc, hvc⟩ hk hc1 hc2 hc3 hx hy hcl ⟨ocl, kp _ _ cc1, cc2⟩ (hbind _ _ _ _ _ _) (I2.nolimit.keeps kp) ⟨ot, kp _ _ t1, t2⟩ ⟨ob, es, ep, kp _ _ d1, d2⟩ (kV_is (k := Sum.inr it.z) ⟨t0, rfl⟩) hw hdx hdy hcd
end
end Fw

set_option Elab.async false
set_option linter.all false
set_option maxRecDepth 100000
set_option maxHeartbeats 1000000
/-! a dict whose keys are tuples and None -/
namespace Fw
open PySem PySem.Spec PyProof.Rows L2
section
variable {prog : Program} {w : World} {A : Around} {E : Value → Shared → Prop} {s : Shared}
/-- what may stand as a key: None, or a tuple of few things -/
def MIs (h : Heap) (k : NestedKey) (v : Value) : Prop := NestedIs h k v ∧ k.depth ≤ 8 ∧ (v = .none ∨ ∃ a, v = .ref a)
/-- an entry: key, the key's value, the value -/
abbrev EntX := NestedKey × Value × Value
def entM (w : World) (x : EntX) : DictEntry := ⟨x.1.hash w, x.2.1, x.2.2⟩
theorem MIs.same {h : Heap} {x y : NestedKey} {v : Value} (a : MIs h x v) (b : MIs h y v) : x = y := NestedIs.inj x y v a.1 b.1
theorem MIs.eq {x y : NestedKey} {a b : Value} {Q : Bool → Shared → Prop} (ha : MIs s.heap x a) (hb : MIs s.heap y b) (hu : A.units + 8 < cLine) (q : Q (decide (x = y)) s) : wpAny (model prog w) A (eqBool a b) Q E s := by
  have lt : A.units + min x.depth y.depth < cLine := by
    have := ha.2.1
    omega
  have e := eqAt_key x y A s a b ha.1 hb.1 lt prog w E Q
  rw [← NestedKey.decide_eq] at e
  exact e q
theorem MIs.quiet {k : NestedKey} {v : Value} {Q : Bool → Shared → Prop} (a : MIs s.heap k v) (q : Q true s) : wpAny (model prog w) A (eqIsQuiet 8 v) Q E s := quiet_key k v 8 s a.1 a.2.1 A E Q q
theorem MIs.hash {k : NestedKey} {v : Value} {Q : Int → Shared → Prop} (a : MIs s.heap k v) (hu : A.units + 8 < cLine) (q : ∀ tk, Q (k.hash w) { s with toks := tk }) : wpAny (model prog w) A (pyHash v) Q E s :=
  pyHash_key k v A s Q a.1 (by have := a.2.1; omega) (q _)
/-- the entries of a table: none but those of xs, in their order -/
structure Tab (w : World) (es : Array DictEntry) (xs : List EntX) : Prop where
  eq : es.toList = xs.map (entM w)
  nd : (xs.map (·.1)).Nodup
section
variable {es : Array DictEntry} {xs : List EntX}
theorem Tab.size (t : Tab w es xs) : es.size = xs.length := by
  have := congrArg List.length t.eq
  rwa [Array.length_toList, List.length_map] at this
theorem Tab.get (t : Tab w es xs) (i : Nat) : es[i]? = (xs[i]?).map (entM w) := by
  have := congrArg (fun l => l[i]?) t.eq
  simpa using this
theorem Tab.one (t : Tab w es xs) {i j : Nat} {y z : EntX} (hi : xs[i]? = some y) (hj : xs[j]? = some z) (e : y.1 = z.1) : i = j := by
  refine (List.getElem?_inj ?_ t.nd).mp ?_
  · rw [List.length_map]
    exact (List.getElem?_eq_some_iff.mp hi).1
  · rw [List.getElem?_map, List.getElem?_map, hi, hj]
    exact congrArg some e
/-- the places that a search for hash h goes through -/
abbrev plc (es : Array DictEntry) (h : Int) : List Nat := placesWithHash es.size (fun i => es[i]?.map (·.hash)) h
theorem Tab.at_ (t : Tab w es xs) {h : Int} {i : Nat} (m : i ∈ plc es h) : ∃ y, xs[i]? = some y ∧ es[i]? = some (entM w y) ∧ y.1.hash w = h := by
  have hh : ((es[i]?.map (·.hash)) == some h) = true := (List.mem_filter.mp m).2
  have g := t.get i
  cases e : xs[i]? with
  | none =>
    rw [e] at g
    rw [show es[i]? = none from g] at hh
    cases hh
  | some y =>
    rw [e] at g
    have g : es[i]? = some (entM w y) := g
    rw [g] at hh
    exact ⟨y, rfl, g, by simpa [entM] using hh⟩
theorem Tab.in_ (t : Tab w es xs) {j : Nat} {y : EntX} (hj : xs[j]? = some y) : j ∈ plc es (y.1.hash w) := by
  have g := t.get j
  rw [hj] at g
  have g : es[j]? = some (entM w y) := g
  refine List.mem_filter.mpr ⟨List.mem_range.mpr (Array.getElem?_eq_some_iff.mp g).1, ?_⟩
  show ((es[j]?.map (·.hash)) == some (y.1.hash w)) = true
  rw [g]
  simp [entM]
theorem plc_nd (es : Array DictEntry) (h : Int) : (plc es h).Nodup := List.nodup_range.filter _
theorem Tab.stored (t : Tab w es xs) {h : Int} {g : Heap} (his : ∀ x ∈ xs, MIs g x.1 x.2.1) : ∀ v ∈ (plc es h).filterMap (fun i => es[i]?.map (·.key)), ∃ k, MIs g k v := fun v hv => by
  obtain ⟨i, m, e⟩ := List.mem_filterMap.mp hv
  obtain ⟨y, h1, h2, _⟩ := t.at_ m
  rw [h2] at e
  cases e
  exact ⟨y.1, his y (List.mem_of_getElem? h1)⟩
end
/-- no table of such keys tells more -/
theorem tells_not {v : Value} {stored : List Value} {Q : Bool → Shared → Prop} (all : ∀ u ∈ v :: stored, ∃ k, MIs s.heap k u) (q : Q false s) : wpAny (model prog w) A (tableMayTell v stored) Q E s := by
  obtain ⟨k, hk⟩ := all v (List.mem_cons_self ..)
  unfold tableMayTell
  split
  · exact wpAny_pure q
  refine wpAny_bind (hk.quiet ?_)
  rw [if_neg (by simp)]
  refine wpAny_bind (wpAny_forIn_list _ (fun rest r t => t = s ∧ r = (none, ()) ∧ rest <:+ stored) _ ?_ ?_ _ _ ⟨rfl, rfl, List.suffix_refl _⟩)
  · rintro u rest r t ⟨rfl, rfl, suf⟩
    obtain ⟨k', hk'⟩ := all u (List.mem_cons_of_mem _ (suf.subset (List.mem_cons_self ..)))
    refine wpAny_bind (hk'.quiet ?_)
    rw [if_neg (by simp)]
    exact wpAny_pure ⟨rfl, rfl, (List.suffix_cons u rest).trans suf⟩
  · rintro r t ⟨rfl, rfl, _⟩
    exact wpAny_pure q
section
variable {es : Array DictEntry} {xs : List EntX} {d : Addr} {o : Obj} {ep : Nat} {k : NestedKey} {kv : Value} {Q : Option Nat → Shared → Prop}
/-- the search among None alone -/
theorem walk_plain (t : Tab w es xs) (his : ∀ x ∈ xs, MIs s.heap x.1 x.2.1) (hu : A.units + 8 < cLine) (hkey : MIs s.heap k kv) (ho : s.heap.get? d = some o) (hd : o.data = .dict es ep) (no : (∀ (j : Nat) (y : EntX), xs[j]? = some y → y.1 ≠ k) → Q none s) (yes : ∀ (j : Nat) (y : EntX), xs[j]? = some y → y.1 = k → Q (some j) s) :
    wpAny (model prog w) A (dictWalkPlain d kv (k.hash w) es (plc es (k.hash w))) Q E s := by
  unfold dictWalkPlain
  refine wpAny_bind (wpAny_forIn_list _ (fun rest b t' => t' = s ∧ b = (none, ()) ∧ rest <:+ plc es (k.hash w) ∧ ∀ (j : Nat) (y : EntX), xs[j]? = some y → y.1 = k → j ∈ rest) _ ?_ ?_ _ _ ⟨rfl, rfl, List.suffix_refl _, fun j y hj e => e ▸ t.in_ hj⟩)
  · rintro i rest b t' ⟨rfl, rfl, suf, left⟩
    obtain ⟨y, hy, ey, eh⟩ := t.at_ (suf.subset (List.mem_cons_self ..))
    have suf' := (List.suffix_cons i rest).trans suf
    simp only [ey]
    rw [if_pos (show ((entM w y).hash == k.hash w) = true from beq_iff_eq.mpr eh)]
    refine wpAny_bind (wpAny_dictEpoch ho hd (wpAny_bind ((his y (List.mem_of_getElem? hy)).eq hkey hu (wpAny_bind (wpAny_dictEpoch ho hd ?_)))))
    show wpAny _ _ (if (ep != ep) = true then _ else _) _ _ _
    rw [if_neg (by simp)]
    by_cases e : y.1 = k
    · rw [decide_eq_true e]
      exact wpAny_bind (wpAny_rule (wpAny_pure (wpAny_pure (yes i y hy e))))
    · rw [decide_eq_false e]
      refine wpAny_bind (wpAny_rule (wpAny_pure ⟨rfl, rfl, suf', fun j z hj ez => ?_⟩))
      rcases List.mem_cons.mp (left j z hj ez) with rfl | m
      · rw [hy] at hj
        cases hj
        exact absurd ez e
      · exact m
  · rintro b t' ⟨rfl, rfl, _, left⟩
    exact wpAny_pure (no fun j y hj e => nomatch left j y hj e)
/-- the search for a key -/
theorem m_find (t : Tab w es xs) (his : ∀ x ∈ xs, MIs s.heap x.1 x.2.1) (hu : A.units + 8 < cLine) (hkey : MIs s.heap k kv) (ho : s.heap.get? d = some o) (hd : o.data = .dict es ep) (no : (∀ (j : Nat) (y : EntX), xs[j]? = some y → y.1 ≠ k) → Q none s) (yes : ∀ (j : Nat) (y : EntX), xs[j]? = some y → y.1 = k → Q (some j) s) :
    wpAny (model prog w) A (dictFind d kv (k.hash w)) Q E s := by
  have tl : ∀ {Q' : Bool → Shared → Prop}, Q' false s → wpAny (model prog w) A (tableMayTell kv ((plc es (k.hash w)).filterMap (fun i => es[i]?.map (·.key)))) Q' E s := fun {Q'} q => by
    refine tells_not (fun u hu => ?_) q
    rcases List.mem_cons.mp hu with rfl | hu
    · exact ⟨k, hkey⟩
    · exact t.stored his u hu
  unfold dictFind
  refine wpAny_holding (wpAny_bind (wpAny_dictEntries ho hd ?_))
  rcases hkey.2.2 with rfl | ⟨a, rfl⟩
  case' inl =>
    dsimp only
    by_cases hall : ((Value.none :: (plc es (k.hash w)).filterMap (fun i => es[i]?.map (·.key))).all carriedByValue) = true
    case pos =>
      rw [if_pos hall]
      exact walk_plain t his hu hkey ho hd no yes
    rw [if_neg hall]
    by_cases one : (((plc es (k.hash w)).filterMap (fun i => es[i]?.map (·.key))) == [Value.none]) = true <;> first | rw [if_pos one] | rw [if_neg one]
  case' inr =>
    dsimp only
    rw [if_neg (by simp [carriedByValue])]
    rw [if_neg fun c => by
      obtain ⟨i, hi, hc⟩ := Array.any_eq_true.mp c
      have g := t.get i
      rw [Array.getElem?_eq_getElem hi] at g
      cases e : xs[i]? with
      | none => rw [e] at g; cases g
      | some y =>
        rw [e] at g
        rw [Option.some.inj g, Bool.and_eq_true] at hc
        have e1 : y.2.1 = Value.ref a := eq_of_beq hc.1
        have m := his y (List.mem_of_getElem? e)
        rw [e1] at m
        have e2 := hc.2
        rw [show (entM w y).hash = k.hash w from congrArg (NestedKey.hash w) (m.same hkey)] at e2
        simp at e2]
    by_cases one : (((plc es (k.hash w)).filterMap (fun i => es[i]?.map (·.key))) == [Value.ref a]) = true <;> first | rw [if_pos one] | rw [if_neg one]
  all_goals first | refine wpAny_bind (wpAny_pure ?_) | refine wpAny_bind (tl ?_)
  all_goals
    rw [if_neg (by simp)]
    refine wpAny_bind (wpAny_forIn_list _ (fun rest b t' => t' = s ∧ rest <:+ plc es (k.hash w) ∧ ((b = (none, none) ∧ ∀ (j : Nat) (y : EntX), xs[j]? = some y → y.1 = k → j ∈ rest) ∨ ∃ j y, b = (none, some j) ∧ xs[j]? = some y ∧ y.1 = k ∧ j ∉ rest)) _ ?step ?fin _ _ ⟨rfl, List.suffix_refl _, .inl ⟨rfl, fun j y hj e => e ▸ t.in_ hj⟩⟩)
    case fin =>
      rintro b t' ⟨rfl, _, ⟨rfl, left⟩ | ⟨j, y, rfl, hj, ej, _⟩⟩
      · exact wpAny_pure (no fun j y hj e => nomatch left j y hj e)
      · exact wpAny_pure (yes j y hj ej)
    case step =>
      rintro i rest b t' ⟨rfl, suf, inv⟩
      obtain ⟨y, hy, ey, eh⟩ := t.at_ (suf.subset (List.mem_cons_self ..))
      have suf' := (List.suffix_cons i rest).trans suf
      have ni : i ∉ rest := (List.nodup_cons.mp (suf.sublist.nodup (plc_nd es _))).1
      simp only [ey]
      rw [if_pos (show ((entM w y).hash == k.hash w) = true from beq_iff_eq.mpr eh)]
      refine wpAny_bind (wpAny_dictEpoch ho hd (wpAny_bind ((his y (List.mem_of_getElem? hy)).eq hkey hu (wpAny_bind (wpAny_dictEpoch ho hd ?_)))))
      show wpAny _ _ (if (ep != ep) = true then _ else _) _ _ _
      rw [if_neg (by simp)]
      by_cases e : y.1 = k
      · rw [decide_eq_true e]
        rcases inv with ⟨rfl, left⟩ | ⟨j, z, rfl, hj, ej, nj⟩
        · simp only [if_true, Option.isSome_none, Bool.false_eq_true, if_false]
          first
            | refine wpAny_bind (wpAny_rule ?_)
            | refine wpAny_bind (wpAny_pure (wpAny_bind (wpAny_rule ?_)))
          split
          · exact wpAny_pure (wpAny_pure (yes i y hy e))
          · exact wpAny_pure ⟨rfl, suf', .inr ⟨i, y, rfl, hy, e, ni⟩⟩
        · exact absurd (t.one hj hy (ej.trans e.symm) ▸ List.mem_cons_self ..) nj
      · rw [decide_eq_false e]
        have inv' : (b = (none, none) ∧ ∀ (j : Nat) (y : EntX), xs[j]? = some y → y.1 = k → j ∈ rest) ∨ ∃ j y, b = (none, some j) ∧ xs[j]? = some y ∧ y.1 = k ∧ j ∉ rest := by
          rcases inv with ⟨rfl, left⟩ | ⟨j, z, rfl, hj, ej, nj⟩
          · refine .inl ⟨rfl, fun j z hj ez => (List.mem_cons.mp (left j z hj ez)).resolve_left fun q => ?_⟩
            subst q
            rw [hy] at hj
            cases hj
            exact e ez
          · exact .inr ⟨j, z, rfl, hj, ej, fun m => nj (List.mem_cons_of_mem _ m)⟩
        simp only [Bool.false_eq_true, if_false]
        refine wpAny_bind (wpAny_rule ?_)
        rcases inv' with ⟨rfl, l⟩ | ⟨j, z, rfl, r⟩
        · first
            | exact wpAny_pure ⟨rfl, suf', .inl ⟨rfl, l⟩⟩
            | (rw [if_neg (by simp)]; exact wpAny_pure ⟨rfl, suf', .inl ⟨rfl, l⟩⟩)
        · first
            | exact wpAny_pure ⟨rfl, suf', .inr ⟨j, z, rfl, r⟩⟩
            | (rw [if_neg (by simp)]; exact wpAny_pure ⟨rfl, suf', .inr ⟨j, z, rfl, r⟩⟩)
end
/-- at d stands a dict with the entries xs -/
def DictM (w : World) (h : Heap) (d : Addr) (xs : List EntX) : Prop := ∃ o es ep, h.get? d = some o ∧ o.ExactDict ∧ o.data = .dict es ep ∧ es.toList = xs.map (entM w)
theorem DictM.typeIs {d : Addr} {xs : List EntX} : DictM w s.heap d xs → s.TypeIs (.ref d) "dict"
  | ⟨o, _, _, ho, hc, _⟩ => ⟨o, ho, hc.1⟩
section
variable {d : Addr} {xs : List EntX} {k : NestedKey} {kv v : Value}
theorem m_get {j : Nat} {p : Value × Value} {Q : Option Value → Shared → Prop} (hu : A.units + 8 < cLine) (hkey : MIs s.heap k kv) (hm : DictM w s.heap d xs) (his : ∀ x ∈ xs, MIs s.heap x.1 x.2.1) (hn : (xs.map (·.1)).Nodup) (hj : xs[j]? = some (k, p))
    (q : ∀ tk, Q (some p.2) { s with toks := tk }) : wpAny (model prog w) A (dictGet d kv) Q E s := by
  obtain ⟨o, es, ep, ho, _, hd, he⟩ := hm
  have t : Tab w es xs := ⟨he, hn⟩
  unfold dictGet
  refine wpAny_holding (wpAny_bind (hkey.hash hu fun tk => wpAny_bind (m_find (s := { s with toks := tk }) t his hu hkey ho hd (fun no => absurd rfl (no j _ hj)) fun i y hi e => ?_)))
  obtain rfl := t.one hi hj e
  refine wpAny_bind (wpAny_dictEntries (s := { s with toks := tk }) ho hd ?_)
  rw [t.get i, hj]
  exact wpAny_pure (q tk)
theorem m_put {Q : Unit → Shared → Prop} (hu : A.units + 8 < cLine) (hkey : MIs s.heap k kv) (hm : DictM w s.heap d xs) (his : ∀ x ∈ xs, MIs s.heap x.1 x.2.1) (hn : (xs.map (·.1)).Nodup) (hno : k ∉ xs.map (·.1)) (hz : xs.length < sizeLine)
    (q : ∀ h' tk, DictM w h' d (xs ++ [(k, kv, v)]) → Heap.SameBut d s.heap h' → Q () { s with heap := h', toks := tk }) : wpAny (model prog w) A (dictSet d kv v) Q E s := by
  obtain ⟨o, es, ep, ho, hc, hd, he⟩ := hm
  have t : Tab w es xs := ⟨he, hn⟩
  have new : ∀ (j : Nat) (y : EntX), xs[j]? = some y → y.1 ≠ k := fun j y hj e => hno (e ▸ List.mem_map_of_mem (List.mem_of_getElem? hj))
  unfold dictSet
  refine wpAny_holding (wpAny_bind (hkey.hash hu fun tk => ?_))
  unfold dictSetHashed
  refine wpAny_holding (wpAny_bind (m_find (s := { s with toks := tk }) t his hu hkey ho hd (fun _ => ?_) fun j y hj e => absurd e (new j y hj)))
  have fits : es.size ≤ sizeLine := by rw [t.size]; omega
  refine wpAny_bind (wpAny_rule (wpAny_updateDictKeys (s := { s with toks := tk }) ho hd (q _ _ ⟨_, _, _, Heap.get?_update_self _ ho (Obj.isFreed_of_dict (Obj.data_mapDictKeys hd _)), hc.mapDictKeys _, Obj.data_mapDictKeys hd _, ?_⟩ (Heap.SameBut.update ..)) fits))
  rw [Array.toList_push, he, List.map_append]
  rfl
theorem m_getItem {j : Nat} {p : Value × Value} {Q : Value → Shared → Prop} (hu : A.units + 9 < cLine) (hkey : MIs s.heap k kv) (hm : DictM w s.heap d xs) (his : ∀ x ∈ xs, MIs s.heap x.1 x.2.1) (hn : (xs.map (·.1)).Nodup) (hj : xs[j]? = some (k, p))
    (q : ∀ tk, Q p.2 { s with toks := tk }) : wpAny (model prog w) A (getItem (.ref d) kv) Q E s := by
  refine PyProof.Rows.getItem_slot hm.typeIs (by decide) slot_dict_getitem (call_meetsIn slot_dict_getitem hm.typeIs entry_dict_getitem (args_dict_getitem _ _) (S := fun A' R s' => A' = A ∧ s' = s ∧ ∀ tk, R (.ok (.ret p.2)) { s with toks := tk }) (.of_wp fun A' R s' hS => ?_) ⟨rfl, rfl, fun tk => q tk⟩)
  obtain ⟨rfl, rfl, hq⟩ := hS
  show wpAny _ _ (dictGet d kv >>= _) _ _ _
  exact wpAny_bind (m_get (by show _ + 1 + 8 < cLine; omega) hkey hm his hn hj fun tk => wpAny_pure ⟨p.2, rfl, hq tk⟩)
theorem m_setNew {Q : Unit → Shared → Prop} (hu : A.units + 9 < cLine) (hkey : MIs s.heap k kv) (hm : DictM w s.heap d xs) (his : ∀ x ∈ xs, MIs s.heap x.1 x.2.1) (hn : (xs.map (·.1)).Nodup) (hno : k ∉ xs.map (·.1)) (hz : xs.length < sizeLine)
    (q : ∀ h' tk, DictM w h' d (xs ++ [(k, kv, v)]) → Heap.SameBut d s.heap h' → Q () { s with heap := h', toks := tk }) : wpAny (model prog w) A (setItem (.ref d) kv v) Q E s := by
  have c : wpAny (model prog w) A (call (.builtin "dict.__setitem__") [.ref d, kv, v]) (fun _ s' => Q () s') E s := by
    refine call_meetsIn slot_dict_setitem hm.typeIs entry_dict_setitem (args_dict_setitem _ _ _) (S := fun A' R s' => A' = A ∧ s' = s ∧ ∀ h' tk, DictM w h' d (xs ++ [(k, kv, v)]) → Heap.SameBut d s.heap h' → R (.ok (.ret .none)) { s with heap := h', toks := tk }) (.of_wp fun A' R s' hS => ?_) ⟨rfl, rfl, q⟩
    obtain ⟨rfl, rfl, hq⟩ := hS
    refine wpAny_bind (m := Builtin.Dict.notOrdered "__setitem__" ⟨[.ref d, kv, v], []⟩) (wpAny_notOrdered_dict hm.typeIs ?_)
    refine wpAny_bind (m := dictSet d kv v) (m_put (by show _ + 1 + 8 < cLine; omega) hkey hm his hn hno hz fun h' tk m sb => wpAny_pure ⟨.none, rfl, hq h' tk m sb⟩)
  unfold setItem
  refine wpAny_holding (wpAny_bind (wpAny_sequenceKey hm.typeIs (by decide) (wpAny_bind (wpAny_callSpecial?_slot (name := Str.ofString "__setitem__") hm.typeIs slot_dict_setitem (wpAny_mono c (fun _ s' h => ?_) fun _ _ e => e)))))
  exact wpAny_pure h
end
end
end Fw

set_option Elab.async false
set_option linter.all false
set_option maxRecDepth 100000
set_option maxHeartbeats 1000000
/-! the same over the layer -/
namespace Fw
open PySem PySem.Spec PyProof.Rows L2
abbrev MKey := Option (List Key)
def itemN : Key → NestedKey
  | .inl i => .num i
  | .inr z => .text z
def keyN : MKey → NestedKey
  | none => .none
  | some ks => .tup (ks.map itemN)
theorem itemN_inj {a b : Key} (h : itemN a = itemN b) : a = b := by
  cases a <;> cases b <;> cases h <;> rfl
theorem itemsN_inj : ∀ {a b : List Key}, a.map itemN = b.map itemN → a = b
  | [], [], _ => rfl
  | [], _ :: _, h => nomatch h
  | _ :: _, [], h => nomatch h
  | x :: a, y :: b, h => by
    obtain ⟨h1, h2⟩ := List.cons.inj h
    rw [itemN_inj h1, itemsN_inj h2]
theorem keyN_inj {a b : MKey} (h : keyN a = keyN b) : a = b := by
  cases a with
  | none => cases b with
    | none => rfl
    | some b => cases h
  | some a => cases b with
    | none => cases h
    | some b => rw [itemsN_inj (NestedKey.tup.inj h)]
theorem items_hash (P : Program) (w : World) : ∀ ks : List Key, NestedKey.hashes w (ks.map itemN) = ks.map (mixKind P w).hash
  | [] => rfl
  | .inl i :: ks => by show NestedKey.hash w (.num i) :: NestedKey.hashes w _ = _; rw [items_hash P w ks]; rfl
  | .inr z :: ks => by show NestedKey.hash w (.text z) :: NestedKey.hashes w _ = _; rw [items_hash P w ks]; rfl
theorem items_depth : ∀ ks : List Key, NestedKey.depthAll (ks.map itemN) = 0
  | [] => rfl
  | .inl i :: ks => by show max 0 (NestedKey.depthAll _) = 0; rw [items_depth ks]; rfl
  | .inr z :: ks => by show max 0 (NestedKey.depthAll _) = 0; rw [items_depth ks]; rfl
theorem keyN_depth (k : MKey) : (keyN k).depth ≤ 8 := by
  cases k with
  | none => exact Nat.zero_le _
  | some ks => show NestedKey.depthAll _ + 1 ≤ 8; rw [items_depth]; decide
theorem items_nested {h : Heap} : ∀ {ks : List Key} {its : List Value}, Vals (ks.map kV) its → NestedAll h (ks.map itemN) its
  | [], _, .nil => .nil
  | .inl i :: ks, _, .cons r t => by
    obtain ⟨tk, rfl⟩ := r
    exact .cons (.int _ _) (items_nested t)
  | .inr z :: ks, _, .cons r t => by
    obtain ⟨tk, rfl⟩ := r
    exact .cons (.text _ _) (items_nested t)
/-- the value u is the key k: None, or a known tuple -/
def KeyAt (H : Hp) (k : MKey) (u : Value) : Prop := (k = none ∧ u = .none) ∨ ∃ ks a, k = some ks ∧ u = .ref a ∧ H a = some (.tup (ks.map kV))
def KeyV (H : Hp) (k : MKey) (y : V) : Prop := (k = none ∧ y = .non) ∨ ∃ ks a, k = some ks ∧ y = .ref a ∧ H a = some (.tup (ks.map kV))
theorem KeyV.at {H : Hp} {k : MKey} {y : V} {u : Value} (h : KeyV H k y) (r : RelV y u) : KeyAt H k u := by
  rcases h with ⟨rfl, rfl⟩ | ⟨ks, a, rfl, rfl, e⟩
  · exact .inl ⟨rfl, r⟩
  · exact .inr ⟨ks, a, rfl, r, e⟩
theorem KeyAt.keep {H H' : Hp} {k : MKey} {u : Value} (h : KeyAt H k u) (e : ∀ b xs, H b = some (.tup xs) → H' b = some (.tup xs)) : KeyAt H' k u := by
  rcases h with ⟨rfl, rfl⟩ | ⟨ks, a, rfl, rfl, q⟩
  · exact .inl ⟨rfl, rfl⟩
  · exact .inr ⟨ks, a, rfl, rfl, e _ _ q⟩
theorem KeyV.keep {H H' : Hp} {k : MKey} {u : V} (h : KeyV H k u) (e : ∀ b xs, H b = some (.tup xs) → H' b = some (.tup xs)) : KeyV H' k u := by
  rcases h with ⟨rfl, rfl⟩ | ⟨ks, a, rfl, rfl, q⟩
  · exact .inl ⟨rfl, rfl⟩
  · exact .inr ⟨ks, a, rfl, rfl, e _ _ q⟩
theorem KeyAt.is {P : Program} {w : World} {H : Hp} {h : Heap} {k : MKey} {u : Value} (x : KeyAt H k u) (ok : HOk P w H h) : MIs h (keyN k) u := by
  rcases x with ⟨rfl, rfl⟩ | ⟨ks, a, rfl, rfl, e⟩
  · exact ⟨.none, Nat.zero_le _, .inl rfl⟩
  · obtain ⟨_, its, r, o, h1, h2, n, h3⟩ := (show ObjOk P w H h a (.tup (ks.map kV)) from ok a _ e)
    exact ⟨.tup h1 h2 h3 (by simpa using items_nested r), keyN_depth _, .inr ⟨a, rfl⟩⟩
/-- a dict of tuples and None, by its entries as they stand -/
def MixO (w : World) (d : Addr) (xs : List (NestedKey × Value × Value)) : HO := .ext fun h => DictM w h d xs
theorem mix_ok {P : Program} {w : World} {H : Hp} {h : Heap} {d : Addr} {xs : List (NestedKey × Value × Value)} (m : DictM w h d xs) : ObjOk P w H h d (MixO w d xs) := by
  obtain ⟨o, es, ep, h1, r⟩ := m
  exact ⟨⟨o, es, ep, h1, r⟩, ⟨o, h1⟩, fun g1 g2 ⟨o, es, ep, e, r⟩ k => ⟨o, es, ep, k _ e, r⟩⟩
theorem mix_of {P : Program} {w : World} {H : Hp} {h : Heap} {d : Addr} {xs : List (NestedKey × Value × Value)} (m : ObjOk P w H h d (MixO w d xs)) : DictM w h d xs := m.1
def MRel (H : Hp) (p : MKey × V) (q : NestedKey × Value × Value) : Prop := q.1 = keyN p.1 ∧ KeyAt H p.1 q.2.1 ∧ RelV p.2 q.2.2
/-- at d stands a dict of tuples and None: kvs -/
def MixD (w : World) (H : Hp) (d : Addr) (kvs : List (MKey × V)) : Prop := ∃ xs, H d = some (MixO w d xs) ∧ kvs.length ≤ 1000 ∧ (kvs.map (·.1)).Nodup ∧ Paired (MRel H) kvs xs
theorem MixD.same {w : World} {H H' : Hp} {d : Addr} {kvs : List (MKey × V)} (m : MixD w H d kvs) (hd : ∀ o, H d = some o → H' d = some o) (ht : ∀ b xs, H b = some (.tup xs) → H' b = some (.tup xs)) : MixD w H' d kvs := by
  obtain ⟨xs, h1, h2, h3, h4⟩ := m
  exact ⟨xs, hd _ h1, h2, h3, L2.Paired.mapP h4 fun p q ⟨a, b, c⟩ => ⟨a, b.keep ht, c⟩⟩
theorem mrel_is {P : Program} {w : World} {H : Hp} {h : Heap} (ok : HOk P w H h) : ∀ {kvs : List (MKey × V)} {xs : List (NestedKey × Value × Value)}, Paired (MRel H) kvs xs → ∀ x ∈ xs, MIs h x.1 x.2.1
  | _, _, .nil => fun x hx => nomatch hx
  | _, _, .cons r t => fun x hx => by
    rcases List.mem_cons.mp hx with rfl | hx
    · rw [r.1]
      exact r.2.1.is ok
    · exact mrel_is ok t x hx
theorem mrel_keys {H : Hp} : ∀ {kvs : List (MKey × V)} {xs : List (NestedKey × Value × Value)}, Paired (MRel H) kvs xs → xs.map (·.1) = (kvs.map (·.1)).map keyN
  | _, _, .nil => rfl
  | _, _, .cons r t => by
    rw [List.map_cons, List.map_cons, List.map_cons, mrel_keys t, r.1]
theorem nodup_keyN {l : List MKey} (h : l.Nodup) : (l.map keyN).Nodup := by
  rw [List.nodup_iff_pairwise_ne, List.pairwise_map]
  exact (List.nodup_iff_pairwise_ne.mp h).imp fun h e => h (keyN_inj e)
theorem mrel_at {H : Hp} : ∀ {kvs : List (MKey × V)} {xs : List (NestedKey × Value × Value)} {k : MKey} {v : V}, Paired (MRel H) kvs xs → (k, v) ∈ kvs → ∃ (j : Nat) (p : Value × Value), xs[j]? = some (keyN k, p) ∧ RelV v p.2
  | _, _, _, _, .nil, h => nomatch h
  | _, _, k, v, .cons (b := q) r t, h => by
    rcases List.mem_cons.mp h with e | h
    · subst e
      exact ⟨0, q.2, by rw [← r.1]; rfl, r.2.2⟩
    · obtain ⟨j, p, e, rv⟩ := mrel_at t h
      exact ⟨j + 1, p, e, rv⟩
/-- d[k], there -/
def tMGet (w : World) (td ty : TE) : TE := fun σ H Q => td σ H fun x H1 => ty σ H1 fun y H2 => ∃ (a : Addr) (kvs : List (MKey × V)) (k : MKey) (v : V), x = .ref a ∧ MixD w H2 a kvs ∧ KeyV H2 k y ∧ (k, v) ∈ kvs ∧ Q v H2
/-- d[k] = v, k new -/
def tMPut (w : World) (td ty tv : TE) : TS := fun D σ H => tv σ H fun v H1 => td σ H1 fun x H2 => ty σ H2 fun y H3 => ∃ (a : Addr) (kvs : List (MKey × V)) (k : MKey), x = .ref a ∧ MixD w H3 a kvs ∧ KeyV H3 k y ∧ k ∉ kvs.map (·.1) ∧ kvs.length < 1000 ∧
  ∀ o, MixD w (upd H3 a o) a (kvs ++ [(k, v)]) → D.nx σ (upd H3 a o)
/-- d[None] = v, d a dict of tuples alone -/
def tMPutT (w : World) (td ty tv : TE) : TS := fun D σ H => tv σ H fun v H1 => td σ H1 fun x H2 => ty σ H2 fun y H3 => ∃ (a : Addr) (kvs : List (List Key × V)), x = .ref a ∧ y = .non ∧ H3 a = some (.dT kvs) ∧ kvs.length < 1000 ∧
  ∀ o, MixD w (upd H3 a o) a ((kvs.map fun p => (some p.1, p.2)) ++ [(none, v)]) → D.nx σ (upd H3 a o)
theorem mix_ne {w : World} {d : Addr} {xs : List (NestedKey × Value × Value)} {ys : List V} : MixO w d xs ≠ .tup ys := fun z => by
  unfold MixO at z
  cases z
theorem mrel_snoc {H : Hp} : ∀ {kvs : List (MKey × V)} {xs : List (NestedKey × Value × Value)} {p : MKey × V} {q : NestedKey × Value × Value}, Paired (MRel H) kvs xs → MRel H p q → Paired (MRel H) (kvs ++ [p]) (xs ++ [q])
  | _, _, _, _, .nil, r => .cons r .nil
  | _, _, _, _, .cons a t, r => .cons a (mrel_snoc t r)
theorem keyT_N (P : Program) (w : World) (ks : List Key) : (tupleKind (mixKind P w)).hash ks = (keyN (some ks)).hash w := by
  show reduceHash (Builtin.Tuple.tupleHashOf (ks.map (mixKind P w).hash)) = reduceHash (Builtin.Tuple.tupleHashOf (NestedKey.hashes w (ks.map itemN)))
  rw [items_hash P w ks]
section
variable {X : Cx} {o i value : Expr} {pos pos' : Pos} {td ty tv : TE}
theorem pe_mget (hu : X.A.units + 20 < cLine) (ho : PE X o td) (hi : PE X i ty) (hs : NoSl i) : PE X (.Subscript o i pos) (tMGet X.w td ty) := by
  refine ⟨fun pins s σ H Q I h => ?_⟩
  refine subD_of PySem.F.slot_dict_getitem.lookup hs (thn (ho.run pins s σ H _ I h) fun u s1 ⟨x, H1, I1, rx, q1⟩ => thn (hi.run pins s1 σ H1 _ I1 q1) fun iv s2 ⟨y, H2, I2, ry, a, kvs, k, v, ex, m, hk, hv, q2⟩ => ?_)
  subst ex
  obtain rfl : u = Value.ref a := rx
  obtain ⟨xs, hd, hl, hn, rel⟩ := m
  have dm := mix_of (I2.hok a _ hd)
  obtain ⟨j, p, ej, rv⟩ := mrel_at rel hv
  refine ⟨dm.typeIs, m_getItem (by omega) ((hk.at ry).is I2.hok) dm (mrel_is I2.hok rel) (by rw [mrel_keys rel]; exact nodup_keyN hn) ej fun tk => ?_⟩
  exact ⟨v, H2, I2.kept (t' := tk) fun b o e => e, rv, q2⟩
theorem ps_mput (hu : X.A.units + 20 < cLine) (ho : PE X o td) (hi : PE X i ty) (hv : PE X value tv) (hs : swapsWith value (some (.Subscript o i pos')) pos.line X.env = pure false) : PS X (.Assign [.Subscript o i pos'] value pos) (tMPut X.w td ty tv) := by
  refine ⟨fun pins s σ H D I h => ?_⟩
  refine wpAny_Assign_Subscript (thn (hv.run pins s σ H _ I h) fun r s1 ⟨v, H1, I1, rv, q1⟩ => thn (ho.run pins s1 σ H1 _ I1 q1) fun u s2 ⟨x, H2, I2, rx, q2⟩ => thn (hi.run pins s2 σ H2 _ I2 q2) fun iv s3 ⟨y, H3, I3, ry, a, kvs, k, ex, m, hk, hno, hl, q3⟩ => ?_) hs
  subst ex
  obtain rfl : u = Value.ref a := rx
  obtain ⟨xs, hd, _, hn, rel⟩ := m
  have dm := mix_of (I3.hok a _ hd)
  have hlen := Paired.length rel
  have ka := hk.at ry
  refine m_setNew (by omega) (ka.is I3.hok) dm (mrel_is I3.hok rel) (by rw [mrel_keys rel]; exact nodup_keyN hn) (fun z => ?_) (by rw [← hlen]; exact Nat.lt_of_lt_of_le hl (by decide)) fun h' tk dm' hs' => ?_
  · rw [mrel_keys rel] at z
    obtain ⟨k', hk', e⟩ := List.mem_map.mp z
    exact hno (keyN_inj e ▸ hk')
  have kt : ∀ b ys, H3 b = some (.tup ys) → upd H3 a (MixO X.w a (xs ++ [(keyN k, iv, r)])) b = some (.tup ys) := fun b ys e => by
    rw [upd_ne (ne_of e hd fun z => mix_ne z.symm)]
    exact e
  have he : ∃ q, h'.get? a = some q := let ⟨q, _, _, hq, _⟩ := dm'; ⟨q, hq⟩
  refine ⟨σ, _, I3.write (t' := tk) (x := a) (e := a) (o := MixO X.w a (xs ++ [(keyN k, iv, r)])) (by rw [hd]; exact True.intro) (.inl rfl) (fun b u hb e => (hs'.2 b hb).trans e) he (mix_ok dm'), q3 _ ⟨_, upd_same, ?_, ?_, ?_⟩⟩
  · rw [List.length_append]
    exact hl
  · rw [List.map_append, List.nodup_append]
    refine ⟨hn, by simp, fun x hx y hy => ?_⟩
    cases List.mem_singleton.mp hy
    exact fun e => hno (by rw [e] at hx; exact hx)
  · exact mrel_snoc (L2.Paired.mapP rel fun p q ⟨a, b, c⟩ => ⟨a, b.keep kt, c⟩) ⟨rfl, ka.keep kt, rv⟩
theorem ps_mputT (hu : X.A.units + 20 < cLine) (ho : PE X o td) (hi : PE X i ty) (hv : PE X value tv) (hs : swapsWith value (some (.Subscript o i pos')) pos.line X.env = pure false) : PS X (.Assign [.Subscript o i pos'] value pos) (tMPutT X.w td ty tv) := by
  refine ⟨fun pins s σ H D I h => ?_⟩
  refine wpAny_Assign_Subscript (thn (hv.run pins s σ H _ I h) fun r s1 ⟨v, H1, I1, rv, q1⟩ => thn (ho.run pins s1 σ H1 _ I1 q1) fun u s2 ⟨x, H2, I2, rx, q2⟩ => thn (hi.run pins s2 σ H2 _ I2 q2) fun iv s3 ⟨y, H3, I3, ry, a, kvs, ex, ey, hd, hl, q3⟩ => ?_) hs
  subst ex ey
  obtain rfl : u = Value.ref a := rx
  obtain rfl : iv = Value.none := ry
  obtain ⟨z1, z2, ys, rel, ob, es, ep, h1, h2, h3, h4, h5⟩ := (show ObjOk X.prog X.w H3 s3.heap a (.dT kvs) from I3.hok a _ hd)
  obtain ⟨xs, exs⟩ : ∃ xs : List (NestedKey × Value × Value), xs = ys.map fun q => (keyN (some q.1), Value.ref q.2.1, q.2.2) := ⟨_, rfl⟩
  have dm : DictM X.w s3.heap a xs := ⟨ob, es, ep, h1, h2, h3, by
    rw [h4, exs, List.map_map]
    refine List.map_congr_left fun q _ => ?_
    show DictEntry.mk _ _ _ = DictEntry.mk _ _ _
    rw [keyT_N X.prog X.w q.1]⟩
  have rel0 : ∀ {l : List (List Key × V)} {m : List (List Key × Addr × Value)}, Paired (fun (p : List Key × V) (q : List Key × Addr × Value) => p.1 = q.1 ∧ H3 q.2.1 = some (.tup (p.1.map kV)) ∧ RelV p.2 q.2.2) l m →
      Paired (MRel H3) (l.map fun p => ((some p.1 : MKey), p.2)) (m.map fun q => (keyN (some q.1), Value.ref q.2.1, q.2.2)) := fun {l m} r => by
    induction r with
    | nil => exact .nil
    | @cons p q l m hr t ih => exact .cons ⟨(by show keyN (some q.1) = keyN (some p.1); rw [hr.1]), .inr ⟨_, _, rfl, rfl, hr.2.1⟩, hr.2.2⟩ ih
  have relM : Paired (MRel H3) (kvs.map fun p => ((some p.1 : MKey), p.2)) xs := by rw [exs]; exact rel0 rel
  have keysE : (kvs.map (·.1)) = ys.map (·.1) := by
    clear relM dm exs h4 h5 hl q3 hd z1
    induction rel with
    | nil => rfl
    | cons hr t ih => rw [List.map_cons, List.map_cons, ih, hr.1]
  have hn : ((kvs.map fun p => ((some p.1 : MKey), p.2)).map (·.1)).Nodup := by
    have : (kvs.map fun p => ((some p.1 : MKey), p.2)).map (·.1) = (kvs.map (·.1)).map some := by rw [List.map_map, List.map_map]; rfl
    rw [this, keysE, List.nodup_iff_pairwise_ne, List.pairwise_map]
    exact (List.nodup_iff_pairwise_ne.mp h5).imp fun h e => h (Option.some.inj e)
  have hno : (none : MKey) ∉ (kvs.map fun p => ((some p.1 : MKey), p.2)).map (·.1) := fun z => by
    obtain ⟨p, hp, e⟩ := List.mem_map.mp z
    obtain ⟨q, _, rfl⟩ := List.mem_map.mp hp
    cases e
  have hlen := Paired.length relM
  rw [List.length_map] at hlen
  have ka : KeyAt H3 none .none := .inl ⟨rfl, rfl⟩
  refine m_setNew (by omega) (ka.is I3.hok) dm (mrel_is I3.hok relM) (by rw [mrel_keys relM]; exact nodup_keyN hn) (fun z => ?_) (by rw [← hlen]; exact Nat.lt_of_lt_of_le hl (by decide)) fun h' tk dm' hs' => ?_
  · rw [mrel_keys relM] at z
    obtain ⟨k', hk', e⟩ := List.mem_map.mp z
    exact hno (keyN_inj e ▸ hk')
  have kt : ∀ b ys, H3 b = some (.tup ys) → upd H3 a (MixO X.w a (xs ++ [(keyN none, .none, r)])) b = some (.tup ys) := fun b ys e => by
    rw [upd_ne (ne_of e hd fun z => nomatch z)]
    exact e
  have he : ∃ q, h'.get? a = some q := let ⟨q, _, _, hq, _⟩ := dm'; ⟨q, hq⟩
  refine ⟨σ, _, I3.write (t' := tk) (x := a) (e := a) (o := MixO X.w a (xs ++ [(keyN none, .none, r)])) (by rw [hd]; exact True.intro) (.inl rfl) (fun b u hb e => (hs'.2 b hb).trans e) he (mix_ok dm'), q3 _ ⟨_, upd_same, ?_, ?_, ?_⟩⟩
  · rw [List.length_append, List.length_map]
    exact hl
  · rw [List.map_append, List.nodup_append]
    refine ⟨hn, by simp, fun x hx y hy => ?_⟩
    cases List.mem_singleton.mp hy
    exact fun e => hno (by rw [e] at hx; exact hx)
  · exact mrel_snoc (L2.Paired.mapP relM fun p q ⟨a, b, c⟩ => ⟨a, b.keep kt, c⟩) ⟨rfl, ka.keep kt, rv⟩
end
end Fw

set_option Elab.async false
set_option linter.all false
set_option maxRecDepth 100000
set_option maxHeartbeats 1000000
/-! del d[k], d a dict of tuples, or of tuples and None -/
namespace Fw
open PySem PySem.Spec PyProof.Rows L2
section
variable {prog : Program} {w : World} {A : Around} {E : Value → Shared → Prop} {s : Shared} {d : Addr} {xs : List EntX} {k : NestedKey} {a : Addr}
theorem m_takeOut {j : Nat} {p : Value × Value} {Q : Option DictEntry → Shared → Prop} (hu : A.units + 8 < cLine) (hkey : MIs s.heap k (.ref a)) (hm : DictM w s.heap d xs) (his : ∀ x ∈ xs, MIs s.heap x.1 x.2.1) (hn : (xs.map (·.1)).Nodup) (hj : xs[j]? = some (k, p)) (hz : xs.length ≤ sizeLine)
    (q : ∀ e h' tk, DictM w h' d (xs.eraseIdx j) → Heap.SameBut d s.heap h' → Q (some e) { s with heap := h', toks := tk }) : wpAny (model prog w) A (Builtin.Dict.takeOut d (.ref a)) Q E s := by
  obtain ⟨o, es, ep, ho, hc, hd, he⟩ := hm
  have t : Tab w es xs := ⟨he, hn⟩
  unfold Builtin.Dict.takeOut
  try with_reducible refine wpAny_holding ?_
  refine wpAny_bind (hkey.hash hu fun tk => wpAny_bind (m_find (s := { s with toks := tk }) t his hu hkey ho hd (fun no => absurd rfl (no j _ hj)) fun i y hi e => ?_))
  obtain rfl := t.one hi hj e
  refine wpAny_bind (wpAny_dictEntries (s := { s with toks := tk }) ho hd ?_)
  rw [t.get i, hj]
  refine wpAny_bind (wpAny_updateDictKeys (hz := by rw [t.size]; exact hz) (s := { s with toks := tk }) ho hd (wpAny_pure (q _ _ _ ⟨_, _, ep + 1, Heap.get?_update_self _ ho (Obj.isFreed_of_dict (Obj.data_mapDictKeys hd _)), hc.mapDictKeys _, Obj.data_mapDictKeys hd _, ?_⟩ (Heap.SameBut.update ..))))
  have e2 : xs.eraseIdx i = xs.eraseIdx i := rfl
  have me : ∀ (l : List EntX) (i : Nat), (l.map (entM w)).eraseIdx i = (l.eraseIdx i).map (entM w) := fun l => by
    induction l with
    | nil => intro i; rfl
    | cons x l ih =>
      intro i
      cases i with
      | zero => rfl
      | succ i => rw [List.map_cons, List.eraseIdx_cons_succ, List.eraseIdx_cons_succ, List.map_cons, ih]
  rw [← me, ← he]
  obtain ⟨l⟩ := es
  simp
theorem m_delItem {j : Nat} {p : Value × Value} {Q : Unit → Shared → Prop} (hu : A.units + 9 < cLine) (hkey : MIs s.heap k (.ref a)) (hm : DictM w s.heap d xs) (his : ∀ x ∈ xs, MIs s.heap x.1 x.2.1) (hn : (xs.map (·.1)).Nodup) (hj : xs[j]? = some (k, p)) (hz : xs.length ≤ sizeLine)
    (q : ∀ h' tk, DictM w h' d (xs.eraseIdx j) → Heap.SameBut d s.heap h' → Q () { s with heap := h', toks := tk }) : wpAny (model prog w) A (delItem (.ref d) (.ref a)) Q E s := by
  refine wpAny_delItem_slot hm.typeIs (by decide) PySem.F.slot_dict_delitem (call_meetsIn PySem.F.slot_dict_delitem hm.typeIs PySem.F.entry_dict_delitem (PySem.F.args_dict_delitem_2 _ _) (S := fun A' R s' => A' = A ∧ s' = s ∧ ∀ h' tk, DictM w h' d (xs.eraseIdx j) → Heap.SameBut d s.heap h' → R (.ok (.ret .none)) { s with heap := h', toks := tk }) (.of_wp fun A' R s' hS => ?_) ⟨rfl, rfl, fun h' tk m sb => q h' tk m sb⟩)
  obtain ⟨rfl, rfl, hq⟩ := hS
  unfold Builtin.«dict.__delitem__»
  refine wpAny_bind ?_
  unfold Builtin.Dict.dictSlotArgs
  refine wpAny_bind (wpAny_notOrdered_dict hm.typeIs ?_)
  show wpAny _ _ (pure (Value.ref d, Value.ref a)) _ _ s'
  refine wpAny_pure ?_
  show wpAny _ _ (Builtin.Dict.takeOut d (.ref a) >>= _) _ _ s'
  refine wpAny_bind (m_takeOut (by show _ + 1 + 8 < cLine; omega) hkey hm his hn hj hz fun e h' tk m sb => ?_)
  exact wpAny_bind (wpAny_letGo (wpAny_pure ⟨.none, rfl, hq h' tk m sb⟩))
end
theorem mrel_erase {H : Hp} : ∀ {kvs : List (MKey × V)} {xs : List (NestedKey × Value × Value)} {j : Nat}, Paired (MRel H) kvs xs → Paired (MRel H) (kvs.eraseIdx j) (xs.eraseIdx j)
  | _, _, _, .nil => .nil
  | _, _, 0, .cons _ t => t
  | _, _, j + 1, .cons r t => .cons r (mrel_erase (j := j) t)
theorem mrel_get {H : Hp} : ∀ {kvs : List (MKey × V)} {xs : List (NestedKey × Value × Value)} {j : Nat} {k : MKey} {v : V}, Paired (MRel H) kvs xs → kvs[j]? = some (k, v) → ∃ p : Value × Value, xs[j]? = some (keyN k, p)
  | _, _, _, _, _, .nil, h => by simp at h
  | _, _, 0, k, v, .cons (b := q) r t, h => by
    cases (Option.some.inj h)
    exact ⟨q.2, by rw [← r.1]; rfl⟩
  | _, _, j + 1, k, v, .cons r t, h => mrel_get (j := j) t h
/-- del d[t], d a dict of tuples and None -/
def tMDel (w : World) (td ty : TE) : TS := fun D σ H => td σ H fun x H1 => ty σ H1 fun y H2 => ∃ (a b : Addr) (kvs : List (MKey × V)) (ks : List Key) (v : V) (j : Nat), x = .ref a ∧ y = .ref b ∧ MixD w H2 a kvs ∧ H2 b = some (.tup (ks.map kV)) ∧ kvs[j]? = some (some ks, v) ∧
  ∀ o, MixD w (upd H2 a o) a (kvs.eraseIdx j) → D.nx σ (upd H2 a o)
/-- del d[t], d a dict of tuples -/
def tDelT (td ty : TE) : TS := fun D σ H => td σ H fun x H1 => ty σ H1 fun y H2 => ∃ (a b : Addr) (kvs : List (List Key × V)) (k : List Key) (v : V), x = .ref a ∧ y = .ref b ∧ H2 a = some (.dT kvs) ∧ H2 b = some (.tup (k.map kV)) ∧ valV kvs k = some v ∧ D.nx σ (upd H2 a (.dT (dropK kvs k)))
section
variable {X : Cx} {o i : Expr} {pos tpos : Pos} {td ty : TE}
theorem ps_mdel (hu : X.A.units + 20 < cLine) (ho : PE X o td) (hi : PE X i ty) : PS X (.Delete [.Subscript o i tpos] pos) (tMDel X.w td ty) := by
  refine ⟨fun pins s σ H D I h => ?_⟩
  refine wpAny_Delete (wpAny_deleteEach_cons (wpAny_delete_Subscript (thn (ho.run pins s σ H _ I h) fun u s1 ⟨x, H1, I1, rx, q1⟩ => thn (hi.run pins s1 σ H1 _ I1 q1) fun iv s2 ⟨y, H2, I2, ry, a, b, kvs, ks, v, j, ex, ey, m, hb, hj, q2⟩ => ?_)))
  subst ex ey
  obtain rfl : u = Value.ref a := rx
  obtain rfl : iv = Value.ref b := ry
  obtain ⟨xs, hd, hl, hn, rel⟩ := m
  have dm := mix_of (I2.hok a _ hd)
  obtain ⟨p, ej⟩ := mrel_get rel hj
  have ka : KeyAt H2 (some ks) (.ref b) := .inr ⟨ks, b, rfl, rfl, hb⟩
  have hlen := Paired.length rel
  refine m_delItem (by omega) (ka.is I2.hok) dm (mrel_is I2.hok rel) (by rw [mrel_keys rel]; exact nodup_keyN hn) ej (by rw [← hlen]; exact Nat.le_trans hl (by decide)) fun h' tk dm' hs' => ?_
  have kt : ∀ c ys, H2 c = some (.tup ys) → upd H2 a (MixO X.w a (xs.eraseIdx j)) c = some (.tup ys) := fun c ys e => by
    rw [upd_ne (ne_of e hd fun z => mix_ne z.symm)]
    exact e
  have he : ∃ q, h'.get? a = some q := let ⟨q, _, _, hq, _⟩ := dm'; ⟨q, hq⟩
  refine wpAny_deleteEach_nil ⟨σ, _, I2.write (t' := tk) (x := a) (e := a) (o := MixO X.w a (xs.eraseIdx j)) (by rw [hd]; exact True.intro) (.inl rfl) (fun c u hc e => (hs'.2 c hc).trans e) he (mix_ok dm'), q2 _ ⟨_, upd_same, ?_, ?_, ?_⟩⟩
  · exact Nat.le_trans (List.length_eraseIdx_le ..) hl
  · exact ((List.eraseIdx_sublist kvs j).map _).nodup hn
  · exact mrel_erase (L2.Paired.mapP rel fun p q ⟨a, b, c⟩ => ⟨a, b.keep kt, c⟩)
theorem ps_delT (hu : X.A.units + 1 < cLine) (ho : PE X o td) (hi : PE X i ty) : PS X (.Delete [.Subscript o i tpos] pos) (tDelT td ty) := by
  refine ⟨fun pins s σ H D I h => ?_⟩
  refine wpAny_Delete (wpAny_deleteEach_cons (wpAny_delete_Subscript (thn (ho.run pins s σ H _ I h) fun u s1 ⟨x, H1, I1, rx, q1⟩ => thn (hi.run pins s1 σ H1 _ I1 q1) fun iv s2 ⟨y, H2, I2, ry, a, b, kvs, k, v, ex, ey, ha, hb, hv, q2⟩ => ?_)))
  subst ex ey
  obtain rfl : u = Value.ref a := rx
  obtain rfl : iv = Value.ref b := ry
  obtain ⟨z, hd, xs', rel, dd⟩ := dt_of I2.hok ha
  have hz : xs'.length ≤ sizeLine := by rw [← Paired.length rel]; exact z
  have r := rel.val k
  rw [hv] at r
  cases hp : atKey xs' k with
  | none =>
    rw [hp] at r
    exact (show False from r).elim
  | some p =>
    refine wpAny_delItem_heap (hsz := hz) (tupleKind_room_in1 hu) (key_of I2.hok hb) hd dd hp fun h' dd' hs => ?_
    obtain ⟨o, es, ep, hq, h2, h3, h4, _, h5⟩ := dd'
    refine wpAny_deleteEach_nil ⟨σ, _, d_write (ob := .dT (dropK kvs k)) I2 (by rw [ha]; exact True.intro) hs ⟨o, hq⟩ ⟨Nat.le_trans (dropK_le kvs k) z, hd, _, (DX.KT_drop k rel).keeps (fun c ys ec => (by rw [upd_ne (ne_of ec ha (fun z => nomatch z))]; exact ec)), o, es, ep, hq, h2, h3, h4, h5⟩, q2⟩
end
end Fw

set_option Elab.async false
set_option linter.all false
set_option maxRecDepth 100000
set_option maxHeartbeats 400000
/-! own == and own len -/
namespace Fw
open PySem PySem.Spec PyProof.Rows L2
section
variable {X : Cx} {CX : CXT} {k : Nat} {f C : Addr} {fd : FuncData} {ps : List Str} {sp : Sp} {E : XK}
def rEqI (C : Addr) (sp : Sp) (E : XK) : R2 := fun x y H Q => ∃ a b dx dy fs gs, x = .ref a ∧ y = .ref b ∧ H a = some (.ins C dx fs) ∧ H b = some (.ins C dy gs) ∧ sp [.ref a, .ref b] H (fun v H' => (∃ k, v = .bl k) ∧ Q v H') E
theorem op_eqI (F : FnOk X.prog X.w X.K X.mg X.base CX k f fd ps sp) (hr : Room k X.A) (hs : PySem.W.findIn X.K (.ref C) "__eq__" = some (some (.ref f))) (hf : PySem.W.isFn X.K (.ref f) = true) (hb : Binds X.K fd ps []) (hx : Passes CX X E) : OpR X (compareOp .Eq) (rEqI C sp E) := by
  intro pins s σ H x y u v Q I rx ry h
  obtain ⟨a, b, dx, dy, fs, gs, rfl, rfl, ha, hb', hsp⟩ := h
  cases rx
  cases ry
  show wpAny (model X.prog X.w) X.A (richCompare .Eq (.ref a) (.ref b)) (EP X pins σ Q) X.xe s
  obtain ⟨mA, J, _⟩ := ins_get I.hok ha
  obtain ⟨mB, J', _⟩ := ins_get I.hok hb'
  obtain ⟨od, J, _⟩ := J.look
  obtain ⟨od', J', _⟩ := J'.look
  obtain ⟨m, hF⟩ := I.fr
  refine PySem.W.cmp_K (op := .Eq) (tb := .ref C) hr.units0 hF I.ok.mod.kin J J'.type (by simp [PySem.W.notFirst]) hs hf ?_
  refine wpAny_mono (run_fn (us := [.ref a, .ref b]) (vs := [.ref a, .ref b]) F hr hb .nil hx I (.cons rfl (.cons rfl .nil)) hsp) (fun w s' hq => ?_) fun _ _ e => e
  obtain ⟨z, H', I', rz, ⟨kk, ek⟩, q⟩ := hq
  subst ek
  cases rz
  exact ⟨.bl kk, H', I', rfl, q⟩
def rLenI (C : Addr) (sp : Sp) (E : XK) : List V → Hp → VK → Prop := fun vs H Q => ∃ a dx fs, vs = [.ref a] ∧ H a = some (.ins C dx fs) ∧ sp [.ref a] H (fun v H' => (∃ n : Int, v = .int n ∧ 0 ≤ n ∧ n < 2 ^ 63) ∧ Q v H') E
theorem call_lenI (F : FnOk X.prog X.w X.K X.mg X.base CX k f fd ps sp) (hr : Room (k + 1) X.A) (hs : PySem.W.findIn X.K (.ref C) "__len__" = some (some (.ref f))) (hf : PySem.W.isFn X.K (.ref f) = true) (hb : Binds X.K fd ps []) (hx : Passes CX X E) : CallR X (.builtin "len") (rLenI C sp E) := by
  intro pins s σ H xs us Q I r h
  obtain ⟨a, dx, fs, rfl, ha, hsp⟩ := h
  cases r with | @cons _ u _ _ ru r0 =>
  cases r0
  cases ru
  obtain ⟨mA, J, _⟩ := ins_get I.hok ha
  obtain ⟨od, J, _⟩ := J.look
  obtain ⟨m, hF⟩ := I.fr
  refine PySem.W.len_K hF I.ok.mod.kin J hs hf ?_
  have e0 : Env0 X.prog X.w X.K X.mg X.base X.A.in1 X.stack s H := by
    have e := I.env0
    exact ⟨e.frames, e.mod, e.bs, e.bsz, e.funs, e.frf, e.hok, e.bare⟩
  have hl := F.len _ _ _ _ hsp
  refine wpAny_call (codeAny_mono (F.run X.A.in1 X.stack s H ⟨[.ref a], []⟩ [.ref a] [.ref a] _ E hr.in1 e0 (by
    have := hb s [.ref a] I.kIn (by simpa using hl)
    simpa using this) (.cons rfl .nil) hsp) fun r s' hq => ?_)
  cases r with
  | error e => exact hx pins σ H s e s' I hq
  | ok fl =>
    cases fl with
    | ret w =>
      obtain ⟨z, H', I', rz, ⟨n, en, h0, h1⟩, q⟩ := I.after hq
      subst en
      obtain ⟨t, rfl⟩ := rz
      exact ⟨⟨h0, h1⟩, .int n, H', I'.tok _, ⟨_, rfl⟩, q⟩
    | next => exact False.elim hq
    | brk => exact False.elim hq
    | cont => exact False.elim hq
end
end Fw

set_option Elab.async false
set_option linter.all false
set_option maxRecDepth 100000
set_option maxHeartbeats 1000000
/-! dict comprehensions, whatever the keys are: what a store does is told by put -/
namespace Fw
open PySem PySem.Spec PyProof.Rows L2
/-- y: z is stored at D; N is wanted of the heap behind -/
abbrev PutT := Addr → V → V → Hp → (Hp → Prop) → Prop
/-- put tells what a store does -/
def PutOk (put : PutT) : Prop := ∀ (Y : Cx) (pins : List (Addr × Obj)) (σ : L2.St) (H : Hp) (s : Shared) (D : Addr) (y z : V) (u r : Value) (N : Hp → Prop) (E : Value → Shared → Prop), Inv Y pins σ H s → RelV y u → RelV z r → Y.A.units + 1 < cLine → put D y z H N →
  wpAny (model Y.prog Y.w) Y.A (dictSet D u r) (fun _ s' => ∃ H', Inv Y pins σ H' s' ∧ N H') E s
/-- keys are tuples -/
def putT : PutT := fun D y z H N => ∃ (kvs : List (List Key × V)) (k : List Key) (b : Addr), y = .ref b ∧ H b = some (.tup (k.map kV)) ∧ H D = some (.dT kvs) ∧ kvs.length < sizeLine ∧ N (upd H D (.dT (putK kvs k z)))
theorem putT_ok : PutOk putT := by
  rintro Y pins σ H s D y z u r N E I ry rz hu ⟨kvs, k, b, rfl, eb, eD, hl, n⟩
  obtain rfl : u = Value.ref b := ry
  obtain ⟨_, sys, xs, rel, dd⟩ := dt_of I.hok eD
  have hz : xs.length ≤ sizeLine := by
    rw [← Paired.length rel]
    exact Nat.le_of_lt hl
  have big : (putK kvs k z).length ≤ sizeLine := by
    have := length_putK kvs k z
    omega
  refine wpAny_dictSet_heap (hsz := hz) (show Y.A.units < cLine by omega) (key_of I.hok eb) dd fun h' ⟨q, es, ep, h1, h2, h3, h4, _, h5⟩ sb => ⟨upd H D (.dT (putK kvs k z)), d_write I (by rw [eD]; trivial) sb ⟨q, h1⟩ ?_, n⟩
  refine (show ObjOk Y.prog Y.w (upd H D (.dT (putK kvs k z))) h' D (.dT (putK kvs k z)) from ⟨big, sys, _, (rel.put k eb rz).keeps fun c ys e => ?_, q, es, ep, h1, h2, h3, h4, h5⟩)
  rwa [upd_ne (ne_of e eD nofun)]
abbrev DcBody (put : PutT) (D : Addr) (g : TG) (tt : TT) (tk tv : TE) (vs : List Nat) (σ : L2.St) (x : V) (H : Hp) (Nx : Hp → Prop) : Prop :=
  g x (wipe σ vs) H fun σ2 H2 => wipe σ2 vs = wipe σ vs ∧ tt σ2 H2 fun b H3 => if b = true then tk σ2 H3 fun y H4 => tv σ2 H4 fun z H5 => put D y z H5 Nx else Nx H3
def tDcG (o0 : HO) (put : PutT) (wi : TI) (g : TG) (tt : TT) (tk tv : TE) (vs : List Nat) : TE := fun σ H Q => wi σ H fun J H1 => ∀ D, H1 D = none → ∃ W : Nat → Nat → Hp → Prop, (∃ m, W 0 m (upd H1 D o0)) ∧
  ∀ i m H, W i m H → (J.stop i H ∧ Q (.ref D) H) ∨ (J.go i H ∧ ∃ Nx : Hp → Prop, (∀ H', Nx H' → ∃ m', m' < m ∧ W (i + 1) m' H') ∧ ∀ x H', J.yld i H x H' → DcBody put D g tt tk tv vs σ x H' Nx)
theorem dcg_it {J : It} {n : Nat} {G : Hp → Prop} {Y : Nat → Hp → V → Hp → Prop} (wk : Walk J n G Y) {o0 : HO} {put : PutT} {g : TG} {tt : TT} {tk tv : TE} {vs : List Nat} {σ : L2.St} {H1 : Hp} {D : Addr} {Qd : Hp → Prop} (Pv : Nat → Hp → Prop) (first : Pv 0 (upd H1 D o0))
    (stays : ∀ i H, i ≤ n → Pv i H → G H) (turn : ∀ i x H H', i < n → Pv i H → Y i H x H' → DcBody put D g tt tk tv vs σ x H' (Pv (i + 1))) (last : ∀ H, Pv n H → Qd H) :
    ∃ W : Nat → Nat → Hp → Prop, (∃ m, W 0 m (upd H1 D o0)) ∧ ∀ i m H, W i m H → (J.stop i H ∧ Qd H) ∨ (J.go i H ∧ ∃ Nx : Hp → Prop, (∀ H', Nx H' → ∃ m', m' < m ∧ W (i + 1) m' H') ∧ ∀ x H', J.yld i H x H' → DcBody put D g tt tk tv vs σ x H' Nx) := by
  refine ⟨fun i m H => i + m = n ∧ Pv i H, ⟨n, Nat.zero_add n, first⟩, fun i m H ⟨e, p⟩ => ?_⟩
  have ok := stays i H (by omega) p
  cases m with
  | zero =>
    obtain rfl : i = n := e
    exact .inl ⟨wk.stops H ok, last H p⟩
  | succ m => exact .inr ⟨wk.goes i H (by omega) ok, Pv (i + 1), fun H' p' => ⟨m, Nat.lt_succ_self m, by omega, p'⟩, fun x H' y => turn i x H H' (by omega) p (wk.yields i H x H' (by omega) ok y)⟩
section
variable {X : Cx}
theorem pe_dcg {o0 : HO} {put : PutT} {kx vx tg iter : Expr} {ifs : List Expr} {scope : Scope} {own : List (Str × Nat)} {pos : Pos} {wi : TI} {g : TG} {tt : TT} {tk tv : TE} (hput : PutOk put) (hu : X.A.units + 1 < cLine)
    (ho : ∀ (P : Program) (w : World) (H : Hp) (h : Heap), sysModules < h.objs.size → ObjOk P w H (h.push { cls := .type "dict", data := .dict #[] }) h.objs.size o0)
    (hc : X.calm = true) (hN : X.N.Nodup) (hi : PI X tg iter wi) (ok : BlkOk X.N X.env.scope scope own)
    (hg : ∀ s H C cl fp, PG (X.blk s H scope (compEnvC scope cl C X.env) fp) tg g) (ht : ∀ s H C cl fp, PTs (X.blk s H scope (compEnvC scope cl C X.env) fp) ifs tt) (hk : ∀ s H C cl fp, PE (X.blk s H scope (compEnvC scope cl C X.env) fp) kx tk)
    (he : ∀ s H C cl fp, PE (X.blk s H scope (compEnvC scope cl C X.env) fp) vx tv) (hs : ∀ x, foldedSetIterable iter X.env x = pure x := by intro _; rfl) :
    PE X (.DictComp kx vx [⟨tg, iter, ifs, 0⟩] scope pos) (tDcG o0 put wi g tt tk tv (own.map (·.2))) := by
  refine ⟨fun pins s σ H Q I h => ?_⟩
  have caught : ∀ y ∈ scope.names, y.2 = .free → ∃ c, X.env.cells.lookup y.1 = some c := fun y hy e => I.ok.has _ (ok.free y hy e)
  rw [arm_eval_DictComp]
  refine wpAny_comprehension_free (use := none) rfl hs (closure_ok caught) ok.kind (fun y hy e => (ok.uniq y hy).trans (congrArg some e)) (thn (hi.run pins s σ H _ I h) fun _ s1 h1 => thn h1 fun _ s2 ⟨it, fp, tn, J, H2, eit, I2, T, tn2, fresh2, q⟩ => ?_)
  subst eit
  refine wpAny_newObj_type (newEnv_comp ?_)
  -- the dict is laid
  have I3 : Inv X pins σ (upd H2 s2.heap.objs.size o0) { s2 with heap := s2.heap.push { cls := .type "dict", data := .dict #[] } } := I2.laid (t' := s2.toks) (fun _ _ e => Heap.get?_push_of_some _ e) (Nat.le_refl _) (ho _ _ _ _ I2.big)
  obtain ⟨W, ⟨m0, w0⟩, turns⟩ := q s2.heap.objs.size (I2.hok.fresh (Nat.le_refl _))
  have own2 : ∀ b ∈ fp, b < s2.heap.objs.size := fun b hb => (T.obj _ _ tn2 b hb).elim fun o e => Heap.lt_size e.1
  generalize eD : s2.heap.objs.size = D at *
  generalize eH : upd H2 D o0 = H3 at *
  obtain ⟨s3, e3⟩ : ∃ s3 : Shared, s3 = { s2 with heap := s2.heap.push { cls := .type "dict", data := .dict #[] } } := ⟨_, rfl⟩
  rw [← e3] at I3 ⊢
  have up : ∀ b o, s2.heap.get? b = some o → s3.heap.get? b = some o := fun b o e => by rw [e3]; exact Heap.get?_push_of_some _ e
  have few : s3.heap.objs.size = D + 1 := by rw [e3, ← eD]; exact Heap.size_push ..
  have fp3 : ∀ b ∈ fp, FpOk X pins H3 b ∧ b < s3.heap.objs.size := fun b hb => by
    have lt := own2 b hb
    obtain ⟨z, rest⟩ := fresh2 b hb
    exact ⟨⟨by rw [← eH, upd_ne (Nat.ne_of_lt lt)]; exact z, rest⟩, by rw [few]; exact Nat.lt_succ_of_lt lt⟩
  have tn3 : tn 0 s3.heap := T.keep _ _ _ tn2 fun b _ o e => up b o e
  have blk := block_start I3 ok hN fp3
  obtain ⟨cl, ecl⟩ : ∃ cl, cl = cellsFrom (s3.heap.objs.size + 1) scope.names (cloFrom X.env.cells scope.names []) := ⟨_, rfl⟩
  rw [← ecl] at blk
  have pg := hg s3 H3 s3.heap.objs.size cl fp
  have pt := ht s3 H3 s3.heap.objs.size cl fp
  have pk := hk s3 H3 s3.heap.objs.size cl fp
  have pv := he s3 H3 s3.heap.objs.size cl fp
  obtain ⟨ce, ece⟩ : ∃ ce, ce = compEnvC scope cl s3.heap.objs.size X.env := ⟨_, rfl⟩
  rw [← ece] at blk pg pt pk pv
  have loc : ce.locals = s3.heap.objs.size := by rw [ece]; rfl
  obtain ⟨s4, e4⟩ : ∃ s4 : Shared, s4 = { s3 with heap := pushCells (s3.heap.push { cls := .type "dict", data := .dict #[] }) scope.names } := ⟨_, rfl⟩
  rw [← e4] at blk
  have tn4 : tn 0 s4.heap := T.keep _ _ _ tn3 fun b _ o e => by rw [e4]; exact pushCells_keeps _ _ _ _ (Heap.get?_push_of_some _ e)
  have goal : codeAny (model X.prog X.w) X.A (.compStart (.DictComp kx vx [⟨tg, iter, ifs, 0⟩] scope pos) 0 (.ref it) (.ref D) ce) (compPost (model X.prog X.w) X.A X.xe none (EP X pins σ Q) (.ref D) s3.heap.objs.size) s4 := by
    refine codeAny_compStart_dict ?_ (T.self X.A 0 _ _ _ tn4 ?_)
    all_goals
      refine compLoop_anyD (fun n s' => ∃ i H', Inv (X.blk s3 H3 scope ce fp) [] (wipe σ (own.map (·.2))) H' s' ∧ tn i s'.heap ∧ (∀ b ∈ fp, H' b = none) ∧ W i n H') ?_ m0 ⟨0, H3, blk, tn4, fun b hb => (fp3 b hb).1.1, w0⟩
      rintro n s5 ⟨i, H5, I5, tn5, none5, w5⟩
      have fpB : ∀ {σ' : L2.St} {H' : Hp} {s' : Shared}, Inv (X.blk s3 H3 scope ce fp) [] σ' H' s' → (∀ b ∈ fp, H' b = none) → ∀ b ∈ fp, FpOk (X.blk s3 H3 scope ce fp) [] H' b := fun I' z b hb =>
        ⟨z b hb, (I'.ok.exf b hb).1, I'.ok.exfs b hb, .inl hb, (I'.ok.exf b hb).2, fun p hp => nomatch (show p ∈ ([] : List (Addr × Obj)) from hp)⟩
      rcases turns i n H5 w5 with ⟨stop, fin⟩ | ⟨go, Nx, next, body⟩
      · refine thnF (T.done (X.blk s3 H3 scope ce fp) rfl rfl rfl hc i [] s5 _ H5 (fun _ _ => False) I5 (fpB I5 none5) tn5 stop) fun r s6 ⟨er, I6⟩ => ?_
        subst er
        have back : Inv X pins σ H5 s6 := I3.call' (ch := fp) I6.os I6.base I6.hok I6.bare fun b hb => by
          obtain ⟨_, f1, _, f3, f4, f5⟩ := (fp3 b hb).1
          exact ⟨f3, f1, f4, f5⟩
        obtain ⟨m, ns, _⟩ := I6.loc
        have nsC : s6.heap.Ns s3.heap.objs.size m := loc ▸ (show s6.heap.Ns ce.locals m from ns)
        have noC : H5 s3.heap.objs.size = none := loc ▸ (show H5 ce.locals = none from I6.free)
        refine ⟨m, nsC, fun h' sb => ?_⟩
        obtain ⟨g0, g1, g2, g3, g4, g5⟩ := I3.fpOk (b := s3.heap.objs.size) (Nat.le_refl _) noC
        exact ⟨.ref D, H5, back.turned (t' := s6.toks) (fun b o nb e => (sb.2 b nb).trans e) g0 g1 g3 g4 g5, rfl, fin⟩
      · refine thnF (T.item (X.blk s3 H3 scope ce fp) rfl rfl rfl hc i [] s5 _ H5 (fun _ _ => False) I5 (fpB I5 none5) tn5 go) fun r s6 ⟨u, er, h6⟩ => ?_
        subst er
        refine thnF h6 fun _ s7 ⟨x, H7, I7, r7, y7, tn7, none7⟩ => ?_
        have ends : ∀ {σ' : L2.St} {H' : Hp} {s' : Shared}, Inv (X.blk s3 H3 scope ce fp) ([] ++ pinsAt fp s7.heap) σ' H' s' → wipe σ' (own.map (·.2)) = wipe σ (own.map (·.2)) → Nx H' →
            ∃ m, m < n ∧ ∃ i H', Inv (X.blk s3 H3 scope ce fp) [] (wipe σ (own.map (·.2))) H' s' ∧ tn i s'.heap ∧ (∀ b ∈ fp, H' b = none) ∧ W i m H' := fun {σ' H' s'} I' same nx => by
          obtain ⟨m, lt, w⟩ := next H' nx
          have pinned : ∀ b ∈ fp, ∀ o, s7.heap.get? b = some o → s'.heap.get? b = some o ∧ H' b = none := fun b hb o e => by
            have z := I'.pin (b, o) (List.mem_append_right _ (List.mem_append_right [] (mem_pinsAt hb e)))
            exact ⟨z.1, z.2.1⟩
          have len : (wipe σ (own.map (·.2))).length = σ'.length := by rw [← same]; exact wipe_length ..
          refine ⟨m, lt, i + 1, H', (Inv.unpinned (pins := []) I').weak len fun j v e => ?_, T.keep _ _ _ tn7 fun b hb o e => (pinned b hb o e).1, fun b hb => ?_, w⟩
          · exact (wipe_some (by rw [same]; exact e)).1
          · obtain ⟨o, e, _⟩ := T.obj _ _ tn7 b hb
            exact (pinned b hb o e).2
        have I8 := I7.pinned (fpB I7 none7) (T.obj _ _ tn7)
        refine thnF (pg.run _ s7 _ H7 x u _ I8 r7 (body x H7 y7)) fun _ s8 ⟨σ8, H8, I9, same, rest⟩ => ?_
        refine thnF (pt.run _ s8 σ8 H8 _ I9 rest) fun b s9 ⟨H9, I10, asks⟩ => ?_
        cases b with
        | false => exact ends I10 same asks
        | true =>
          refine thnF (pk.run _ s9 σ8 H9 _ I10 asks) fun ku s10 ⟨k1, H10, I11, rk, asks2⟩ => ?_
          refine thnF (pv.run _ s10 σ8 H10 _ I11 asks2) fun vu s11 ⟨v1, H11, I12, rv, asks3⟩ => ?_
          exact thnF (hput (X.blk s3 H3 scope ce fp) _ _ _ _ D k1 v1 ku vu Nx _ I12 rk rv hu asks3) fun _ s12 ⟨H12, I13, nx⟩ => ends I13 same nx
  rw [ece, e4, ecl] at goal
  exact goal
end
end Fw

set_option Elab.async false
set_option linter.all false
set_option maxRecDepth 100000
set_option maxHeartbeats 400000
/-! methods called by keywords -/
namespace Fw
open PySem PySem.Spec PyProof.Rows L2
def tMethK (C : Addr) (m : Str) (n l : Nat) (sp : Sp) (gV : List V → List V → List V) (E : XK) (ta : TE) (t tk : TA) : TE := fun σ H Q => ta σ H fun x H1 => ∃ a dx fs, x = .ref a ∧ H1 a = some (.ins C dx fs) ∧ fs.lookup m = none ∧
  t σ H1 fun vs H2 => tk σ H2 fun zs H3 => vs.length = n ∧ zs.length = l ∧ sp (gV (x :: vs) zs) H3 Q E
section
variable {X : Cx} {CX : CXT} {k n : Nat} {f C : Addr} {fd : FuncData} {ps ks : List Str} {sp : Sp} {E : XK} {m : Str} {apos pos : Pos} {o e : Expr} {es : List Expr} {kws : List Keyword} {ta : TE} {t tk : TA} {g : List Value → List Value → List Value} {gV : List V → List V → List V}
/-- o.m(k = v, ..) -/
theorem pe_methK0 {pl : Sem Bool} (he : PE X o ta) (c : Cls X.K C) (hm : Meth X.K C m f) (F : FnOk X.prog X.w X.K X.mg X.base CX k f fd ps sp) (hr : Room k X.A) (hb : KBn X.K fd ps 1 ks g gV) (hx : Passes CX X E) (hkw : PK X kws tk)
    (ht : eval (.Call (.Attribute o m apos) [] kws pos) X.env = (do
      let v ← eval o X.env
      standAt apos.atName
      let (f, first) ← holding [v] (getMethod v m pl)
      callWith pos f first (backTo pos (starEach [] X.env)) (backToKw pos (keywordEach kws X.env))) := by rfl)
    (hall : (backToKw pos (keywordEach kws X.env)).all (·.1.isSome) = true := by rfl) (hks : (backToKw pos (keywordEach kws X.env)).filterMap (·.1) = ks := by rfl)
    (hpl : ((backTo pos (starEach [] X.env)).any (·.1) || (backToKw pos (keywordEach kws X.env)).any (·.1.isNone)) = false := by rfl) :
    PE X (.Call (.Attribute o m apos) [] kws pos) (tMethK C m 0 ks.length sp gV E ta tNil tk) := by
  refine ⟨fun pins s σ H Q I h => ?_⟩
  refine PySem.W.methodCall_KW (pl := pl) (thn (he.run pins s σ H _ I h) fun u s1 ⟨x, H1, I1, rx, a, dx, fs, ex, ea, l, q⟩ => ?_) ht
  subst ex
  cases rx
  refine getmeth_ok I1 ea c hm l ?_
  refine PySem.W.callWith_KW0 (first := [.ref a]) (h₀ := X.base) I1.ok.mod.kin hm.kp hall (thn (hkw.run pos pins s1 σ H1 _ I1 q) fun ws s2 ⟨zs, H2, I2, rz, l1, l2, q2⟩ => ⟨I2.kIn, ?_⟩) hpl
  rw [hks]
  exact run_fnN (us := [.ref a]) (vs := [.ref a]) F hr hb hx I2 (.cons rfl .nil) rz rfl l2 q2
/-- o.m(e, .., k = v, ..) -/
theorem pe_methK {pl : Sem Bool} (he : PE X o ta) (c : Cls X.K C) (hm : Meth X.K C m f) (F : FnOk X.prog X.w X.K X.mg X.base CX k f fd ps sp) (hr : Room k X.A) (hb : KBn X.K fd ps (n + 1) ks g gV) (hx : Passes CX X E) (ha : PA X (e :: es) t) (hkw : PK X kws tk)
    (ht : eval (.Call (.Attribute o m apos) (e :: es) kws pos) X.env = (do
      let v ← eval o X.env
      standAt apos.atName
      let (f, first) ← holding [v] (getMethod v m pl)
      callWith pos f first (backTo pos (starEach (e :: es) X.env)) (backToKw pos (keywordEach kws X.env))) := by rfl)
    (hst : starEach (e :: es) X.env = (false, eval e X.env) :: starEach es X.env := by rfl)
    (hall : (backToKw pos (keywordEach kws X.env)).all (·.1.isSome) = true := by rfl) (hks : (backToKw pos (keywordEach kws X.env)).filterMap (·.1) = ks := by rfl)
    (hpl : ((backTo pos (starEach (e :: es) X.env)).any (·.1) || (backToKw pos (keywordEach kws X.env)).any (·.1.isNone)) = false := by rfl) :
    PE X (.Call (.Attribute o m apos) (e :: es) kws pos) (tMethK C m n ks.length sp gV E ta t tk) := by
  refine ⟨fun pins s σ H Q I h => ?_⟩
  refine PySem.W.methodCall_KW (pl := pl) (thn (he.run pins s σ H _ I h) fun u s1 ⟨x, H1, I1, rx, a, dx, fs, ex, ea, l, q⟩ => ?_) ht
  subst ex
  cases rx
  refine getmeth_ok I1 ea c hm l ?_
  refine PySem.W.callWith_KW (first := [.ref a]) (h₀ := X.base) I1.ok.mod.kin hm.kp hall (thn (ha.run pos pins s1 σ H1 _ I1 q) fun us s2 ⟨vs, H2, I2, r, q1⟩ => thn (hkw.run pos pins s2 σ H2 _ I2 q1) fun ws s3 ⟨zs, H3, I3, rz, l1, l2, q2⟩ => ⟨I3.kIn, ?_⟩) hpl hst
  rw [hks]
  exact run_fnN (us := .ref a :: us) (vs := .ref a :: vs) F hr hb hx I3 (.cons rfl r) rz (by rw [List.length_cons, l1]) l2 q2
end
end Fw

set_option Elab.async false
set_option linter.all false
set_option maxRecDepth 100000
/-! an attribute as a target among others -/
namespace Fw
open PySem PySem.Spec PyProof.Rows L2
def gFld (K : PySem.W.Frag) (ta : TE) (f : Str) : TG := fun v σ H Q => ta σ H fun x H1 => ∃ a C dx fs, x = .ref a ∧ H1 a = some (.ins C dx fs) ∧ Cls K C ∧ NoAttr K C f ∧ fs.length < 1000 ∧ Q σ (upd H1 a (.ins C dx (putF f v fs)))
theorem pg_fld {X : Cx} {o : Expr} {ta : TE} {f : Str} {pos : Pos} (ho : PE X o ta) : PG X (.Attribute o f pos) (gFld X.K ta f) := by
  refine ⟨fun pins s σ H v u Q I r h => ?_⟩
  unfold assign
  refine wpAny_bind (wpAny_holding (thn (ho.run pins s σ H _ I h) fun ov s1 ⟨x, H1, I1, r1, a, C, dx, fs, ex, ea, c, n, l, q⟩ => ?_))
  subst ex
  cases r1
  refine wpAny_bind (wpAny_standAt (wpAny_bind (wpAny_holding (setattr_ok I1 ea c n l r fun s2 I2 => ?_))))
  exact wpAny_release ⟨σ, _, I2, q⟩
end Fw

set_option Elab.async false
set_option linter.all false
set_option maxRecDepth 100000
set_option maxHeartbeats 1000000
namespace Fd
open PySem PySem.Spec PyProof.Rows L2 RZ Fw
def top (i : Nat) : Stmt := PySem.Challenge.pw_figuredeeds_k23_known_grounds.main.body.getD i (.Pass ⟨0, 0, 0, 0⟩)
/-! ### defs by their names -/
structure Df (K : PySem.W.Frag) (mg : Str → Option Value) (x : Str) (st : Stmt) (ps : List Str) (f : Addr) (fd : FuncData) : Prop where
  F : Fun K x x st f fd
  m : mg x = some (.ref f)
  b : Binds K fd ps []
/-- the def that the module's name x holds keeps sp -/
def FnG (P : Program) (w : World) (K : PySem.W.Frag) (mg : Str → Option Value) (base : Heap) (CX : CXT) (k : Nat) (x : Str) (ps : List Str) (sp : Sp) : Prop :=
  ∃ f fd, FnOk P w K mg base CX k f fd ps sp ∧ mg x = some (.ref f) ∧ PySem.W.keepIn K (.ref f) = true ∧ Binds K fd ps []
theorem Df.g {P : Program} {w : World} {K : PySem.W.Frag} {mg : Str → Option Value} {base : Heap} {CX : CXT} {k : Nat} {x : Str} {st : Stmt} {ps : List Str} {f : Addr} {fd : FuncData} {sp : Sp}
    (D : Df K mg x st ps f fd) (G : FnOk P w K mg base CX k f fd ps sp) : FnG P w K mg base CX k x ps sp := ⟨f, fd, G, D.m, D.F.kp, D.b⟩
/-! ### heaps -/
/-- all that was tracked stands, but for what is at a -/
def But (a : Addr) (H H' : Hp) : Prop := ∀ b o, b ≠ a → H b = some o → H' b = some o
theorem But.refl (a : Addr) (H : Hp) : But a H H := fun _ _ _ h => h
theorem But.trans {a : Addr} {H H1 H2 : Hp} (x : But a H H1) (y : But a H1 H2) : But a H H2 := fun b o n h => y b o n (x b o n h)
theorem But.of {a : Addr} {H H' : Hp} (s : Same H H') : But a H H' := fun b o _ h => s b o h
theorem But.upd {a : Addr} {H : Hp} {o : HO} : But a H (upd H a o) := fun b u n h => by rw [upd_ne n]; exact h
theorem same_upd {H : Hp} {p : Addr} {o : HO} (h : H p = none) : Same H (upd H p o) := fun b x e => by
  rw [upd_ne (ne_of_none e h)]
  exact e
theorem But.get {a b : Addr} {H H' : Hp} {o u : HO} (s : But a H H') (ha : H a = some u) (hb : H b = some o) (d : o ≠ u) : H' b = some o := s b o (ne_of hb ha d) hb
/-- an if whose both ways come to a value of which R holds, the heap as it was -/
theorem ifE {c : Prop} [Decidable c] {ta tb : TE} {σ : L2.St} {H : Hp} {Q : VK} (R : V → Prop) (h1 : c → ∃ v, R v ∧ ∀ Q' : VK, Q' v H → ta σ H Q') (h2 : ¬ c → ∃ v, R v ∧ ∀ Q' : VK, Q' v H → tb σ H Q')
    (h : ∀ v, R v → Q v H) : if c then ta σ H Q else tb σ H Q := by
  by_cases hc : c
  · rw [if_pos hc]
    obtain ⟨v, r, k⟩ := h1 hc
    exact k Q (h v r)
  · rw [if_neg hc]
    obtain ⟨v, r, k⟩ := h2 hc
    exact k Q (h v r)
theorem ixN_is {n j : Nat} (h : j < n) : ixN n (j : Int) = some j := by
  unfold ixN
  rw [if_pos (by omega), if_pos (by omega), Int.toNat_natCast]
theorem cut_to (xs : List V) (m : Nat) : cutV xs none (some (m : Int)) = xs.take m := by
  unfold cutV
  rw [HT.sIx_none, HT.sIx_nat, List.drop_zero, Nat.sub_zero]
  by_cases h : m ≤ xs.length
  · rw [Nat.min_eq_left h]
  · rw [Nat.min_eq_right (by omega), List.take_of_length_le (Nat.le_refl _), List.take_of_length_le (by omega)]
theorem cut_mid (xs : List V) (m n : Nat) : cutV xs (some (m : Int)) (some (n : Int)) = (xs.drop m).take (min n xs.length - min m xs.length) := by
  unfold cutV
  rw [HT.sIx_nat, HT.sIx_nat]
  by_cases h : m ≤ xs.length
  · rw [Nat.min_eq_left h]
  · rw [Nat.min_eq_right (by omega : xs.length ≤ m), List.drop_eq_nil_of_le (Nat.le_refl _), List.drop_eq_nil_of_le (by omega)]
theorem dpAll_ints {K : PySem.W.Frag} {H : Hp} : ∀ ms : List Int, DpAll K H (ms.map V.int) (ms.map PyData.int)
  | [] => .nil
  | m :: r => .cons (.int m) (dpAll_ints r)
theorem lay_ints : ∀ ms : List Int, PyData.canLayAll0 (ms.map PyData.int) = true
  | [] => rfl
  | m :: r => by show (true && PyData.canLayAll0 (r.map PyData.int)) = true; rw [lay_ints r]; rfl
theorem deep_ints : ∀ ms : List Int, PyData.depthAll (ms.map PyData.int) = 0
  | [] => rfl
  | m :: r => by show max 0 (PyData.depthAll (r.map PyData.int)) = 0; rw [deep_ints r]; rfl
theorem shaped_ints (ms : List Int) : SeqAt.shaped (.list (ms.map PyData.int)) = true := by
  unfold SeqAt.shaped
  rw [show (PyData.list (ms.map PyData.int)).canLay0 = PyData.canLayAll0 (ms.map PyData.int) from rfl, lay_ints,
    show (PyData.list (ms.map PyData.int)).depth = PyData.depthAll (ms.map PyData.int) + 1 from rfl, deep_ints]
  rfl
/-! ### the heap without some -/
def rmL (as : List Addr) (H : Hp) : Hp := fun b => if b ∈ as then none else H b
theorem rmL_at {as : List Addr} {b : Addr} {H : Hp} (h : b ∉ as) : rmL as H b = H b := if_neg h
theorem rmL_in {as : List Addr} {b : Addr} {H : Hp} (h : b ∈ as) : rmL as H b = none := if_pos h
theorem rmL_less {as bs : List Addr} {H : Hp} (h : ∀ b ∈ as, b ∈ bs) : Same (rmL bs H) (rmL as H) := fun b o q => by
  by_cases e : b ∈ bs
  · rw [rmL_in e] at q; cases q
  · rw [rmL_at e] at q
    rw [rmL_at (fun z => e (h b z))]
    exact q
theorem rmL_upd {as : List Addr} {D : Addr} {o : HO} {H : Hp} (h : D ∈ as) : rmL as (upd H D o) = rmL as H := funext fun b => by
  by_cases e : b ∈ as
  · rw [rmL_in e, rmL_in e]
  · rw [rmL_at e, rmL_at e, upd_ne (fun z => e (by rw [z]; exact h))]
/-- all that was tracked stands, but for some -/
def ButL (as : List Addr) (H H' : Hp) : Prop := ∀ b o, b ∉ as → H b = some o → H' b = some o
theorem ButL.trans {as : List Addr} {H H1 H2 : Hp} (x : ButL as H H1) (y : ButL as H1 H2) : ButL as H H2 := fun b o n h => y b o n (x b o n h)
theorem ButL.of {a : Addr} {as : List Addr} {H H' : Hp} (s : But a H H') (h : a ∈ as) : ButL as H H' := fun b o n q => s b o (fun z => n (by rw [z]; exact h)) q
theorem ButL.same {as : List Addr} {H H' : Hp} (s : Same H H') : ButL as H H' := fun b o _ q => s b o q
theorem ButL.more {as bs : List Addr} {H H' : Hp} (s : ButL as H H') (h : ∀ b ∈ as, b ∈ bs) : ButL bs H H' := fun b o n q => s b o (fun z => n (h b z)) q
theorem ButL.one {a : Addr} {H H' : Hp} (s : ButL [a] H H') : But a H H' := fun b o n q => s b o (fun z => n (List.mem_singleton.mp z)) q
theorem rmL_but {as : List Addr} {H H' : Hp} (s : ButL as H H') : Same (rmL as H) (rmL as H') := fun b o q => by
  by_cases e : b ∈ as
  · rw [rmL_in e] at q; cases q
  · rw [rmL_at e] at q ⊢
    exact s b o e q

theorem seqT {K : PySem.W.Frag} {H H' : Hp} {a : Addr} {xs : List V} (e : Same H H') (h : SqT K H a xs) : SqT K H' a xs := by
  rcases h with (h | ⟨o, h⟩) | h
  · exact .inl (.inl (e _ _ h))
  · exact .inl (.inr ⟨o, e _ _ h⟩)
  · exact .inr h
mutual
theorem dp_same {K : PySem.W.Frag} {H H' : Hp} (s : Same H H') : ∀ (d : PyData) (v : V), Dp K H v d → Dp K H' v d
  | .none, _, h => by cases h; exact .non
  | .bool b, _, h => by cases h; exact .bl b
  | .int i, _, h => by cases h; exact .int i
  | .str x, _, h => by cases h; exact .str x
  | .list ds, _, h => by cases h with | lst q r => exact .lst (s.seq q) (dpAll_same s ds _ r)
  | .tuple ds, _, h => by cases h with | tup q r => exact .tup (seqT s q) (dpAll_same s ds _ r)
  | .dict _, _, h => by cases h
theorem dpAll_same {K : PySem.W.Frag} {H H' : Hp} (s : Same H H') : ∀ (ds : List PyData) (vs : List V), DpAll K H vs ds → DpAll K H' vs ds
  | [], _, h => by cases h; exact .nil
  | d :: ds, _, h => by cases h with | cons q r => exact .cons (dp_same s d _ q) (dpAll_same s ds _ r)
end
theorem dpAll_len {K : PySem.W.Frag} {H : Hp} : ∀ {ds : List PyData} {vs : List V}, DpAll K H vs ds → vs.length = ds.length
  | [], _, h => by cases h; rfl
  | d :: ds, _, h => by cases h with | cons q r => rw [List.length_cons, List.length_cons, dpAll_len r]
theorem dpAll_at {K : PySem.W.Frag} {H : Hp} : ∀ {ds : List PyData} {vs : List V} {i : Nat} {v : V}, DpAll K H vs ds → vs[i]? = some v → ∃ d, ds[i]? = some d ∧ Dp K H v d
  | [], _, i, v, h, e => by cases h; simp at e
  | d :: ds, _, 0, v, h, e => by cases h with | cons q r => cases (Option.some.inj e); exact ⟨d, rfl, q⟩
  | d :: ds, _, i + 1, v, h, e => by cases h with | cons q r => exact dpAll_at (i := i) r e
/-- data without dicts, less than n deep, lists of at most 1000 -/
def OkD : Nat → PyData → Prop
  | 0, _ => False
  | _ + 1, .none => True
  | _ + 1, .bool _ => True
  | _ + 1, .int _ => True
  | _ + 1, .str _ => True
  | n + 1, .list ds => ds.length ≤ 1000 ∧ ∀ d ∈ ds, OkD n d
  | n + 1, .tuple ds => ds.length ≤ 1000 ∧ ∀ d ∈ ds, OkD n d
  | _ + 1, .dict _ => False
theorem qd {Q : VK} {H : Hp} {x : V} (h : Q (.bl true) H) : Q (.bl (decide (x = x))) H := by
  rw [decide_eq_true rfl]
  exact h
theorem all_rep : ∀ n : Nat, (List.replicate n true).all id = true
  | 0 => rfl
  | n + 1 => by rw [List.replicate_succ, List.all_cons, all_rep n]; rfl
theorem ty_lst {K : PySem.W.Frag} {H : Hp} {a : Addr} {xs : List V} (h : SqL K H a xs) : TyX K H (.ref a) (.type "list") := by
  rcases h with (h | ⟨o, h⟩) | ⟨o, _, _, h, c, _⟩
  · exact .base (.lst h)
  · exact .base (.frz h)
  · exact .kList h c
theorem ty_tup {K : PySem.W.Frag} {H : Hp} {a : Addr} {xs : List V} (h : SqT K H a xs) : TyX K H (.ref a) (.type "tuple") := by
  rcases h with (h | ⟨o, h⟩) | ⟨o, _, _, h, c, _⟩
  · exact .base (.tup h)
  · exact .fTuple h
  · exact .kTuple h c
theorem kitLT {K : PySem.W.Frag} {t : String} {b1 b2 : Bool} (h1 : kitB t "list" = some b1) (h2 : kitB t "tuple" = some b2) : PySem.W.kitAny K (.type t) [.type "list", .type "tuple"] = some (b1 || b2) := by
  cases b1 with
  | true => exact kitAny_cons (kit_ty h1) (fun z => nomatch z) (fun _ => rfl)
  | false =>
    refine kitAny_cons (kit_ty h1) (fun _ => ?_) (fun z => nomatch z)
    cases b2 with
    | true => exact kitAny_cons (kit_ty h2) (fun z => nomatch z) (fun _ => rfl)
    | false => exact kitAny_cons (kit_ty h2) (fun _ => rfl) (fun z => nomatch z)
theorem walk_zipT {K : PySem.W.Frag} {a b : Addr} {xs ys : List V} {n : Nat} (hn : n = min xs.length ys.length) : Walk (ItzT K a b) n (fun H => SqT K H a xs ∧ SqT K H b ys) (YPair (fun i => xs[i]?) (fun i => ys[i]?)) := by
  subst hn
  refine ⟨fun i _ hi q => ⟨xs, ys, xs[i]'(by omega), ys[i]'(by omega), q.1, q.2, List.getElem?_eq_getElem _, List.getElem?_eq_getElem _⟩, fun _ q => ⟨xs, ys, q.1, q.2, by omega⟩, fun i H v H' _ q y => ?_⟩
  obtain ⟨T, x, z, g1, g2, g3, g4, g5⟩ := y
  exact ⟨T, x, z, g1, g2, g3, g4 xs q.1, g5 ys q.2⟩
theorem pi_or {X : Cx} {tg it : Expr} {w w' : TI} (h : PI X tg it w) (h' : PI X tg it w') : PI X tg it (fun σ H R => w σ H R ∨ w' σ H R) := ⟨fun pins s σ H R I q => q.elim (h.run pins s σ H R I) (h'.run pins s σ H R I)⟩
theorem dpAll_app {K : PySem.W.Frag} {H : Hp} : ∀ {ds es : List PyData} {xs ys : List V}, DpAll K H xs ds → DpAll K H ys es → DpAll K H (xs ++ ys) (ds ++ es)
  | [], _, _, _, h, g => by cases h; exact g
  | _ :: _, _, _, _, h, g => by cases h with | cons q r => exact .cons q (dpAll_app r g)
/-! ### what is asked of a play's parts -/
/-! ### either way -/
def gOr (g g' : TG) : TG := fun v σ H Q => g v σ H Q ∨ g' v σ H Q
theorem pg_or {X : Cx} {tg : Expr} {g g' : TG} (h : PG X tg g) (h' : PG X tg g') : PG X tg (gOr g g') := ⟨fun pins s σ H v u Q I r q => q.elim (h.run pins s σ H v u Q I r) (h'.run pins s σ H v u Q I r)⟩
def rOr (r r' : R2) : R2 := fun x y H Q => r x y H Q ∨ r' x y H Q
theorem ixr_or {X : Cx} {r r' : R2} (h : IxR X r) (h' : IxR X r') : IxR X (rOr r r') := fun a b pins s σ H x y v u Q I rx ry q hs => q.elim (fun q => h a b pins s σ H x y v u Q I rx ry q hs) fun q => h' a b pins s σ H x y v u Q I rx ry q hs
/-- a list or a tuple -/
def Sq (K : PySem.W.Frag) (G : Hp) (t : Addr) (xs : List V) : Prop := SqL K G t xs ∨ SqT K G t xs
theorem Sq.same {K : PySem.W.Frag} {G G' : Hp} {t : Addr} {xs : List V} (h : Sq K G t xs) (s : Same G G') : Sq K G' t xs := h.imp (fun h => s.seq h) (fun h => seqT s h)
theorem walkL {K : PySem.W.Frag} {H0 : Hp} {a : Addr} {xs : List V} (h : SqL K H0 a xs) : Walk (Itl K a) xs.length (Same H0) (YAt xs) :=
  ⟨fun i H hi s => walk_list.goes i H hi (s.seq h), fun H s => walk_list.stops H (s.seq h), fun i H x H' hi s y => walk_list.yields i H x H' hi (s.seq h) y⟩
theorem walkT {K : PySem.W.Frag} {H0 : Hp} {a : Addr} {xs : List V} (h : SqT K H0 a xs) : Walk (Itt K a) xs.length (Same H0) (YAt xs) :=
  ⟨fun i H hi s => walk_tup.goes i H hi (seqT s h), fun H s => walk_tup.stops H (seqT s h), fun i H x H' hi s y => walk_tup.yields i H x H' hi (seqT s h) y⟩
/-- a walk over a list or a tuple -/
theorem sq_it {K : PySem.W.Frag} {σ : L2.St} {H : Hp} {i : Nat} {a : Addr} {xs : List V} {R : It → Hp → Prop} (e : σ[i]? = some (some (.ref a))) (h : Sq K H a xs) (k : ∀ J, Walk J xs.length (Same H) (YAt xs) → R J H) : iList K (tVar i) σ H R ∨ iTup K (tVar i) σ H R := by
  rcases h with h | h
  · exact .inl ⟨_, e, a, rfl, ⟨_, h⟩, k _ (walkL h)⟩
  · exact .inr ⟨_, e, a, rfl, ⟨_, h⟩, k _ (walkT h)⟩
theorem sq_or {K : PySem.W.Frag} {n : Nat} {t : List V → L2.St → Hp → (L2.St → Hp → Prop) → Prop} {σ : L2.St} {H : Hp} {Q : L2.St → Hp → Prop} {b : Addr} {xs : List V} (h : Sq K H b xs) (hl : xs.length = n) (k : t xs σ H Q) : gOr (gTup K n t) (gLst K n t) (.ref b) σ H Q := by
  rcases h with h | h
  · exact .inr ⟨b, xs, rfl, h, hl, k⟩
  · exact .inl ⟨b, xs, rfl, h, hl, k⟩
/-- an instance is written: lists and tuples stay -/
theorem Sq.but {K : PySem.W.Frag} {H H' : Hp} {a p : Addr} {xs : List V} {C dx : Addr} {fs : List (Str × V)} (h : Sq K H a xs) (hp : H p = some (.ins C dx fs)) (s : ButL [p] H H') : Sq K H' a xs := by
  have ne : ∀ {o}, H a = some o → o ≠ .ins C dx fs → H' a = some o := fun {o} e n => s a o (fun z => by
    rw [List.mem_singleton.mp z, hp] at e
    exact n (Option.some.inj e).symm) e
  rcases h with ((h | ⟨o, h⟩) | h) | ((h | ⟨o, h⟩) | h)
  · exact .inl (.inl (.inl (ne h nofun)))
  · exact .inl (.inl (.inr ⟨o, ne h nofun⟩))
  · exact .inl (.inr h)
  · exact .inr (.inl (.inl (ne h nofun)))
  · exact .inr (.inl (.inr ⟨o, ne h nofun⟩))
  · exact .inr (.inr h)
theorem Same.putN {H H1 : Hp} {p : Addr} {o : HO} (s : Same H H1) (n : H p = none) : Same H (upd H1 p o) := fun b u e => by
  rw [upd_ne (ne_of_none e n)]
  exact s b u e
theorem paired_snoc {α β : Type} {F : α → β → Prop} : ∀ {l : List α} {m : List β} {x : α} {y : β}, Paired F l m → F x y → Paired F (l ++ [x]) (m ++ [y])
  | _, _, _, _, .nil, r => .cons r .nil
  | _, _, _, _, .cons a t, r => .cons a (paired_snoc t r)
theorem paired_mem {α β : Type} {F G : α → β → Prop} : ∀ {l : List α} {m : List β}, Paired F l m → (∀ a ∈ l, ∀ b, F a b → G a b) → Paired G l m
  | _, _, .nil, _ => .nil
  | _, _, .cons r t, f => .cons (f _ (List.mem_cons_self ..) _ r) (paired_mem t fun a ha b => f a (List.mem_cons_of_mem _ ha) b)
/-- what a dict comprehension with names as keys stores -/
def putS : PutT := fun D y z H N => ∃ kvs k, y = kV k ∧ H D = some (.dK kvs) ∧ kvs.length < sizeLine ∧ N (upd H D (.dK (putK kvs k z)))
/-- list(..) of a list or a tuple -/
def rListO (K : PySem.W.Frag) : List V → Hp → VK → Prop := fun xs H Q => ∃ p ys, xs = [V.ref p] ∧ (SqL K H p ys ∨ SqT K H p ys) ∧ ∀ l, H l = none → Q (.ref l) (upd H l (.lst ys))
/-- the class's place in the top: its j-th statement -/
def inC (i j : Nat) : Stmt := match top i with
  | .ClassDef _ _ _ b .. => b.getD j (.Pass ⟨0, 0, 0, 0⟩)
  | _ => .Pass ⟨0, 0, 0, 0⟩
end Fd

set_option Elab.async false
set_option linter.all false
set_option maxRecDepth 100000
set_option maxHeartbeats 1000000
namespace Fd
open PySem PySem.Spec PyProof.Rows L2 RZ Fw
/-! ### Holding: names with values, lists -/
abbrev sHI : Stmt := inC 21 0
abbrev sHN : Stmt := inC 21 1
abbrev sHL : Stmt := inC 21 2
theorem kRN : ¬ (("numbers" : Str) = "rows") := by decide +kernel
theorem kNR : ¬ (("rows" : Str) = "numbers") := by decide +kernel
theorem kNR' : ¬ (("numbers" : Str) = "rows") := by decide +kernel
def fldH (dn dr : Addr) : List (Str × V) := [("numbers", .ref dn), ("rows", .ref dr)]
theorem fldH_n (dn dr : Addr) : (fldH dn dr).lookup ("numbers" : Str) = some (.ref dn) := by
  unfold fldH
  rw [List.lookup_cons, beq_self_eq_true]
theorem fldH_r (dn dr : Addr) : (fldH dn dr).lookup ("rows" : Str) = some (.ref dr) := by
  unfold fldH
  rw [List.lookup_cons, show (("rows" : Str) == "numbers") = false from by decide +kernel, List.lookup_cons, beq_self_eq_true]
/-- names with whole numbers; lists of them -/
abbrev Nms := List (Str × Int)
abbrev Rws := List (Str × List Int)
def nmK (nm : Nms) : List (L2.Key × V) := nm.map fun q => (Sum.inr q.1, .int q.2)
def rwK (ks : List Str) (rs : List Addr) : List (L2.Key × V) := (ks.zip rs).map fun q => (Sum.inr q.1, .ref q.2)
/-- a Holding stands at p -/
structure HoldAt (C : Addr) (H : Hp) (p : Addr) (nm : Nms) (rw : Rws) : Prop where
  ob : ∃ dx dn dr rs, H p = some (.ins C dx (fldH dn dr)) ∧ H dn = some (.dK (nmK nm)) ∧ H dr = some (.dK (rwK (rw.map (·.1)) rs)) ∧ Paired (fun a (q : Str × List Int) => H a = some (.lst (q.2.map V.int))) rs rw
  n1 : (nm.map (·.1)).Nodup
  n2 : (rw.map (·.1)).Nodup
  l1 : nm.length ≤ 100
  l2 : rw.length ≤ 100
  l3 : ∀ q ∈ rw, q.2.length ≤ 100
theorem HoldAt.same {C : Addr} {H H' : Hp} {p : Addr} {nm : Nms} {rw : Rws} (h : HoldAt C H p nm rw) (s : Same H H') : HoldAt C H' p nm rw := by
  obtain ⟨⟨dx, dn, dr, rs, h1, h2, h3, h4⟩, n1, n2, l1, l2, l3⟩ := h
  exact ⟨⟨dx, dn, dr, rs, s _ _ h1, s _ _ h2, s _ _ h3, L2.Paired.mapP h4 fun a q e => s _ _ e⟩, n1, n2, l1, l2, l3⟩
/-- where the things of a Holding stand -/
structure Hd where
  p : Addr
  dn : Addr
  dr : Addr
  rs : List Addr
def Hd.fp (h : Hd) : List Addr := h.p :: h.dn :: h.dr :: h.rs
structure HoldF (C : Addr) (H : Hp) (h : Hd) (nm : Nms) (rw : Rws) : Prop where
  ob : ∃ dx, H h.p = some (.ins C dx (fldH h.dn h.dr)) ∧ H h.dn = some (.dK (nmK nm)) ∧ H h.dr = some (.dK (rwK (rw.map (·.1)) h.rs)) ∧ Paired (fun a (q : Str × List Int) => H a = some (.lst (q.2.map V.int))) h.rs rw
  n1 : (nm.map (·.1)).Nodup
  n2 : (rw.map (·.1)).Nodup
  l1 : nm.length ≤ 100
  l2 : rw.length ≤ 100
  l3 : ∀ q ∈ rw, q.2.length ≤ 100
theorem HoldF.at {C : Addr} {H : Hp} {h : Hd} {nm : Nms} {rw : Rws} (x : HoldF C H h nm rw) : HoldAt C H h.p nm rw := by
  obtain ⟨⟨dx, h1, h2, h3, h4⟩, n1, n2, l1, l2, l3⟩ := x
  exact ⟨⟨dx, h.dn, h.dr, h.rs, h1, h2, h3, h4⟩, n1, n2, l1, l2, l3⟩
/-- it stands where its own things stay -/
theorem paired_memL {α β : Type} {F G : α → β → Prop} : ∀ {l : List α} {m : List β}, Paired F l m → (∀ a ∈ l, ∀ b, F a b → G a b) → Paired G l m
  | _, _, .nil, _ => .nil
  | _, _, .cons r t, f => .cons (f _ (List.mem_cons_self ..) _ r) (paired_memL t fun a ha b => f a (List.mem_cons_of_mem _ ha) b)
theorem HoldF.fr {C : Addr} {H H' : Hp} {h : Hd} {nm : Nms} {rw : Rws} (x : HoldF C H h nm rw) (s : ∀ b ∈ h.fp, ∀ u, H b = some u → H' b = some u) : HoldF C H' h nm rw := by
  obtain ⟨⟨dx, h1, h2, h3, h4⟩, n1, n2, l1, l2, l3⟩ := x
  refine ⟨⟨dx, s _ (List.mem_cons_self ..) _ h1, s _ (List.mem_cons_of_mem _ (List.mem_cons_self ..)) _ h2, s _ (List.mem_cons_of_mem _ (List.mem_cons_of_mem _ (List.mem_cons_self ..))) _ h3, paired_memL h4 fun a ha q e => s a (List.mem_cons_of_mem _ (List.mem_cons_of_mem _ (List.mem_cons_of_mem _ ha))) _ e⟩, n1, n2, l1, l2, l3⟩
theorem HoldF.same {C : Addr} {H H' : Hp} {h : Hd} {nm : Nms} {rw : Rws} (x : HoldF C H h nm rw) (s : Same H H') : HoldF C H' h nm rw := x.fr fun b _ u e => s b u e
theorem paired_left {α β : Type} {F : α → β → Prop} : ∀ {l : List α} {m : List β} {a : α}, Paired F l m → a ∈ l → ∃ b ∈ m, F a b
  | _, _, _, .nil, h => nomatch h
  | _, _, _, .cons r t, h => by
    rcases List.mem_cons.mp h with rfl | h
    · exact ⟨_, List.mem_cons_self .., r⟩
    · obtain ⟨b, hb, q⟩ := paired_left t h
      exact ⟨b, List.mem_cons_of_mem _ hb, q⟩
/-- what stands at its addresses: no tuple, no table -/
def Own (b : Addr) (u : HO) : Prop := (∃ C dx fs, u = .ins C dx fs) ∨ (∃ xs, u = .lst xs) ∨ (∃ kvs, u = .dK kvs) ∨ (∃ kvs, u = .dT kvs) ∨ ∃ (w : World) (xs : List (NestedKey × Value × Value)), u = MixO w b xs
theorem HoldF.own {C : Addr} {H : Hp} {h : Hd} {nm : Nms} {rw : Rws} (x : HoldF C H h nm rw) : ∀ b ∈ h.fp, ∃ u, H b = some u ∧ Own b u := fun b hb => by
  obtain ⟨⟨dx, h1, h2, h3, h4⟩, n1, n2, l1, l2, l3⟩ := x
  rcases List.mem_cons.mp hb with rfl | hb
  · exact ⟨_, h1, .inl ⟨_, _, _, rfl⟩⟩
  rcases List.mem_cons.mp hb with rfl | hb
  · exact ⟨_, h2, .inr (.inr (.inl ⟨_, rfl⟩))⟩
  rcases List.mem_cons.mp hb with rfl | hb
  · exact ⟨_, h3, .inr (.inr (.inl ⟨_, rfl⟩))⟩
  obtain ⟨q, _, e⟩ := paired_left h4 hb
  exact ⟨_, e, .inr (.inl ⟨_, rfl⟩)⟩
theorem own_new {C : Addr} {H : Hp} {h : Hd} {nm : Nms} {rw : Rws} (x : HoldF C H h nm rw) {b : Addr} (e : H b = none) : b ∉ h.fp := fun hb => by
  obtain ⟨u, hu, _⟩ := x.own b hb
  rw [e] at hu
  cases hu
theorem free_of {H H' : Hp} {p b : Addr} {o : HO} (s : ButL [p] H H') (hp : H' p = some o) (e : H' b = none) : H b = none := by
  cases h : H b with
  | none => rfl
  | some u =>
    by_cases z : b = p
    · rw [z, hp] at e; cases e
    · rw [s b u (fun c => z (List.mem_singleton.mp c)) h] at e; cases e
/-- what the class must be -/
structure HCls (K : PySem.W.Frag) (C : Addr) : Prop where
  cl : Cls K C
  nN : NoAttr K C "numbers"
  nR : NoAttr K C "rows"
/-- pairs of names and values, as lists or as tuples -/
def Pn (K : PySem.W.Frag) (H : Hp) (x : V) (nm : Nms) : Prop := ∃ a xs, x = .ref a ∧ Sq K H a xs ∧ Paired (fun (v : V) (q : Str × Int) => ∃ b, v = .ref b ∧ Sq K H b [.str q.1, .int q.2]) xs nm
def Pr (K : PySem.W.Frag) (H : Hp) (x : V) (rw : Rws) : Prop := ∃ a xs, x = .ref a ∧ Sq K H a xs ∧ Paired (fun (v : V) (q : Str × List Int) => ∃ b c, v = .ref b ∧ Sq K H b [.str q.1, .ref c] ∧ Sq K H c (q.2.map V.int)) xs rw
theorem Pn.same {K : PySem.W.Frag} {H H' : Hp} {x : V} {nm : Nms} (h : Pn K H x nm) (s : Same H H') : Pn K H' x nm := by
  obtain ⟨a, xs, rfl, h1, h2⟩ := h
  exact ⟨a, xs, rfl, h1.same s, L2.Paired.mapP h2 fun v q ⟨b, e, z⟩ => ⟨b, e, z.same s⟩⟩
theorem Pr.same {K : PySem.W.Frag} {H H' : Hp} {x : V} {rw : Rws} (h : Pr K H x rw) (s : Same H H') : Pr K H' x rw := by
  obtain ⟨a, xs, rfl, h1, h2⟩ := h
  exact ⟨a, xs, rfl, h1.same s, L2.Paired.mapP h2 fun v q ⟨b, c, e, z, y⟩ => ⟨b, c, e, z.same s, y.same s⟩⟩
theorem paired_at {α β : Type} {F : α → β → Prop} : ∀ {l : List α} {m : List β} {i : Nat} {x : α}, Paired F l m → l[i]? = some x → ∃ y, m[i]? = some y ∧ F x y
  | _, _, i, x, .nil, h => by simp at h
  | _, _, 0, x, .cons r t, h => by cases (Option.some.inj h); exact ⟨_, rfl, r⟩
  | _, _, i + 1, x, .cons r t, h => paired_at (i := i) t h
theorem paired_len {α β : Type} {F : α → β → Prop} : ∀ {l : List α} {m : List β}, Paired F l m → l.length = m.length
  | _, _, .nil => rfl
  | _, _, .cons r t => congrArg (· + 1) (paired_len t)
/-- a key that is not there goes behind -/
theorem putK_fresh {kvs : List (L2.Key × V)} {z : Str} {v : V} (h : ∀ q ∈ kvs, q.1 ≠ Sum.inr z) : putK kvs (Sum.inr z) v = kvs ++ [(Sum.inr z, v)] := by
  refine putK_new _ ?_
  unfold valV
  rw [List.find?_eq_none.mpr fun q hq c => h q hq (of_decide_eq_true c)]
  rfl
theorem nm_new {α : Type} {nm : List (Str × α)} {i : Nat} {z : Str × α} {g : α → V} (nd : (nm.map (·.1)).Nodup) (e : nm[i]? = some z) : ∀ q ∈ (nm.take i).map (fun q => ((Sum.inr q.1 : L2.Key), g q.2)), q.1 ≠ Sum.inr z.1 := fun q hq c => by
  obtain ⟨y, hy, rfl⟩ := List.mem_map.mp hq
  obtain ⟨j, ej⟩ := List.mem_iff_getElem?.mp hy
  have hj : j < i := by
    have := (List.getElem?_eq_some_iff.mp ej).1
    rw [List.length_take] at this
    omega
  rw [List.getElem?_take, if_pos hj] at ej
  have c : y.1 = z.1 := Sum.inr.inj c
  have e1 : (nm.map (·.1))[j]? = some z.1 := by rw [List.getElem?_map, ej]; exact congrArg some c
  have e2 : (nm.map (·.1))[i]? = some z.1 := by rw [List.getElem?_map, e]; rfl
  have := (List.getElem?_inj (List.getElem?_eq_some_iff.mp e1).1 nd).mp (e1.trans e2.symm)
  omega
section
variable {P : Program} {w : World} {K : PySem.W.Frag} {mg : Str → Option Value} {base : Heap} {f : Addr} {fd : FuncData} {C : Addr}
def spHI (K : PySem.W.Frag) (C : Addr) : Sp := fun vs H Q _ => ∃ (p dx : Addr) (x y : V) (nm : Nms) (rw : Rws), vs = [.ref p, x, y] ∧ H p = some (.ins C dx []) ∧ Pn K H x nm ∧ Pr K H y rw ∧ (nm.map (·.1)).Nodup ∧ (rw.map (·.1)).Nodup ∧ nm.length ≤ 100 ∧ rw.length ≤ 100 ∧ (∀ q ∈ rw, q.2.length ≤ 100) ∧
  ∀ H' (h : Hd), ButL [p] H H' → h.p = p → HoldF C H' h nm rw → (∀ b ∈ h.dn :: h.dr :: h.rs, H b = none) → h.fp.Nodup → Q .non H'
theorem scHI : FnScope ["self", "names", "lists", "name", "value", "row"] ["self", "names", "lists"] (defScope sHI) := ⟨rfl, rfl, rfl, by decide +kernel, rfl, by decide +kernel, by decide +kernel⟩
theorem ok_hi {k : Nat} (F : Fun K "__init__" "Holding.__init__" sHI f fd) (c : HCls K C) (m_list : mg "list" = none) : FnOk P w K mg base CX0 (k + 1) f fd ["self", "names", "lists"] (spHI K C) := by
  have sc := scHI
  refine F.ok sc (fun vs H Q E h => ?_) (fun cdv A outer s H vs Q E hr h => ?_)
  · obtain ⟨p, dx, x, y, nm, rw, rfl, _⟩ := h
    rfl
  obtain ⟨p, dx, x, y, nm, rw, rfl, hp, hx, hy, n1, n2, l1, l2, l3, q⟩ := h
  refine ⟨_, (pss_cons (ps_fld (pv 0) (pe_dc (own := [("name", 3), ("value", 4)]) (g := gOr (gTup K 2 (gCons (gName 3) (gCons (gName 4) gNil))) (gLst K 2 (gCons (gName 3) (gCons (gName 4) gNil)))) (by rfl) sc.nd (pi_or (pi_list (pv 1)) (pi_tup (pv 1))) (blkOk_by (own := [("name", 3), ("value", 4)]) (N := ["self", "names", "lists", "name", "value", "row"]) (sc := defScope sHI) (by decide +kernel)) (fun _ _ _ _ _ => (pg_or (pg_tup (by rfl) (pgs_cons (pg_name (i := 3) sc.nd rfl (.inl rfl)) (pgs_cons (pg_name (i := 4) sc.nd rfl (.inl rfl)) pgs_nil))) (pg_lst (by rfl) (pgs_cons (pg_name (i := 3) sc.nd rfl (.inl rfl)) (pgs_cons (pg_name (i := 4) sc.nd rfl (.inl rfl)) pgs_nil))))) (fun _ _ _ _ _ => pts_nil) (fun _ _ _ _ _ => (pv 3)) (fun _ _ _ _ _ => (pv 4))) rfl)
      (pss_one (ps_fld (pv 0) (pe_dc (own := [("name", 3), ("row", 5)]) (g := gOr (gTup K 2 (gCons (gName 3) (gCons (gName 5) gNil))) (gLst K 2 (gCons (gName 3) (gCons (gName 5) gNil)))) (by rfl) sc.nd (pi_or (pi_list (pv 2)) (pi_tup (pv 2))) (blkOk_by (own := [("name", 3), ("row", 5)]) (N := ["self", "names", "lists", "name", "value", "row"]) (sc := defScope sHI) (by decide +kernel)) (fun _ _ _ _ _ => (pg_or (pg_tup (by rfl) (pgs_cons (pg_name (i := 3) sc.nd rfl (.inl rfl)) (pgs_cons (pg_name (i := 5) sc.nd rfl (.inl rfl)) pgs_nil))) (pg_lst (by rfl) (pgs_cons (pg_name (i := 3) sc.nd rfl (.inl rfl)) (pgs_cons (pg_name (i := 5) sc.nd rfl (.inl rfl)) pgs_nil))))) (fun _ _ _ _ _ => pts_nil) (fun _ _ _ _ _ => (pv 3)) (fun _ _ _ _ _ => (pe_callTy (show CallR _ (.type "list") (rListO K) from call_list_of) (by rfl) m_list (by decide +kernel) (pa_cons (pv 5) pa_nil)))) rfl))), ?_⟩
  obtain ⟨xa, xs, rfl, hxs, px⟩ := hx
  have lx := paired_len px
  refine sq_it rfl hxs fun J wk D nD => dcg_it (put := putS) wk (fun i HB => Same H HB ∧ HB D = some (.dK (nmK (nm.take i)))) ⟨same_upd nD, upd_same⟩ (fun i HB _ h => h.1) ?_ ?_
  · rintro i v _ HB hi ⟨sm, hD⟩ ⟨rfl, ex⟩
    obtain ⟨z, ez, b, rfl, hb⟩ := paired_at px ex
    refine sq_or (hb.same sm) rfl ⟨_, _, rfl, _, _, rfl, rfl, rfl, ?_⟩
    unfold tYes
    refine iteT ⟨_, rfl, _, rfl, nmK (nm.take i), Sum.inr z.1, rfl, hD, ?_, Fd.Same.putN sm nD, ?_⟩
    · unfold nmK
      rw [List.length_map, List.length_take]
      exact small1000 (by omega)
    · rw [upd_same, putK_fresh, List.take_succ, ez]
      · unfold nmK
        rw [List.map_append]
        rfl
      · exact nm_new n1 ez
  rintro HB ⟨sm, hD⟩
  rw [List.take_of_length_le (by rw [lx]; exact Nat.le_refl _)] at hD
  have hp1 := sm _ _ hp
  refine ⟨_, rfl, p, C, dx, [], rfl, hp1, c.cl, c.nN, by decide, ?_⟩
  have b1 : ButL [p] H (upd HB p (.ins C dx (putF "numbers" (.ref D) []))) := fun b o nb hb => by
    rw [upd_ne fun z => nb (List.mem_singleton.mpr z)]
    exact sm _ _ hb
  have hp2 : (upd HB p (.ins C dx (putF "numbers" (.ref D) []))) p = some (.ins C dx [("numbers", .ref D)]) := upd_same
  have npD : D ≠ p := fun z => by rw [z, hp1] at hD; cases hD
  have hD2 : (upd HB p (.ins C dx (putF "numbers" (.ref D) []))) D = some (.dK (nmK nm)) := by rw [upd_ne npD]; exact hD
  generalize upd HB p (.ins C dx (putF "numbers" (.ref D) [])) = H2 at *
  have fr : H D = none := nD
  clear nD hD sm hp1
  obtain ⟨ya, ys, rfl, hys, py⟩ := hy
  have ly := paired_len py
  have hy2 := hys.but hp b1
  refine sq_it rfl hy2 fun J wk Dr nDr => dcg_it (put := putS) wk (fun i HB => Same H2 HB ∧ ∃ rs, HB Dr = some (.dK (rwK ((rw.take i).map (·.1)) rs)) ∧ Paired (fun a (q : Str × List Int) => HB a = some (.lst (q.2.map V.int))) rs (rw.take i) ∧ (∀ a ∈ rs, a ≠ Dr) ∧ (∀ a ∈ rs, H2 a = none) ∧ rs.Nodup) ⟨same_upd nDr, [], upd_same, .nil, (fun a h => nomatch h), (fun a h => nomatch h), .nil⟩ (fun i HB _ h => h.1) ?_ ?_
  · rintro i v _ HB hi ⟨sm, rs, hD, pr, nr, fr2, ndr⟩ ⟨rfl, ex⟩
    obtain ⟨z, ez, b, cc, rfl, hb, hc⟩ := paired_at py ex
    have lrs := paired_len pr
    refine sq_or ((hb.but hp b1).same sm) rfl ⟨_, _, rfl, _, _, rfl, rfl, rfl, ?_⟩
    unfold tYes
    refine iteT ⟨_, rfl, _, rfl, cc, _, rfl, (hc.but hp b1).same sm, fun l nl => ?_⟩
    have sl := same_upd (o := .lst (z.2.map V.int)) nl
    have hl := upd_same (H := HB) (a := l) (o := .lst (z.2.map V.int))
    have lD : l ≠ Dr := fun e => by rw [e, hD] at nl; cases nl
    have l2 : H2 l = none := by
      cases e : H2 l with
      | none => rfl
      | some u => rw [sm _ _ e] at nl; cases nl
    have lrs' : l ∉ rs := fun hl => by
      obtain ⟨q, _, e⟩ := paired_left pr hl
      rw [nl] at e
      cases e
    have hD' := sl _ _ hD
    have pr' := L2.Paired.mapP pr fun a q e => sl _ _ e
    generalize upd HB l (.lst (z.2.map V.int)) = HC at *
    refine ⟨_, Sum.inr z.1, rfl, hD', ?_, Fd.Same.putN (sm.trans sl) nDr, rs ++ [l], ?_, ?_, ?_, fun a ha => ?_, ?_⟩
    · unfold rwK
      rw [List.length_map, List.length_zip, List.length_map, List.length_take]
      exact small1000 (by omega)
    · rw [upd_same, putK_fresh]
      · rw [List.take_succ, ez]
        unfold rwK
        rw [List.map_append, List.zip_append (by rw [List.length_map]; exact lrs.symm), List.map_append]
        rfl
      · intro q hq
        unfold rwK at hq
        obtain ⟨y, hy, rfl⟩ := List.mem_map.mp hq
        have hm := (List.of_mem_zip (show (y.1, y.2) ∈ _ from hy)).1
        intro c
        obtain ⟨u, hu, e⟩ := List.mem_map.mp hm
        exact nm_new (g := fun _ => V.non) n2 ez _ (List.mem_map.mpr ⟨u, hu, rfl⟩) (by rw [← c, e])
    · rw [List.take_succ, ez]
      refine paired_snoc (paired_mem pr' fun a ha q e => ?_) ?_
      · rw [upd_ne (nr a ha)]
        exact e
      · rw [upd_ne lD]
        exact hl
    · intro a ha
      rcases List.mem_append.mp ha with ha | ha
      · exact nr a ha
      · rw [List.mem_singleton.mp ha]
        exact lD
    · rcases List.mem_append.mp ha with ha | ha
      · exact fr2 a ha
      · rw [List.mem_singleton.mp ha]
        exact l2
    · rw [List.nodup_append]
      refine ⟨ndr, by simp, fun x hx y hy e => ?_⟩
      rw [List.mem_singleton.mp hy] at e
      rw [e] at hx
      exact lrs' hx
  rintro HB ⟨sm, rs, hD, pr, nr, fr2, ndr⟩
  rw [List.take_of_length_le (by rw [ly]; exact Nat.le_refl _)] at hD pr
  have hp3 := sm _ _ hp2
  refine ⟨_, rfl, p, C, dx, _, rfl, hp3, c.cl, c.nR, (show 1 < 1000 by decide), ?_⟩
  have ef : putF "rows" (.ref Dr) [(("numbers" : Str), V.ref D)] = fldH D Dr := by
    show (if ("numbers" : Str) = "rows" then _ else _) = _
    rw [if_neg kNR']
    rfl
  rw [ef]
  have ne : ∀ {b o}, HB b = some o → o ≠ .ins C dx [("numbers", .ref D)] → b ≠ p := fun {b o} e n z => by
    rw [z, hp3] at e
    exact n (Option.some.inj e).symm
  have fDr : H Dr = none := free_of b1 hp2 nDr
  have frs : ∀ a ∈ rs, H a = none := fun a ha => free_of b1 hp2 (fr2 a ha)
  refine q _ ⟨p, D, Dr, rs⟩ (fun b o nb hb => ?_) rfl ⟨⟨dx, upd_same, ?_, ?_, ?_⟩, n1, n2, l1, l2, l3⟩ (fun b hb => ?_) ?_
  · rw [upd_ne fun z => nb (List.mem_singleton.mpr z)]
    exact sm _ _ (b1 b o nb hb)
  · show upd HB p _ D = _
    rw [upd_ne npD]
    exact sm _ _ hD2
  · show upd HB p _ Dr = _
    rw [upd_ne (ne hD nofun)]
    exact hD
  · exact L2.Paired.mapP pr fun a q e => by rw [upd_ne (ne e nofun)]; exact e
  · rcases List.mem_cons.mp hb with rfl | hb
    · exact fr
    rcases List.mem_cons.mp hb with rfl | hb
    · exact fDr
    · exact frs b hb
  · have hpn : ∀ {b}, H b = none → p ≠ b := fun e z => by rw [← z, hp] at e; cases e
    have hDn : ∀ {b}, H2 b = none → D ≠ b := fun e z => by rw [← z, hD2] at e; cases e
    refine List.nodup_cons.mpr ⟨fun c => ?_, List.nodup_cons.mpr ⟨fun c => ?_, List.nodup_cons.mpr ⟨fun c => nr _ c rfl, ndr⟩⟩⟩
    · rcases List.mem_cons.mp c with z | c
      · exact hpn fr z
      rcases List.mem_cons.mp c with z | c
      · exact hpn fDr z
      · exact hpn (frs _ c) rfl
    · rcases List.mem_cons.mp c with z | c
      · exact hDn nDr z
      · exact hDn (fr2 _ c) rfl
end
end Fd

set_option Elab.async false
set_option linter.all false
set_option maxRecDepth 100000
set_option maxHeartbeats 1000000
namespace Fd
open PySem PySem.Spec PyProof.Rows L2 RZ Fw LamX
/-! v stands for d, its lists at the addresses as, no two alike -/
mutual
inductive Tr (K : PySem.W.Frag) (H : Hp) : V → PyData → List Addr → Prop
  | none : Tr K H .non .none []
  | bool (b : Bool) : Tr K H (.bl b) (.bool b) []
  | int (i : Int) : Tr K H (.int i) (.int i) []
  | str (x : Str) : Tr K H (.str x) (.str x) []
  | lst {a : Addr} {xs : List V} {ds : List PyData} {as : List Addr} : H a = some (.lst xs) → TrA K H xs ds as → a ∉ as → Tr K H (.ref a) (.list ds) (a :: as)
  | tup {a : Addr} {xs : List V} {ds : List PyData} {as : List Addr} : SqT K H a xs → TrA K H xs ds as → Tr K H (.ref a) (.tuple ds) as
inductive TrA (K : PySem.W.Frag) (H : Hp) : List V → List PyData → List Addr → Prop
  | nil : TrA K H [] [] []
  | cons {v : V} {d : PyData} {as bs : List Addr} {vs : List V} {ds : List PyData} : Tr K H v d as → TrA K H vs ds bs → (∀ b ∈ as, b ∉ bs) → TrA K H (v :: vs) (d :: ds) (as ++ bs)
end
/-- H' keeps what the tree stands on -/
structure Kp (as : List Addr) (H H' : Hp) : Prop where
  l : ∀ b xs, H b = some (.lst xs) → b ∈ as → H' b = some (.lst xs)
  t : ∀ b xs, H b = some (.tup xs) → H' b = some (.tup xs)
  f : ∀ b o xs, H b = some (.frz o (.tup xs)) → H' b = some (.frz o (.tup xs))
theorem Kp.sub {as bs : List Addr} {H H' : Hp} (h : Kp as H H') (s : ∀ b ∈ bs, b ∈ as) : Kp bs H H' := ⟨fun b o e c => h.l b o e (s b c), h.t, h.f⟩
theorem Kp.same {as : List Addr} {H H' : Hp} (s : Same H H') : Kp as H H' := ⟨fun b o e _ => s b _ e, fun b o e => s b _ e, fun b o xs e => s b _ e⟩
theorem Kp.ext {as : List Addr} {H H' : Hp} (s : ExtN H H') : Kp as H H' := ⟨fun b o e _ => s b _ e nofun, fun b o e => s b _ e nofun, fun b o xs e => s b _ e nofun⟩
theorem sqT_kp {K : PySem.W.Frag} {as : List Addr} {H H' : Hp} {a : Addr} {xs : List V} (s : Kp as H H') (h : SqT K H a xs) : SqT K H' a xs := by
  rcases h with (h | ⟨o, h⟩) | h
  · exact .inl (.inl (s.t _ _ h))
  · exact .inl (.inr ⟨o, s.f _ _ _ h⟩)
  · exact .inr h
mutual
theorem tr_kp {K : PySem.W.Frag} {H H' : Hp} : ∀ (d : PyData) (v : V) (as : List Addr), Kp as H H' → Tr K H v d as → Tr K H' v d as
  | .none, _, _, _, h => by cases h; exact .none
  | .bool _, _, _, _, h => by cases h; exact .bool _
  | .int _, _, _, _, h => by cases h; exact .int _
  | .str _, _, _, _, h => by cases h; exact .str _
  | .dict _, _, _, _, h => by cases h
  | .tuple ds, _, _, s, h => by
    cases h with
    | tup h1 h2 => exact .tup (sqT_kp s h1) (trA_kp ds _ _ s h2)
  | .list ds, _, _, s, h => by
    cases h with
    | lst h1 h2 h3 => exact .lst (s.l _ _ h1 (List.mem_cons_self ..)) (trA_kp ds _ _ (s.sub fun b hb => List.mem_cons_of_mem _ hb) h2) h3
theorem trA_kp {K : PySem.W.Frag} {H H' : Hp} : ∀ (ds : List PyData) (vs : List V) (as : List Addr), Kp as H H' → TrA K H vs ds as → TrA K H' vs ds as
  | [], _, _, _, h => by cases h; exact .nil
  | d :: ds, _, _, s, h => by
    cases h with
    | cons h1 h2 h3 => exact .cons (tr_kp d _ _ (s.sub fun b hb => List.mem_append_left _ hb) h1) (trA_kp ds _ _ (s.sub fun b hb => List.mem_append_right _ hb) h2) h3
end
mutual
theorem tr_dp {K : PySem.W.Frag} {H : Hp} : ∀ (d : PyData) (v : V) (as : List Addr), Tr K H v d as → Dp K H v d
  | .none, _, _, h => by cases h; exact .non
  | .bool _, _, _, h => by cases h; exact .bl _
  | .int _, _, _, h => by cases h; exact .int _
  | .str _, _, _, h => by cases h; exact .str _
  | .dict _, _, _, h => by cases h
  | .tuple ds, _, _, h => by
    cases h with
    | tup h1 h2 => exact .tup h1 (trA_dp ds _ _ h2)
  | .list ds, _, _, h => by
    cases h with
    | lst h1 h2 h3 => exact .lst (SqL.of h1) (trA_dp ds _ _ h2)
theorem trA_dp {K : PySem.W.Frag} {H : Hp} : ∀ (ds : List PyData) (vs : List V) (as : List Addr), TrA K H vs ds as → DpAll K H vs ds
  | [], _, _, h => by cases h; exact .nil
  | d :: ds, _, _, h => by
    cases h with
    | cons h1 h2 h3 => exact .cons (tr_dp d _ _ h1) (trA_dp ds _ _ h2)
end
mutual
theorem tr_in {K : PySem.W.Frag} {H : Hp} : ∀ (d : PyData) (v : V) (as : List Addr), Tr K H v d as → ∀ b ∈ as, ∃ u, H b = some (.lst u)
  | .none, _, _, h => by cases h; intro b hb; cases hb
  | .bool _, _, _, h => by cases h; intro b hb; cases hb
  | .int _, _, _, h => by cases h; intro b hb; cases hb
  | .str _, _, _, h => by cases h; intro b hb; cases hb
  | .dict _, _, _, h => by cases h
  | .tuple ds, _, _, h => by
    cases h with
    | tup h1 h2 => exact trA_in ds _ _ h2
  | .list ds, _, _, h => by
    cases h with
    | lst h1 h2 h3 =>
      intro b hb
      rcases List.mem_cons.mp hb with z | z
      · rw [z]; exact ⟨_, h1⟩
      · exact trA_in ds _ _ h2 b z
theorem trA_in {K : PySem.W.Frag} {H : Hp} : ∀ (ds : List PyData) (vs : List V) (as : List Addr), TrA K H vs ds as → ∀ b ∈ as, ∃ u, H b = some (.lst u)
  | [], _, _, h => by cases h; intro b hb; cases hb
  | d :: ds, _, _, h => by
    cases h with
    | cons h1 h2 h3 =>
      intro b hb
      rcases List.mem_append.mp hb with z | z
      · exact tr_in d _ _ h1 b z
      · exact trA_in ds _ _ h2 b z
end
theorem trA_app {K : PySem.W.Frag} {H : Hp} {ws : List V} {es : List PyData} {bs : List Addr} (hw : TrA K H ws es bs) : ∀ {vs : List V} {ds : List PyData} {as : List Addr}, TrA K H vs ds as → (∀ b ∈ as, b ∉ bs) → TrA K H (vs ++ ws) (ds ++ es) (as ++ bs)
  | [], _, _, h, _ => by
    cases h
    exact hw
  | x :: vs, _, _, h, e => by
    cases h with
    | cons h1 h2 h3 =>
      rw [List.append_assoc]
      exact .cons h1 (trA_app hw h2 fun b hb => e b (List.mem_append_right _ hb)) fun b hb z => by
        rcases List.mem_append.mp z with z | z
        · exact h3 b hb z
        · exact e b (List.mem_append_left _ hb) z
theorem trA_snoc {K : PySem.W.Frag} {H : Hp} {v : V} {d : PyData} {bs : List Addr} (hv : Tr K H v d bs) {vs : List V} {ds : List PyData} {as : List Addr} (h : TrA K H vs ds as) (e : ∀ b ∈ as, b ∉ bs) : TrA K H (vs ++ [v]) (ds ++ [d]) (as ++ bs) := by
  have := TrA.cons hv .nil (fun b _ z => by cases z)
  rw [List.append_nil] at this
  exact trA_app this h e
theorem trA_ints {K : PySem.W.Frag} {H : Hp} : ∀ ms : List Int, TrA K H (ms.map V.int) (ms.map PyData.int) []
  | [] => .nil
  | m :: r => .cons (as := []) (bs := []) (.int m) (trA_ints r) (fun b z => by cases z)
theorem trA_strs {K : PySem.W.Frag} {H : Hp} : ∀ ms : List Str, TrA K H (ms.map V.str) (ms.map PyData.str) []
  | [] => .nil
  | m :: r => .cons (as := []) (bs := []) (.str m) (trA_strs r) (fun b z => by cases z)
theorem same_free {H H' : Hp} (s : Same H H') {b : Addr} (h : H' b = none) : H b = none := by
  cases e : H b with
  | none => rfl
  | some u => rw [s _ _ e] at h; cases h
/-- things being gathered in a list at D -/
def BldT (K : PySem.W.Frag) (D : Addr) (H : Hp) (ds : List PyData) (H' : Hp) : Prop := Same H H' ∧ ∃ vs as, H' D = some (.lst vs) ∧ TrA K H' vs ds as ∧ D ∉ as ∧ ∀ b ∈ as, H b = none
theorem BldT.nil {K : PySem.W.Frag} {D : Addr} {H : Hp} (n : H D = none) : BldT K D H [] (upd H D (.lst [])) := ⟨same_upd n, [], [], upd_same, .nil, (fun z => by cases z), fun b z => by cases z⟩
theorem BldT.push {K : PySem.W.Frag} {D : Addr} {H H1 H2 : Hp} {ds : List PyData} {y : V} {d : PyData} {bs : List Addr} (B : BldT K D H ds H1) (nD : H D = none) (s : Same H1 H2) (hy : Tr K H2 y d bs) (fr : ∀ b ∈ bs, H1 b = none) (hl : ds.length ≤ 999) :
    ∃ acc, H2 D = some (.lst acc) ∧ acc.length < sizeLine ∧ BldT K D H (ds ++ [d]) (upd H2 D (.lst (acc ++ [y]))) := by
  obtain ⟨sB, vs, as, hD, hT, nd, fa⟩ := B
  have i1 := trA_in _ _ _ hT
  have len : vs.length = ds.length := dpAll_len (trA_dp _ _ _ hT)
  have Db : D ∉ bs := fun z => by rw [fr D z] at hD; cases hD
  have hD2 := s _ _ hD
  have kp : ∀ {cs : List Addr}, D ∉ cs → Kp cs H2 (upd H2 D (.lst (vs ++ [y]))) := fun {cs} n => ⟨fun b o e c => by rw [upd_ne (fun z => n (by rw [← z]; exact c))]; exact e, fun b o e => by rw [upd_ne (ne_of e hD2 nofun)]; exact e, fun b o xs e => by rw [upd_ne (ne_of e hD2 nofun)]; exact e⟩
  have hT2 := trA_kp _ _ _ (kp nd) (trA_kp _ _ _ (Kp.same s) hT)
  have hy2 := tr_kp _ _ _ (kp Db) hy
  refine ⟨vs, hD2, small1000 (by omega), fun b o h => ?_, vs ++ [y], as ++ bs, upd_same, trA_snoc hy2 hT2 fun b hb z => ?_, fun z => ?_, fun b hb => ?_⟩
  · rw [upd_ne (ne_of_none h nD)]
    exact s _ _ (sB _ _ h)
  · obtain ⟨u, hu⟩ := i1 b hb
    rw [fr b z] at hu
    cases hu
  · rcases List.mem_append.mp z with z | z
    · exact nd z
    · exact Db z
  · rcases List.mem_append.mp hb with z | z
    · exact fa b z
    · exact same_free sB (fr b z)
/-- the list that was gathered -/
theorem BldT.tr {K : PySem.W.Frag} {D : Addr} {H H' : Hp} {ds : List PyData} (B : BldT K D H ds H') (nD : H D = none) : ∃ as, Tr K H' (.ref D) (.list ds) as ∧ ∀ b ∈ as, H b = none := by
  obtain ⟨sB, vs, as, hD, hT, nd, fa⟩ := B
  refine ⟨D :: as, .lst hD hT nd, fun b hb => ?_⟩
  rcases List.mem_cons.mp hb with z | z
  · rw [z]; exact nD
  · exact fa b z
/-- a new thing comes back that stands for d -/
def RetT (K : PySem.W.Frag) (H : Hp) (d : PyData) (Q : VK) : Prop := ∀ v H' as, Same H H' → Tr K H' v d as → (∀ b ∈ as, H b = none) → Q v H'
def prD (q : Str × Int) : PyData := .tuple [.str q.1, .int q.2]
def nmD (nm : Nms) : PyData := .list (nm.map prD)
def rpD (q : Str × List Int) : PyData := .tuple [.str q.1, .list (q.2.map .int)]
def rwD (rw : Rws) : PyData := .list (rw.map rpD)
end Fd

set_option Elab.async false
set_option linter.all false
set_option maxRecDepth 100000
set_option maxHeartbeats 1000000
namespace Fd
open PySem PySem.Spec PyProof.Rows L2 RZ Fw
theorem nmK_at {nm : Nms} {i : Nat} {k : L2.Key} {v : V} (e : (nmK nm)[i]? = some (k, v)) : ∃ q, nm[i]? = some q ∧ k = Sum.inr q.1 ∧ v = .int q.2 := by
  unfold nmK at e
  rw [List.getElem?_map] at e
  obtain ⟨q, eq, h⟩ := Option.map_eq_some_iff.mp e
  cases h
  exact ⟨q, eq, rfl, rfl⟩
theorem val_map {α : Type} {g : α → V} : ∀ {l : List (Str × α)} {i : Nat} {q : Str × α}, (l.map (·.1)).Nodup → l[i]? = some q → valV (l.map fun q => ((Sum.inr q.1 : L2.Key), g q.2)) (Sum.inr q.1) = some (g q.2)
  | [], i, q, _, e => by simp at e
  | x :: l, 0, q, _, e => by
    cases (Option.some.inj e)
    unfold valV
    rw [List.map_cons, List.find?_cons, decide_eq_true rfl]
    rfl
  | x :: l, i + 1, q, nd, e => by
    obtain ⟨n1, n2⟩ := List.nodup_cons.mp nd
    have ih := val_map (g := g) (i := i) n2 e
    have ne : (Sum.inr x.1 : L2.Key) ≠ Sum.inr q.1 := fun c => n1 (List.mem_map.mpr ⟨q, List.mem_of_getElem? e, (Sum.inr.inj c).symm⟩)
    unfold valV at *
    rw [List.map_cons, List.find?_cons, decide_eq_false ne]
    exact ih
theorem rwK_at {ks : List Str} {rs : List Addr} {i : Nat} {k : L2.Key} {v : V} (e : (rwK ks rs)[i]? = some (k, v)) : ∃ z a, ks[i]? = some z ∧ rs[i]? = some a ∧ k = Sum.inr z ∧ v = .ref a := by
  unfold rwK at e
  rw [List.getElem?_map] at e
  obtain ⟨q, eq, h⟩ := Option.map_eq_some_iff.mp e
  cases h
  rw [List.getElem?_zip_eq_some] at eq
  exact ⟨q.1, q.2, eq.1, eq.2, rfl, rfl⟩
theorem val_zip {ks : List Str} {rs : List Addr} {i : Nat} {z : Str} {a : Addr} (nd : ks.Nodup) (hl : ks.length = rs.length) (e1 : ks[i]? = some z) (e2 : rs[i]? = some a) : valV (rwK ks rs) (Sum.inr z) = some (.ref a) := by
  have h : (ks.zip rs)[i]? = some (z, a) := by rw [List.getElem?_zip_eq_some]; exact ⟨e1, e2⟩
  exact val_map (g := V.ref) (l := ks.zip rs) (q := (z, a)) (by rw [List.map_fst_zip (Nat.le_of_eq hl)]; exact nd) h
/-- what a locked dict's walk leaves behind -/
theorem same_unlock {H HB : Hp} {d : Addr} {u : HO} {o : Obj} (hd : H d = some u) (s : Same (upd H d (.frz o u)) HB) : Same H (upd HB d u) := fun b x hb => by
  by_cases e : b = d
  · subst e
    rw [hd] at hb
    cases hb
    exact upd_same
  · rw [upd_ne e]
    exact s _ _ (by rw [upd_ne e]; exact hb)
section
variable {P : Program} {w : World} {K : PySem.W.Frag} {mg : Str → Option Value} {base : Heap} {f : Addr} {fd : FuncData} {C : Addr}
def spHN (K : PySem.W.Frag) (C : Addr) : Sp := fun vs H Q _ => ∃ (p : Addr) (nm : Nms) (rw : Rws), vs = [.ref p] ∧ HoldAt C H p nm rw ∧ RetT K H (nmD nm) Q
theorem scHN : FnScope ["self", "name"] ["self"] (defScope sHN) := ⟨rfl, rfl, rfl, by decide +kernel, rfl, by decide +kernel, by decide +kernel⟩
theorem tr_unlock {K : PySem.W.Frag} {HB : Hp} {d : Addr} {u : HO} {o : Obj} {x : V} {e : PyData} {as : List Addr} (hd : HB d = some (.frz o u)) (n : ∀ xs, u ≠ .tup xs) (t : Tr K HB x e as) : Tr K (upd HB d u) x e as :=
  tr_kp _ _ _ ⟨fun b xs e _ => by rw [upd_ne (ne_of e hd nofun)]; exact e, fun b xs e => by rw [upd_ne (ne_of e hd nofun)]; exact e, fun b o xs e => by rw [upd_ne (ne_of e hd fun z => n xs (by injection z with _ z; exact z.symm))]; exact e⟩ t
theorem ok_hn {k : Nat} (F : Fun K "name_pairs" "Holding.name_pairs" sHN f fd) (c : HCls K C) : FnOk P w K mg base CX0 (k + 1) f fd ["self"] (spHN K C) := by
  have sc := scHN
  refine F.ok sc (fun vs H Q E h => ?_) (fun cdv A outer s H vs Q E hr h => ?_)
  · obtain ⟨p, nm, rw, rfl, _⟩ := h
    rfl
  obtain ⟨p, nm, rw, rfl, hp, q⟩ := h
  refine ⟨_, (pss_one (ps_ret (pe_lock (pe_lc (own := [("name", 1)]) (by rfl) sc.nd  (pi_keys (pe_fld (pv 0) rfl)) (blkOk_by (own := [("name", 1)]) (N := ["self", "name"]) (sc := defScope sHN) (by decide +kernel)) (fun _ _ _ _ _ => (pg_name (i := 1) sc.nd rfl (.inl rfl))) (fun _ _ _ _ _ => pts_nil) (fun _ _ _ _ _ => (pe_tup (pa_cons (pv 1) (pa_cons (pe_dget (hu_of hr) (show PE _ _ (tFld K (tVar 0) "numbers") from pe_fld (pv 0) rfl) (pv 1) (fun _ _ => rfl)) pa_nil)))))))), ?_⟩
  obtain ⟨⟨dx, dn, dr, rs, h1, h2, h3, h4⟩, n1, n2, l1, l2, l3⟩ := hp
  refine ⟨dn, _, h2, trivial, fun od => ?_⟩
  have np : p ≠ dn := ne_of h1 h2 nofun
  have h1' : (upd H dn (.frz od (.dK (nmK nm)))) p = some (.ins C dx (fldH dn dr)) := by rw [upd_ne np]; exact h1
  have h2' : (upd H dn (.frz od (.dK (nmK nm)))) dn = some (.frz od (.dK (nmK nm))) := upd_same
  have un : ∀ {HB}, Same (upd H dn (.frz od (.dK (nmK nm)))) HB → Same H (upd HB dn (.dK (nmK nm))) := fun s => same_unlock h2 s
  have fr : ∀ b, (upd H dn (.frz od (.dK (nmK nm)))) b = none → H b = none := fun b e => by
    by_cases z : b = dn
    · rw [z, upd_same] at e; cases e
    · rw [upd_ne z] at e; exact e
  generalize upd H dn (.frz od (.dK (nmK nm))) = H0 at *
  have lk : (nmK nm).length = nm.length := by unfold nmK; exact List.length_map ..
  refine ⟨_, rfl, p, C, dx, _, _, rfl, h1', c.cl, c.nN, fldH_n _ _, dn, od, rfl, .inl ⟨nmK nm, h2', fun D nD => lc_it walk_keys (fun i HB => BldT K D H0 ((nm.take i).map prD) HB) (BldT.nil nD) (fun _ _ _ h => h.1 _ _ h2') ?_ ?_⟩⟩
  · rintro i x _ HB hi B ⟨rfl, kk, v, ek, rfl⟩
    obtain ⟨z, ez, rfl, rfl⟩ := nmK_at ek
    have sm := B.1
    refine ⟨rfl, ?_⟩
    unfold tYes
    refine iteT ⟨_, rfl, _, rfl, p, C, dx, _, _, rfl, sm _ _ h1', c.cl, c.nN, fldH_n _ _, _, rfl, dn, .int z.2, rfl, .inl ⟨nmK nm, Sum.inr z.1, .inr ⟨od, sm _ _ h2'⟩, rfl, (val_map (g := V.int) n1 ez).symm⟩, by show 2 ≤ sizeLine; decide, fun t nt => ?_⟩
    have st := same_upd (o := .tup [kV (Sum.inr z.1), .int z.2]) nt
    have ht := upd_same (H := HB) (a := t) (o := .tup [kV (Sum.inr z.1), .int z.2])
    generalize upd HB t (.tup [kV (Sum.inr z.1), .int z.2]) = HC at *
    have hy : Tr K HC (.ref t) (prD z) [] := .tup (.inl (.inl ht)) (.cons (as := []) (bs := []) (.str _) (.cons (as := []) (bs := []) (.int _) .nil (fun b z => by cases z)) (fun b z => by cases z))
    have := B.push nD st hy (fun b z => by cases z) (by rw [List.length_map, List.length_take]; omega)
    rw [List.take_succ, ez, List.map_append]
    exact this
  rintro HB B
  rw [List.take_of_length_le (by rw [lk]; exact Nat.le_refl _)] at B
  have hd := B.1 _ _ h2'
  obtain ⟨as, t, fa⟩ := B.tr nD
  exact ⟨hd, q _ _ as (un B.1) (tr_unlock hd nofun t) fun b hb => fr b (fa b hb)⟩
def spHL (K : PySem.W.Frag) (C : Addr) : Sp := fun vs H Q _ => ∃ (p : Addr) (nm : Nms) (rw : Rws), vs = [.ref p] ∧ HoldAt C H p nm rw ∧ RetT K H (rwD rw) Q
theorem scHL : FnScope ["self", "name"] ["self"] (defScope sHL) := ⟨rfl, rfl, rfl, by decide +kernel, rfl, by decide +kernel, by decide +kernel⟩
theorem ok_hl {k : Nat} (F : Fun K "list_pairs" "Holding.list_pairs" sHL f fd) (c : HCls K C) (m_list : mg "list" = none) : FnOk P w K mg base CX0 (k + 1) f fd ["self"] (spHL K C) := by
  have sc := scHL
  refine F.ok sc (fun vs H Q E h => ?_) (fun cdv A outer s H vs Q E hr h => ?_)
  · obtain ⟨p, nm, rw, rfl, _⟩ := h
    rfl
  obtain ⟨p, nm, rw, rfl, hp, q⟩ := h
  refine ⟨_, (pss_one (ps_ret (pe_lock (pe_lc (own := [("name", 1)]) (by rfl) sc.nd  (pi_keys (pe_fld (pv 0) rfl)) (blkOk_by (own := [("name", 1)]) (N := ["self", "name"]) (sc := defScope sHL) (by decide +kernel)) (fun _ _ _ _ _ => (pg_name (i := 1) sc.nd rfl (.inl rfl))) (fun _ _ _ _ _ => pts_nil) (fun _ _ _ _ _ => (pe_tup (pa_cons (pv 1) (pa_cons (pe_callTy (show CallR _ (.type "list") (rListO K) from call_list_of) (by rfl) m_list (by decide +kernel) (pa_cons (pe_dget (hu_of hr) (show PE _ _ (tFld K (tVar 0) "rows") from pe_fld (pv 0) rfl) (pv 1) (fun _ _ => rfl)) pa_nil)) pa_nil)))))))), ?_⟩
  obtain ⟨⟨dx, dn, dr, rs, h1, h2, h3, h4⟩, n1, n2, l1, l2, l3⟩ := hp
  have lrs := paired_len h4
  have lm : (rw.map (·.1)).length = rs.length := by rw [List.length_map]; exact lrs.symm
  have lk : (rwK (rw.map (·.1)) rs).length = rw.length := by unfold rwK; rw [List.length_map, List.length_zip, lm, Nat.min_self, lrs]
  have at_ : ∀ (i : Nat) (kk : L2.Key) (v : V), (rwK (rw.map (·.1)) rs)[i]? = some (kk, v) → ∃ (z : Str × List Int) (a : Addr), rw[i]? = some z ∧ rs[i]? = some a ∧ kk = Sum.inr z.1 ∧ v = V.ref a ∧ valV (rwK (rw.map (·.1)) rs) (Sum.inr z.1) = some (V.ref a) := fun i kk v e => by
    obtain ⟨y, a, e1, e2, rfl, rfl⟩ := rwK_at e
    have e1' := e1
    rw [List.getElem?_map] at e1'
    obtain ⟨z, ez, rfl⟩ := Option.map_eq_some_iff.mp e1'
    exact ⟨z, a, ez, e2, rfl, rfl, val_zip n2 lm e1 e2⟩
  generalize rwK (rw.map (·.1)) rs = kvs at *
  refine ⟨dr, _, h3, trivial, fun od => ?_⟩
  have np : p ≠ dr := ne_of h1 h3 nofun
  have h1' : (upd H dr (.frz od (.dK kvs))) p = some (.ins C dx (fldH dn dr)) := by rw [upd_ne np]; exact h1
  have h2' : (upd H dr (.frz od (.dK kvs))) dr = some (.frz od (.dK kvs)) := upd_same
  have h4' : Paired (fun a (q : Str × List Int) => (upd H dr (.frz od (.dK kvs))) a = some (.lst (q.2.map V.int))) rs rw := L2.Paired.mapP h4 fun a q e => by rw [upd_ne (ne_of e h3 nofun)]; exact e
  have un : ∀ {HB}, Same (upd H dr (.frz od (.dK kvs))) HB → Same H (upd HB dr (.dK kvs)) := fun s => same_unlock h3 s
  have fr : ∀ b, (upd H dr (.frz od (.dK kvs))) b = none → H b = none := fun b e => by
    by_cases z : b = dr
    · rw [z, upd_same] at e; cases e
    · rw [upd_ne z] at e; exact e
  generalize upd H dr (.frz od (.dK kvs)) = H0 at *
  refine ⟨_, rfl, p, C, dx, _, _, rfl, h1', c.cl, c.nR, fldH_r _ _, dr, od, rfl, .inl ⟨kvs, h2', fun D nD => lc_it walk_keys (fun i HB => BldT K D H0 ((rw.take i).map rpD) HB) (BldT.nil nD) (fun _ _ _ h => h.1 _ _ h2') ?_ ?_⟩⟩
  · rintro i x _ HB hi B ⟨rfl, kk, v, ek, rfl⟩
    obtain ⟨z, a, ez, ea, rfl, rfl, ev⟩ := at_ i kk v ek
    obtain ⟨z', ez', ha⟩ := paired_at h4' ea
    rw [ez] at ez'
    cases ez'
    have sm := B.1
    refine ⟨rfl, ?_⟩
    unfold tYes
    refine iteT ⟨_, rfl, _, rfl, p, C, dx, _, _, rfl, sm _ _ h1', c.cl, c.nR, fldH_r _ _, _, rfl, dr, .ref a, rfl, .inl ⟨kvs, Sum.inr z.1, .inr ⟨od, sm _ _ h2'⟩, rfl, ev.symm⟩, a, _, rfl, .inl (SqL.of (sm _ _ ha)), fun r nr => ⟨by show 2 ≤ sizeLine; decide, fun t nt => ?_⟩⟩
    have sr := same_upd (o := .lst (z.2.map V.int)) nr
    have er := upd_same (H := HB) (a := r) (o := .lst (z.2.map V.int))
    generalize upd HB r (.lst (z.2.map V.int)) = HC at *
    have st := same_upd (o := .tup [kV (Sum.inr z.1), .ref r]) nt
    have et := upd_same (H := HC) (a := t) (o := .tup [kV (Sum.inr z.1), .ref r])
    have er' := st _ _ er
    generalize upd HC t (.tup [kV (Sum.inr z.1), .ref r]) = HE at *
    have hy : Tr K HE (.ref t) (rpD z) [r] := .tup (.inl (.inl et)) (.cons (as := []) (bs := [r]) (.str _) (.cons (as := [r]) (bs := []) (.lst er' (trA_ints _) (fun z => by cases z)) .nil (fun b _ z => by cases z)) (fun b z => by cases z))
    have := B.push nD (sr.trans st) hy (fun b z => by rw [List.mem_singleton.mp z]; exact nr) (by rw [List.length_map, List.length_take]; omega)
    rw [List.take_succ, ez, List.map_append]
    exact this
  rintro HB B
  rw [List.take_of_length_le (by rw [lk]; exact Nat.le_refl _)] at B
  have hd := B.1 _ _ h2'
  obtain ⟨as, t, fa⟩ := B.tr nD
  exact ⟨hd, q _ _ as (un B.1) (tr_unlock hd nofun t) fun b hb => fr b (fa b hb)⟩
end
end Fd

set_option Elab.async false
set_option linter.all false
set_option maxRecDepth 100000
set_option maxHeartbeats 4000000
/-! texts of plain signs, how long -/
namespace Fw
open PySem PySem.Spec PyProof.Rows L2
structure Asc (m : Nat) (z : Str) : Prop where
  len : z.cps.size ≤ m
  lt : ∀ c ∈ z.cps.toList, c < 128
theorem Asc.le {m n : Nat} {z : Str} (h : Asc m z) (hn : m ≤ n) : Asc n z := ⟨Nat.le_trans h.len hn, h.lt⟩
theorem Asc.app {m n : Nat} {x y : Str} (h : Asc m x) (g : Asc n y) : Asc (m + n) (x ++ y) := by
  refine ⟨?_, fun c hc => ?_⟩
  · rw [Str.cps_append, Array.size_append]; exact Nat.add_le_add h.len g.len
  · rw [Str.cps_append, Array.toList_append] at hc
    exact (List.mem_append.mp hc).elim (h.lt c) (g.lt c)
theorem Asc.cut {m : Nat} {z : Str} (h : Asc m z) (lo hi : Option Int) : Asc m (cutS z lo hi) := by
  have e : (cutS z lo hi).cps.toList = (z.cps.toList.drop (HT.sIx z.length 0 lo)).take (HT.sIx z.length z.length hi - HT.sIx z.length 0 lo) := rfl
  refine ⟨?_, fun c hc => ?_⟩
  · rw [← Array.length_toList, e, List.length_take, List.length_drop, Array.length_toList]
    have := h.len
    omega
  · rw [e] at hc
    exact h.lt c (List.mem_of_mem_drop (List.mem_of_mem_take hc))
theorem up1 : ∀ c : Fin 128, ∃ d : Fin 128, Unicode.upperOf c.val = [d.val] := by decide +kernel
theorem up_list : ∀ l : List Nat, (∀ c ∈ l, c < 128) → (l.map fun c => (Unicode.upperOf c).toArray.toList).flatten.length = l.length ∧ ∀ c ∈ (l.map fun c => (Unicode.upperOf c).toArray.toList).flatten, c < 128
  | [], _ => ⟨rfl, fun _ h => nomatch h⟩
  | x :: r, h => by
    obtain ⟨i1, i2⟩ := up_list r fun c hc => h c (List.mem_cons_of_mem _ hc)
    obtain ⟨d, hd⟩ := up1 ⟨x, h x (List.mem_cons_self ..)⟩
    replace hd : Unicode.upperOf x = [d.val] := hd
    rw [List.map_cons, List.flatten_cons, hd]
    refine ⟨by rw [List.length_append, i1]; show 1 + r.length = r.length + 1; omega, fun c hc => ?_⟩
    rcases List.mem_append.mp hc with z | z
    · have : c = d.val := by simpa using z
      rw [this]; exact d.isLt
    · exact i2 c z
theorem map_zip {α : Type} (g : Nat → α) : ∀ (l : List Nat) (n : Nat), (l.zipIdx n).map (fun x => g x.1) = l.map g
  | [], _ => rfl
  | x :: r, n => by rw [List.zipIdx_cons, List.map_cons, List.map_cons, map_zip g r]
theorem Asc.upper {m : Nat} {z : Str} (h : Asc m z) : Asc m (Txt.upper z) := by
  have e : (Txt.upper z).cps.toList = (z.cps.toList.map fun c => (Unicode.upperOf c).toArray.toList).flatten := by
    show (placed z fun _ c => Unicode.upperOf c).toList = _
    unfold placed
    simp [List.mapIdx_eq_zipIdx_map]
    exact congrArg List.flatten (map_zip (fun c => Unicode.upperOf c) z.cps.toList 0)
  obtain ⟨i1, i2⟩ := up_list z.cps.toList h.lt
  refine ⟨?_, fun c hc => ?_⟩
  · rw [← Array.length_toList, e, i1, Array.length_toList]; exact h.len
  · rw [e] at hc; exact i2 c hc
theorem dig1 : ∀ k : Fin 10, (Nat.digitChar k.val).toNat < 128 := by decide +kernel
theorem dig_core : ∀ (fuel n : Nat) (ds : List Char), (∀ c ∈ ds, c.toNat < 128) → ∀ c ∈ Nat.toDigitsCore 10 fuel n ds, c.toNat < 128
  | 0, _, _, h => h
  | fuel + 1, n, ds, h => by
    intro c hc
    have hk : (Nat.digitChar (n % 10)).toNat < 128 := dig1 ⟨n % 10, Nat.mod_lt _ (by decide)⟩
    have h' : ∀ c ∈ Nat.digitChar (n % 10) :: ds, c.toNat < 128 := fun c hc => (List.mem_cons.mp hc).elim (fun z => z ▸ hk) (h c)
    unfold Nat.toDigitsCore at hc
    dsimp only at hc
    split at hc
    · exact h' c hc
    · exact dig_core fuel _ _ h' c hc
theorem asc_nat {m k : Nat} (hk : 1 ≤ k) (h : m < 10 ^ k) : Asc k ⟨((Nat.toDigits 10 m).map Char.toNat).toArray⟩ := by
  refine ⟨?_, fun c hc => ?_⟩
  · show (((Nat.toDigits 10 m).map Char.toNat).toArray).size ≤ k
    rw [List.size_toArray, List.length_map]
    exact digits10_le hk h
  · obtain ⟨d, hd, rfl⟩ := List.mem_map.mp (show c ∈ (Nat.toDigits 10 m).map Char.toNat by simpa using hc)
    exact dig_core _ _ [] (fun c h => absurd h (by simp)) d hd
theorem asc_int {i : Int} {k : Nat} (hk : 1 ≤ k) (h : i.natAbs < 10 ^ k) : Asc (k + 1) (Str.ofString (toString i)) := by
  cases i with
  | ofNat m =>
    rw [text_ofNat]
    exact (asc_nat hk h).le (Nat.le_succ _)
  | negSucc m =>
    have e : Str.ofString (toString (Int.negSucc m)) = Str.ofString "-" ++ Str.ofString (toString (Int.ofNat (m + 1))) := by
      refine Str.ext' ?_
      rw [Str.cps_append]
      simp [Str.ofString_eq_toList, toString, Int.repr, instToStringInt]
    rw [e, Nat.add_comm]
    refine Asc.app ⟨by decide +kernel, by decide +kernel⟩ ?_
    rw [text_ofNat]
    exact asc_nat hk h
end Fw

set_option Elab.async false
set_option linter.all false
set_option maxRecDepth 100000
set_option maxHeartbeats 1000000
namespace Fd
open PySem PySem.Spec PyProof.Rows L2 RZ Fw
/-! ### Ground: what is told of it -/
structure Fig where
  nm : Str
  x : Int
  y : Int
  w : Int
  ns : Nms
  rs : Rws
structure Gnd where
  wide : Int
  high : Int
  nm : Nms
  rw : Rws
  figs : List Fig
/-- names and lists as a Holding wants them -/
structure Hok (nm : Nms) (rw : Rws) : Prop where
  n1 : (nm.map (·.1)).Nodup
  n2 : (rw.map (·.1)).Nodup
  l1 : nm.length ≤ 100
  l2 : rw.length ≤ 100
  l3 : ∀ q ∈ rw, q.2.length ≤ 100
  s1 : ∀ q ∈ nm, Asc 8 q.1
  s2 : ∀ q ∈ rw, Asc 8 q.1
structure Gnd.Ok (G : Gnd) : Prop where
  h : Hok G.nm G.rw
  fh : ∀ f ∈ G.figs, Hok f.ns f.rs
  nd : (G.figs.map Fig.nm).Nodup
  st : ∀ f ∈ G.figs, Asc 8 f.nm
  ln : G.figs.length ≤ 100
def fgK (z : Str) : List L2.Key := [.inr z, .inl 0]
theorem fgK_inj {a b : Str} (h : fgK a = fgK b) : a = b := by
  injection h with h1 _
  exact Sum.inr.inj h1
def dkT (fs : List Fig) (vs : List V) : List (List L2.Key × V) := (fs.zip vs).map fun q => (fgK q.1.nm, q.2)
theorem dkT_len {fs : List Fig} {vs : List V} (h : fs.length = vs.length) : (dkT fs vs).length = fs.length := by
  unfold dkT
  rw [List.length_map, List.length_zip, h, Nat.min_self]
theorem dkT_snoc {fs : List Fig} {vs : List V} {z : Fig} {v : V} (h : fs.length = vs.length) : dkT (fs ++ [z]) (vs ++ [v]) = dkT fs vs ++ [(fgK z.nm, v)] := by
  unfold dkT
  rw [List.zip_append h, List.map_append]
  rfl
theorem dkT_at {fs : List Fig} {vs : List V} {i : Nat} {z : Fig} {v : V} (e1 : fs[i]? = some z) (e2 : vs[i]? = some v) : (dkT fs vs)[i]? = some (fgK z.nm, v) := by
  unfold dkT
  have q : (fs.zip vs)[i]? = some (z, v) := by rw [List.getElem?_zip_eq_some]; exact ⟨e1, e2⟩
  rw [List.getElem?_map, q]
  rfl
theorem dkT_in {fs : List Fig} {vs : List V} {i : Nat} {q : List L2.Key × V} (e : (dkT fs vs)[i]? = some q) : ∃ z v, fs[i]? = some z ∧ vs[i]? = some v ∧ q = (fgK z.nm, v) := by
  unfold dkT at e
  rw [List.getElem?_map] at e
  obtain ⟨p, ep, h⟩ := Option.map_eq_some_iff.mp e
  rw [List.getElem?_zip_eq_some] at ep
  exact ⟨p.1, p.2, ep.1, ep.2, h.symm⟩
/-- a key is found where it stands -/
theorem val_at {κ : Type} [DecidableEq κ] : ∀ {l : List (κ × V)} {i : Nat} {q : κ × V}, (l.map (·.1)).Nodup → l[i]? = some q → valV l q.1 = some q.2
  | [], i, q, _, e => by simp at e
  | x :: l, 0, q, _, e => by
    cases (Option.some.inj e)
    exact valV_pos rfl
  | x :: l, i + 1, q, nd, e => by
    obtain ⟨n1, n2⟩ := List.nodup_cons.mp nd
    rw [valV_neg fun c => n1 (List.mem_map.mpr ⟨q, List.mem_of_getElem? e, c.symm⟩)]
    exact val_at (i := i) n2 e
theorem val_none {κ : Type} [DecidableEq κ] {l : List (κ × V)} {k : κ} (h : k ∉ l.map (·.1)) : valV l k = none := by
  cases e : valV l k with
  | none => rfl
  | some v =>
    unfold valV at e
    obtain ⟨p, ep, _⟩ := Option.map_eq_some_iff.mp e
    have q := List.find?_some ep
    exact absurd (List.mem_map.mpr ⟨p, List.mem_of_find?_eq_some ep, of_decide_eq_true q⟩) h
theorem dkT_keys {fs : List Fig} {vs : List V} (h : fs.length = vs.length) : (dkT fs vs).map (·.1) = (fs.map Fig.nm).map fgK := by
  unfold dkT
  rw [List.map_map, List.map_map]
  have : (fs.zip vs).map (Prod.fst) = fs := List.map_fst_zip (Nat.le_of_eq h)
  conv => rhs; rw [← this, List.map_map]
  rfl
theorem nodup_fgK {l : List Str} (h : l.Nodup) : (l.map fgK).Nodup := by
  rw [List.nodup_iff_pairwise_ne, List.pairwise_map]
  exact (List.nodup_iff_pairwise_ne.mp h).imp fun n c => n (fgK_inj c)
theorem dkT_nd {fs : List Fig} {vs : List V} (h : fs.length = vs.length) (nd : (fs.map Fig.nm).Nodup) : ((dkT fs vs).map (·.1)).Nodup := by
  rw [dkT_keys h]
  exact nodup_fgK nd
/-- the next one's key is new -/
theorem dkT_put {fs : List Fig} {vs : List V} {i : Nat} {z : Fig} {v : V} (nd : (fs.map Fig.nm).Nodup) (e : fs[i]? = some z) (h : (fs.take i).length = vs.length) : putK (dkT (fs.take i) vs) (fgK z.nm) v = dkT (fs.take (i + 1)) (vs ++ [v]) := by
  rw [putK_new v (val_none ?_), List.take_succ, e]
  · exact (dkT_snoc h).symm
  · rw [dkT_keys h]
    intro c
    obtain ⟨y, hy, ey⟩ := List.mem_map.mp c
    obtain ⟨u, hu, eu⟩ := List.mem_map.mp hy
    obtain ⟨j, ej⟩ := List.mem_iff_getElem?.mp hu
    have hj : j < i := by
      have := (List.getElem?_eq_some_iff.mp ej).1
      rw [List.length_take] at this
      omega
    rw [List.getElem?_take, if_pos hj] at ej
    have c : u.nm = z.nm := eu.trans (fgK_inj ey)
    have e1 : (fs.map Fig.nm)[j]? = some z.nm := by rw [List.getElem?_map, ej]; exact congrArg some c
    have e2 : (fs.map Fig.nm)[i]? = some z.nm := by rw [List.getElem?_map, e]; rfl
    have := (List.getElem?_inj (List.getElem?_eq_some_iff.mp e1).1 nd).mp (e1.trans e2.symm)
    omega
/-! ### a play that is handed, of lists or of tuples -/
def FgIn (K : PySem.W.Frag) (H : Hp) (v : V) (f : Fig) : Prop := ∃ b p n l more, v = .ref b ∧ Sq K H b (.str f.nm :: .ref p :: n :: l :: more) ∧ Sq K H p [.int f.x, .int f.y, .int f.w] ∧ Pn K H n f.ns ∧ Pr K H l f.rs
def PlayIn (K : PySem.W.Frag) (H : Hp) (v : V) (G : Gnd) : Prop := ∃ a s n l f fs, v = .ref a ∧ Sq K H a [.ref s, n, l, .ref f] ∧ Sq K H s [.int G.wide, .int G.high] ∧ Pn K H n G.nm ∧ Pr K H l G.rw ∧ Sq K H f fs ∧ Paired (FgIn K H) fs G.figs
/-- what is a list or a tuple stays -/
def KS (K : PySem.W.Frag) (H H' : Hp) : Prop := ∀ a xs, Sq K H a xs → Sq K H' a xs
theorem KS.same {K : PySem.W.Frag} {H H' : Hp} (s : Same H H') : KS K H H' := fun _ _ h => h.same s
theorem KS.but {K : PySem.W.Frag} {H H' : Hp} {p C dx : Addr} {fs : List (Str × V)} (hp : H p = some (.ins C dx fs)) (s : ButL [p] H H') : KS K H H' := fun _ _ h => h.but hp s
theorem KS.trans {K : PySem.W.Frag} {H H1 H2 : Hp} (x : KS K H H1) (y : KS K H1 H2) : KS K H H2 := fun a xs h => y a xs (x a xs h)
theorem Pn.ks {K : PySem.W.Frag} {H H' : Hp} {x : V} {nm : Nms} (h : Pn K H x nm) (s : KS K H H') : Pn K H' x nm := by
  obtain ⟨a, xs, rfl, h1, h2⟩ := h
  exact ⟨a, xs, rfl, s _ _ h1, L2.Paired.mapP h2 fun v q ⟨b, e, z⟩ => ⟨b, e, s _ _ z⟩⟩
theorem Pr.ks {K : PySem.W.Frag} {H H' : Hp} {x : V} {rw : Rws} (h : Pr K H x rw) (s : KS K H H') : Pr K H' x rw := by
  obtain ⟨a, xs, rfl, h1, h2⟩ := h
  exact ⟨a, xs, rfl, s _ _ h1, L2.Paired.mapP h2 fun v q ⟨b, c, e, z, y⟩ => ⟨b, c, e, s _ _ z, s _ _ y⟩⟩
theorem FgIn.ks {K : PySem.W.Frag} {H H' : Hp} {v : V} {f : Fig} (h : FgIn K H v f) (s : KS K H H') : FgIn K H' v f := by
  obtain ⟨b, p, n, l, more, e, h1, h2, h3, h4⟩ := h
  exact ⟨b, p, n, l, more, e, s _ _ h1, s _ _ h2, h3.ks s, h4.ks s⟩
theorem figs_ks {K : PySem.W.Frag} {H H' : Hp} {vs : List V} {fs : List Fig} (h : Paired (FgIn K H) vs fs) (s : KS K H H') : Paired (FgIn K H') vs fs := L2.Paired.mapP h fun _ _ e => e.ks s
theorem PlayIn.ks {K : PySem.W.Frag} {H H' : Hp} {v : V} {G : Gnd} (h : PlayIn K H v G) (s : KS K H H') : PlayIn K H' v G := by
  obtain ⟨a, p, n, l, f, fs, e, h1, h2, h3, h4, h5, h6⟩ := h
  exact ⟨a, p, n, l, f, fs, e, s _ _ h1, s _ _ h2, h3.ks s, h4.ks s, s _ _ h5, figs_ks h6 s⟩
/-! ### a Ground stands -/
def fldG (wide high : Int) (dF dP dS dH : Addr) : List (Str × V) := [("wide", .int wide), ("high", .int high), ("figures", .ref dF), ("places", .ref dP), ("shown", .ref dS), ("held", .ref dH)]
theorem fldG_w (a b : Int) (c d e f : Addr) : (fldG a b c d e f).lookup ("wide" : Str) = some (.int a) := by kernel_rfl
theorem fldG_h (a b : Int) (c d e f : Addr) : (fldG a b c d e f).lookup ("high" : Str) = some (.int b) := by kernel_rfl
theorem fldG_f (a b : Int) (c d e f : Addr) : (fldG a b c d e f).lookup ("figures" : Str) = some (.ref c) := by kernel_rfl
theorem fldG_p (a b : Int) (c d e f : Addr) : (fldG a b c d e f).lookup ("places" : Str) = some (.ref d) := by kernel_rfl
theorem fldG_s (a b : Int) (c d e f : Addr) : (fldG a b c d e f).lookup ("shown" : Str) = some (.ref e) := by kernel_rfl
theorem fldG_d (a b : Int) (c d e f : Addr) : (fldG a b c d e f).lookup ("held" : Str) = some (.ref f) := by kernel_rfl
theorem putG (a b : V) (c d e f : V) : putF "held" f (putF "shown" e (putF "places" d (putF "figures" c (putF "high" b (putF "wide" a []))))) = [(("wide" : Str), a), ("high", b), ("figures", c), ("places", d), ("shown", e), ("held", f)] := by kernel_rfl
/-- where the things of a ground stand -/
structure GA where
  dx : Addr
  dF : Addr
  dP : Addr
  dS : Addr
  dH : Addr
  hs : List Hd
  h0 : Hd
def GA.fp (A : GA) (p : Addr) : List Addr := p :: A.dF :: A.dP :: A.dS :: A.dH :: (A.h0.fp ++ A.hs.flatMap Hd.fp)
def refP (hs : List Hd) : List V := hs.map fun h => V.ref h.p
def heldK (G : Gnd) (hs : List Hd) (h0 : Addr) : List (MKey × V) := ((dkT G.figs (refP hs)).map fun p => (some p.1, p.2)) ++ [(none, .ref h0)]
structure GroundAt (w : World) (K : PySem.W.Frag) (C CH : Addr) (H : Hp) (g : Addr) (G : Gnd) (A : GA) : Prop where
  ob : ∃ ps, H g = some (.ins C A.dx (fldG G.wide G.high A.dF A.dP A.dS A.dH)) ∧ H A.dF = some (.lst (G.figs.map fun f => V.str f.nm)) ∧ H A.dP = some (.dT (dkT G.figs (ps.map V.ref))) ∧ Paired (fun a (f : Fig) => SqT K H a [.int f.x, .int f.y, .int f.w]) ps G.figs ∧
    H A.dS = some (.dT (dkT G.figs (G.figs.map fun _ => .bl true))) ∧ MixD w H A.dH (heldK G A.hs A.h0.p) ∧ Paired (fun a (f : Fig) => HoldF CH H a f.ns f.rs) A.hs G.figs ∧ HoldF CH H A.h0 G.nm G.rw
  ok : G.Ok
  nd : (A.fp g).Nodup
structure GCls (K : PySem.W.Frag) (C : Addr) : Prop where
  cl : Cls K C
  nW : NoAttr K C "wide"
  nH : NoAttr K C "high"
  nF : NoAttr K C "figures"
  nP : NoAttr K C "places"
  nS : NoAttr K C "shown"
  nD : NoAttr K C "held"
end Fd

set_option Elab.async false
set_option linter.all false
set_option maxRecDepth 100000
set_option maxHeartbeats 1000000
namespace Fd
open PySem PySem.Spec PyProof.Rows L2 RZ Fw
/-- tuple(..) of a list or a tuple -/
def rTupO (K : PySem.W.Frag) : List V → Hp → VK → Prop := fun xs H Q => ∃ p ys, xs = [.ref p] ∧ ((SqL K H p ys ∧ ∀ l, H l = none → Q (.ref l) (upd H l (.tup ys))) ∨ (SqT K H p ys ∧ Q (.ref p) H))
theorem tup_or {K : PySem.W.Frag} {H : Hp} {p : Addr} {ys : List V} {Q : VK} (h : Sq K H p ys) (q : ∀ l H', Same H H' → (∀ b, H' b = none → H b = none) → SqT K H' l ys → Q (.ref l) H') : rTupO K [.ref p] H Q := by
  refine ⟨p, ys, rfl, ?_⟩
  rcases h with h | h
  · refine .inl ⟨h, fun l nl => q l _ (same_upd nl) (fun b e => ?_) (.inl (.inl upd_same))⟩
    by_cases z : b = l
    · rw [z, upd_same] at e; cases e
    · rw [upd_ne z] at e; exact e
  · exact .inr ⟨h, q p H (Same.refl _) (fun _ e => e) h⟩
theorem ix_or {K : PySem.W.Frag} {H : Hp} {p : Addr} {ys : List V} {i : Int} {v : V} {Q : VK} (h : Sq K H p ys) (e : atI ys i = some v) (q : Q v H) : rOr (rIxL K) (rIxT K) (.ref p) (.int i) H Q := by
  rcases h with h | h
  · exact .inl ⟨p, ys, i, v, rfl, rfl, h, e, q⟩
  · exact .inr ⟨p, ys, i, v, rfl, rfl, h, e, q⟩
theorem hu20 {k : Nat} {A : Around} (r : Room k A) : A.units + 20 < cLine := by have := r.un; omega
theorem fld_step {H Hc HB : Hp} {p : Addr} {o : HO} (bl : ButL [p] H Hc) (sm : Same Hc HB) : ButL [p] H (upd HB p o) := fun b u nb hb => by
  rw [upd_ne fun z => nb (List.mem_singleton.mpr z)]
  exact sm _ _ (bl b u nb hb)
theorem rmL_le {as : List Addr} {H : Hp} : Same (rmL as H) H := fun b o q => by
  by_cases e : b ∈ as
  · rw [rmL_in e] at q; cases q
  · rw [rmL_at e] at q; exact q
/-- what stands at HB stands without p, p written -/
theorem rm_put {HB : Hp} {p b : Addr} {o o' u : HO} (hp : HB p = some o) (hb : HB b = some u) (n : u ≠ o) : rmL [p] (upd HB p o') b = some u := by
  have e : b ≠ p := ne_of hb hp n
  rw [rmL_at (fun z => e (List.mem_singleton.mp z)), upd_ne e]
  exact hb
theorem rm_putT {K : PySem.W.Frag} {HB : Hp} {p a C dx : Addr} {fs : List (Str × V)} {o' : HO} {xs : List V} (hp : HB p = some (.ins C dx fs)) (h : SqT K HB a xs) : SqT K (rmL [p] (upd HB p o')) a xs := by
  rcases h with (h | ⟨o, h⟩) | h
  · exact .inl (.inl (rm_put hp h nofun))
  · exact .inl (.inr ⟨o, rm_put hp h nofun⟩)
  · exact .inr h
/-- a Holding stands where something else is written -/
theorem HoldAt.off {C : Addr} {H H' : Hp} {p d : Addr} {nm : Nms} {rw : Rws} {o : HO} (h : HoldAt C H p nm rw) (hd : H d = some o) (n1 : ∀ dx dn dr, HO.ins C dx (fldH dn dr) ≠ o) (n2 : ∀ k, HO.dK k ≠ o) (n3 : ∀ xs, HO.lst xs ≠ o) (s : ∀ b u, b ≠ d → H b = some u → H' b = some u) : HoldAt C H' p nm rw := by
  obtain ⟨⟨dx, dn, dr, rs, h1, h2, h3, h4⟩, a1, a2, a3, a4, a5⟩ := h
  exact ⟨⟨dx, dn, dr, rs, s _ _ (ne_of h1 hd (n1 _ _ _)) h1, s _ _ (ne_of h2 hd (n2 _)) h2, s _ _ (ne_of h3 hd (n2 _)) h3, L2.Paired.mapP h4 fun a q e => s _ _ (ne_of e hd (n3 _)) e⟩, a1, a2, a3, a4, a5⟩
theorem HoldF.off {C : Addr} {H H' : Hp} {h : Hd} {d : Addr} {nm : Nms} {rw : Rws} (x : HoldF C H h nm rw) (n : d ∉ h.fp) (s : ∀ b u, b ≠ d → H b = some u → H' b = some u) : HoldF C H' h nm rw := x.fr fun b hb u e => s b u (fun z => n (by rw [← z]; exact hb)) e
theorem kNW : ¬ (("numbers" : Str) = "wide") := by decide +kernel
theorem rm_hold {CH : Addr} {HB : Hp} {p a C dx : Addr} {fs : List (Str × V)} {o' : HO} {nm : Nms} {rw : Rws} {v : V} (hp : HB p = some (.ins C dx (("wide", v) :: fs))) (h : HoldAt CH HB a nm rw) : HoldAt CH (rmL [p] (upd HB p o')) a nm rw :=
  h.off hp (fun dx dn dr e => by
    injection e with _ _ e
    injection e with e _
    exact kNW (congrArg Prod.fst e)) (fun _ => nofun) (fun _ => nofun) fun b u nb hb => by
    rw [rmL_at (fun z => nb (List.mem_singleton.mp z)), upd_ne nb]
    exact hb
abbrev sGI : Stmt := inC 37 0
section
variable {P : Program} {w : World} {K : PySem.W.Frag} {mg : Str → Option Value} {base : Heap} {f : Addr} {fd : FuncData} {C CH : Addr}
def spGI (w : World) (K : PySem.W.Frag) (C CH : Addr) : Sp := fun vs H Q _ => ∃ (p dx : Addr) (x : V) (G : Gnd), vs = [.ref p, x] ∧ H p = some (.ins C dx []) ∧ PlayIn K H x G ∧ G.Ok ∧ ∀ H' A, ButL [p] H H' → GroundAt w K C CH H' p G A → (∀ b ∈ A.fp p, b ≠ p → H b = none) → Q .non H'
theorem scGI : FnScope ["self", "play", "size", "names", "lists", "figures", "figure"] ["self", "play"] (defScope sGI) := ⟨rfl, rfl, rfl, by decide +kernel, rfl, by decide +kernel, by decide +kernel⟩
theorem ok_gi {k kH : Nat} {fH : Addr} {fdH : FuncData} {psH : List Str} (F : Fun K "__init__" "Ground.__init__" sGI f fd) (c : GCls K C) (m_tuple : mg "tuple" = none) (M_H : Mk K CH fH) (G_H : FnOk P w K mg base CX0 kH fH fdH psH (spHI K CH)) (hk : kH + 1 ≤ k) (m_Holding : mg "Holding" = some (.ref CH)) (b_H : Binds K fdH psH []) : FnOk P w K mg base CX0 (k + 1) f fd ["self", "play"] (spGI w K C CH) := by
  have sc := scGI
  refine F.ok sc (fun vs H Q E h => ?_) (fun cdv A outer s H vs Q E hr h => ?_)
  · obtain ⟨p, dx, x, G, rfl, _⟩ := h
    rfl
  obtain ⟨p, dx, x, G, rfl, hp, hx, ok, q⟩ := h
  refine ⟨_, (pss_cons (ps_asg (pv 1) (pg_or (pg_tup (by rfl) (pgs_cons (pg_name (i := 2) sc.nd rfl (.inl rfl)) (pgs_cons (pg_name (i := 3) sc.nd rfl (.inl rfl)) (pgs_cons (pg_name (i := 4) sc.nd rfl (.inl rfl)) (pgs_cons (pg_name (i := 5) sc.nd rfl (.inl rfl)) pgs_nil))))) (pg_lst (by rfl) (pgs_cons (pg_name (i := 2) sc.nd rfl (.inl rfl)) (pgs_cons (pg_name (i := 3) sc.nd rfl (.inl rfl)) (pgs_cons (pg_name (i := 4) sc.nd rfl (.inl rfl)) (pgs_cons (pg_name (i := 5) sc.nd rfl (.inl rfl)) pgs_nil)))))))
      (pss_cons (ps_asg (pv 2) (pg_or (pg_tup (by rfl) (pgs_cons (Fw.pg_fld (pv 0)) (pgs_cons (Fw.pg_fld (pv 0)) pgs_nil))) (pg_lst (by rfl) (pgs_cons (Fw.pg_fld (pv 0)) (pgs_cons (Fw.pg_fld (pv 0)) pgs_nil)))))
      (pss_cons (ps_fld (pv 0) (pe_lc (own := [("figure", 6)]) (by rfl) sc.nd  (pi_or (pi_list (pv 5)) (pi_tup (pv 5))) (blkOk_by (own := [("figure", 6)]) (N := ["self", "play", "size", "names", "lists", "figures", "figure"]) (sc := defScope sGI) (by decide +kernel)) (fun _ _ _ _ _ => (pg_name (i := 6) sc.nd rfl (.inl rfl))) (fun _ _ _ _ _ => pts_nil) (fun _ _ _ _ _ => (pe_ix (ixr_or (show IxR _ (rIxL K) from ix_list) (show IxR _ (rIxT K) from ix_tup)) (pv 6) pe_int (fun _ _ => rfl)))) rfl)
      (pss_cons (ps_fld (pv 0) (Fw.pe_dcg (o0 := .dT []) (own := [("figure", 6)]) Fw.putT_ok (hu_of hr) (fun _ _ _ _ hb => dt_empty _ hb) (by rfl) sc.nd (pi_or (pi_list (pv 5)) (pi_tup (pv 5))) (blkOk_by (own := [("figure", 6)]) (N := ["self", "play", "size", "names", "lists", "figures", "figure"]) (sc := defScope sGI) (by decide +kernel)) (fun _ _ _ _ _ => (pg_name (i := 6) sc.nd rfl (.inl rfl))) (fun _ _ _ _ _ => pts_nil) (fun _ _ _ _ _ => (pe_tup (pa_cons (pe_ix (ixr_or (show IxR _ (rIxL K) from ix_list) (show IxR _ (rIxT K) from ix_tup)) (pv 6) pe_int (fun _ _ => rfl)) (pa_cons pe_int pa_nil)))) (fun _ _ _ _ _ => (pe_callTy (show CallR _ (.type "tuple") (rTupO K) from call_tuple_of) (by rfl) m_tuple (by decide +kernel) (pa_cons (pe_ix (ixr_or (show IxR _ (rIxL K) from ix_list) (show IxR _ (rIxT K) from ix_tup)) (pv 6) pe_int (fun _ _ => rfl)) pa_nil)))) rfl)
      (pss_cons (ps_fld (pv 0) (Fw.pe_dcg (o0 := .dT []) (own := [("figure", 6)]) Fw.putT_ok (hu_of hr) (fun _ _ _ _ hb => dt_empty _ hb) (by rfl) sc.nd (pi_or (pi_list (pv 5)) (pi_tup (pv 5))) (blkOk_by (own := [("figure", 6)]) (N := ["self", "play", "size", "names", "lists", "figures", "figure"]) (sc := defScope sGI) (by decide +kernel)) (fun _ _ _ _ _ => (pg_name (i := 6) sc.nd rfl (.inl rfl))) (fun _ _ _ _ _ => pts_nil) (fun _ _ _ _ _ => (pe_tup (pa_cons (pe_ix (ixr_or (show IxR _ (rIxL K) from ix_list) (show IxR _ (rIxT K) from ix_tup)) (pv 6) pe_int (fun _ _ => rfl)) (pa_cons pe_int pa_nil)))) (fun _ _ _ _ _ => pe_bl)) rfl)
      (pss_cons (ps_fld (pv 0) (Fw.pe_dcg (o0 := .dT []) (own := [("figure", 6)]) Fw.putT_ok (hu_of hr) (fun _ _ _ _ hb => dt_empty _ hb) (by rfl) sc.nd (pi_or (pi_list (pv 5)) (pi_tup (pv 5))) (blkOk_by (own := [("figure", 6)]) (N := ["self", "play", "size", "names", "lists", "figures", "figure"]) (sc := defScope sGI) (by decide +kernel)) (fun _ _ _ _ _ => (pg_name (i := 6) sc.nd rfl (.inl rfl))) (fun _ _ _ _ _ => pts_nil) (fun _ _ _ _ _ => (pe_tup (pa_cons (pe_ix (ixr_or (show IxR _ (rIxL K) from ix_list) (show IxR _ (rIxT K) from ix_tup)) (pv 6) pe_int (fun _ _ => rfl)) (pa_cons pe_int pa_nil)))) (fun _ _ _ _ _ => (pe_make M_H G_H (hr.mono (by omega)) (by rfl) m_Holding b_H .nil pass0 (pa_cons (pe_ix (ixr_or (show IxR _ (rIxL K) from ix_list) (show IxR _ (rIxT K) from ix_tup)) (pv 6) pe_int (fun _ _ => rfl)) (pa_cons (pe_ix (ixr_or (show IxR _ (rIxL K) from ix_list) (show IxR _ (rIxT K) from ix_tup)) (pv 6) pe_int (fun _ _ => rfl)) pa_nil))))) rfl)
      (pss_one (Fw.ps_mputT (hu20 hr) (pe_fld (pv 0) rfl) pe_non (pe_make M_H G_H (hr.mono (by omega)) (by rfl) m_Holding b_H .nil pass0 (pa_cons (pv 3) (pa_cons (pv 4) pa_nil))) rfl)))))))), ?_⟩
  obtain ⟨a, ss, n, l, fa, fs, rfl, h1, h2, h3, h4, h5, h6⟩ := hx
  refine ⟨_, rfl, sq_or h1 rfl ⟨_, _, rfl, _, _, rfl, _, _, rfl, _, _, rfl, rfl, ?_⟩⟩
  refine ⟨_, rfl, sq_or h2 rfl ⟨_, _, rfl, _, rfl, p, C, dx, [], rfl, hp, c.cl, c.nW, by decide, _, _, rfl, _, rfl, p, C, dx, _, rfl, upd_same, c.cl, c.nH, (show 1 < 1000 by decide), rfl, ?_⟩⟩
  rw [show putF "high" (.int G.high) (putF "wide" (.int G.wide) []) = [(("wide" : Str), V.int G.wide), ("high", .int G.high)] from by kernel_rfl]
  have b2 : ButL [p] H (upd (upd H p (.ins C dx (putF "wide" (.int G.wide) []))) p (.ins C dx [(("wide" : Str), V.int G.wide), ("high", .int G.high)])) := fld_step (fld_step (fun _ _ _ e => e) (Same.refl H)) (Same.refl _)
  have p2 : (upd (upd H p (.ins C dx (putF "wide" (.int G.wide) []))) p (.ins C dx [(("wide" : Str), V.int G.wide), ("high", .int G.high)])) p = some (.ins C dx [(("wide" : Str), V.int G.wide), ("high", .int G.high)]) := upd_same
  generalize upd (upd H p (.ins C dx (putF "wide" (.int G.wide) []))) p (.ins C dx [(("wide" : Str), V.int G.wide), ("high", .int G.high)]) = H2 at *
  have k2 : KS K H H2 := KS.but hp b2
  have h5' := k2 _ _ h5
  have h6' := figs_ks h6 k2
  have l6 := paired_len h6
  refine sq_it rfl h5' fun J wk dF nF => lc_it wk (fun i HB => Same H2 HB ∧ HB dF = some (.lst ((G.figs.take i).map fun f => V.str f.nm))) ⟨same_upd nF, upd_same⟩ (fun i HB _ h => h.1) ?_ ?_
  · rintro i v _ HB hi ⟨sm, hD⟩ ⟨rfl, ex⟩
    obtain ⟨z, ez, b, sp, nn, ll, more, rfl, e1, e2, e3, e4⟩ := paired_at h6' ex
    refine ⟨rfl, ?_⟩
    unfold tYes
    refine iteT ⟨_, rfl, ix_or (e1.same sm) (atI_nat (j := 0) rfl) ⟨_, hD, ?_, Fd.Same.putN sm nF, ?_⟩⟩
    · rw [List.length_map, List.length_take]
      exact small1000 (by have := ok.ln; omega)
    · rw [upd_same, List.take_succ, ez, List.map_append]
      rfl
  rintro HB ⟨sm, hD⟩
  rw [List.take_of_length_le (by rw [l6]; exact Nat.le_refl _)] at hD
  have p2' := sm _ _ p2
  refine ⟨_, rfl, p, C, dx, _, rfl, p2', c.cl, c.nF, (show 2 < 1000 by decide), ?_⟩
  rw [show putF "figures" (.ref dF) [(("wide" : Str), V.int G.wide), ("high", .int G.high)] = [(("wide" : Str), V.int G.wide), ("high", .int G.high), ("figures", .ref dF)] from by kernel_rfl]
  have b3 : ButL [p] H (upd HB p (.ins C dx [(("wide" : Str), V.int G.wide), ("high", .int G.high), ("figures", .ref dF)])) := fld_step b2 sm
  have p3 : (upd HB p (.ins C dx [(("wide" : Str), V.int G.wide), ("high", .int G.high), ("figures", .ref dF)])) p = _ := upd_same
  have rF : rmL [p] (upd HB p (.ins C dx [(("wide" : Str), V.int G.wide), ("high", .int G.high), ("figures", .ref dF)])) dF = _ := rm_put p2' hD nofun
  generalize upd HB p (.ins C dx [(("wide" : Str), V.int G.wide), ("high", .int G.high), ("figures", .ref dF)]) = H3 at *
  have fF : H dF = none := free_of b2 p2 nF
  clear sm hD p2' nF b2 p2 k2 h5' h6' wk J HB H2
  have k3 : KS K H H3 := KS.but hp b3
  have h5' := k3 _ _ h5
  have h6' := figs_ks h6 k3
  refine sq_it rfl h5' fun J wk dP nP => dcg_it (put := putT) wk (fun i HB => Same H3 HB ∧ ∃ ps, HB dP = some (.dT (dkT (G.figs.take i) (ps.map V.ref))) ∧ Paired (fun a (f : Fig) => SqT K HB a [.int f.x, .int f.y, .int f.w]) ps (G.figs.take i)) ⟨same_upd nP, [], upd_same, .nil⟩ (fun i HB _ h => h.1) ?_ ?_
  · rintro i v _ HB hi ⟨sm, ps, hD, pr⟩ ⟨rfl, ex⟩
    obtain ⟨z, ez, b, sp, nn, ll, more, rfl, e1, e2, e3, e4⟩ := paired_at h6' ex
    have lps := paired_len pr
    refine ⟨rfl, ?_⟩
    unfold tYes
    refine iteT ⟨_, rfl, ix_or (e1.same sm) (atI_nat (j := 0) rfl) ⟨by show 2 ≤ sizeLine; decide, fun t nt => ?_⟩⟩
    have st := same_upd (o := .tup [V.str z.nm, .int 0]) nt
    have ht := upd_same (H := HB) (a := t) (o := .tup [V.str z.nm, .int 0])
    generalize upd HB t (.tup [V.str z.nm, .int 0]) = HC at *
    refine ⟨_, rfl, ix_or (e1.same (sm.trans st)) (atI_nat (j := 1) rfl) ?_⟩
    unfold tNil
    refine tup_or (e2.same (sm.trans st)) fun l HE se _ hl => ?_
    have hDE := se _ _ (st _ _ hD)
    have pr' := L2.Paired.mapP pr fun a q e => seqT (st.trans se) e
    refine ⟨_, fgK z.nm, t, rfl, se _ _ ht, hDE, ?_, Fd.Same.putN ((sm.trans st).trans se) nP, ps ++ [l], ?_, ?_⟩
    · rw [dkT_len (by rw [List.length_map]; exact lps.symm), List.length_take]
      exact small1000 (by have := ok.ln; omega)
    · rw [upd_same, dkT_put ok.nd ez (by rw [List.length_map]; exact lps.symm), List.map_append]
      rfl
    · have keep : ∀ {a xs}, SqT K HE a xs → SqT K (upd HE dP (.dT (putK (dkT (G.figs.take i) (ps.map V.ref)) (fgK z.nm) (.ref l)))) a xs := fun {a xs} e => by
        rcases e with (e | ⟨o, e⟩) | e
        · exact .inl (.inl (by rw [upd_ne (ne_of e hDE nofun)]; exact e))
        · exact .inl (.inr ⟨o, by rw [upd_ne (ne_of e hDE nofun)]; exact e⟩)
        · exact .inr e
      rw [List.take_succ, ez]
      exact paired_snoc (L2.Paired.mapP pr' fun a q e => keep e) (keep hl)
  rintro HB ⟨sm, ps, hD, pr⟩
  rw [List.take_of_length_le (by rw [l6]; exact Nat.le_refl _)] at hD pr
  have p3' := sm _ _ p3
  refine ⟨_, rfl, p, C, dx, _, rfl, p3', c.cl, c.nP, (show 3 < 1000 by decide), ?_⟩
  rw [show putF "places" (.ref dP) [(("wide" : Str), V.int G.wide), ("high", .int G.high), ("figures", .ref dF)] = [(("wide" : Str), V.int G.wide), ("high", .int G.high), ("figures", .ref dF), ("places", .ref dP)] from by kernel_rfl]
  have b4 : ButL [p] H (upd HB p (.ins C dx [(("wide" : Str), V.int G.wide), ("high", .int G.high), ("figures", .ref dF), ("places", .ref dP)])) := fld_step b3 sm
  have r4 : Same (rmL [p] H3) (rmL [p] (upd HB p (.ins C dx [(("wide" : Str), V.int G.wide), ("high", .int G.high), ("figures", .ref dF), ("places", .ref dP)]))) := rmL_but (fld_step (fun _ _ _ e => e) sm)
  have p4 : (upd HB p (.ins C dx [(("wide" : Str), V.int G.wide), ("high", .int G.high), ("figures", .ref dF), ("places", .ref dP)])) p = _ := upd_same
  have rP : rmL [p] (upd HB p (.ins C dx [(("wide" : Str), V.int G.wide), ("high", .int G.high), ("figures", .ref dF), ("places", .ref dP)])) dP = _ := rm_put p3' hD nofun
  have rp : Paired (fun a (f : Fig) => SqT K (rmL [p] (upd HB p (.ins C dx [(("wide" : Str), V.int G.wide), ("high", .int G.high), ("figures", .ref dF), ("places", .ref dP)]))) a [.int f.x, .int f.y, .int f.w]) ps G.figs := L2.Paired.mapP pr fun a q e => rm_putT p3' e
  generalize upd HB p (.ins C dx [(("wide" : Str), V.int G.wide), ("high", .int G.high), ("figures", .ref dF), ("places", .ref dP)]) = H4 at *
  replace rF := r4 _ _ rF
  have fP : H dP = none := free_of b3 p3 nP
  clear sm hD p3' nP b3 p3 k3 h5' h6' wk J HB r4 pr H3
  have k4 : KS K H H4 := KS.but hp b4
  have h5' := k4 _ _ h5
  have h6' := figs_ks h6 k4
  refine sq_it rfl h5' fun J wk dS nS => dcg_it (put := putT) wk (fun i HB => Same H4 HB ∧ HB dS = some (.dT (dkT (G.figs.take i) ((G.figs.take i).map fun _ => .bl true)))) ⟨same_upd nS, upd_same⟩ (fun i HB _ h => h.1) ?_ ?_
  · rintro i v _ HB hi ⟨sm, hD⟩ ⟨rfl, ex⟩
    obtain ⟨z, ez, b, sp, nn, ll, more, rfl, e1, e2, e3, e4⟩ := paired_at h6' ex
    refine ⟨rfl, ?_⟩
    unfold tYes
    refine iteT ⟨_, rfl, ix_or (e1.same sm) (atI_nat (j := 0) rfl) ⟨by show 2 ≤ sizeLine; decide, fun t nt => ?_⟩⟩
    have st := same_upd (o := .tup [V.str z.nm, .int 0]) nt
    have ht := upd_same (H := HB) (a := t) (o := .tup [V.str z.nm, .int 0])
    generalize upd HB t (.tup [V.str z.nm, .int 0]) = HC at *
    have hDE := st _ _ hD
    refine ⟨_, fgK z.nm, t, rfl, ht, hDE, ?_, Fd.Same.putN (sm.trans st) nS, ?_⟩
    · rw [dkT_len (by rw [List.length_map]), List.length_take]
      exact small1000 (by have := ok.ln; omega)
    · rw [upd_same, dkT_put ok.nd ez (by rw [List.length_map])]
      refine congrArg (fun l => some (HO.dT (dkT _ l))) ?_
      rw [List.take_succ, ez, List.map_append]
      rfl
  rintro HB ⟨sm, hD⟩
  rw [List.take_of_length_le (by rw [l6]; exact Nat.le_refl _)] at hD
  have p4' := sm _ _ p4
  refine ⟨_, rfl, p, C, dx, _, rfl, p4', c.cl, c.nS, (show 4 < 1000 by decide), ?_⟩
  rw [show putF "shown" (.ref dS) [(("wide" : Str), V.int G.wide), ("high", .int G.high), ("figures", .ref dF), ("places", .ref dP)] = [(("wide" : Str), V.int G.wide), ("high", .int G.high), ("figures", .ref dF), ("places", .ref dP), ("shown", .ref dS)] from by kernel_rfl]
  have b5 : ButL [p] H (upd HB p (.ins C dx [(("wide" : Str), V.int G.wide), ("high", .int G.high), ("figures", .ref dF), ("places", .ref dP), ("shown", .ref dS)])) := fld_step b4 sm
  have r5 : Same (rmL [p] H4) (rmL [p] (upd HB p (.ins C dx [(("wide" : Str), V.int G.wide), ("high", .int G.high), ("figures", .ref dF), ("places", .ref dP), ("shown", .ref dS)]))) := rmL_but (fld_step (fun _ _ _ e => e) sm)
  have p5 : (upd HB p (.ins C dx [(("wide" : Str), V.int G.wide), ("high", .int G.high), ("figures", .ref dF), ("places", .ref dP), ("shown", .ref dS)])) p = _ := upd_same
  have rS : rmL [p] (upd HB p (.ins C dx [(("wide" : Str), V.int G.wide), ("high", .int G.high), ("figures", .ref dF), ("places", .ref dP), ("shown", .ref dS)])) dS = _ := rm_put p4' hD nofun
  have nPS : dP ≠ dS := ne_of_none (rmL_le _ _ rP) nS
  have nFS : dF ≠ dS := ne_of_none (rmL_le _ _ rF) nS
  generalize upd HB p (.ins C dx [(("wide" : Str), V.int G.wide), ("high", .int G.high), ("figures", .ref dF), ("places", .ref dP), ("shown", .ref dS)]) = H5 at *
  replace rF := r5 _ _ rF
  replace rP := r5 _ _ rP
  replace rp := L2.Paired.mapP rp fun a q e => seqT r5 e
  have fS : H dS = none := free_of b4 p4 nS
  clear sm hD p4' nS b4 p4 k4 h5' h6' wk J HB r5 H4
  have k5 : KS K H H5 := KS.but hp b5
  have h5' := k5 _ _ h5
  have h6' := figs_ks h6 k5
  refine sq_it rfl h5' fun J wk dH nH => dcg_it (put := putT) wk (fun i HB => Same H5 HB ∧ ∃ hs : List Hd, HB dH = some (.dT (dkT (G.figs.take i) (refP hs))) ∧ Paired (fun a (f : Fig) => HoldF CH HB a f.ns f.rs) hs (G.figs.take i) ∧ (dH :: hs.flatMap Hd.fp).Nodup ∧ ∀ b ∈ hs.flatMap Hd.fp, H5 b = none) ⟨same_upd nH, [], upd_same, .nil, by simp, fun b hb => by simp at hb⟩ (fun i HB _ h => h.1) ?_ ?_
  · rintro i v _ HB hi ⟨sm, hs, hD, pr, ndH, frH⟩ ⟨rfl, ex⟩
    obtain ⟨z, ez, b, sp, nn, ll, more, rfl, e1, e2, e3, e4⟩ := paired_at h6' ex
    have lps := paired_len pr
    refine ⟨rfl, ?_⟩
    unfold tYes
    refine iteT ⟨_, rfl, ix_or (e1.same sm) (atI_nat (j := 0) rfl) ⟨by show 2 ≤ sizeLine; decide, fun t nt => ?_⟩⟩
    have st := same_upd (o := .tup [V.str z.nm, .int 0]) nt
    have ht := upd_same (H := HB) (a := t) (o := .tup [V.str z.nm, .int 0])
    generalize upd HB t (.tup [V.str z.nm, .int 0]) = HC at *
    refine ⟨_, rfl, ix_or (e1.same (sm.trans st)) (atI_nat (j := 2) rfl) ⟨_, rfl, ix_or (e1.same (sm.trans st)) (atI_nat (j := 3) rfl) fun y dy ny ndy nyd => ?_⟩⟩
    have sn := (same_upd (o := .own y) ndy).trans (same_upd (H := upd HC dy (.own y)) (p := y) (o := .ins CH dy []) (by rw [upd_ne (Ne.symm nyd)]; exact ny))
    have yn := upd_same (H := upd HC dy (.own y)) (a := y) (o := .ins CH dy [])
    have hk := ok.fh z (List.mem_of_getElem? ez)
    have nyD : dH ≠ y := ne_of_none (st _ _ hD) ny
    generalize upd (upd HC dy (.own y)) y (.ins CH dy []) = HE at *
    refine ⟨y, dy, nn, ll, z.ns, z.rs, rfl, yn, e3.same ((sm.trans st).trans sn), e4.same ((sm.trans st).trans sn), hk.n1, hk.n2, hk.l1, hk.l2, hk.l3, fun HF hd bf ehp hf frn ndh => ⟨rfl, ?_⟩⟩
    subst ehp
    have sf : Same HC HF := fun b' o e => bf b' o (fun c => (ne_of_none e ny) (List.mem_singleton.mp c)) (sn _ _ e)
    have hDE := sf _ _ (st _ _ hD)
    have yB : HB hd.p = none := same_free st ny
    have fB : ∀ b ∈ hd.fp, HB b = none := fun b hb => by
      rcases List.mem_cons.mp hb with rfl | hb
      · exact yB
      · exact same_free (st.trans sn) (frn b hb)
    have dHn : dH ∉ hd.fp := fun c => by rw [fB dH c] at hD; cases hD
    have prC := L2.Paired.mapP pr fun a q e => e.same (st.trans sf)
    refine ⟨_, fgK z.nm, t, rfl, sf _ _ ht, hDE, ?_, Fd.Same.putN ((sm.trans st).trans sf) nH, hs ++ [hd], ?_, ?_, ?_, fun b hb => ?_⟩
    · rw [dkT_len (by unfold refP; rw [List.length_map]; exact lps.symm), List.length_take]
      exact small1000 (by have := ok.ln; omega)
    · rw [upd_same, dkT_put ok.nd ez (by unfold refP; rw [List.length_map]; exact lps.symm)]
      unfold refP
      rw [List.map_append]
      rfl
    · rw [List.take_succ, ez]
      refine paired_snoc (paired_memL prC fun a ha q e => e.off (fun c => ?_) fun b u n e => by rw [upd_ne n]; exact e) (hf.off dHn fun b u n e => by rw [upd_ne n]; exact e)
      exact (List.nodup_cons.mp ndH).1 (List.mem_flatMap.mpr ⟨a, ha, c⟩)
    · obtain ⟨q1, q2⟩ := List.nodup_cons.mp ndH
      rw [List.flatMap_append]
      refine List.nodup_cons.mpr ⟨fun c => ?_, ?_⟩
      · rcases List.mem_append.mp c with c | c
        · exact q1 c
        · rw [List.flatMap_cons, List.flatMap_nil, List.append_nil] at c
          exact dHn c
      · rw [List.nodup_append]
        refine ⟨q2, by rw [List.flatMap_cons, List.flatMap_nil, List.append_nil]; exact ndh, fun x hx y' hy' e => ?_⟩
        rw [List.flatMap_cons, List.flatMap_nil, List.append_nil] at hy'
        obtain ⟨a', ha', hx⟩ := List.mem_flatMap.mp hx
        obtain ⟨q', _, hq'⟩ := paired_left pr ha'
        obtain ⟨u, hu, _⟩ := hq'.own x hx
        rw [e, fB y' hy'] at hu
        cases hu
    · rw [List.flatMap_append] at hb
      rcases List.mem_append.mp hb with hb | hb
      · exact frH b hb
      · rw [List.flatMap_cons, List.flatMap_nil, List.append_nil] at hb
        exact same_free sm (fB b hb)
  rintro HB ⟨sm, hs, hD, pr, ndH, frH⟩
  rw [List.take_of_length_le (by rw [l6]; exact Nat.le_refl _)] at hD pr
  have p5' := sm _ _ p5
  refine ⟨_, rfl, p, C, dx, _, rfl, p5', c.cl, c.nD, (show 5 < 1000 by decide), ?_⟩
  rw [show putF "held" (.ref dH) [(("wide" : Str), V.int G.wide), ("high", .int G.high), ("figures", .ref dF), ("places", .ref dP), ("shown", .ref dS)] = fldG G.wide G.high dF dP dS dH from by kernel_rfl]
  have nP : dP ≠ dH := ne_of_none (rmL_le _ _ rP) nH
  have nS : dS ≠ dH := ne_of_none (rmL_le _ _ rS) nH
  have b6 : ButL [p] H (upd HB p (.ins C dx (fldG G.wide G.high dF dP dS dH))) := fld_step b5 sm
  have r6 : Same (rmL [p] H5) (rmL [p] (upd HB p (.ins C dx (fldG G.wide G.high dF dP dS dH)))) := rmL_but (fld_step (fun _ _ _ e => e) sm)
  have p6 : (upd HB p (.ins C dx (fldG G.wide G.high dF dP dS dH))) p = _ := upd_same
  have rH : rmL [p] (upd HB p (.ins C dx (fldG G.wide G.high dF dP dS dH))) dH = _ := rm_put p5' hD nofun
  have pnH : p ∉ hs.flatMap Hd.fp := fun c => by rw [frH p c] at p5; cases p5
  have rh : Paired (fun a (f : Fig) => HoldF CH (upd HB p (.ins C dx (fldG G.wide G.high dF dP dS dH))) a f.ns f.rs) hs G.figs := paired_memL pr fun a ha q e => e.off (fun c => pnH (List.mem_flatMap.mpr ⟨a, ha, c⟩)) fun b u n e => by rw [upd_ne n]; exact e
  have dFn : dF ∉ hs.flatMap Hd.fp := fun c => by have := rmL_le _ _ rF; rw [frH dF c] at this; cases this
  have dPn : dP ∉ hs.flatMap Hd.fp := fun c => by have := rmL_le _ _ rP; rw [frH dP c] at this; cases this
  have dSn : dS ∉ hs.flatMap Hd.fp := fun c => by have := rmL_le _ _ rS; rw [frH dS c] at this; cases this
  have npH : p ≠ dH := fun z => by rw [← z, p5] at nH; cases nH
  have frHH : ∀ b ∈ hs.flatMap Hd.fp, H b = none := fun b hb => free_of b5 p5 (frH b hb)
  generalize upd HB p (.ins C dx (fldG G.wide G.high dF dP dS dH)) = H6 at *
  replace rF := rmL_le _ _ (r6 _ _ rF)
  replace rP := rmL_le _ _ (r6 _ _ rP)
  replace rS := rmL_le _ _ (r6 _ _ rS)
  replace rH := rmL_le _ _ rH
  replace rp := L2.Paired.mapP rp fun a q e => seqT rmL_le (seqT r6 e)
  have fD : H dH = none := by
    cases e : H dH with
    | none => rfl
    | some u =>
      by_cases z : dH = p
      · rw [z, p5] at nH; cases nH
      · rw [b5 dH u (fun c => z (List.mem_singleton.mp c)) e] at nH; cases nH
  clear sm hD p5' nH b5 p5 k5 h5' h6' wk J HB r6 pr frH H5
  have k6 : KS K H H6 := KS.but hp b6
  refine ⟨_, rfl, _, rfl, fun y dy ny ndy nyd => ?_⟩
  have sn := (same_upd (o := .own y) ndy).trans (same_upd (H := upd H6 dy (.own y)) (p := y) (o := .ins CH dy []) (by rw [upd_ne (Ne.symm nyd)]; exact ny))
  have yn := upd_same (H := upd H6 dy (.own y)) (a := y) (o := .ins CH dy [])
  generalize upd (upd H6 dy (.own y)) y (.ins CH dy []) = HE at *
  refine ⟨y, dy, n, l, G.nm, G.rw, rfl, yn, (h3.ks k6).same sn, (h4.ks k6).same sn, ok.h.n1, ok.h.n2, ok.h.l1, ok.h.l2, ok.h.l3, fun HF h0 bf ehp hf frn ndh => ⟨rfl, ?_⟩⟩
  subst ehp
  have sf : Same H6 HF := fun b' o e => bf b' o (fun c => (ne_of_none e ny) (List.mem_singleton.mp c)) (sn _ _ e)
  have hDE := sf _ _ rH
  have lhs := paired_len rh
  have y6 : H6 h0.p = none := ny
  have f6 : ∀ b ∈ h0.fp, H6 b = none := fun b hb => by
    rcases List.mem_cons.mp hb with rfl | hb
    · exact y6
    · exact same_free sn (frn b hb)
  have n6 : ∀ {b u}, H6 b = some u → b ∉ h0.fp := fun {b u} e c => by rw [f6 b c] at e; cases e
  refine ⟨_, rfl, p, C, dx, _, _, rfl, sf _ _ p6, c.cl, c.nD, fldG_d _ _ _ _ _ _, dH, _, rfl, rfl, hDE, ?_, fun o hm => ?_⟩
  · rw [dkT_len (by unfold refP; rw [List.length_map]; exact lhs.symm)]
    have := ok.ln
    omega
  have ne : ∀ {b u}, H6 b = some u → u ≠ .dT (dkT G.figs (refP hs)) → (upd HF dH o) b = some u := fun {b u} e n => by
    rw [upd_ne (ne_of (sf _ _ e) hDE n)]
    exact sf _ _ e
  have dHh : dH ∉ h0.fp := n6 rH
  have pP : p ≠ dP := ne_of p6 rP nofun
  have pS : p ≠ dS := ne_of p6 rS nofun
  have pF : p ≠ dF := ne_of p6 rF nofun
  have FP : dF ≠ dP := ne_of rF rP nofun
  have FH : dF ≠ dH := ne_of rF rH nofun
  have free : ∀ {b}, H6 b = none → H b = none := fun e => free_of b6 p6 e
  refine q _ ⟨dx, dF, dP, dS, dH, hs, h0⟩ (fun b u nb hb => ?_) ⟨⟨ps, ne p6 nofun, ne rF nofun, ?_, L2.Paired.mapP rp fun a f e => ?_, ?_, hm, paired_memL rh fun a ha f e => ?_, hf.off dHh fun b u n e => by rw [upd_ne n]; exact e⟩, ok, ?_⟩ (fun b hb nb => ?_)
  · rw [upd_ne (ne_of_none hb fD)]
    exact sf _ _ (b6 b u nb hb)
  · show upd HF dH o dP = _
    rw [upd_ne nP]
    exact sf _ _ rP
  · rcases e with (e | ⟨o, e⟩) | e
    · exact .inl (.inl (ne e nofun))
    · exact .inl (.inr ⟨o, ne e nofun⟩)
    · exact .inr e
  · show upd HF dH o dS = _
    rw [upd_ne nS]
    exact sf _ _ rS
  · exact (e.same sf).off (fun c => (List.nodup_cons.mp ndH).1 (List.mem_flatMap.mpr ⟨a, ha, c⟩)) fun b u n e => by rw [upd_ne n]; exact e
  · show (p :: dF :: dP :: dS :: dH :: (h0.fp ++ hs.flatMap Hd.fp)).Nodup
    obtain ⟨q1, q2⟩ := List.nodup_cons.mp ndH
    have app : ∀ {b}, b ∉ h0.fp → b ∉ hs.flatMap Hd.fp → b ∉ h0.fp ++ hs.flatMap Hd.fp := fun a b c => (List.mem_append.mp c).elim a b
    refine List.nodup_cons.mpr ⟨fun c => ?_, List.nodup_cons.mpr ⟨fun c => ?_, List.nodup_cons.mpr ⟨fun c => ?_, List.nodup_cons.mpr ⟨fun c => ?_, List.nodup_cons.mpr ⟨fun c => ?_, ?_⟩⟩⟩⟩⟩
    · rcases List.mem_cons.mp c with z | c
      · exact pF z
      rcases List.mem_cons.mp c with z | c
      · exact pP z
      rcases List.mem_cons.mp c with z | c
      · exact pS z
      rcases List.mem_cons.mp c with z | c
      · exact npH z
      · exact app (n6 p6) pnH c
    · rcases List.mem_cons.mp c with z | c
      · exact FP z
      rcases List.mem_cons.mp c with z | c
      · exact nFS z
      rcases List.mem_cons.mp c with z | c
      · exact FH z
      · exact app (n6 rF) dFn c
    · rcases List.mem_cons.mp c with z | c
      · exact nPS z
      rcases List.mem_cons.mp c with z | c
      · exact nP z
      · exact app (n6 rP) dPn c
    · rcases List.mem_cons.mp c with z | c
      · exact nS z
      · exact app (n6 rS) dSn c
    · exact app dHh q1 c
    · rw [List.nodup_append]
      refine ⟨ndh, q2, fun x hx y' hy' e => ?_⟩
      obtain ⟨a', ha', hy'⟩ := List.mem_flatMap.mp hy'
      obtain ⟨q', _, hq'⟩ := paired_left rh ha'
      obtain ⟨u, hu, _⟩ := hq'.own y' hy'
      rw [← e, f6 x hx] at hu
      cases hu
  · have hb : b ∈ p :: dF :: dP :: dS :: dH :: (h0.fp ++ hs.flatMap Hd.fp) := hb
    rcases List.mem_cons.mp hb with z | hb
    · exact absurd z nb
    rcases List.mem_cons.mp hb with z | hb
    · rw [z]; exact fF
    rcases List.mem_cons.mp hb with z | hb
    · rw [z]; exact fP
    rcases List.mem_cons.mp hb with z | hb
    · rw [z]; exact fS
    rcases List.mem_cons.mp hb with z | hb
    · rw [z]; exact fD
    rcases List.mem_append.mp hb with hb | hb
    · exact free (f6 b hb)
    · exact frHH b hb
end
end Fd

set_option Elab.async false
set_option linter.all false
set_option maxRecDepth 100000
set_option maxHeartbeats 1000000
namespace Fd
open PySem PySem.Spec PyProof.Rows L2 RZ Fw LamX
theorem hu70 {k : Nat} {A : Around} (r : Room k A) : A.units + 70 < cLine := by have := r.un; omega
abbrev sGO : Stmt := inC 37 6
/-- the table in which the lambda of ones stands -/
def TT (P0 : Addr) : List (Addr × Str) := [(P0, ("Ground.ones.<locals>.<lambda>" : Str))]
/-- what stands at l was not known, but for tables -/
def NewL (H : Hp) (l : Addr) : Prop := ∀ o, H l = some o → ∃ ps, o = .tbl ps
theorem NewL.of {H : Hp} {l : Addr} (h : H l = none) : NewL H l := fun o e => by rw [h] at e; cases e
theorem NewL.ne {H : Hp} {l a : Addr} {o : HO} (h : NewL H l) (e : H a = some o) (n : ∀ ps, o ≠ .tbl ps) : a ≠ l := fun z => by
  obtain ⟨ps, x⟩ := h o (by rw [← z]; exact e)
  exact n ps x
theorem newL_ext {H H' : Hp} {l : Addr} (s : ExtN H H') (h : H' l = none) : NewL H l := fun o e => by
  by_cases t : ∃ ps, o = .tbl ps
  · exact t
  · have := s l o e (fun ps z => t ⟨ps, z⟩)
    rw [h] at this
    cases this
/-- the figures' names with their places -/
def ixF (fs : List Fig) : Nms := fs.mapIdx fun i f => (f.nm, (i : Int))
theorem ixF_at {fs : List Fig} {i : Nat} {z : Fig} (e : fs[i]? = some z) : (ixF fs)[i]? = some (z.nm, (i : Int)) := by
  unfold ixF
  rw [List.getElem?_mapIdx, e]
  rfl
theorem ixF_len (fs : List Fig) : (ixF fs).length = fs.length := List.length_mapIdx
theorem ixF_nm (fs : List Fig) : (ixF fs).map (·.1) = fs.map Fig.nm := by
  refine List.ext_getElem? fun i => ?_
  unfold ixF
  rw [List.getElem?_map, List.getElem?_mapIdx, List.getElem?_map]
  cases fs[i]? <;> rfl
/-- the ones, to be sorted -/
def kiL : Int → List Addr → List Fig → List KI
  | r, a :: as, f :: fs => ⟨a, f.nm, 0, r⟩ :: kiL (r + 1) as fs
  | _, _, _ => []
theorem kiL_a : ∀ {as : List Addr} {fs : List Fig} {r : Int}, as.length = fs.length → (kiL r as fs).map (fun it => V.ref it.a) = as.map V.ref
  | [], [], _, _ => rfl
  | a :: as, f :: fs, r, h => by
    unfold kiL
    rw [List.map_cons, List.map_cons, kiL_a (Nat.succ.inj h)]
  | [], _ :: _, _, h => nomatch h
  | _ :: _, [], _, h => nomatch h
theorem kiL_len : ∀ {as : List Addr} {fs : List Fig} {r : Int}, (kiL r as fs).length ≤ fs.length
  | [], _, _ => Nat.zero_le _
  | a :: as, f :: fs, r => Nat.succ_le_succ kiL_len
  | _ :: _, [], _ => Nat.zero_le _
theorem kiL_in : ∀ {as : List Addr} {fs : List Fig} {r : Int} {it : KI}, it ∈ kiL r as fs → ∃ i f, as[i]? = some it.a ∧ fs[i]? = some f ∧ it.z = f.nm ∧ it.n = 0 ∧ it.r = r + (i : Nat)
  | a :: as, f :: fs, r, it, h => by
    rcases List.mem_cons.mp h with rfl | h
    · exact ⟨0, f, rfl, rfl, rfl, rfl, by show r = r + 0; omega⟩
    · obtain ⟨i, g, h1, h2, h3, h4, h5⟩ := kiL_in h
      exact ⟨i + 1, g, h1, h2, h3, h4, by rw [h5]; push_cast; omega⟩
  | [], _, _, _, h => nomatch h
  | _ :: _, [], _, _, h => nomatch h
theorem kiL_up : ∀ {as : List Addr} {fs : List Fig} {r : Int}, (kiL r as fs).Pairwise fun a b => a.r < b.r ∨ a.r = b.r ∧ a.n ≤ b.n
  | a :: as, f :: fs, r => by
    unfold kiL
    refine List.pairwise_cons.mpr ⟨fun it h => ?_, kiL_up⟩
    obtain ⟨i, g, _, _, _, _, h5⟩ := kiL_in h
    exact .inl (by show r < it.r; rw [h5]; omega)
  | [], _, _ => .nil
  | _ :: _, [], _ => .nil
theorem keys_fig {H : Hp} : ∀ {fs : List Fig} {vs : List V} {bs : List Addr}, fs.length = vs.length → IsKeys H (dkT fs vs) bs → Paired (fun b (f : Fig) => H b = some (.tup [.str f.nm, .int 0])) bs fs
  | [], [], _, _, h => by
    cases h
    exact .nil
  | f :: fs, v :: vs, _, hl, h => by
    cases h with | cons r t => exact .cons r (keys_fig (Nat.succ.inj hl) t)
  | [], _ :: _, _, h, _ => nomatch h
  | _ :: _, [], _, h, _ => nomatch h
section
variable {P : Program} {w : World} {K : PySem.W.Frag} {mg : Str → Option Value} {base : Heap} {f : Addr} {fd : FuncData} {C CH : Addr}
/-- a def's body, its code object's value known -/
theorem fun_okC {x qual : Str} {st : Stmt} {N ps : List Str} {k : Nat} {sp : Sp} (F : Fun K x qual st f fd) (S : FnScope N ps (defScope st)) (len : ∀ vs H Q E, sp vs H Q E → vs.length = ps.length)
    (go : ∀ (A : Around) (outer : List Env) (s : Shared) (H : Hp) (vs : List V) (Q : VK) (E : XK), Room k (A.deeper (envOfC qual (defScope st) s.heap.objs.size f fd.code)) → sp vs H Q E →
      ∃ t, PSs (cxOf CX0 P w K mg base N qual (defScope st) f fd.code A outer s H E).nox (defBody st) t ∧ t { nx := fun _ H' => Q .non H', rt := Q } (start N vs) H) : FnOk P w K mg base CX0 (k + 1) f fd ps sp := by
  obtain ⟨oc, od, kV, doc, pm, an, cdv, ct, osl, e, lk, hcd⟩ := F.ex
  subst e
  exact fn_of lk hcd S len fun A outer s H vs Q E hr h => match go A outer s H vs Q E hr h with
    | ⟨t, h1, h2⟩ => ⟨t, h1.nox, h2⟩
theorem scGO : FnScope ["self", "ranks", "rank", "figure"] ["self"] (defScope sGO) := ⟨rfl, rfl, rfl, by decide +kernel, rfl, by decide +kernel, by decide +kernel⟩
end
end Fd

set_option Elab.async false
set_option linter.all false
set_option maxRecDepth 100000
set_option maxHeartbeats 400000
namespace Fw
open PySem PySem.Spec PyProof.Rows L2 LamX
/-- a dict of tuples and None is no code object -/
theorem mix_code {w : World} {d : Addr} {xs : List (NestedKey × Value × Value)} {q : Str} : MixO w d xs ≠ CodeO d q := fun z => by
  unfold MixO CodeO at z
  injection z with z
  let ob : Obj := { cls := .none, data := .fields #[.none, .str q 0] }
  let h0 : Heap := { objs := Array.replicate (d + 1) ob }
  have g : h0.get? d = some ob := by
    unfold Heap.get?
    have : h0.objs[d]? = some ob := by
      show (Array.replicate (d + 1) ob)[d]? = some ob
      rw [Array.getElem?_replicate, if_pos (Nat.lt_succ_self d)]
    rw [this]
  have f : ∃ (oc : Obj) (vs : Array Value) (t : Tok), h0.get? d = some oc ∧ oc.data = Data.fields vs ∧ vs[1]? = some (Value.str q t) := ⟨ob, #[.none, .str q 0], 0, g, rfl, rfl⟩
  have e := congrFun z h0
  rw [← e] at f
  obtain ⟨o, es, ep, ho, _, hd, _⟩ := f
  rw [g] at ho
  cases ho
  cases hd
/-- tables stay where these stay -/
theorem tabs_all {T : List (Addr × Str)} {H H' : Hp} (t : Tabs T H) (e : ∀ b o, H b = some o → ((∃ ps, o = .tbl ps) ∨ ∃ q, o = CodeO b q) → H' b = some o) : Tabs T H' := fun p hp => by
  obtain ⟨ps, h1, h2, h3⟩ := t p hp
  refine ⟨ps, e _ _ h1 (.inl ⟨_, rfl⟩), h2, fun pos cv hc => ?_⟩
  obtain ⟨c, e1, e2⟩ := h3 pos cv hc
  exact ⟨c, e1, e _ _ e2 (.inr ⟨_, rfl⟩)⟩
/-- code objects stay where but lists, dicts of tuples and the dict at d change -/
theorem tabs_soft {T : List (Addr × Str)} {H H' : Hp} {w : World} {d : Addr} {xs : List (NestedKey × Value × Value)} (hd : H d = some (MixO w d xs)) (t : Tabs T H) (e : ∀ b o, H b = some o → b ≠ d → (∀ ys, o ≠ .lst ys) → (∀ kvs, o ≠ .dT kvs) → H' b = some o) : Tabs T H' := fun p hp => by
  obtain ⟨ps, h1, h2, h3⟩ := t p hp
  refine ⟨ps, e _ _ h1 (fun z => by rw [z, hd] at h1; cases h1) (fun _ => nofun) (fun _ => nofun), h2, fun pos cv hc => ?_⟩
  obtain ⟨c, e1, e2⟩ := h3 pos cv hc
  refine ⟨c, e1, e _ _ e2 (fun z => ?_) (fun xs => by unfold CodeO; nofun) (fun xs => by unfold CodeO; nofun)⟩
  rw [z, hd] at e2
  exact mix_code (Option.some.inj e2)
end Fw

set_option Elab.async false
set_option linter.all false
set_option maxRecDepth 100000
set_option maxHeartbeats 1000000
namespace Fd
open PySem PySem.Spec PyProof.Rows L2 RZ Fw LamX
/-! ### a Ground as it stands behind deeds: ones with numbers, shown or not -/
structure One where
  f : Fig
  no : Int
  sh : Bool
def One.key (o : One) : List L2.Key := [.inr o.f.nm, .inl o.no]
structure Gs where
  wide : Int
  high : Int
  nm : Nms
  rw : Rws
  ord : List Str
  ones : List One
structure Gs.Ok (G : Gs) : Prop where
  h : Hok G.nm G.rw
  fh : ∀ o ∈ G.ones, Hok o.f.ns o.f.rs
  nd : (G.ones.map One.key).Nodup
  st : ∀ o ∈ G.ones, Asc 8 o.f.nm
  ln : G.ones.length ≤ 100
  on : G.ord.Nodup
  ol : G.ord.length ≤ 100
  os : ∀ z ∈ G.ord, Asc 8 z
theorem key_inj {a b : One} (h : a.key = b.key) : a.f.nm = b.f.nm ∧ a.no = b.no := by
  injection h with h1 h2
  injection h2 with h2 _
  exact ⟨Sum.inr.inj h1, Sum.inl.inj h2⟩
def dkO (os : List One) (vs : List V) : List (List L2.Key × V) := (os.zip vs).map fun q => (q.1.key, q.2)
theorem dkO_len {os : List One} {vs : List V} (h : os.length = vs.length) : (dkO os vs).length = os.length := by
  unfold dkO
  rw [List.length_map, List.length_zip, h, Nat.min_self]
theorem dkO_snoc {os : List One} {vs : List V} {z : One} {v : V} (h : os.length = vs.length) : dkO (os ++ [z]) (vs ++ [v]) = dkO os vs ++ [(z.key, v)] := by
  unfold dkO
  rw [List.zip_append h, List.map_append]
  rfl
theorem dkO_at {os : List One} {vs : List V} {i : Nat} {z : One} {v : V} (e1 : os[i]? = some z) (e2 : vs[i]? = some v) : (dkO os vs)[i]? = some (z.key, v) := by
  unfold dkO
  have q : (os.zip vs)[i]? = some (z, v) := by rw [List.getElem?_zip_eq_some]; exact ⟨e1, e2⟩
  rw [List.getElem?_map, q]
  rfl
theorem dkO_in {os : List One} {vs : List V} {i : Nat} {q : List L2.Key × V} (e : (dkO os vs)[i]? = some q) : ∃ z v, os[i]? = some z ∧ vs[i]? = some v ∧ q = (z.key, v) := by
  unfold dkO at e
  rw [List.getElem?_map] at e
  obtain ⟨p, ep, h⟩ := Option.map_eq_some_iff.mp e
  rw [List.getElem?_zip_eq_some] at ep
  exact ⟨p.1, p.2, ep.1, ep.2, h.symm⟩
theorem dkO_keys {os : List One} {vs : List V} (h : os.length = vs.length) : (dkO os vs).map (·.1) = os.map One.key := by
  unfold dkO
  rw [List.map_map]
  have : (os.zip vs).map (Prod.fst) = os := List.map_fst_zip (Nat.le_of_eq h)
  conv => rhs; rw [← this, List.map_map]
  rfl
theorem dkO_nd {os : List One} {vs : List V} (h : os.length = vs.length) (nd : (os.map One.key).Nodup) : ((dkO os vs).map (·.1)).Nodup := by
  rw [dkO_keys h]
  exact nd
def shO (G : Gs) : List V := G.ones.map fun o => .bl o.sh
/-- the entries of held: None stands where it was put -/
def heldAll (n : Nat) (os : List One) (hs : List Addr) (h0 : Addr) : List (MKey × V) := ((dkO (os.take n) ((hs.take n).map V.ref)).map fun p => (some p.1, p.2)) ++ (none, .ref h0) :: ((dkO (os.drop n) ((hs.drop n).map V.ref)).map fun p => (some p.1, p.2))
structure GsAt (w : World) (K : PySem.W.Frag) (C CH : Addr) (H : Hp) (g : Addr) (G : Gs) : Prop where
  ob : ∃ dx dF dP dS dH ps hs h0 n, H g = some (.ins C dx (fldG G.wide G.high dF dP dS dH)) ∧ H dF = some (.lst (G.ord.map V.str)) ∧ H dP = some (.dT (dkO G.ones (ps.map V.ref))) ∧ Paired (fun a (o : One) => SqT K H a [.int o.f.x, .int o.f.y, .int o.f.w]) ps G.ones ∧
    H dS = some (.dT (dkO G.ones (shO G))) ∧ MixD w H dH (heldAll n G.ones hs h0) ∧ Paired (fun a (o : One) => HoldAt CH H a o.f.ns o.f.rs) hs G.ones ∧ HoldAt CH H h0 G.nm G.rw ∧ dP ≠ dS ∧ n ≤ G.ones.length
  ok : G.Ok
theorem GsAt.ext {w : World} {K : PySem.W.Frag} {C CH : Addr} {H H' : Hp} {g : Addr} {G : Gs} (h : GsAt w K C CH H g G) (s : ExtN H H') : GsAt w K C CH H' g G := by
  obtain ⟨⟨dx, dF, dP, dS, dH, ps, hs, h0, n, h1, h2, h3, h4, h5, h6, h7, h8, h9⟩, ok⟩ := h
  have hx : ∀ {a nm rw}, HoldAt CH H a nm rw → HoldAt CH H' a nm rw := fun h => by
    obtain ⟨⟨dx, dn, dr, rs, h1, h2, h3, h4⟩, a1, a2, a3, a4, a5⟩ := h
    exact ⟨⟨dx, dn, dr, rs, s _ _ h1 nofun, s _ _ h2 nofun, s _ _ h3 nofun, L2.Paired.mapP h4 fun a q e => s _ _ e nofun⟩, a1, a2, a3, a4, a5⟩
  refine ⟨⟨dx, dF, dP, dS, dH, ps, hs, h0, n, s _ _ h1 nofun, s _ _ h2 nofun, s _ _ h3 nofun, L2.Paired.mapP h4 fun a q e => sqT_extN e s, s _ _ h5 nofun, ?_, L2.Paired.mapP h7 fun a q e => hx e, hx h8, h9⟩, ok⟩
  exact h6.same (fun o e => by
    obtain ⟨xs, e', _⟩ := h6
    rw [e'] at e
    cases e
    exact s _ _ e' fun ps => by unfold MixO; nofun) fun b xs e => s _ _ e nofun
theorem GsAt.same {w : World} {K : PySem.W.Frag} {C CH : Addr} {H H' : Hp} {g : Addr} {G : Gs} (h : GsAt w K C CH H g G) (s : Same H H') : GsAt w K C CH H' g G := h.ext (ExtN.of s)
theorem GsAt.get {w : World} {K : PySem.W.Frag} {C CH : Addr} {H : Hp} {p : Addr} {G : Gs} (h : GsAt w K C CH H p G) : ∃ dx a b c d, H p = some (.ins C dx (fldG G.wide G.high a b c d)) := by
  obtain ⟨⟨dx, dF, dP, dS, dH, ps, hs, h0, n, h1, _⟩, _⟩ := h
  exact ⟨dx, dF, dP, dS, dH, h1⟩
theorem HoldAt.get {C : Addr} {H : Hp} {p : Addr} {nm : Nms} {rw : Rws} (h : HoldAt C H p nm rw) : ∃ dx a b, H p = some (.ins C dx (fldH a b)) := by
  obtain ⟨⟨dx, dn, dr, rs, h1, _⟩, _⟩ := h
  exact ⟨dx, dn, dr, h1⟩
/-- a ground that has just been made -/
def gs0 (G : Gnd) : Gs := ⟨G.wide, G.high, G.nm, G.rw, G.figs.map Fig.nm, G.figs.map fun f => ⟨f, 0, true⟩⟩
theorem dkO_0 {vs : List V} : ∀ {fs : List Fig}, dkO (fs.map fun f => (⟨f, 0, true⟩ : One)) vs = dkT fs vs := fun {fs} => by
  unfold dkO dkT
  rw [List.zip_map_left, List.map_map]
  rfl
theorem paired_mapR {α β γ : Type} {F : α → β → Prop} {g : γ → β} : ∀ {l : List α} {m : List γ}, Paired (fun a c => F a (g c)) l m → Paired F l (m.map g)
  | _, _, .nil => .nil
  | _, _, .cons r t => .cons r (paired_mapR t)
theorem paired_mapF {α β γ : Type} {F : β → γ → Prop} {g : α → β} : ∀ {l : List α} {m : List γ}, Paired (fun a c => F (g a) c) l m → Paired F (l.map g) m
  | _, _, .nil => .nil
  | _, _, .cons r t => .cons r (paired_mapF t)
theorem refP_eq {hs : List Hd} : refP hs = (hs.map Hd.p).map V.ref := by
  unfold refP
  rw [List.map_map]
  rfl
/-- the ground with all its addresses -/
structure GsF (w : World) (K : PySem.W.Frag) (C CH : Addr) (H : Hp) (g : Addr) (G : Gs) (A : GA) : Prop where
  ob : ∃ ps n, H g = some (.ins C A.dx (fldG G.wide G.high A.dF A.dP A.dS A.dH)) ∧ H A.dF = some (.lst (G.ord.map V.str)) ∧ H A.dP = some (.dT (dkO G.ones (ps.map V.ref))) ∧ Paired (fun a (o : One) => SqT K H a [.int o.f.x, .int o.f.y, .int o.f.w]) ps G.ones ∧
    H A.dS = some (.dT (dkO G.ones (shO G))) ∧ MixD w H A.dH (heldAll n G.ones (A.hs.map Hd.p) A.h0.p) ∧ Paired (fun h (o : One) => HoldF CH H h o.f.ns o.f.rs) A.hs G.ones ∧ HoldF CH H A.h0 G.nm G.rw ∧ n ≤ G.ones.length
  ok : G.Ok
  nd : (A.fp g).Nodup
/-- the addresses are apart -/
structure Nes (p : Addr) (A : GA) : Prop where
  pF : p ≠ A.dF
  pP : p ≠ A.dP
  pS : p ≠ A.dS
  pH : p ≠ A.dH
  FP : A.dF ≠ A.dP
  FS : A.dF ≠ A.dS
  FH : A.dF ≠ A.dH
  PS : A.dP ≠ A.dS
  PH : A.dP ≠ A.dH
  SH : A.dS ≠ A.dH
  o0 : ∀ b ∈ A.h0.fp, b ≠ p ∧ b ≠ A.dF ∧ b ≠ A.dP ∧ b ≠ A.dS ∧ b ≠ A.dH
  os : ∀ h ∈ A.hs, ∀ b ∈ h.fp, b ≠ p ∧ b ≠ A.dF ∧ b ≠ A.dP ∧ b ≠ A.dS ∧ b ≠ A.dH
  sep : ∀ h ∈ A.hs, ∀ b ∈ h.fp, b ∉ A.h0.fp
  two : ∀ (i j : Nat) (h k : Hd), A.hs[i]? = some h → A.hs[j]? = some k → i ≠ j → ∀ b ∈ h.fp, b ∉ k.fp
  n0 : A.h0.fp.Nodup
  ns : ∀ h ∈ A.hs, h.fp.Nodup
theorem flat_two {α : Type} {f : α → List Addr} : ∀ {l : List α} {i j : Nat} {a b : α} {x : Addr}, (l.flatMap f).Nodup → l[i]? = some a → l[j]? = some b → i ≠ j → x ∈ f a → x ∉ f b
  | [], _, _, _, _, _, _, e, _, _, _ => by simp at e
  | y :: l, 0, 0, _, _, _, _, _, _, n, _ => absurd rfl n
  | y :: l, 0, j + 1, a, b, x, nd, e1, e2, _, hx => fun hb => by
    cases (Option.some.inj e1)
    rw [List.flatMap_cons, List.nodup_append] at nd
    exact nd.2.2 x hx x (List.mem_flatMap.mpr ⟨b, List.mem_of_getElem? (l := l) (i := j) e2, hb⟩) rfl
  | y :: l, i + 1, 0, a, b, x, nd, e1, e2, _, hx => fun hb => by
    cases (Option.some.inj e2)
    rw [List.flatMap_cons, List.nodup_append] at nd
    exact nd.2.2 x hb x (List.mem_flatMap.mpr ⟨a, List.mem_of_getElem? (l := l) (i := i) e1, hx⟩) rfl
  | y :: l, i + 1, j + 1, a, b, x, nd, e1, e2, n, hx => by
    rw [List.flatMap_cons, List.nodup_append] at nd
    exact flat_two (l := l) (i := i) (j := j) nd.2.1 e1 e2 (fun z => n (by rw [z])) hx
theorem flat_nd {α : Type} {f : α → List Addr} : ∀ {l : List α} {a : α}, (l.flatMap f).Nodup → a ∈ l → (f a).Nodup
  | y :: l, a, nd, h => by
    rw [List.flatMap_cons, List.nodup_append] at nd
    rcases List.mem_cons.mp h with rfl | h
    · exact nd.1
    · exact flat_nd nd.2.1 h
theorem nes {p : Addr} {A : GA} (nd : (A.fp p).Nodup) : Nes p A := by
  unfold GA.fp at nd
  obtain ⟨a1, nd⟩ := List.nodup_cons.mp nd
  obtain ⟨a2, nd⟩ := List.nodup_cons.mp nd
  obtain ⟨a3, nd⟩ := List.nodup_cons.mp nd
  obtain ⟨a4, nd⟩ := List.nodup_cons.mp nd
  obtain ⟨a5, nd⟩ := List.nodup_cons.mp nd
  simp only [List.mem_cons, not_or] at a1 a2 a3 a4
  obtain ⟨b1, b2, b3, b4, b5⟩ := a1
  obtain ⟨c1, c2, c3, c4⟩ := a2
  obtain ⟨d1, d2, d3⟩ := a3
  obtain ⟨e1, e2⟩ := a4
  have key : ∀ b ∈ A.h0.fp ++ A.hs.flatMap Hd.fp, b ≠ p ∧ b ≠ A.dF ∧ b ≠ A.dP ∧ b ≠ A.dS ∧ b ≠ A.dH := fun b hb =>
    ⟨fun z => b5 (by rw [← z]; exact hb), fun z => c4 (by rw [← z]; exact hb), fun z => d3 (by rw [← z]; exact hb), fun z => e2 (by rw [← z]; exact hb), fun z => a5 (by rw [← z]; exact hb)⟩
  rw [List.nodup_append] at nd
  obtain ⟨n1, n2, n3⟩ := nd
  exact ⟨b1, b2, b3, b4, c1, c2, c3, d1, d2, e1, fun b hb => key b (List.mem_append_left _ hb), fun h hh b hb => key b (List.mem_append_right _ (List.mem_flatMap.mpr ⟨h, hh, hb⟩)), fun h hh b hb c => n3 b c b (List.mem_flatMap.mpr ⟨h, hh, hb⟩) rfl, fun i j h k e1 e2 n b hb => flat_two n2 e1 e2 n hb, n1, fun h hh => flat_nd n2 hh⟩
theorem mem_fp {p : Addr} {A : GA} : p ∈ A.fp p ∧ A.dF ∈ A.fp p ∧ A.dP ∈ A.fp p ∧ A.dS ∈ A.fp p ∧ A.dH ∈ A.fp p ∧ (∀ b ∈ A.h0.fp, b ∈ A.fp p) ∧ ∀ h ∈ A.hs, ∀ b ∈ h.fp, b ∈ A.fp p := by
  unfold GA.fp
  refine ⟨by simp, by simp, by simp, by simp, by simp, fun b hb => ?_, fun h hh b hb => ?_⟩
  · simp only [List.mem_cons, List.mem_append]
    exact .inr (.inr (.inr (.inr (.inr (.inl hb)))))
  · simp only [List.mem_cons, List.mem_append]
    exact .inr (.inr (.inr (.inr (.inr (.inr (List.mem_flatMap.mpr ⟨h, hh, hb⟩))))))
section
variable {w : World} {K : PySem.W.Frag} {C CH : Addr} {H H' : Hp} {p : Addr} {G : Gs} {A : GA}
theorem GsF.at (h : GsF w K C CH H p G A) : GsAt w K C CH H p G := by
  obtain ⟨⟨ps, n, h1, h2, h3, h4, h5, h6, h7, h8, h9⟩, ok, nd⟩ := h
  exact ⟨⟨A.dx, A.dF, A.dP, A.dS, A.dH, ps, A.hs.map Hd.p, A.h0.p, n, h1, h2, h3, h4, h5, h6, paired_mapF (L2.Paired.mapP h7 fun a q e => e.at), h8.at, (nes nd).PS, h9⟩, ok⟩
theorem GsF.fr (h : GsF w K C CH H p G A) (s : ∀ b ∈ A.fp p, ∀ u, H b = some u → H' b = some u) (k : Kp [] H H') : GsF w K C CH H' p G A := by
  obtain ⟨⟨ps, n, h1, h2, h3, h4, h5, h6, h7, h8, h9⟩, ok, nd⟩ := h
  obtain ⟨m1, m2, m3, m4, m5, m6, m7⟩ := mem_fp (p := p) (A := A)
  exact ⟨⟨ps, n, s _ m1 _ h1, s _ m2 _ h2, s _ m3 _ h3, L2.Paired.mapP h4 fun a q e => sqT_kp k e, s _ m4 _ h5, h6.same (fun o e => s _ m5 _ e) (fun b xs e => k.t b xs e), paired_memL h7 fun a ha q e => e.fr fun b hb u x => s b (m7 a ha b hb) u x, h8.fr fun b hb u x => s b (m6 b hb) u x, h9⟩, ok, nd⟩
theorem GsF.same (h : GsF w K C CH H p G A) (s : Same H H') : GsF w K C CH H' p G A := h.fr (fun b _ u e => s b u e) (Kp.same s)
theorem GsF.own (h : GsF w K C CH H p G A) : ∀ b ∈ A.fp p, ∃ u, H b = some u ∧ Own b u := fun b hb => by
  obtain ⟨⟨ps, n, h1, h2, h3, h4, h5, ⟨xs, h6, _⟩, h7, h8, h9⟩, ok, nd⟩ := h
  unfold GA.fp at hb
  rcases List.mem_cons.mp hb with rfl | hb
  · exact ⟨_, h1, .inl ⟨_, _, _, rfl⟩⟩
  rcases List.mem_cons.mp hb with rfl | hb
  · exact ⟨_, h2, .inr (.inl ⟨_, rfl⟩)⟩
  rcases List.mem_cons.mp hb with rfl | hb
  · exact ⟨_, h3, .inr (.inr (.inr (.inl ⟨_, rfl⟩)))⟩
  rcases List.mem_cons.mp hb with rfl | hb
  · exact ⟨_, h5, .inr (.inr (.inr (.inl ⟨_, rfl⟩)))⟩
  rcases List.mem_cons.mp hb with rfl | hb
  · exact ⟨_, h6, .inr (.inr (.inr (.inr ⟨_, _, rfl⟩)))⟩
  rcases List.mem_append.mp hb with hb | hb
  · exact h8.own b hb
  · obtain ⟨a, ha, hb⟩ := List.mem_flatMap.mp hb
    obtain ⟨q, _, e⟩ := paired_left h7 ha
    exact e.own b hb
theorem Own.nt {b : Addr} {u : HO} (h : Own b u) : (∀ xs, u ≠ .tup xs) ∧ (∀ ps, u ≠ .tbl ps) ∧ (∀ o x, u ≠ .frz o x) ∧ (∀ b, u ≠ .own b) := by
  rcases h with ⟨_, _, _, rfl⟩ | ⟨_, rfl⟩ | ⟨_, rfl⟩ | ⟨_, rfl⟩ | ⟨_, _, rfl⟩ <;> refine ⟨?_, ?_, ?_, ?_⟩ <;> intros <;> (try unfold MixO) <;> nofun
theorem Own.code {b : Addr} {u : HO} (h : Own b u) (q : Str) : u ≠ CodeO b q := by
  rcases h with ⟨_, _, _, rfl⟩ | ⟨_, rfl⟩ | ⟨_, rfl⟩ | ⟨_, rfl⟩ | ⟨_, _, rfl⟩
  · unfold CodeO; nofun
  · unfold CodeO; nofun
  · unfold CodeO; nofun
  · unfold CodeO; nofun
  · exact mix_code
theorem GsF.ext (h : GsF w K C CH H p G A) (s : ExtN H H') : GsF w K C CH H' p G A := h.fr (fun b hb u e => by
  obtain ⟨u', e', o⟩ := h.own b hb
  rw [e] at e'
  cases e'
  exact s _ _ e o.nt.2.1) (Kp.ext s)
theorem GsF.new (h : GsF w K C CH H p G A) {b : Addr} (e : H b = none) : b ∉ A.fp p := fun hb => by
  obtain ⟨u, hu, _⟩ := h.own b hb
  rw [e] at hu
  cases hu
/-- what is written at an own address leaves tuples -/
theorem own_kp {H : Hp} {d : Addr} {u o : HO} (e : H d = some u) (n : Own d u) : Kp [] H (upd H d o) := ⟨(fun b xs _ c => nomatch c), fun b xs q => by rw [upd_ne (ne_of q e (Ne.symm (n.nt.1 xs)))]; exact q, fun b ob xs q => by rw [upd_ne (ne_of q e (Ne.symm (n.nt.2.2.1 ob _)))]; exact q⟩
theorem GsF.of {G : Gnd} (h : GroundAt w K C CH H p G A) : GsF w K C CH H p (gs0 G) A := by
  obtain ⟨⟨ps, h1, h2, h3, h4, h5, h6, h7, h8⟩, ok, nd⟩ := h
  have l4 := paired_len h4
  have l7 := paired_len h7
  refine ⟨⟨ps, G.figs.length, h1, ?_, ?_, paired_mapR h4, ?_, ?_, paired_mapR h7, h8, ?_⟩, ?_, nd⟩
  · rw [h2]
    unfold gs0
    rw [List.map_map]
    rfl
  · show H A.dP = some (.dT (dkO (G.figs.map _) _))
    rw [dkO_0]
    exact h3
  · show H A.dS = some (.dT (dkO (G.figs.map _) ((G.figs.map _).map _)))
    rw [dkO_0, List.map_map]
    exact h5
  · have : heldAll G.figs.length (gs0 G).ones (A.hs.map Hd.p) A.h0.p = heldK G A.hs A.h0.p := by
      unfold heldAll heldK gs0
      dsimp only
      rw [List.take_of_length_le (by rw [List.length_map]; exact Nat.le_refl _), List.take_of_length_le (by rw [List.length_map, l7]; exact Nat.le_refl _), dkO_0, List.drop_of_length_le (by rw [List.length_map]; exact Nat.le_refl _), refP_eq]
      rfl
    rw [this]
    exact h6
  · show G.figs.length ≤ (G.figs.map _).length
    rw [List.length_map]
    exact Nat.le_refl _
  · refine ⟨ok.h, fun o ho => ?_, ?_, fun o ho => ?_, ?_, ok.nd, ?_, fun z hz => ?_⟩
    · obtain ⟨f, hf, rfl⟩ := List.mem_map.mp ho
      exact ok.fh f hf
    · show ((G.figs.map _).map One.key).Nodup
      rw [List.map_map]
      have := nodup_fgK ok.nd
      rw [List.map_map] at this
      exact this
    · obtain ⟨f, hf, rfl⟩ := List.mem_map.mp ho
      exact ok.st f hf
    · show (G.figs.map _).length ≤ 100
      rw [List.length_map]
      exact ok.ln
    · show (G.figs.map _).length ≤ 100
      rw [List.length_map]
      exact ok.ln
    · obtain ⟨f, hf, rfl⟩ := List.mem_map.mp hz
      exact ok.st f hf
end
/-- b is a one: a tuple, or a list -/
def OneV (K : PySem.W.Frag) (H : Hp) (b : Addr) (o : One) : Prop := H b = some (.tup [.str o.f.nm, .int o.no]) ∨ SqL K H b [.str o.f.nm, .int o.no]
theorem OneV.ext {K : PySem.W.Frag} {H H' : Hp} {b : Addr} {o : One} (h : OneV K H b o) (s : ExtN H H') : OneV K H' b o := h.imp (fun e => s _ _ e nofun) fun e => sqL_extN e s
theorem OneV.same {K : PySem.W.Frag} {H H' : Hp} {b : Addr} {o : One} (h : OneV K H b o) (s : Same H H') : OneV K H' b o := h.ext (ExtN.of s)
theorem OneV.sq {K : PySem.W.Frag} {H : Hp} {b : Addr} {o : One} (h : OneV K H b o) : Sq K H b [.str o.f.nm, .int o.no] := h.elim (fun e => .inr (.inl (.inl e))) .inl
/-- tuple(..) of it -/
theorem key_or {K : PySem.W.Frag} {H : Hp} {b : Addr} {o : One} {Q : VK} (h : OneV K H b o) (q : ∀ l H', Same H H' → (∀ b, H' b = none → H b = none) → H' l = some (.tup [.str o.f.nm, .int o.no]) → Q (.ref l) H') : rTupO K [.ref b] H Q := by
  refine ⟨b, [.str o.f.nm, .int o.no], rfl, ?_⟩
  rcases h with h | h
  · exact .inr ⟨.inl (.inl h), q b H (Same.refl _) (fun _ e => e) h⟩
  · refine .inl ⟨h, fun l nl => q l _ (same_upd nl) (fun b e => ?_) upd_same⟩
    by_cases z : b = l
    · rw [z, upd_same] at e; cases e
    · rw [upd_ne z] at e; exact e
theorem paired_idx {α β : Type} {F : α → β → Prop} : ∀ {l : List α} {m : List β} {i : Nat} {y : β}, Paired F l m → m[i]? = some y → ∃ x, l[i]? = some x ∧ F x y
  | _, _, i, y, .nil, h => by simp at h
  | _, _, 0, y, .cons r t, h => by cases (Option.some.inj h); exact ⟨_, rfl, r⟩
  | _, _, i + 1, y, .cons r t, h => paired_idx (i := i) t h
theorem held_in {n : Nat} {os : List One} {hs : List Addr} {h0 : Addr} {i : Nat} {o : One} {a : Addr} (e1 : os[i]? = some o) (e2 : hs[i]? = some a) : (some o.key, V.ref a) ∈ heldAll n os hs h0 := by
  unfold heldAll
  by_cases h : i < n
  · refine List.mem_append.mpr (.inl (List.mem_map.mpr ⟨(o.key, .ref a), List.mem_of_getElem? (dkO_at (i := i) (by rw [List.getElem?_take, if_pos h]; exact e1) (by rw [List.getElem?_map, List.getElem?_take, if_pos h, e2]; rfl)), rfl⟩))
  · refine List.mem_append.mpr (.inr (List.mem_cons_of_mem _ (List.mem_map.mpr ⟨(o.key, .ref a), List.mem_of_getElem? (dkO_at (i := i - n) (by rw [List.getElem?_drop, Nat.add_sub_cancel' (Nat.le_of_not_lt h)]; exact e1) (by rw [List.getElem?_map, List.getElem?_drop, Nat.add_sub_cancel' (Nat.le_of_not_lt h), e2]; rfl)), rfl⟩)))
theorem held_none {n : Nat} {os : List One} {hs : List Addr} {h0 : Addr} : ((none : MKey), V.ref h0) ∈ heldAll n os hs h0 := List.mem_append.mpr (.inr (List.mem_cons_self ..))
/-- x is None or a one; what is held under it -/
def OwnS (K : PySem.W.Frag) (G : Gs) (H : Hp) (x : V) (nm : Nms) (rw : Rws) : Prop := (x = .non ∧ nm = G.nm ∧ rw = G.rw) ∨ ∃ (b : Addr) (o : One), x = .ref b ∧ OneV K H b o ∧ o ∈ G.ones ∧ nm = o.f.ns ∧ rw = o.f.rs
theorem retT_same {K : PySem.W.Frag} {H H' : Hp} {d : PyData} {Q : VK} (s : Same H H') (q : RetT K H d Q) : RetT K H' d Q := fun v H2 as s2 t fr => q v H2 as (s.trans s2) t fun b hb => same_free s (fr b hb)
abbrev sGS : Stmt := inC 37 7
abbrev sGB : Stmt := inC 37 11
abbrev sGN : Stmt := inC 37 9
abbrev sGR : Stmt := inC 37 10
section
variable {P : Program} {w : World} {K : PySem.W.Frag} {mg : Str → Option Value} {base : Heap} {f : Addr} {fd : FuncData} {C CH : Addr}
def spGS (w : World) (K : PySem.W.Frag) (C CH : Addr) : Sp := fun vs H Q _ => ∃ (p b : Addr) (G : Gs) (o : One), vs = [.ref p, .ref b] ∧ GsAt w K C CH H p G ∧ OneV K H b o ∧ o ∈ G.ones ∧ ∀ a H', Same H H' → SqT K H' a [.int o.f.x, .int o.f.y, .int o.f.w] → Q (.ref a) H'
theorem scGS : FnScope ["self", "one"] ["self", "one"] (defScope sGS) := ⟨rfl, rfl, rfl, by decide +kernel, rfl, by decide +kernel, by decide +kernel⟩
theorem ok_gs {k : Nat} (F : Fun K "spot" "Ground.spot" sGS f fd) (c : GCls K C) (m_tuple : mg "tuple" = none) : FnOk P w K mg base CX0 (k + 1) f fd ["self", "one"] (spGS w K C CH) := by
  have sc := scGS
  refine F.ok sc (fun vs H Q E h => ?_) (fun cdv A outer s H vs Q E hr h => ?_)
  · obtain ⟨p, b, G, g, rfl, _⟩ := h
    rfl
  obtain ⟨p, b, G, g, rfl, hp, hb, hg, q⟩ := h
  refine ⟨_, (pss_one (ps_ret (pe_dget (hu_of hr) (pe_fld (pv 0) rfl) (pe_callTy (show CallR _ (.type "tuple") (rTupO K) from call_tuple_of) (by rfl) m_tuple (by decide +kernel) (pa_cons (pv 1) pa_nil)) (fun _ _ => rfl)))), ?_⟩
  obtain ⟨⟨dx, dF, dP, dS, dH, ps, hs, h0, n, h1, h2, h3, h4, h5, h6, h7, h8, h9, hn⟩, ok⟩ := hp
  obtain ⟨i, ei⟩ := List.mem_iff_getElem?.mp hg
  obtain ⟨a, ea, ha⟩ := paired_idx h4 ei
  have lps : G.ones.length = (ps.map V.ref).length := by rw [List.length_map]; exact (paired_len h4).symm
  refine ⟨_, rfl, p, C, dx, _, _, rfl, h1, c.cl, c.nP, fldG_p _ _ _ _ _ _, _, rfl, ?_⟩
  unfold tNil
  exact key_or hb fun l H' s _ hl => ⟨dP, .ref a, rfl, .inr ⟨_, g.key, l, .inl (s _ _ h3), rfl, hl, (val_at (dkO_nd lps ok.nd) (dkO_at ei (by rw [List.getElem?_map, ea]; rfl))).symm⟩, q a H' s (seqT s ha)⟩
def spGB (w : World) (K : PySem.W.Frag) (C CH : Addr) : Sp := fun vs H Q _ => ∃ (p : Addr) (x : V) (G : Gs) (nm : Nms) (rw : Rws), vs = [.ref p, x] ∧ GsAt w K C CH H p G ∧ OwnS K G H x nm rw ∧ ∀ a H', Same H H' → HoldAt CH H' a nm rw → Q (.ref a) H'
theorem scGB : FnScope ["self", "one"] ["self", "one"] (defScope sGB) := ⟨rfl, rfl, rfl, by decide +kernel, rfl, by decide +kernel, by decide +kernel⟩
theorem ok_gb {k : Nat} (F : Fun K "held_by" "Ground.held_by" sGB f fd) (c : GCls K C) (m_tuple : mg "tuple" = none) : FnOk P w K mg base CX0 (k + 1) f fd ["self", "one"] (spGB w K C CH) := by
  have sc := scGB
  refine F.ok sc (fun vs H Q E h => ?_) (fun cdv A outer s H vs Q E hr h => ?_)
  · obtain ⟨p, x, G, nm, rw, rfl, _⟩ := h
    rfl
  obtain ⟨p, x, G, nm, rw, rfl, hp, ho, q⟩ := h
  refine ⟨_, (pss_one (ps_ret (Fw.pe_mget (hu20 hr) (pe_fld (pv 0) rfl) (pe_ifExp (pt_cmpR op_isN (pv 1) pe_non (nomark _)) pe_non (pe_callTy (show CallR _ (.type "tuple") (rTupO K) from call_tuple_of) (by rfl) m_tuple (by decide +kernel) (pa_cons (pv 1) pa_nil))) (fun _ _ => rfl)))), ?_⟩
  obtain ⟨⟨dx, dF, dP, dS, dH, ps, hs, h0, n, h1, h2, h3, h4, h5, h6, h7, h8, h9, hn⟩, ok⟩ := hp
  refine ⟨_, rfl, p, C, dx, _, _, rfl, h1, c.cl, c.nD, fldG_d _ _ _ _ _ _, ?_⟩
  rcases ho with ⟨rfl, rfl, rfl⟩ | ⟨b, g, rfl, hb, hg, rfl, rfl⟩
  · refine ⟨_, rfl, rfl, _, rfl, ?_⟩
    dsimp only
    rw [if_pos (decide_eq_true rfl)]
    exact ⟨dH, _, none, .ref h0, rfl, h6, .inl ⟨rfl, rfl⟩, held_none, q h0 H (Same.refl _) h8⟩
  · obtain ⟨i, ei⟩ := List.mem_iff_getElem?.mp hg
    obtain ⟨a, ea, ha⟩ := paired_idx h7 ei
    refine ⟨_, rfl, rfl, _, rfl, ?_⟩
    dsimp only
    rw [if_neg (by rw [decide_eq_false (fun e => nomatch e)]; exact Bool.false_ne_true)]
    refine ⟨_, rfl, ?_⟩
    unfold tNil
    refine key_or hb fun l H' s _ hl => ⟨dH, _, some g.key, .ref a, rfl, h6.same (fun o e => s _ _ e) (fun b xs e => s _ _ e), .inr ⟨g.key, l, rfl, rfl, hl⟩, held_in ei ea, q a H' s (ha.same s)⟩
def spGN (w : World) (K : PySem.W.Frag) (C CH : Addr) : Sp := fun vs H Q _ => ∃ (p : Addr) (x : V) (G : Gs) (nm : Nms) (rw : Rws), vs = [.ref p, x] ∧ GsAt w K C CH H p G ∧ OwnS K G H x nm rw ∧ RetT K H (nmD nm) Q
def spGR (w : World) (K : PySem.W.Frag) (C CH : Addr) : Sp := fun vs H Q _ => ∃ (p : Addr) (x : V) (G : Gs) (nm : Nms) (rw : Rws), vs = [.ref p, x] ∧ GsAt w K C CH H p G ∧ OwnS K G H x nm rw ∧ RetT K H (rwD rw) Q
theorem scGN : FnScope ["self", "one"] ["self", "one"] (defScope sGN) := ⟨rfl, rfl, rfl, by decide +kernel, rfl, by decide +kernel, by decide +kernel⟩
theorem ok_gn {k kH : Nat} {fB fN : Addr} {fdB fdN : FuncData} {psB psN : List Str} (F : Fun K "names" "Ground.names" sGN f fd) (c_G : Cls K C) (c_H : Cls K CH) (M_held_by : Meth K C "held_by" fB) (G_held_by : FnOk P w K mg base CX0 kH fB fdB psB (spGB w K C CH)) (b_held_by : Binds K fdB psB [])
    (M_name_pairs : Meth K CH "name_pairs" fN) (G_name_pairs : FnOk P w K mg base CX0 kH fN fdN psN (spHN K CH)) (b_name_pairs : Binds K fdN psN []) (hk : kH ≤ k) : FnOk P w K mg base CX0 (k + 1) f fd ["self", "one"] (spGN w K C CH) := by
  have sc := scGN
  refine F.ok sc (fun vs H Q E h => ?_) (fun cdv A outer s H vs Q E hr h => ?_)
  · obtain ⟨p, x, G, nm, rw, rfl, _⟩ := h
    rfl
  obtain ⟨p, x, G, nm, rw, rfl, hp, ho, q⟩ := h
  have d_held_by : Vals [] [] := .nil
  have d_name_pairs : Vals [] [] := .nil
  refine ⟨_, (pss_one (ps_ret (pe_meth0 (pe_meth (pv 0) c_G M_held_by G_held_by (hr.mono (by omega)) b_held_by d_held_by pass0 (pa_cons (pv 1) pa_nil)) c_H M_name_pairs G_name_pairs (hr.mono (by omega)) b_name_pairs d_name_pairs pass0))), ?_⟩
  obtain ⟨dx, a, b, c, d, e⟩ := hp.get
  refine ⟨_, rfl, p, dx, _, rfl, e, by kernel_rfl, ?_⟩
  refine ⟨_, rfl, p, x, G, nm, rw, rfl, hp, ho, fun a H' s ha => ?_⟩
  obtain ⟨dh, d1, d2, eh⟩ := ha.get
  exact ⟨a, dh, _, rfl, eh, by kernel_rfl, a, nm, rw, rfl, ha, retT_same s q⟩
theorem scGR : FnScope ["self", "one"] ["self", "one"] (defScope sGR) := ⟨rfl, rfl, rfl, by decide +kernel, rfl, by decide +kernel, by decide +kernel⟩
theorem ok_gr {k kH : Nat} {fB fN : Addr} {fdB fdN : FuncData} {psB psN : List Str} (F : Fun K "lists" "Ground.lists" sGR f fd) (c_G : Cls K C) (c_H : Cls K CH) (M_held_by : Meth K C "held_by" fB) (G_held_by : FnOk P w K mg base CX0 kH fB fdB psB (spGB w K C CH)) (b_held_by : Binds K fdB psB [])
    (M_list_pairs : Meth K CH "list_pairs" fN) (G_list_pairs : FnOk P w K mg base CX0 kH fN fdN psN (spHL K CH)) (b_list_pairs : Binds K fdN psN []) (hk : kH ≤ k) : FnOk P w K mg base CX0 (k + 1) f fd ["self", "one"] (spGR w K C CH) := by
  have sc := scGR
  refine F.ok sc (fun vs H Q E h => ?_) (fun cdv A outer s H vs Q E hr h => ?_)
  · obtain ⟨p, x, G, nm, rw, rfl, _⟩ := h
    rfl
  obtain ⟨p, x, G, nm, rw, rfl, hp, ho, q⟩ := h
  have d_held_by : Vals [] [] := .nil
  have d_list_pairs : Vals [] [] := .nil
  refine ⟨_, (pss_one (ps_ret (pe_meth0 (pe_meth (pv 0) c_G M_held_by G_held_by (hr.mono (by omega)) b_held_by d_held_by pass0 (pa_cons (pv 1) pa_nil)) c_H M_list_pairs G_list_pairs (hr.mono (by omega)) b_list_pairs d_list_pairs pass0))), ?_⟩
  obtain ⟨dx, a, b, c, d, e⟩ := hp.get
  refine ⟨_, rfl, p, dx, _, rfl, e, by kernel_rfl, ?_⟩
  refine ⟨_, rfl, p, x, G, nm, rw, rfl, hp, ho, fun a H' s ha => ?_⟩
  obtain ⟨dh, d1, d2, eh⟩ := ha.get
  exact ⟨a, dh, _, rfl, eh, by kernel_rfl, a, nm, rw, rfl, ha, retT_same s q⟩
end
end Fd

set_option Elab.async false
set_option linter.all false
set_option maxRecDepth 100000
set_option maxHeartbeats 1000000
namespace Fd
open PySem PySem.Spec PyProof.Rows L2 RZ Fw LamX
abbrev sGM : Stmt := inC 37 12
def oneP (o : One) : PyData := .tuple [.str o.f.nm, .int o.no]
def OneT (H : Hp) (a : Addr) (o : One) : Prop := H a = some (.tup [.str o.f.nm, .int o.no])
/-- another one that is shown -/
def othB (o x : One) : Bool := decide (x.key ≠ o.key) && x.sh
def atB (o x : One) : Bool := decide (x.f.x = o.f.x) && decide (x.f.y = o.f.y)
/-- who is met -/
def metO (G : Gs) (o : One) : List Str := if o.sh then G.ord.filter fun z => decide (z ∈ ((G.ones.filter (othB o)).filter (atB o)).map fun x => x.f.nm) else []
def metP (G : Gs) (o : One) : PyData := .list ((metO G o).map .str)
theorem eqv_one (a b : One) : PyData.eqv (oneP a) (oneP b) = decide (a.key = b.key) := by
  have h : ∀ i j : Int, (i == j) = decide (i = j) := fun i j => by
    by_cases e : i = j
    · rw [e]; simp
    · rw [decide_eq_false e]; exact beq_eq_false_iff_ne.mpr e
  have g : ∀ i j : Str, (i == j) = decide (i = j) := fun i j => by
    by_cases e : i = j
    · rw [e]; simp
    · rw [decide_eq_false e]; exact beq_eq_false_iff_ne.mpr e
  unfold oneP
  simp only [PyData.eqv, PyData.eqvAll, Bool.and_true, h, g]
  by_cases h1 : a.f.nm = b.f.nm
  · by_cases h2 : a.no = b.no
    · rw [decide_eq_true h1, decide_eq_true h2, decide_eq_true (by unfold One.key; rw [h1, h2])]
      rfl
    · rw [decide_eq_false h2, decide_eq_false (fun c => h2 (key_inj c).2), Bool.and_false]
  · rw [decide_eq_false h1, decide_eq_false (fun c => h1 (key_inj c).1), Bool.false_and]
theorem asc_ok {n : Nat} {z : Str} (h : Asc n z) : PyData.strOk z = true := by
  unfold PyData.strOk
  rw [← Array.all_toList, List.all_eq_true]
  intro c hc
  exact decide_eq_true (Nat.lt_trans (h.lt c hc) (by decide))
theorem shaped_one {n : Nat} {o : One} (h : Asc n o.f.nm) : SeqAt.shaped (oneP o) = true := by
  unfold SeqAt.shaped
  rw [show (oneP o).canLay0 = (PyData.strOk o.f.nm && (true && true)) from rfl, asc_ok h]
  rfl
theorem shaped_xy (a b : Int) : SeqAt.shaped (.tuple [.int a, .int b]) = true := by
  unfold SeqAt.shaped
  rfl
theorem eqv_xy (a b c d : Int) : PyData.eqv (.tuple [.int a, .int b]) (.tuple [.int c, .int d]) = (decide (a = c) && decide (b = d)) := by
  have h : ∀ i j : Int, (i == j) = decide (i = j) := fun i j => by
    by_cases e : i = j
    · rw [e]; simp
    · rw [decide_eq_false e]; exact beq_eq_false_iff_ne.mpr e
  simp only [PyData.eqv, PyData.eqvAll, Bool.and_true, h]
/-- t[:2] of a spot -/
theorem sl_two {K : PySem.W.Frag} {H : Hp} {a : Addr} {x y z : Int} {Q : VK} (h : SqT K H a [.int x, .int y, .int z]) (q : ∀ l, H l = none → Q (.ref l) (upd H l (.tup [.int x, .int y]))) : rSlA K (.ref a) none (some 2) H Q := by
  refine ⟨a, _, rfl, h, fun e => ?_, fun _ l nl => ?_⟩
  · exact absurd e.2 (by show ¬ HT.sIx 3 3 (some ((2 : Nat) : Int)) = 3; rw [HT.sIx_nat]; decide)
  · have := q l nl
    rwa [show cutV [V.int x, .int y, .int z] none (some 2) = [.int x, .int y] from cut_to [.int x, .int y, .int z] 2]
theorem inV_str {z : Str} : ∀ {l : List Str}, inV (.str z) (l.map V.str) = decide (z ∈ l)
  | [] => rfl
  | y :: l => by
    have ih := inV_str (z := z) (l := l)
    unfold inV at ih ⊢
    rw [List.map_cons, List.any_cons, ih]
    by_cases h : y = z
    · subst h
      rw [decide_eq_true (List.mem_cons_self ..), show eqV (.str y) (.str y) = true from by simp [eqV]]
      rfl
    · rw [show eqV (.str y) (.str z) = false from by simp [eqV, h], Bool.false_or]
      by_cases g : z ∈ l
      · rw [decide_eq_true g, decide_eq_true (List.mem_cons_of_mem _ g)]
      · rw [decide_eq_false g, decide_eq_false (fun c => (List.mem_cons.mp c).elim (fun e => h e.symm) g)]
theorem len_tf {α : Type} (l : List α) (q : α → Bool) (i : Nat) : ((l.take i).filter q).length ≤ l.length := by
  refine Nat.le_trans (List.length_filter_le ..) ?_
  rw [List.length_take]
  exact Nat.min_le_right ..
theorem len_ftf {α : Type} (l : List α) (p q : α → Bool) (i : Nat) : (((l.filter p).take i).filter q).length ≤ l.length := Nat.le_trans (len_tf ..) (List.length_filter_le ..)
theorem ifFF {p q : Prop} (h : q) : if false = true then p else q := by
  rw [if_neg Bool.false_ne_true]
  exact h
section
variable {P : Program} {w : World} {K : PySem.W.Frag} {mg : Str → Option Value} {base : Heap} {f : Addr} {fd : FuncData} {C CH : Addr}
def spGM (w : World) (K : PySem.W.Frag) (C CH : Addr) : Sp := fun vs H Q _ => ∃ (p b : Addr) (G : Gs) (g : One), vs = [.ref p, .ref b] ∧ GsAt w K C CH H p G ∧ OneV K H b g ∧ g ∈ G.ones ∧ RetT K H (metP G g) Q
theorem scGM : FnScope ["self", "one", "here", "others", "met", "other", "figure"] ["self", "one"] (defScope sGM) := ⟨rfl, rfl, rfl, by decide +kernel, rfl, by decide +kernel, by decide +kernel⟩
theorem ok_gm {k : Nat} (F : Fun K "met" "Ground.met" sGM f fd) (c : GCls K C) (m_tuple : mg "tuple" = none) : FnOk P w K mg base CX0 (k + 1) f fd ["self", "one"] (spGM w K C CH) := by
  have sc := scGM
  refine F.ok sc (fun vs H Q E h => ?_) (fun cdv A outer s H vs Q E hr h => ?_)
  · obtain ⟨p, b, G, g, rfl, _⟩ := h
    rfl
  obtain ⟨p, b, G, g, rfl, hp, hb, hg, q⟩ := h
  refine ⟨_, (pss_cons (ps_set (i := 2) sc.nd rfl (.inr rfl) (pe_callTy (show CallR _ (.type "tuple") (rTupO K) from call_tuple_of) (by rfl) m_tuple (by decide +kernel) (pa_cons (pv 1) pa_nil)))
      (pss_cons (ps_if (pt_not (pt_val (pe_dget (hu_of hr) (pe_fld (pv 0) rfl) (pv 2) (fun _ _ => rfl)))) (pss_one (ps_ret (pe_lst pa_nil))) pss_nil)
      (pss_cons (ps_lock (ps_setLc (i := 3) (own := [("other", 5)]) (by rfl) sc.nd rfl rfl (sw_true rfl rfl rfl (by decide +kernel)) (pi_keys (pe_fld (pv 0) rfl)) (blkOk_by (own := [("other", 5)]) (N := ["self", "one", "here", "others", "met", "other", "figure"]) (sc := defScope sGM) (by decide +kernel)) (fun _ _ _ _ _ => (pg_name (i := 5) sc.nd rfl (.inl rfl))) (fun _ _ _ _ _ => (pts_one (PW.pt (pw_and (pt_cmpR (show OpR _ (compareOp .NotEq) (rNeD K) from op_neD hr.units) (pv 5) (pv 2) (nomark _)) (pw_and1 (pt_val (pe_dget (hu_of hr) (show PE _ _ (tFld K (tVar 0) "shown") from pe_fld (pv 0) rfl) (pv 5) (fun _ _ => rfl)))))))) (fun _ _ _ _ _ => (pv 5))))
      (pss_cons (ps_set (i := 4) sc.nd rfl (.inr rfl) (pe_lc (own := [("other", 5)]) (by rfl) sc.nd  (pi_list (pv 3)) (blkOk_by (own := [("other", 5)]) (N := ["self", "one", "here", "others", "met", "other", "figure"]) (sc := defScope sGM) (by decide +kernel)) (fun _ _ _ _ _ => (pg_name (i := 5) sc.nd rfl (.inl rfl))) (fun _ _ _ _ _ => (pts_one (pt_cmpR (show OpR _ (compareOp .Eq) (rEqD K) from op_eqD hr.units) (pe_slice (show SlR _ (rSlA K) from sl_tupA) (pe_dget (hu_of hr) (show PE _ _ (tFld K (tVar 0) "places") from pe_fld (pv 0) rfl) (pv 5) (fun _ _ => rfl)) po_none (po_some pe_int)) (pe_slice (show SlR _ (rSlA K) from sl_tupA) (pe_dget (hu_of hr) (show PE _ _ (tFld K (tVar 0) "places") from pe_fld (pv 0) rfl) (pv 2) (fun _ _ => rfl)) po_none (po_some pe_int)) (nomark _)))) (fun _ _ _ _ _ => (pe_ix (show IxR _ (rIxT K) from ix_tup) (pv 5) pe_int (fun _ _ => rfl)))))
      (pss_one (ps_ret (pe_lc (own := [("figure", 6)]) (by rfl) sc.nd  (pi_list (pe_fld (pv 0) rfl)) (blkOk_by (own := [("figure", 6)]) (N := ["self", "one", "here", "others", "met", "other", "figure"]) (sc := defScope sGM) (by decide +kernel)) (fun _ _ _ _ _ => (pg_name (i := 6) sc.nd rfl (.inl rfl))) (fun _ _ _ _ _ => (pts_one (pt_cmpR (show OpR _ (compareOp .In) (rIn K false) from op_in_seq) (pv 6) (pv 4) (by rfl)))) (fun _ _ _ _ _ => (pv 6))))))))), ?_⟩
  refine ⟨_, rfl, ?_⟩
  unfold tNil
  refine key_or hb fun b H s0 _ hb => ?_
  replace q := retT_same s0 q
  replace hp := hp.same s0
  clear s0
  obtain ⟨⟨dx, dF, dP, dS, dH, ps, hs, h0, n0, h1, h2, h3, h4, h5, h6, h7, h8, nPS, hn0⟩, ok⟩ := hp
  obtain ⟨i, ei⟩ := List.mem_iff_getElem?.mp hg
  have vS : ∀ {j : Nat} {f' : One}, G.ones[j]? = some f' → valV (dkO G.ones (shO G)) f'.key = some (.bl f'.sh) := fun {j f'} e => val_at (dkO_nd (by unfold shO; rw [List.length_map]) ok.nd) (dkO_at e (by unfold shO; rw [List.getElem?_map, e]; rfl))
  have lps : G.ones.length = (ps.map V.ref).length := by rw [List.length_map]; exact (paired_len h4).symm
  have vP : ∀ {j : Nat} {f' : One}, G.ones[j]? = some f' → ∃ a, SqT K H a [.int f'.f.x, .int f'.f.y, .int f'.f.w] ∧ valV (dkO G.ones (ps.map V.ref)) f'.key = some (.ref a) := fun {j f'} e => by
    obtain ⟨a, ea, ha⟩ := paired_idx h4 e
    exact ⟨a, ha, val_at (dkO_nd lps ok.nd) (dkO_at e (by rw [List.getElem?_map, ea]; rfl))⟩
  refine ⟨_, rfl, p, C, dx, _, _, rfl, h1, c.cl, c.nS, fldG_s _ _ _ _ _ _, _, rfl, dS, .bl g.sh, rfl, .inr ⟨_, g.key, b, .inl h5, rfl, hb, (vS ei).symm⟩, ?_⟩
  refine ⟨g.sh, rfl, ?_⟩
  dsimp only
  by_cases hsh : g.sh = true
  case neg =>
    rw [if_pos (by simpa using hsh)]
    have e0 : metO G g = [] := by unfold metO; rw [if_neg hsh]
    refine ⟨by show 0 ≤ sizeLine; decide, fun l nl => q _ _ [l] (same_upd nl) ?_ fun b' hb' => ?_⟩
    · unfold metP
      rw [e0]
      exact .lst upd_same .nil (fun z => by cases z)
    · rw [List.mem_singleton.mp hb']
      exact nl
  rw [if_neg (by simp [hsh])]
  refine ⟨dP, _, h3, trivial, fun od => ?_⟩
  have un : ∀ {HB}, Same (upd H dP (.frz od (.dT (dkO G.ones (ps.map V.ref))))) HB → Same H (upd HB dP (.dT (dkO G.ones (ps.map V.ref)))) := fun s => same_unlock h3 s
  have keep : ∀ {b' o}, H b' = some o → o ≠ .dT (dkO G.ones (ps.map V.ref)) → (upd H dP (.frz od (.dT (dkO G.ones (ps.map V.ref))))) b' = some o := fun {b' o} e n => by rw [upd_ne (ne_of e h3 n)]; exact e
  have h1' := keep h1 nofun
  have hb' := keep hb nofun
  have nDS : dS ≠ dP := Ne.symm nPS
  have h5' : (upd H dP (.frz od (.dT (dkO G.ones (ps.map V.ref))))) dS = some (.dT (dkO G.ones (shO G))) := by rw [upd_ne nDS]; exact h5
  have h3' : (upd H dP (.frz od (.dT (dkO G.ones (ps.map V.ref))))) dP = some (.frz od (.dT (dkO G.ones (ps.map V.ref)))) := upd_same
  have fr : ∀ b', (upd H dP (.frz od (.dT (dkO G.ones (ps.map V.ref))))) b' = none → H b' = none := fun b' e => by
    by_cases z : b' = dP
    · rw [z, upd_same] at e; cases e
    · rw [upd_ne z] at e; exact e
  have lk := dkO_len lps
  generalize upd H dP (.frz od (.dT (dkO G.ones (ps.map V.ref)))) = H0 at *
  refine ⟨_, rfl, p, C, dx, _, _, rfl, h1', c.cl, c.nP, fldG_p _ _ _ _ _ _, dP, od, rfl, .inr ⟨_, h3', fun D nD => lc_it walk_keysT (fun i HB => Same H0 HB ∧ ∃ as, HB D = some (.lst (as.map V.ref)) ∧ Paired (OneT HB) as ((G.ones.take i).filter (othB g))) ⟨same_upd nD, [], upd_same, .nil⟩ (fun _ _ _ h => h.1 _ _ h3') ?_ ?_⟩⟩
  · rintro j x _ HB hj ⟨sm, as, hD, pr⟩ ⟨rfl, kk, v, qa, ek, rfl, eq⟩
    obtain ⟨z, v', ez, ev, e⟩ := dkO_in ek
    cases e
    have las : as.length ≤ G.ones.length := by
      rw [paired_len pr]
      exact Nat.le_trans (List.length_filter_le ..) (by rw [List.length_take]; omega)
    have e1 : Dp K HB (.ref qa) (oneP z) := .tup (.inl (.inl eq)) (.cons (.str _) (.cons (.int _) .nil))
    have e2 : Dp K HB (.ref b) (oneP g) := .tup (.inl (.inl (sm _ _ hb'))) (.cons (.str _) (.cons (.int _) .nil))
    refine ⟨rfl, _, rfl, _, rfl, _, _, e1, e2, shaped_one (ok.st z (List.mem_of_getElem? ez)), shaped_one (ok.st g hg), _, rfl, ?_⟩
    rw [eqv_one]
    by_cases hn : z.key = g.key
    · rw [decide_eq_true hn]
      refine ifFF (ifFF ?_)
      refine ⟨sm, as, hD, ?_⟩
      rw [List.take_succ, ez, List.filter_append]
      have e0 : othB g z = false := by unfold othB; rw [decide_eq_false (fun c => c hn), Bool.false_and]
      simp only [Option.toList, List.filter_cons, e0, Bool.false_eq_true, if_false, List.filter_nil, List.append_nil]
      exact pr
    · rw [decide_eq_false hn]
      refine iteT ?_
      refine ⟨_, rfl, p, C, dx, _, _, rfl, sm _ _ h1', c.cl, c.nS, fldG_s _ _ _ _ _ _, _, rfl, dS, .bl z.sh, rfl, .inr ⟨_, z.key, qa, .inl (sm _ _ h5'), rfl, eq, (vS ez).symm⟩, z.sh, rfl, ?_⟩
      have e0 : othB g z = z.sh := by unfold othB; rw [decide_eq_true hn, Bool.true_and]
      have keep : ∀ {b' xs}, HB b' = some (.tup xs) → (upd HB D (.lst (as.map V.ref ++ [.ref qa]))) b' = some (.tup xs) := fun {b' xs} e => by rw [upd_ne (ne_of e hD nofun)]; exact e
      by_cases hz : z.sh = true
      · rw [hz] at e0 ⊢
        refine iteT ?_
        refine ⟨_, rfl, _, hD, by rw [List.length_map]; exact small1000 (by have := ok.ln; omega), Fd.Same.putN sm nD, as ++ [qa], ?_, ?_⟩
        · rw [upd_same, List.map_append]
          rfl
        · rw [List.take_succ, ez, List.filter_append]
          simp only [Option.toList, List.filter_cons, e0, if_true, List.filter_nil]
          exact paired_snoc (L2.Paired.mapP pr fun a f e => keep e) (keep eq)
      · rw [Bool.not_eq_true] at hz
        rw [hz] at e0 ⊢
        refine ifFF ⟨sm, as, hD, ?_⟩
        rw [List.take_succ, ez, List.filter_append]
        simp only [Option.toList, List.filter_cons, e0, Bool.false_eq_true, if_false, List.filter_nil, List.append_nil]
        exact pr
  rintro HB ⟨sm, as, hD, pr⟩
  rw [lk, List.take_length] at pr
  have hd := sm _ _ h3'
  refine ⟨hd, ?_⟩
  have sH := un sm
  have fD := fr D nD
  have hD1 : (upd HB dP (.dT (dkO G.ones (ps.map V.ref)))) D = some (.lst (as.map V.ref)) := by rw [upd_ne (ne_of hD hd nofun)]; exact hD
  have pr1 : Paired (OneT (upd HB dP (.dT (dkO G.ones (ps.map V.ref))))) as _ := L2.Paired.mapP pr fun a f e => by
    show upd HB dP _ a = _
    rw [upd_ne (ne_of e hd nofun)]
    exact e
  generalize upd HB dP (.dT (dkO G.ones (ps.map V.ref))) = H1 at *
  clear sm hD pr hd un keep nD h1' hb' h5' h3' fr
  have l1 := paired_len pr1
  refine ⟨_, rfl, D, rfl, ⟨_, SqL.of hD1⟩, fun D2 nD2 => lc_it walk_list (fun i HB => Same H1 HB ∧ HB D2 = some (.lst ((((G.ones.filter (othB g)).take i).filter (atB g)).map fun x => V.str x.f.nm))) ⟨same_upd nD2, upd_same⟩ (fun _ _ _ h => SqL.of (h.1 _ _ hD1)) ?_ ?_⟩
  · rintro j x _ HB hj ⟨sm, hD2⟩ ⟨rfl, ex⟩
    rw [List.getElem?_map] at ex
    obtain ⟨a, ea, rfl⟩ := Option.map_eq_some_iff.mp ex
    obtain ⟨z, ez, hz⟩ := paired_at pr1 ea
    have hz1 : HB a = some (.tup [.str z.f.nm, .int z.no]) := sm _ _ hz
    obtain ⟨jz, ejz⟩ := List.mem_iff_getElem?.mp (List.mem_filter.mp (List.mem_of_getElem? ez)).1
    obtain ⟨az, haz, vaz⟩ := vP ejz
    obtain ⟨ag, hag, vag⟩ := vP ei
    have sHB := sH.trans sm
    refine ⟨rfl, _, rfl, p, C, dx, _, _, rfl, sHB _ _ h1, c.cl, c.nP, fldG_p _ _ _ _ _ _, _, rfl, dP, .ref az, rfl, .inr ⟨_, z.key, a, .inl (sHB _ _ h3), rfl, hz1, vaz.symm⟩, _, rfl, sl_two (seqT sHB haz) fun t1 n1 => ?_⟩
    have s1 := same_upd (o := .tup [.int z.f.x, .int z.f.y]) n1
    have t1' := upd_same (H := HB) (a := t1) (o := .tup [.int z.f.x, .int z.f.y])
    generalize upd HB t1 (.tup [.int z.f.x, .int z.f.y]) = HC at *
    have sHC := sHB.trans s1
    refine ⟨_, rfl, p, C, dx, _, _, rfl, sHC _ _ h1, c.cl, c.nP, fldG_p _ _ _ _ _ _, _, rfl, dP, .ref ag, rfl, .inr ⟨_, g.key, b, .inl (sHC _ _ h3), rfl, sHC _ _ hb, vag.symm⟩, _, rfl, sl_two (seqT sHC hag) fun t2 n2 => ?_⟩
    have s2 := same_upd (o := .tup [.int g.f.x, .int g.f.y]) n2
    have t2' := upd_same (H := HC) (a := t2) (o := .tup [.int g.f.x, .int g.f.y])
    replace t1' := s2 _ _ t1'
    generalize upd HC t2 (.tup [.int g.f.x, .int g.f.y]) = HE at *
    have sE := (sm.trans s1).trans s2
    have hDE := s2 _ _ (s1 _ _ hD2)
    refine ⟨_, _, .tup (.inl (.inl t1')) (.cons (.int _) (.cons (.int _) .nil)), .tup (.inl (.inl t2')) (.cons (.int _) (.cons (.int _) .nil)), shaped_xy _ _, shaped_xy _ _, _, rfl, ?_⟩
    rw [eqv_xy]
    have ea0 : (decide (z.f.x = g.f.x) && decide (z.f.y = g.f.y)) = atB g z := rfl
    rw [ea0]
    by_cases hn : atB g z = true
    · rw [hn]
      refine iteT ⟨_, rfl, a, _, _, _, rfl, rfl, .inl (.inl (sE _ _ hz)), atI_nat (j := 0) rfl, _, hDE, ?_, Fd.Same.putN sE nD2, ?_⟩
      · rw [List.length_map]
        exact small1000 (Nat.le_trans (Nat.le_trans (len_ftf ..) ok.ln) (show 100 ≤ 1000 by decide))
      · rw [upd_same, List.take_succ, ez, List.filter_append, List.map_append]
        simp only [Option.toList, List.filter_cons, hn, if_true, List.filter_nil, List.map_cons, List.map_nil]
    · rw [Bool.not_eq_true] at hn
      rw [hn]
      refine ifFF ⟨sE, ?_⟩
      rw [hDE, List.take_succ, ez, List.filter_append]
      simp only [Option.toList, List.filter_cons, hn, Bool.false_eq_true, if_false, List.filter_nil, List.append_nil]
  rintro HB ⟨sm, hD2⟩
  rw [List.length_map, l1, List.take_length] at hD2
  have sHB := sH.trans sm
  have f2 : H D2 = none := by
    cases e : H D2 with
    | none => rfl
    | some o => rw [sH _ _ e] at nD2; cases nD2
  clear pr1 hD1 nD2 sm sH
  have hin : ∀ z : Str, inV (V.str z) ((((G.ones.filter (othB g)).filter (atB g))).map fun x => V.str x.f.nm) = decide (z ∈ ((G.ones.filter (othB g)).filter (atB g)).map fun x => x.f.nm) := fun z => by
    rw [← inV_str, List.map_map]
    rfl
  refine ⟨_, rfl, p, C, dx, _, _, rfl, sHB _ _ h1, c.cl, c.nF, fldG_f _ _ _ _ _ _, dF, rfl, ⟨_, SqL.of (sHB _ _ h2)⟩, fun D3 nD3 => lc_it walk_list (fun i HE => Same HB HE ∧ HE D3 = some (.lst (((G.ord.take i).filter fun z => decide (z ∈ ((G.ones.filter (othB g)).filter (atB g)).map fun x => x.f.nm)).map V.str))) ⟨same_upd nD3, upd_same⟩ (fun _ _ _ h => SqL.of (h.1 _ _ (sHB _ _ h2))) ?_ ?_⟩
  · rintro j x _ HE hj ⟨sm, hD3⟩ ⟨rfl, ex⟩
    rw [List.getElem?_map] at ex
    obtain ⟨z, ez, rfl⟩ := Option.map_eq_some_iff.mp ex
    refine ⟨rfl, _, rfl, _, rfl, D2, _, rfl, .inl (SqL.of (sm _ _ hD2)), rfl, ?_, _, rfl, ?_⟩
    · rw [List.all_eq_true]
      intro x hx
      obtain ⟨y, _, rfl⟩ := List.mem_map.mp hx
      rfl
    rw [if_neg Bool.false_ne_true, hin]
    cases hc : decide (z ∈ ((G.ones.filter (othB g)).filter (atB g)).map fun x => x.f.nm) with
    | true =>
      refine iteT ⟨_, rfl, _, hD3, ?_, Fd.Same.putN sm nD3, ?_⟩
      · rw [List.length_map]
        exact small1000 (Nat.le_trans (Nat.le_trans (len_tf ..) ok.ol) (show 100 ≤ 1000 by decide))
      · rw [upd_same, List.take_succ, ez, List.filter_append, List.map_append]
        simp only [Option.toList, List.filter_cons, hc, if_true, List.filter_nil, List.map_cons, List.map_nil]
    | false =>
      refine ifFF ⟨sm, ?_⟩
      rw [hD3, List.take_succ, ez, List.filter_append]
      simp only [Option.toList, List.filter_cons, hc, Bool.false_eq_true, if_false, List.filter_nil, List.append_nil]
  rintro HE ⟨sm, hD3⟩
  rw [List.length_map, List.take_length] at hD3
  have e3 : HE D3 = some (.lst ((metO G g).map V.str)) := by
    rw [hD3]
    unfold metO
    rw [if_pos hsh]
  refine q _ HE [D3] (sHB.trans sm) (.lst e3 (trA_strs _) (fun z => by cases z)) fun b' hb' => ?_
  rw [List.mem_singleton.mp hb']
  cases e : H D3 with
  | none => rfl
  | some o => rw [sHB _ _ e] at nD3; cases nD3
end
end Fd

set_option Elab.async false
set_option linter.all false
set_option maxRecDepth 100000
set_option maxHeartbeats 1000000
namespace Fd
open PySem PySem.Spec PyProof.Rows L2 RZ Fw LamX
abbrev sGE : Stmt := inC 37 13
def eyesD (G : Gs) (g : One) (pm : Nms) : PyData := .tuple [nmD (pm ++ (g.f.ns ++ G.nm)), rwD (g.f.rs ++ G.rw), .tuple [.int g.f.x, .int g.f.y, .int g.f.w, .int g.no], metP G g]
theorem le_line {n : Nat} (h : n ≤ 1000) : n ≤ sizeLine := Nat.le_trans h (by decide)
theorem ok_of {w : World} {K : PySem.W.Frag} {C CH : Addr} {H : Hp} {g : Addr} {G : Gs} (h : GsAt w K C CH H g G) : G.Ok := h.ok
theorem tr_cat {K : PySem.W.Frag} {H2 H3 : Hp} {v1 v2 : V} {ds1 ds2 : List PyData} {bs1 bs2 : List Addr} (t1 : Tr K H2 v1 (.list ds1) bs1) (t2 : Tr K H3 v2 (.list ds2) bs2) (s : Same H2 H3) (fr : ∀ b ∈ bs2, H2 b = none) :
    ∃ l1 l2 xs1 xs2 cs, v1 = .ref l1 ∧ v2 = .ref l2 ∧ H3 l1 = some (.lst xs1) ∧ H3 l2 = some (.lst xs2) ∧ TrA K H3 (xs1 ++ xs2) (ds1 ++ ds2) cs ∧ (∀ b ∈ cs, b ∈ bs1 ∨ b ∈ bs2) ∧ xs1.length = ds1.length ∧ xs2.length = ds2.length := by
  have i1 := tr_in _ _ _ t1
  cases t1 with
  | lst a1 a2 a3 =>
    cases t2 with
    | lst b1 b2 b3 =>
      refine ⟨_, _, _, _, _, rfl, rfl, s _ _ a1, b1, trA_app b2 (trA_kp _ _ _ (Kp.same s) a2) (fun b hb z => ?_), fun b hb => ?_, dpAll_len (trA_dp _ _ _ a2), dpAll_len (trA_dp _ _ _ b2)⟩
      · obtain ⟨u, hu⟩ := i1 b (List.mem_cons_of_mem _ hb)
        rw [fr b (List.mem_cons_of_mem _ z)] at hu
        cases hu
      · exact (List.mem_append.mp hb).imp (List.mem_cons_of_mem _) (List.mem_cons_of_mem _)
theorem kp_upd {H : Hp} {D : Addr} {xs v : List V} {as : List Addr} (h : H D = some (.lst xs)) (n : D ∉ as) : Kp as H (upd H D (.lst v)) := ⟨fun b o e c => by rw [upd_ne (fun z => n (by rw [← z]; exact c))]; exact e, fun b o e => by rw [upd_ne (ne_of e h nofun)]; exact e, fun b o xs e => by rw [upd_ne (ne_of e h nofun)]; exact e⟩
section
variable {P : Program} {w : World} {K : PySem.W.Frag} {mg : Str → Option Value} {base : Heap} {f : Addr} {fd : FuncData} {C CH : Addr}
/-- a method of the class that takes its values by place -/
def MthG (P : Program) (w : World) (K : PySem.W.Frag) (mg : Str → Option Value) (base : Heap) (C : Addr) (k : Nat) (x : Str) (ps : List Str) (sp : Sp) : Prop :=
  ∃ f fd, Meth K C x f ∧ FnOk P w K mg base CX0 k f fd ps sp ∧ Binds K fd ps []
/-- one with a last value that may be told by its name z, else it is u -/
def MthK (P : Program) (w : World) (K : PySem.W.Frag) (mg : Str → Option Value) (base : Heap) (C : Addr) (k n : Nat) (x z : Str) (u : V) (ps : List Str) (sp : Sp) : Prop :=
  ∃ f fd ds, Meth K C x f ∧ FnOk P w K mg base CX0 k f fd ps sp ∧ Binds K fd ps ds ∧ Vals [u] ds ∧ KBn K fd ps n [z] (· ++ ·) (· ++ ·)
def spGE (w : World) (K : PySem.W.Frag) (C CH : Addr) : Sp := fun vs H Q _ => ∃ (p b : Addr) (x : V) (G : Gs) (g : One) (pm : Nms), vs = [.ref p, .ref b, x] ∧ GsAt w K C CH H p G ∧ OneV K H b g ∧ g ∈ G.ones ∧ Pn K H x pm ∧ pm.length ≤ 100 ∧ RetT K H (eyesD G g pm) Q
theorem scGE : FnScope ["self", "one", "params", "names", "lists", "x", "y", "way", "name", "value"] ["self", "one", "params"] (defScope sGE) := ⟨rfl, rfl, rfl, by decide +kernel, rfl, by decide +kernel, by decide +kernel⟩
theorem ok_ge {k kH : Nat} (F : Fun K "eyes" "Ground.eyes" sGE f fd) (c : GCls K C) (c_G : Cls K C) (hk : kH ≤ k) (GN : MthK P w K mg base C kH 1 "names" "one" .non ["self", "one"] (spGN w K C CH)) (GL : MthK P w K mg base C kH 1 "lists" "one" .non ["self", "one"] (spGR w K C CH))
    (GS : MthG P w K mg base C kH "spot" ["self", "one"] (spGS w K C CH)) (GM : MthG P w K mg base C kH "met" ["self", "one"] (spGM w K C CH)) : FnOk P w K mg base CX0 (k + 1) f fd ["self", "one", "params"] (spGE w K C CH) := by
  obtain ⟨_, _, _, M_names, G_names, b_names, d_names, b_names_kw⟩ := GN
  obtain ⟨_, _, _, M_lists, G_lists, b_lists, d_lists, b_lists_kw⟩ := GL
  obtain ⟨_, _, M_spot, G_spot, b_spot⟩ := GS
  obtain ⟨_, _, M_met, G_met, b_met⟩ := GM
  have d_spot : Vals [] [] := .nil
  have d_met : Vals [] [] := .nil
  have sc := scGE
  refine F.ok sc (fun vs H Q E h => ?_) (fun cdv A outer s H vs Q E hr h => ?_)
  · obtain ⟨p, b, x, G, g, pm, rfl, _⟩ := h
    rfl
  obtain ⟨p, b, x, G, g, pm, rfl, hp, hb, hg, hx, lx, q⟩ := h
  refine ⟨_, (pss_cons (ps_setLc (i := 3) (own := [("name", 8), ("value", 9)]) (g := gOr (gTup K 2 (gCons (gName 8) (gCons (gName 9) gNil))) (gLst K 2 (gCons (gName 8) (gCons (gName 9) gNil)))) (by rfl) sc.nd rfl rfl (sw_true rfl rfl rfl (by decide +kernel)) (pi_or (pi_list (pv 2)) (pi_tup (pv 2))) (blkOk_by (own := [("name", 8), ("value", 9)]) (N := ["self", "one", "params", "names", "lists", "x", "y", "way", "name", "value"]) (sc := defScope sGE) (by decide +kernel)) (fun _ _ _ _ _ => (pg_or (pg_tup (by rfl) (pgs_cons (pg_name (i := 8) sc.nd rfl (.inl rfl)) (pgs_cons (pg_name (i := 9) sc.nd rfl (.inl rfl)) pgs_nil))) (pg_lst (by rfl) (pgs_cons (pg_name (i := 8) sc.nd rfl (.inl rfl)) (pgs_cons (pg_name (i := 9) sc.nd rfl (.inl rfl)) pgs_nil))))) (fun _ _ _ _ _ => pts_nil) (fun _ _ _ _ _ => (pe_tup (pa_cons (pv 8) (pa_cons (pv 9) pa_nil)))))
      (pss_cons (ps_expr (pe_bm PySem.F.plainAttrs_list PySem.F.slot_list_extend PySem.F.type_list_extend mt_extend (pv 3) (pa_cons (pe_op op_cat (Fw.pe_methK0 (pv 0) c_G M_names G_names (hr.mono (by omega)) b_names_kw pass0 (pk_cons (pv 1) pk_nil)) (pe_meth0 (pv 0) c_G M_names G_names (hr.mono (by omega)) b_names d_names pass0)) pa_nil)))
      (pss_cons (ps_set (i := 4) sc.nd rfl (.inl rfl) (pe_op op_cat (Fw.pe_methK0 (pv 0) c_G M_lists G_lists (hr.mono (by omega)) b_lists_kw pass0 (pk_cons (pv 1) pk_nil)) (pe_meth0 (pv 0) c_G M_lists G_lists (hr.mono (by omega)) b_lists d_lists pass0)))
      (pss_cons (ps_asg (pe_meth (pv 0) c_G M_spot G_spot (hr.mono (by omega)) b_spot d_spot pass0 (pa_cons (pv 1) pa_nil)) (pg_or (pg_tup (by rfl) (pgs_cons (pg_name (i := 5) sc.nd rfl (.inl rfl)) (pgs_cons (pg_name (i := 6) sc.nd rfl (.inl rfl)) (pgs_cons (pg_name (i := 7) sc.nd rfl (.inl rfl)) pgs_nil)))) (pg_lst (by rfl) (pgs_cons (pg_name (i := 5) sc.nd rfl (.inl rfl)) (pgs_cons (pg_name (i := 6) sc.nd rfl (.inl rfl)) (pgs_cons (pg_name (i := 7) sc.nd rfl (.inl rfl)) pgs_nil))))))
      (pss_one (ps_ret (pe_tup (pa_cons (pv 3) (pa_cons (pv 4) (pa_cons (pe_tup (pa_cons (pv 5) (pa_cons (pv 6) (pa_cons (pv 7) (pa_cons (pe_ix (ixr_or (show IxR _ (rIxL K) from ix_list) (show IxR _ (rIxT K) from ix_tup)) (pv 1) pe_int (fun _ _ => rfl)) pa_nil))))) (pa_cons (pe_meth (pv 0) c_G M_met G_met (hr.mono (by omega)) b_met d_met pass0 (pa_cons (pv 1) pa_nil)) pa_nil))))))))))), ?_⟩
  have own : ∀ {H'}, Same H H' → OwnS K G H' (.ref b) g.f.ns g.f.rs := fun s => .inr ⟨b, g, rfl, hb.same s, hg, rfl, rfl⟩
  obtain ⟨gdx, ga, gb, gc, gd, hpi⟩ := hp.get
  have hk1 := (ok_of hp).fh g hg
  have hk2 := (ok_of hp).h
  obtain ⟨xa, xs, rfl, hxs, px⟩ := hx
  have lpx := paired_len px
  refine sq_it rfl hxs fun J wk D nD => lc_it wk (fun i HB => BldT K D H ((pm.take i).map prD) HB) (BldT.nil nD) (fun _ _ _ h => h.1) ?_ ?_
  · rintro i v _ HB hi B ⟨rfl, ex⟩
    obtain ⟨z, ez, bb, rfl, hbb⟩ := paired_at px ex
    refine sq_or (hbb.same B.1) rfl ⟨_, _, rfl, _, _, rfl, rfl, rfl, ?_⟩
    unfold tYes
    refine iteT ⟨_, rfl, _, rfl, by show 2 ≤ sizeLine; decide, fun t nt => ?_⟩
    have st := same_upd (o := .tup [V.str z.1, .int z.2]) nt
    have ht := upd_same (H := HB) (a := t) (o := .tup [V.str z.1, .int z.2])
    generalize upd HB t (.tup [V.str z.1, .int z.2]) = HC at *
    have hy : Tr K HC (.ref t) (prD z) [] := .tup (.inl (.inl ht)) (.cons (as := []) (bs := []) (.str _) (.cons (as := []) (bs := []) (.int _) .nil (fun b z => by cases z)) (fun b z => by cases z))
    have := B.push nD st hy (fun b z => by cases z) (by rw [List.length_map, List.length_take]; omega)
    rw [List.take_succ, ez, List.map_append]
    exact this
  rintro H1 B
  rw [lpx, List.take_length] at B
  obtain ⟨s1, vs1, as1, hD, hT, nd, fa⟩ := B
  have lv1 : vs1.length = pm.length := by rw [dpAll_len (trA_dp _ _ _ hT), List.length_map]
  refine ⟨_, rfl, .inl ⟨rfl, _, SqL.of hD⟩, ?_⟩
  refine ⟨_, rfl, p, gdx, _, rfl, s1 _ _ hpi, by kernel_rfl, _, rfl, rfl, rfl, p, .ref b, G, _, _, rfl, hp.same s1, own s1, fun v1 H2 bs1 s2 t1 f1 => ?_⟩
  have S2 := s1.trans s2
  refine ⟨_, rfl, p, gdx, _, rfl, S2 _ _ hpi, by kernel_rfl, p, .non, G, _, _, rfl, hp.same S2, .inl ⟨rfl, rfl, rfl⟩, fun v2 H3 bs2 s3 t2 f2 => ?_⟩
  obtain ⟨l1, l2, xs1, xs2, cs, rfl, rfl, e1, e2, tc, hc, n1, n2⟩ := tr_cat t1 t2 s3 f2
  rw [List.length_map] at n1 n2
  have q1 := hk1.l1
  have q2 := hk2.l1
  refine ⟨l1, l2, xs1, xs2, rfl, rfl, e1, e2, le_line (by omega), fun pn np => ?_⟩
  have s4 := same_upd (o := .lst (xs1 ++ xs2)) np
  have en := upd_same (H := H3) (a := pn) (o := .lst (xs1 ++ xs2))
  generalize upd H3 pn (.lst (xs1 ++ xs2)) = H4 at *
  have S4 := (s2.trans s3).trans s4
  have hD4 := S4 _ _ hD
  refine ⟨D, pn, vs1, xs1 ++ xs2, rfl, rfl, hD4, en, by rw [List.length_append]; exact le_line (by omega), ?_⟩
  have fc : ∀ b ∈ cs, H1 b = none := fun b hb => (hc b hb).elim (f1 b) (fun z => same_free s2 (f2 b z))
  have tD4 := trA_app (trA_kp _ _ _ (Kp.same s4) tc) (trA_kp _ _ _ (Kp.same S4) hT) (fun b hb z => by
    obtain ⟨u, hu⟩ := trA_in _ _ _ hT b hb
    rw [fc b z] at hu
    cases hu)
  have nD4 : D ∉ as1 ++ cs := fun z => by
    rcases List.mem_append.mp z with z | z
    · exact nd z
    · rw [fc D z] at hD; cases hD
  have t5 : Tr K (upd H4 D (.lst (vs1 ++ (xs1 ++ xs2)))) (.ref D) (nmD (pm ++ (g.f.ns ++ G.nm))) (D :: (as1 ++ cs)) := by
    have := trA_kp _ _ _ (kp_upd (v := vs1 ++ (xs1 ++ xs2)) hD4 nD4) tD4
    unfold nmD
    rw [List.map_append, List.map_append]
    exact .lst upd_same this nD4
  have S5 : Same H (upd H4 D (.lst (vs1 ++ (xs1 ++ xs2)))) := Fd.Same.putN (s1.trans S4) nD
  have f5 : ∀ b ∈ D :: (as1 ++ cs), H b = none := fun b hb => by
    rcases List.mem_cons.mp hb with z | z
    · rw [z]; exact nD
    · rcases List.mem_append.mp z with z | z
      · exact fa b z
      · exact same_free s1 (fc b z)
  generalize upd H4 D (.lst (vs1 ++ (xs1 ++ xs2))) = H5 at *
  generalize D :: (as1 ++ cs) = ds5 at *
  clear tD4 nD4 hT t1 t2 tc
  refine ⟨_, rfl, p, gdx, _, rfl, S5 _ _ hpi, by kernel_rfl, _, rfl, rfl, rfl, p, .ref b, G, _, _, rfl, hp.same S5, own S5, fun v1 H6 bs1 s6 t1 f1 => ?_⟩
  have S6 := S5.trans s6
  refine ⟨_, rfl, p, gdx, _, rfl, S6 _ _ hpi, by kernel_rfl, p, .non, G, _, _, rfl, hp.same S6, .inl ⟨rfl, rfl, rfl⟩, fun v2 H7 bs2 s7 t2 f2 => ?_⟩
  obtain ⟨l1, l2, xs1, xs2, cs2, rfl, rfl, e1, e2, tc, hc, n1, n2⟩ := tr_cat t1 t2 s7 f2
  rw [List.length_map] at n1 n2
  have q1 := hk1.l2
  have q2 := hk2.l2
  refine ⟨l1, l2, xs1, xs2, rfl, rfl, e1, e2, le_line (by omega), fun pl np => ?_⟩
  have s8 := same_upd (o := .lst (xs1 ++ xs2)) np
  have en := upd_same (H := H7) (a := pl) (o := .lst (xs1 ++ xs2))
  generalize upd H7 pl (.lst (xs1 ++ xs2)) = H8 at *
  have s58 := (s6.trans s7).trans s8
  have S8 := S5.trans s58
  have fc2 : ∀ b ∈ cs2, H5 b = none := fun b hb => (hc b hb).elim (f1 b) (fun z => same_free s6 (f2 b z))
  have npl : H5 pl = none := same_free (s6.trans s7) np
  have t8 : Tr K H8 (.ref pl) (rwD (g.f.rs ++ G.rw)) (pl :: cs2) := by
    unfold rwD
    rw [List.map_append]
    refine .lst en (trA_kp _ _ _ (Kp.same s8) tc) fun z => ?_
    obtain ⟨u, hu⟩ := trA_in _ _ _ tc pl z
    rw [np] at hu
    cases hu
  have f8 : ∀ b ∈ pl :: cs2, H5 b = none := fun b hb => by
    rcases List.mem_cons.mp hb with z | z
    · rw [z]; exact npl
    · exact fc2 b z
  generalize pl :: cs2 = ds8 at *
  clear tc t1 t2
  refine ⟨_, rfl, p, gdx, _, rfl, S8 _ _ hpi, by kernel_rfl, _, rfl, p, b, G, g, rfl, hp.same S8, hb.same S8, hg, fun sa H8 s8b hsa => ?_⟩
  replace S8 := S8.trans s8b
  replace s58 := s58.trans s8b
  replace t8 := tr_kp _ _ _ (Kp.same s8b) t8
  refine sq_or (.inr hsa) rfl ⟨_, _, rfl, _, _, rfl, _, _, rfl, rfl, ?_⟩
  refine ⟨_, rfl, _, rfl, _, rfl, _, rfl, _, rfl, _, rfl, ix_or (hb.same S8).sq (atI_nat (j := 1) rfl) ⟨by show 4 ≤ sizeLine; decide, fun tt nt => ?_⟩⟩
  have s9 := same_upd (o := .tup [.int g.f.x, .int g.f.y, .int g.f.w, .int g.no]) nt
  have et := upd_same (H := H8) (a := tt) (o := .tup [.int g.f.x, .int g.f.y, .int g.f.w, .int g.no])
  generalize upd H8 tt (.tup [.int g.f.x, .int g.f.y, .int g.f.w, .int g.no]) = H9 at *
  have S9 := S8.trans s9
  refine ⟨_, rfl, p, gdx, _, rfl, S9 _ _ hpi, by kernel_rfl, _, rfl, p, b, G, g, rfl, hp.same S9, hb.same S9, hg, fun v3 H10 bs3 s10 t3 f3 => ⟨by show 4 ≤ sizeLine; decide, fun tr nr => ?_⟩⟩
  have s11 := same_upd (o := .tup [.ref D, .ref pl, .ref tt, v3]) nr
  have er := upd_same (H := H10) (a := tr) (o := .tup [.ref D, .ref pl, .ref tt, v3])
  have S11 := (S9.trans s10).trans s11
  have s911 := s10.trans s11
  have s811 := s9.trans s911
  have s511 := s58.trans s811
  have u5 := tr_kp _ _ _ (Kp.same s511) t5
  have u8 := tr_kp _ _ _ (Kp.same s811) t8
  have u3 := tr_kp _ _ _ (Kp.same s11) t3
  have in5 := tr_in _ _ _ t5
  have in8 := tr_in _ _ _ t8
  have s89 := s58.trans s9
  have x58 : ∀ b ∈ ds5, b ∉ ds8 := fun b hb z => by
    obtain ⟨u, hu⟩ := in5 b hb
    rw [f8 b z] at hu
    cases hu
  have x53 : ∀ b ∈ ds5, b ∉ bs3 := fun b hb z => by
    obtain ⟨u, hu⟩ := in5 b hb
    have := s89 _ _ hu
    rw [f3 b z] at this
    cases this
  have x83 : ∀ b ∈ ds8, b ∉ bs3 := fun b hb z => by
    obtain ⟨u, hu⟩ := in8 b hb
    have := s9 _ _ hu
    rw [f3 b z] at this
    cases this
  have ut : Tr K (upd H10 tr (.tup [.ref D, .ref pl, .ref tt, v3])) (.ref tt) (.tuple [.int g.f.x, .int g.f.y, .int g.f.w, .int g.no]) [] := .tup (.inl (.inl (s911 _ _ et))) (trA_ints [g.f.x, g.f.y, g.f.w, g.no])
  refine q _ _ (ds5 ++ (ds8 ++ ([] ++ (bs3 ++ [])))) S11 (.tup (.inl (.inl er)) (.cons u5 (.cons u8 (.cons ut (.cons u3 .nil (fun b _ z => by cases z)) (fun b z => by cases z)) (fun b hb z => ?_)) (fun b hb z => ?_))) (fun b hb => ?_)
  · rw [List.nil_append, List.append_nil] at z
    exact x83 b hb z
  · rw [List.nil_append, List.append_nil] at z
    exact (List.mem_append.mp z).elim (x58 b hb) (x53 b hb)
  · rw [List.nil_append, List.append_nil] at hb
    rcases List.mem_append.mp hb with z | z
    · exact f5 b z
    · rcases List.mem_append.mp z with z | z
      · exact same_free S5 (f8 b z)
      · exact same_free S9 (f3 b z)
end
end Fd

set_option Elab.async false
set_option linter.all false
set_option maxRecDepth 100000
set_option maxHeartbeats 1000000
namespace Fd
open PySem PySem.Spec PyProof.Rows L2 RZ Fw LamX
/-! ### a ground that is written -/
theorem paired_mk {α β : Type} {F : α → β → Prop} : ∀ {l : List α} {m : List β}, l.length = m.length → (∀ (i : Nat) a b, l[i]? = some a → m[i]? = some b → F a b) → Paired F l m
  | [], [], _, _ => .nil
  | [], _ :: _, h, _ => nomatch h
  | _ :: _, [], h, _ => nomatch h
  | a :: l, b :: m, h, f => .cons (f 0 a b rfl rfl) (paired_mk (Nat.succ.inj h) fun i x y e1 e2 => f (i + 1) x y e1 e2)
theorem paired_get {α β : Type} {F : α → β → Prop} : ∀ {l : List α} {m : List β} {i : Nat} {a : α} {b : β}, Paired F l m → l[i]? = some a → m[i]? = some b → F a b
  | _, _, _, _, _, .nil, e, _ => by simp at e
  | _, _, 0, _, _, .cons r _, e1, e2 => by cases (Option.some.inj e1); cases (Option.some.inj e2); exact r
  | _, _, i + 1, _, _, .cons _ t, e1, e2 => paired_get (i := i) t e1 e2
def Gs.put (G : Gs) (i : Nat) (o : One) : Gs := { G with ones := G.ones.set i o }
def One.ns_ (o : One) (ns : Nms) : One := { o with f := { o.f with ns := ns } }
def One.rs_ (o : One) (rs : Rws) : One := { o with f := { o.f with rs := rs } }
def Gs.nm_ (G : Gs) (nm : Nms) : Gs := { G with nm := nm }
def Gs.rw_ (G : Gs) (rw : Rws) : Gs := { G with rw := rw }
/-- the name's value, the list of that name, changed -/
def setN (nm : Nms) (x : Str) (v : Int) : Nms := nm.map fun q => if q.1 = x then (x, v) else q
def setR (rw : Rws) (x : Str) (r : List Int) : Rws := rw.map fun q => if q.1 = x then (x, r) else q
theorem setN_keys {nm : Nms} {x : Str} {v : Int} : (setN nm x v).map (·.1) = nm.map (·.1) := by
  unfold setN
  rw [List.map_map]
  refine List.map_congr_left fun q _ => ?_
  show (if q.1 = x then (x, v) else q).1 = q.1
  split
  · next h => exact h.symm
  · rfl
theorem setR_keys {rw_ : Rws} {x : Str} {r : List Int} : (setR rw_ x r).map (·.1) = rw_.map (·.1) := by
  unfold setR
  rw [List.map_map]
  refine List.map_congr_left fun q _ => ?_
  show (if q.1 = x then (x, r) else q).1 = q.1
  split
  · next h => exact h.symm
  · rfl
theorem putK_nm {nm : Nms} {x : Str} {v : Int} (h : x ∈ nm.map (·.1)) : putK (nmK nm) (Sum.inr x) (.int v) = nmK (setN nm x v) := by
  have hany : ((nmK nm).any fun kv => decide (kv.1 = Sum.inr x)) = true := by
    obtain ⟨q, hq, e⟩ := List.mem_map.mp h
    refine List.any_eq_true.mpr ⟨(Sum.inr q.1, .int q.2), List.mem_map.mpr ⟨q, hq, rfl⟩, decide_eq_true (by rw [← e])⟩
  unfold putK
  rw [if_pos hany]
  unfold nmK setN
  rw [List.map_map, List.map_map]
  refine List.map_congr_left fun q _ => ?_
  show (if (Sum.inr q.1 : L2.Key) = Sum.inr x then _ else _) = _
  by_cases e : q.1 = x
  · rw [if_pos (by rw [e])]
    show _ = ((Sum.inr (if q.1 = x then (x, v) else q).1 : L2.Key), V.int (if q.1 = x then (x, v) else q).2)
    rw [if_pos e]
    show ((Sum.inr q.1 : L2.Key), V.int v) = (Sum.inr x, V.int v)
    rw [e]
  · rw [if_neg (fun c => e (Sum.inr.inj c))]
    show _ = ((Sum.inr (if q.1 = x then (x, v) else q).1 : L2.Key), V.int (if q.1 = x then (x, v) else q).2)
    rw [if_neg e]
theorem setN_len {nm : Nms} {x : Str} {v : Int} : (setN nm x v).length = nm.length := List.length_map ..
theorem setR_len {rw_ : Rws} {x : Str} {r : List Int} : (setR rw_ x r).length = rw_.length := List.length_map ..
theorem setR_mem {rw_ : Rws} {x : Str} {r : List Int} {q : Str × List Int} (h : q ∈ setR rw_ x r) : q ∈ rw_ ∨ q = (x, r) := by
  obtain ⟨y, hy, rfl⟩ := List.mem_map.mp h
  by_cases e : y.1 = x
  · exact .inr (if_pos e)
  · rw [if_neg e]; exact .inl hy
theorem keys_asc {nm : Nms} {x : Str} {v : Int} {n : Nat} (h : ∀ q ∈ nm, Asc n q.1) : ∀ q ∈ setN nm x v, Asc n q.1 := fun q hq => by
  have : q.1 ∈ (setN nm x v).map (·.1) := List.mem_map.mpr ⟨q, hq, rfl⟩
  rw [setN_keys] at this
  obtain ⟨y, hy, e⟩ := List.mem_map.mp this
  rw [← e]; exact h y hy
theorem keys_ascR {rw_ : Rws} {x : Str} {r : List Int} {n : Nat} (h : ∀ q ∈ rw_, Asc n q.1) : ∀ q ∈ setR rw_ x r, Asc n q.1 := fun q hq => by
  have : q.1 ∈ (setR rw_ x r).map (·.1) := List.mem_map.mpr ⟨q, hq, rfl⟩
  rw [setR_keys] at this
  obtain ⟨y, hy, e⟩ := List.mem_map.mp this
  rw [← e]; exact h y hy
theorem Hok.setN {nm : Nms} {rw_ : Rws} {x : Str} {v : Int} (h : Hok nm rw_) : Hok (setN nm x v) rw_ := ⟨by rw [setN_keys]; exact h.n1, h.n2, by rw [setN_len]; exact h.l1, h.l2, h.l3, keys_asc h.s1, h.s2⟩
theorem Hok.setR {nm : Nms} {rw_ : Rws} {x : Str} {r : List Int} (h : Hok nm rw_) (l : r.length ≤ 100) : Hok nm (setR rw_ x r) := ⟨h.n1, by rw [setR_keys]; exact h.n2, h.l1, by rw [setR_len]; exact h.l2, fun q hq => (setR_mem hq).elim (h.l3 q) (fun e => by rw [e]; exact l), h.s1, keys_ascR h.s2⟩
section
variable {C CH : Addr} {H : Hp} {h : Hd} {nm : Nms} {rw_ : Rws}
theorem HoldF.setN (hh : HoldF C H h nm rw_) (nd : h.fp.Nodup) (x : Str) (v : Int) : HoldF C (upd H h.dn (.dK (nmK (setN nm x v)))) h (setN nm x v) rw_ := by
  obtain ⟨⟨dx, h1, h2, h3, h4⟩, n1, n2, l1, l2, l3⟩ := hh
  obtain ⟨a1, nd⟩ := List.nodup_cons.mp nd
  obtain ⟨a2, nd⟩ := List.nodup_cons.mp nd
  simp only [List.mem_cons, not_or] at a1 a2
  refine ⟨⟨dx, by rw [upd_ne a1.1]; exact h1, upd_same, by rw [upd_ne (Ne.symm a2.1)]; exact h3, paired_memL h4 fun a ha q e => by rw [upd_ne (fun z => a2.2 (by rw [← z]; exact ha))]; exact e⟩, by rw [setN_keys]; exact n1, n2, by rw [setN_len]; exact l1, l2, l3⟩
theorem HoldF.setR (hh : HoldF C H h nm rw_) (nd : h.fp.Nodup) {j : Nat} {r : Addr} {x : Str} {row row' : List Int} (er : h.rs[j]? = some r) (ej : rw_[j]? = some (x, row)) (lr : row'.length ≤ 100) : HoldF C (upd H r (.lst (row'.map V.int))) h nm (setR rw_ x row') := by
  obtain ⟨⟨dx, h1, h2, h3, h4⟩, n1, n2, l1, l2, l3⟩ := hh
  obtain ⟨a1, nd⟩ := List.nodup_cons.mp nd
  obtain ⟨a2, nd⟩ := List.nodup_cons.mp nd
  obtain ⟨a3, nd⟩ := List.nodup_cons.mp nd
  simp only [List.mem_cons, not_or] at a1 a2
  have hr := List.mem_of_getElem? er
  have ll := paired_len h4
  refine ⟨⟨dx, by rw [upd_ne (fun z => a1.2.2 (by rw [z]; exact hr))]; exact h1, by rw [upd_ne (fun z => a2.2 (by rw [z]; exact hr))]; exact h2, by rw [upd_ne (fun z => a3 (by rw [z]; exact hr)), setR_keys]; exact h3, ?_⟩, n1, by rw [setR_keys]; exact n2, l1, by rw [setR_len]; exact l2, fun q hq => (setR_mem hq).elim (l3 q) (fun e => by rw [e]; exact lr)⟩
  refine paired_mk (by rw [setR_len]; exact ll) fun i a q e1 e2 => ?_
  unfold Fd.setR at e2
  rw [List.getElem?_map] at e2
  obtain ⟨z, ez, rfl⟩ := Option.map_eq_some_iff.mp e2
  by_cases hij : i = j
  · subst hij
    rw [er] at e1
    cases e1
    rw [ej] at ez
    cases ez
    rw [if_pos rfl]
    exact upd_same
  · have ne : a ≠ r := fun c => hij ((List.getElem?_inj (List.getElem?_eq_some_iff.mp e1).1 nd).mp (by rw [e1, er, c]))
    have nz : z.1 ≠ x := fun c => hij ((List.getElem?_inj (by rw [List.length_map]; exact (List.getElem?_eq_some_iff.mp ez).1) n2).mp (by rw [List.getElem?_map, List.getElem?_map, ez, ej]; exact congrArg some c))
    rw [if_neg nz, upd_ne ne]
    have z4 := paired_get h4 e1 ez
    exact z4
end
theorem map_set_same {α β : Type} {g : α → β} : ∀ {l : List α} {i : Nat} {a b : α}, l[i]? = some a → g b = g a → (l.set i b).map g = l.map g
  | [], _, _, _, _, _ => rfl
  | x :: l, 0, a, b, e, h => by
    cases (Option.some.inj e)
    rw [List.set_cons_zero, List.map_cons, List.map_cons, h]
  | x :: l, i + 1, a, b, e, h => by
    rw [List.set_cons_succ, List.map_cons, List.map_cons, map_set_same (l := l) (i := i) e h]
theorem dkO_zip {os : List One} {vs : List V} : dkO os vs = (os.map One.key).zip vs := by
  unfold dkO
  rw [List.zip_map_left]
  rfl
theorem heldAll_key {n : Nat} {os os' : List One} {hs : List Addr} {h0 : Addr} (h : os'.map One.key = os.map One.key) : heldAll n os' hs h0 = heldAll n os hs h0 := by
  unfold heldAll
  simp only [dkO_zip, List.map_take, List.map_drop, h]
theorem ok_putH {G : Gs} {i : Nat} {o o' : One} (ok : G.Ok) (e : G.ones[i]? = some o) (hk : o'.key = o.key) (hh : Hok o'.f.ns o'.f.rs) : (G.put i o').Ok := by
  have hm : ∀ {x}, x ∈ G.ones.set i o' → x ∈ G.ones ∨ x = o' := fun h => List.mem_or_eq_of_mem_set h
  have ho := List.mem_of_getElem? e
  refine ⟨ok.h, fun x hx => ?_, ?_, fun x hx => ?_, ?_, ok.on, ok.ol, ok.os⟩
  · rcases hm hx with h | rfl
    · exact ok.fh x h
    · exact hh
  · show ((G.ones.set i o').map One.key).Nodup
    rw [map_set_same e hk]
    exact ok.nd
  · rcases hm hx with h | rfl
    · exact ok.st x h
    · rw [(key_inj hk).1]; exact ok.st o ho
  · show (G.ones.set i o').length ≤ 100
    rw [List.length_set]
    exact ok.ln
/-- what a deed of the ground at p makes of it -/
structure Go (w : World) (K : PySem.W.Frag) (C CH : Addr) (H : Hp) (p : Addr) (A : GA) (G' : Gs) (A' : GA) (H' : Hp) : Prop where
  but : ButL (A.fp p) H H'
  gs : GsF w K C CH H' p G' A'
  new : ∀ b ∈ A'.fp p, b ∈ A.fp p ∨ H b = none
section
variable {w : World} {K : PySem.W.Frag} {C CH : Addr} {H H' : Hp} {p : Addr} {G G' : Gs} {A A' : GA}
theorem Go.pre {H0 : Hp} (s : Same H0 H) (g : Go w K C CH H p A G' A' H') : Go w K C CH H0 p A G' A' H' := ⟨fun b o n e => g.but b o n (s _ _ e), g.gs, fun b hb => (g.new b hb).imp id (same_free s)⟩
theorem Go.post {H2 : Hp} (g : Go w K C CH H p A G' A' H') (s : Same H' H2) : Go w K C CH H p A G' A' H2 := ⟨fun b o n e => s _ _ (g.but b o n e), g.gs.same s, g.new⟩
theorem Go.keep (g : GsF w K C CH H p G A) (s : Same H H') : Go w K C CH H p A G A H' := ⟨fun b o _ e => s _ _ e, g.same s, fun b hb => .inl hb⟩
/-- what the deed leaves: all but the ground -/
theorem Go.kp (g : Go w K C CH H p A G' A' H') (h : GsF w K C CH H p G A) : Kp [] H H' := ⟨(fun b xs _ c => nomatch c), fun b xs e => g.but b _ (fun hb => by
    obtain ⟨u, hu, o⟩ := h.own b hb
    rw [hu] at e
    cases e
    exact o.nt.1 _ rfl) e, fun b ob xs e => g.but b _ (fun hb => by
    obtain ⟨u, hu, o⟩ := h.own b hb
    rw [hu] at e
    cases e
    exact o.nt.2.2.1 _ _ rfl) e⟩
/-- a name of all -/
theorem GsF.nm0 (h : GsF w K C CH H p G A) (x : Str) (v : Int) : Go w K C CH H p A (G.nm_ (setN G.nm x v)) A (upd H A.h0.dn (.dK (nmK (setN G.nm x v)))) := by
  have N := nes h.nd
  have W := h.own
  obtain ⟨m1, m2, m3, m4, m5, m6, m7⟩ := mem_fp (p := p) (A := A)
  have md : A.h0.dn ∈ A.h0.fp := List.mem_cons_of_mem _ (List.mem_cons_self ..)
  obtain ⟨u0, e0, w0⟩ := W _ (m6 _ md)
  have kp := own_kp (o := .dK (nmK (setN G.nm x v))) e0 w0
  obtain ⟨o1, o2, o3, o4, o5⟩ := N.o0 _ md
  refine ⟨fun b u nb e => by rw [upd_ne (fun z => nb (by rw [z]; exact m6 _ md))]; exact e, ?_, fun b hb => .inl hb⟩
  obtain ⟨⟨ps, n, h1, h2, h3, h4, h5, h6, h7, h8, h9⟩, ok, nd⟩ := h
  have off : ∀ {b u}, b ≠ A.h0.dn → H b = some u → upd H A.h0.dn (.dK (nmK (setN G.nm x v))) b = some u := fun n e => by rw [upd_ne n]; exact e
  refine ⟨⟨ps, n, off (Ne.symm o1) h1, off (Ne.symm o2) h2, off (Ne.symm o3) h3, L2.Paired.mapP h4 fun a q e => sqT_kp kp e, off (Ne.symm o4) h5, h6.same (fun o e => off (Ne.symm o5) e) kp.t, paired_memL h7 fun a ha q e => e.fr fun b hb u x => off (fun z => N.sep a ha b hb (by rw [z]; exact md)) x, h8.setN N.n0 x v, h9⟩, ⟨ok.h.setN, ok.fh, ok.nd, ok.st, ok.ln, ok.on, ok.ol, ok.os⟩, nd⟩
/-- a list of all -/
theorem GsF.rw0 (h : GsF w K C CH H p G A) {j : Nat} {r : Addr} {x : Str} {row row' : List Int} (er : A.h0.rs[j]? = some r) (ej : G.rw[j]? = some (x, row)) (lr : row'.length ≤ 100) : Go w K C CH H p A (G.rw_ (setR G.rw x row')) A (upd H r (.lst (row'.map V.int))) := by
  have N := nes h.nd
  have W := h.own
  obtain ⟨m1, m2, m3, m4, m5, m6, m7⟩ := mem_fp (p := p) (A := A)
  have md : r ∈ A.h0.fp := List.mem_cons_of_mem _ (List.mem_cons_of_mem _ (List.mem_cons_of_mem _ (List.mem_of_getElem? er)))
  obtain ⟨u0, e0, w0⟩ := W _ (m6 _ md)
  have kp := own_kp (o := .lst (row'.map V.int)) e0 w0
  obtain ⟨o1, o2, o3, o4, o5⟩ := N.o0 _ md
  refine ⟨fun b u nb e => by rw [upd_ne (fun z => nb (by rw [z]; exact m6 _ md))]; exact e, ?_, fun b hb => .inl hb⟩
  obtain ⟨⟨ps, n, h1, h2, h3, h4, h5, h6, h7, h8, h9⟩, ok, nd⟩ := h
  have off : ∀ {b u}, b ≠ r → H b = some u → upd H r (.lst (row'.map V.int)) b = some u := fun n e => by rw [upd_ne n]; exact e
  refine ⟨⟨ps, n, off (Ne.symm o1) h1, off (Ne.symm o2) h2, off (Ne.symm o3) h3, L2.Paired.mapP h4 fun a q e => sqT_kp kp e, off (Ne.symm o4) h5, h6.same (fun o e => off (Ne.symm o5) e) kp.t, paired_memL h7 fun a ha q e => e.fr fun b hb u x => off (fun z => N.sep a ha b hb (by rw [z]; exact md)) x, h8.setR N.n0 er ej lr, h9⟩, ⟨ok.h.setR lr, ok.fh, ok.nd, ok.st, ok.ln, ok.on, ok.ol, ok.os⟩, nd⟩
/-- an own address of the i-th one is written -/
theorem GsF.at_ (h : GsF w K C CH H p G A) {i : Nat} {o o' : One} {hd : Hd} (ei : G.ones[i]? = some o) (eh : A.hs[i]? = some hd) {d : Addr} {u : HO} (md : d ∈ hd.fp) (hk : o'.key = o.key) (hf : o'.f.x = o.f.x ∧ o'.f.y = o.f.y ∧ o'.f.w = o.f.w) (hs : o'.sh = o.sh) (hh : HoldF CH (upd H d u) hd o'.f.ns o'.f.rs) (hok : Hok o'.f.ns o'.f.rs) : Go w K C CH H p A (G.put i o') A (upd H d u) := by
  have N := nes h.nd
  have W := h.own
  obtain ⟨m1, m2, m3, m4, m5, m6, m7⟩ := mem_fp (p := p) (A := A)
  have mh := List.mem_of_getElem? eh
  obtain ⟨u0, e0, w0⟩ := W _ (m7 _ mh _ md)
  have kp := own_kp (o := u) e0 w0
  obtain ⟨o1, o2, o3, o4, o5⟩ := N.os _ mh _ md
  refine ⟨fun b u nb e => by rw [upd_ne (fun z => nb (by rw [z]; exact m7 _ mh _ md))]; exact e, ?_, fun b hb => .inl hb⟩
  obtain ⟨⟨ps, n, h1, h2, h3, h4, h5, h6, h7, h8, h9⟩, ok, nd⟩ := h
  have off : ∀ {b v}, b ≠ d → H b = some v → upd H d u b = some v := fun n e => by rw [upd_ne n]; exact e
  have l4 := paired_len h4
  have l7 := paired_len h7
  refine ⟨⟨ps, n, off (Ne.symm o1) h1, off (Ne.symm o2) h2, ?_, ?_, ?_, ?_, ?_, h8.fr fun b hb u x => off (fun z => N.sep hd mh d md (by rw [← z]; exact hb)) x, ?_⟩, ok_putH ok ei hk hok, nd⟩
  · rw [off (Ne.symm o3) h3]
    show some (HO.dT (dkO G.ones _)) = some (HO.dT (dkO (G.ones.set i o') _))
    rw [dkO_zip, dkO_zip, map_set_same ei hk]
  · refine paired_mk (by rw [l4]; show _ = (G.ones.set i o').length; rw [List.length_set]) fun j a q e1 e2 => ?_
    have e2 : (G.ones.set i o')[j]? = some q := e2
    rw [List.getElem?_set] at e2
    by_cases hij : i = j
    · subst hij
      rw [if_pos rfl, if_pos (List.getElem?_eq_some_iff.mp ei).1] at e2
      cases e2
      rw [hf.1, hf.2.1, hf.2.2]
      have z4 := paired_get h4 e1 ei
      exact sqT_kp kp z4
    · rw [if_neg hij] at e2
      have z4 := paired_get h4 e1 e2
      exact sqT_kp kp z4
  · rw [off (Ne.symm o4) h5]
    show some (HO.dT (dkO G.ones (G.ones.map _))) = some (HO.dT (dkO (G.ones.set i o') ((G.ones.set i o').map _)))
    rw [dkO_zip, dkO_zip, map_set_same ei hk, map_set_same (g := fun o : One => V.bl o.sh) ei (by show V.bl o'.sh = V.bl o.sh; rw [hs])]
  · show MixD w _ A.dH (heldAll n (G.ones.set i o') _ _)
    rw [heldAll_key (map_set_same ei hk)]
    exact h6.same (fun o e => off (Ne.symm o5) e) kp.t
  · refine paired_mk (by rw [l7]; show _ = (G.ones.set i o').length; rw [List.length_set]) fun j a q e1 e2 => ?_
    have e2 : (G.ones.set i o')[j]? = some q := e2
    rw [List.getElem?_set] at e2
    by_cases hij : i = j
    · subst hij
      rw [if_pos rfl, if_pos (List.getElem?_eq_some_iff.mp ei).1] at e2
      cases e2
      rw [eh] at e1
      cases e1
      exact hh
    · rw [if_neg hij] at e2
      exact (paired_get h7 e1 e2).fr fun b hb u x => off (fun z => N.two j i a hd e1 eh (Ne.symm hij) b hb (by rw [z]; exact md)) x
  · show n ≤ (G.ones.set i o').length
    rw [List.length_set]
    exact h9
theorem GsF.nmI (h : GsF w K C CH H p G A) {i : Nat} {o : One} {hd : Hd} (ei : G.ones[i]? = some o) (eh : A.hs[i]? = some hd) (x : Str) (v : Int) : Go w K C CH H p A (G.put i (o.ns_ (setN o.f.ns x v))) A (upd H hd.dn (.dK (nmK (setN o.f.ns x v)))) := by
  obtain ⟨ps, n, h1, h2, h3, h4, h5, h6, h7, h8, h9⟩ := h.ob
  have hh := paired_get h7 eh ei
  have mh := List.mem_of_getElem? eh
  exact h.at_ ei eh (o' := o.ns_ (setN o.f.ns x v)) (List.mem_cons_of_mem _ (List.mem_cons_self ..)) rfl ⟨rfl, rfl, rfl⟩ rfl (hh.setN ((nes h.nd).ns hd mh) x v) (h.ok.fh o (List.mem_of_getElem? ei)).setN
theorem GsF.rwI (h : GsF w K C CH H p G A) {i j : Nat} {o : One} {hd : Hd} {r : Addr} {x : Str} {row row' : List Int} (ei : G.ones[i]? = some o) (eh : A.hs[i]? = some hd) (er : hd.rs[j]? = some r) (ej : o.f.rs[j]? = some (x, row)) (lr : row'.length ≤ 100) : Go w K C CH H p A (G.put i (o.rs_ (setR o.f.rs x row'))) A (upd H r (.lst (row'.map V.int))) := by
  obtain ⟨ps, n, h1, h2, h3, h4, h5, h6, h7, h8, h9⟩ := h.ob
  have hh := paired_get h7 eh ei
  have mh := List.mem_of_getElem? eh
  exact h.at_ ei eh (o' := o.rs_ (setR o.f.rs x row')) (List.mem_cons_of_mem _ (List.mem_cons_of_mem _ (List.mem_cons_of_mem _ (List.mem_of_getElem? er)))) rfl ⟨rfl, rfl, rfl⟩ rfl (hh.setR ((nes h.nd).ns hd mh) er ej lr) ((h.ok.fh o (List.mem_of_getElem? ei)).setR lr)
end
end Fd

set_option Elab.async false
set_option linter.all false
set_option maxRecDepth 100000
set_option maxHeartbeats 1000000
namespace Fd
open PySem PySem.Spec PyProof.Rows L2 RZ Fw LamX
/-! ### a Holding again; a one more -/
theorem paired_mapR2 {α β γ : Type} {F : α → γ → Prop} {g : γ → β} {E : α → β → Prop} (h : ∀ a c, E a (g c) → F a c) : ∀ {m : List γ} {l : List α}, Paired E l (m.map g) → Paired F l m
  | [], _, e => by cases e; exact .nil
  | _ :: _, _, e => by cases e with | cons r t => exact .cons (h _ _ r) (paired_mapR2 h t)
theorem dpAll_pair {K : PySem.W.Frag} {H : Hp} : ∀ {vs : List V} {ds : List PyData}, DpAll K H vs ds → Paired (Dp K H) vs ds
  | _, _, .nil => .nil
  | _, _, .cons r t => .cons r (dpAll_pair t)
theorem dp_intsV {K : PySem.W.Frag} {H : Hp} : ∀ {is : List Int} {vs : List V}, DpAll K H vs (is.map .int) → vs = is.map V.int
  | [], _, h => by cases h; rfl
  | _ :: _, _, h => by cases h with | cons r t => cases r; rw [dp_intsV t]; rfl
theorem dp_pn {K : PySem.W.Frag} {H : Hp} {v : V} {nm : Nms} (h : Dp K H v (nmD nm)) : Pn K H v nm := by
  unfold nmD at h
  cases h with
  | lst q r =>
    refine ⟨_, _, rfl, .inl q, paired_mapR2 (fun x z e => ?_) (dpAll_pair r)⟩
    unfold prD at e
    cases e with
    | tup q2 r2 =>
      cases r2 with
      | cons a t =>
        cases a
        cases t with
        | cons a t => cases a; cases t; exact ⟨_, rfl, .inr q2⟩
theorem dp_pr {K : PySem.W.Frag} {H : Hp} {v : V} {rw : Rws} (h : Dp K H v (rwD rw)) : Pr K H v rw := by
  unfold rwD at h
  cases h with
  | lst q r =>
    refine ⟨_, _, rfl, .inl q, paired_mapR2 (fun x z e => ?_) (dpAll_pair r)⟩
    unfold rpD at e
    cases e with
    | tup q2 r2 =>
      cases r2 with
      | cons a t =>
        cases a
        cases t with
        | cons a t =>
          cases t
          cases a with
          | lst q3 r3 =>
            rw [dp_intsV r3] at q3
            exact ⟨_, _, rfl, .inr q2, .inl q3⟩
abbrev sHA : Stmt := inC 21 3
section
variable {P : Program} {w : World} {K : PySem.W.Frag} {mg : Str → Option Value} {base : Heap} {f : Addr} {fd : FuncData} {C CH : Addr}
def spHA (K : PySem.W.Frag) (CH : Addr) : Sp := fun vs H Q _ => ∃ (p : Addr) (nm : Nms) (rw : Rws), vs = [.ref p] ∧ HoldAt CH H p nm rw ∧ ∀ (h : Hd) H', Same H H' → (∀ b ∈ h.fp, H b = none) → h.fp.Nodup → HoldF CH H' h nm rw → Q (.ref h.p) H'
theorem scHA : FnScope ["self"] ["self"] (defScope sHA) := ⟨rfl, rfl, rfl, by decide +kernel, rfl, by decide +kernel, by decide +kernel⟩
theorem ok_ha {k kH : Nat} {fI fN fL : Addr} {fdI fdN fdL : FuncData} {psI psN psL : List Str} (F : Fun K "again" "Holding.again" sHA f fd) (c_H : Cls K CH) (hk : kH + 1 ≤ k)
    (M_name_pairs : Meth K CH "name_pairs" fN) (G_name_pairs : FnOk P w K mg base CX0 kH fN fdN psN (spHN K CH)) (b_name_pairs : Binds K fdN psN [])
    (M_list_pairs : Meth K CH "list_pairs" fL) (G_list_pairs : FnOk P w K mg base CX0 kH fL fdL psL (spHL K CH)) (b_list_pairs : Binds K fdL psL [])
    (M_Holding : Mk K CH fI) (G_Holding : FnOk P w K mg base CX0 kH fI fdI psI (spHI K CH)) (m_Holding : mg "Holding" = some (.ref CH)) (b_Holding : Binds K fdI psI []) : FnOk P w K mg base CX0 (k + 1) f fd ["self"] (spHA K CH) := by
  have sc := scHA
  have d_name_pairs : Vals [] [] := .nil
  have d_list_pairs : Vals [] [] := .nil
  refine F.ok sc (fun vs H Q E h => ?_) (fun cdv A outer s H vs Q E hr h => ?_)
  · obtain ⟨p, nm, rw, rfl, _⟩ := h
    rfl
  obtain ⟨p, nm, rw, rfl, hp, q⟩ := h
  refine ⟨_, (pss_one (ps_ret (pe_make M_Holding G_Holding (hr.mono (by omega)) (by rfl) m_Holding b_Holding .nil pass0 (pa_cons (pe_meth0 (pv 0) c_H M_name_pairs G_name_pairs (hr.mono (by omega)) b_name_pairs d_name_pairs pass0) (pa_cons (pe_meth0 (pv 0) c_H M_list_pairs G_list_pairs (hr.mono (by omega)) b_list_pairs d_list_pairs pass0) pa_nil))))), ?_⟩
  obtain ⟨dx, d1, d2, e1⟩ := hp.get
  refine ⟨_, rfl, p, dx, _, rfl, e1, by kernel_rfl, p, nm, rw, rfl, hp, fun v1 H1 as1 s1 t1 _ => ?_⟩
  refine ⟨_, rfl, p, dx, _, rfl, s1 _ _ e1, by kernel_rfl, p, nm, rw, rfl, hp.same s1, fun v2 H2 as2 s2 t2 _ => ?_⟩
  intro y dy ny ndy nyd
  have sn := (same_upd (o := .own y) ndy).trans (same_upd (H := upd H2 dy (.own y)) (p := y) (o := .ins CH dy []) (by rw [upd_ne (Ne.symm nyd)]; exact ny))
  have yn := upd_same (H := upd H2 dy (.own y)) (a := y) (o := .ins CH dy [])
  generalize upd (upd H2 dy (.own y)) y (.ins CH dy []) = HE at *
  have p1 := dp_pn (tr_dp _ _ _ t1)
  have p2 := dp_pr (tr_dp _ _ _ t2)
  obtain ⟨_, n1, n2, l1, l2, l3⟩ := hp
  have s12 := s1.trans s2
  refine ⟨y, dy, v1, v2, nm, rw, rfl, yn, p1.same (s2.trans sn), p2.same sn, n1, n2, l1, l2, l3, fun HF hd bf ehp hf frn ndh => ⟨rfl, ?_⟩⟩
  subst ehp
  refine q hd HF (fun b o e => bf b o (fun c => ?_) (sn _ _ (s12 _ _ e))) (fun b hb => ?_) ndh hf
  · rw [List.mem_singleton.mp c] at e
    rw [s12 _ _ e] at ny
    cases ny
  · rcases List.mem_cons.mp hb with rfl | hb
    · exact same_free s12 ny
    · exact same_free (s12.trans sn) (frn b hb)
end
end Fd

set_option Elab.async false
set_option linter.all false
set_option maxRecDepth 100000
set_option maxHeartbeats 1000000
namespace Fd
open PySem PySem.Spec PyProof.Rows L2 RZ Fw LamX
def Gs.push (G : Gs) (o : One) : Gs := { G with ones := G.ones ++ [o] }
theorem heldAll_push {n : Nat} {os : List One} {hs : List Addr} {h0 y : Addr} {o : One} (hn : n ≤ os.length) (hl : hs.length = os.length) : heldAll n (os ++ [o]) (hs ++ [y]) h0 = heldAll n os hs h0 ++ [(some o.key, V.ref y)] := by
  unfold heldAll
  rw [List.take_append_of_le_length hn, List.take_append_of_le_length (by omega), List.drop_append_of_le_length hn, List.drop_append_of_le_length (by omega), List.map_append, List.append_assoc]
  rw [show [y].map V.ref = [V.ref y] from rfl, dkO_snoc (by rw [List.length_drop, List.length_map, List.length_drop]; omega), List.map_append]
  rfl
theorem heldAll_keys {n : Nat} {os : List One} {hs : List Addr} {h0 : Addr} (hl : hs.length = os.length) {k : List L2.Key} (h : some k ∈ (heldAll n os hs h0).map (·.1)) : k ∈ os.map One.key := by
  unfold heldAll at h
  rw [List.map_append, List.map_cons] at h
  have key : ∀ {os' : List One} {hs' : List Addr}, hs'.length = os'.length → (some k : MKey) ∈ ((dkO os' (hs'.map V.ref)).map fun p => ((some p.1 : MKey), p.2)).map (·.1) → k ∈ os'.map One.key := fun {os' hs'} hl h => by
    obtain ⟨x, hx, e⟩ := List.mem_map.mp h
    obtain ⟨y, hy, rfl⟩ := List.mem_map.mp hx
    have e : y.1 = k := Option.some.inj e
    rw [← dkO_keys (vs := hs'.map V.ref) (by rw [List.length_map]; exact hl.symm), ← e]
    exact List.mem_map.mpr ⟨y, hy, rfl⟩
  rcases List.mem_append.mp h with h | h
  · obtain ⟨x, hx, e⟩ := List.mem_map.mp (key (by rw [List.length_take, List.length_take]; omega) h)
    exact List.mem_map.mpr ⟨x, List.mem_of_mem_take hx, e⟩
  · rcases List.mem_cons.mp h with h | h
    · cases h
    · obtain ⟨x, hx, e⟩ := List.mem_map.mp (key (by rw [List.length_drop, List.length_drop]; omega) h)
      exact List.mem_map.mpr ⟨x, List.mem_of_mem_drop hx, e⟩
theorem heldAll_len {n : Nat} {os : List One} {hs : List Addr} {h0 : Addr} (hl : hs.length = os.length) : (heldAll n os hs h0).length = os.length + 1 := by
  unfold heldAll
  rw [List.length_append, List.length_cons, List.length_map, List.length_map, dkO_len (by rw [List.length_take, List.length_map, List.length_take]; omega), dkO_len (by rw [List.length_drop, List.length_map, List.length_drop]; omega), List.length_take, List.length_drop]
  omega
abbrev sGv : Stmt := inC 37 5
section
variable {P : Program} {w : World} {K : PySem.W.Frag} {mg : Str → Option Value} {base : Heap} {f : Addr} {fd : FuncData} {C CH : Addr}
theorem upd_none {H : Hp} {d b : Addr} {o : HO} (e : upd H d o b = none) : b ≠ d ∧ H b = none := by
  by_cases z : b = d
  · rw [z, upd_same] at e; cases e
  · rw [upd_ne z] at e; exact ⟨z, e⟩
theorem fp_push {p : Addr} {A : GA} {hd : Hd} : ({ A with hs := A.hs ++ [hd] } : GA).fp p = A.fp p ++ hd.fp := by
  show p :: A.dF :: A.dP :: A.dS :: A.dH :: (A.h0.fp ++ (A.hs ++ [hd]).flatMap Hd.fp) = p :: A.dF :: A.dP :: A.dS :: A.dH :: (A.h0.fp ++ A.hs.flatMap Hd.fp) ++ hd.fp
  rw [List.flatMap_append, List.flatMap_cons, List.flatMap_nil, List.append_nil, List.cons_append, List.cons_append, List.cons_append, List.cons_append, List.cons_append, List.append_assoc]
/-- give to the ground itself -/
def spGv (w : World) (K : PySem.W.Frag) (C CH : Addr) : Sp := fun vs H Q _ => ∃ (p b nb : Addr) (A : GA) (G : Gs) (o : One) (n : Int), vs = [.ref p, .ref b, .ref p, .ref nb] ∧ GsF w K C CH H p G A ∧ OneT H b o ∧ o ∈ G.ones ∧ OneT H nb { o with no := n } ∧ ({ o with no := n } : One).key ∉ G.ones.map One.key ∧ G.ones.length < 100 ∧
  ∀ H' A', Go w K C CH H p A (G.push { o with no := n }) A' H' → Q .non H'
theorem scGv : FnScope ["self", "one", "ground", "new"] ["self", "one", "ground", "new"] (defScope sGv) := ⟨rfl, rfl, rfl, by decide +kernel, rfl, by decide +kernel, by decide +kernel⟩
theorem ok_gv {k kH : Nat} {fA : Addr} {fdA : FuncData} {psA : List Str} (F : Fun K "give" "Ground.give" sGv f fd) (c : GCls K C) (c_H : Cls K CH) (hk : kH ≤ k) (M_again : Meth K CH "again" fA) (G_again : FnOk P w K mg base CX0 kH fA fdA psA (spHA K CH)) (b_again : Binds K fdA psA []) : FnOk P w K mg base CX0 (k + 1) f fd ["self", "one", "ground", "new"] (spGv w K C CH) := by
  have sc := scGv
  have d_again : Vals [] [] := .nil
  refine F.ok sc (fun vs H Q E h => ?_) (fun cdv A outer s H vs Q E hr h => ?_)
  · obtain ⟨p, b, nb, A, G, o, n, rfl, _⟩ := h
    rfl
  obtain ⟨p, b, nb, AA, G, o, n, rfl, hp, hb, hg, hnb, hnew, hlt, q⟩ := h
  refine ⟨_, (pss_cons (ps_dput (hu_of hr) (pe_fld (pv 2) rfl) (pv 3) (pe_dget (hu_of hr) (pe_fld (pv 0) rfl) (pv 1) (fun _ _ => rfl)) rfl)
      (pss_cons (ps_dput (hu_of hr) (pe_fld (pv 2) rfl) (pv 3) (pe_dget (hu_of hr) (pe_fld (pv 0) rfl) (pv 1) (fun _ _ => rfl)) rfl)
      (pss_one (Fw.ps_mput (hu20 hr) (pe_fld (pv 2) rfl) (pv 3) (pe_meth0 (Fw.pe_mget (hu20 hr) (pe_fld (pv 0) rfl) (pv 1) (fun _ _ => rfl)) c_H M_again G_again (hr.mono (by omega)) b_again d_again pass0) rfl)))), ?_⟩
  have N := nes hp.nd
  have W := hp.own
  obtain ⟨mp1, mp2, mp3, mp4, mp5, mp6, mp7⟩ := mem_fp (p := p) (A := AA)
  obtain ⟨⟨ps, n0, h1, h2, h3, h4, h5, h6, h7, h8, hn0⟩, ok, nd⟩ := hp
  have lps : G.ones.length = (ps.map V.ref).length := by rw [List.length_map]; exact (paired_len h4).symm
  have lsh : G.ones.length = (shO G).length := by unfold shO; rw [List.length_map]
  have lhs := paired_len h7
  have lhs' : (AA.hs.map Hd.p).length = G.ones.length := by rw [List.length_map]; exact lhs
  obtain ⟨i, ei⟩ := List.mem_iff_getElem?.mp hg
  obtain ⟨a, ea, ha⟩ := paired_idx h4 ei
  obtain ⟨hd0, ey, hy⟩ := paired_idx h7 ei
  have ey' : (AA.hs.map Hd.p)[i]? = some hd0.p := by rw [List.getElem?_map, ey]; rfl
  have mh0 := List.mem_of_getElem? ey
  have kP : putK (dkO G.ones (ps.map V.ref)) ({ o with no := n } : One).key (.ref a) = dkO (G.ones ++ [{ o with no := n }]) ((ps ++ [a]).map V.ref) := by
    rw [putK_new _ (val_none (by rw [dkO_keys lps]; exact hnew)), List.map_append]
    exact (dkO_snoc lps).symm
  have kS : putK (dkO G.ones (shO G)) ({ o with no := n } : One).key (.bl o.sh) = dkO (G.ones ++ [{ o with no := n }]) (shO (G.push { o with no := n })) := by
    rw [putK_new _ (val_none (by rw [dkO_keys lsh]; exact hnew))]
    unfold shO Gs.push
    rw [List.map_append]
    exact (dkO_snoc lsh).symm
  -- places
  refine ⟨_, rfl, p, C, AA.dx, _, _, rfl, h1, c.cl, c.nP, fldG_p _ _ _ _ _ _, _, rfl, AA.dP, .ref a, rfl, .inr ⟨_, o.key, b, .inl h3, rfl, hb, (val_at (dkO_nd lps ok.nd) (dkO_at ei (by rw [List.getElem?_map, ea]; rfl))).symm⟩, ?_⟩
  refine ⟨_, rfl, p, C, AA.dx, _, _, rfl, h1, c.cl, c.nP, fldG_p _ _ _ _ _ _, _, rfl, AA.dP, _, rfl, DPut.t (k := ({ o with no := n } : One).key) h3 hnb (by rw [dkO_len lps]; exact Nat.lt_of_lt_of_le hlt (by decide)), ?_⟩
  rw [kP]
  have f1 : ∀ {b u}, b ≠ AA.dP → H b = some u → (upd H AA.dP (.dT (dkO (G.ones ++ [{ o with no := n }]) ((ps ++ [a]).map V.ref)))) b = some u := fun n e => by rw [upd_ne n]; exact e
  have g1 : ∀ {b}, (upd H AA.dP (.dT (dkO (G.ones ++ [{ o with no := n }]) ((ps ++ [a]).map V.ref)))) b = none → H b = none := fun e => (upd_none e).2
  have e1 : (upd H AA.dP (.dT (dkO (G.ones ++ [{ o with no := n }]) ((ps ++ [a]).map V.ref)))) AA.dP = some (.dT (dkO (G.ones ++ [{ o with no := n }]) ((ps ++ [a]).map V.ref))) := upd_same
  generalize upd H AA.dP (.dT (dkO (G.ones ++ [{ o with no := n }]) ((ps ++ [a]).map V.ref))) = H1 at *
  have h5' := f1 N.PS.symm h5
  have hb1 := f1 (ne_of hb h3 nofun) hb
  have hnb1 := f1 (ne_of hnb h3 nofun) hnb
  have h11 := f1 N.pP h1
  -- shown
  refine ⟨_, rfl, p, C, AA.dx, _, _, rfl, h11, c.cl, c.nS, fldG_s _ _ _ _ _ _, _, rfl, AA.dS, .bl o.sh, rfl, .inr ⟨_, o.key, b, .inl h5', rfl, hb1, (val_at (dkO_nd lsh ok.nd) (dkO_at ei (by unfold shO; rw [List.getElem?_map, ei]; rfl))).symm⟩, ?_⟩
  refine ⟨_, rfl, p, C, AA.dx, _, _, rfl, h11, c.cl, c.nS, fldG_s _ _ _ _ _ _, _, rfl, AA.dS, _, rfl, DPut.t (k := ({ o with no := n } : One).key) h5' hnb1 (by rw [dkO_len lsh]; exact Nat.lt_of_lt_of_le hlt (by decide)), ?_⟩
  rw [kS]
  have f2 : ∀ {b u}, b ≠ AA.dP → b ≠ AA.dS → H b = some u → (upd H1 AA.dS (.dT (dkO (G.ones ++ [{ o with no := n }]) (shO (G.push { o with no := n }))))) b = some u := fun n m e => by rw [upd_ne m]; exact f1 n e
  have g2 : ∀ {b}, (upd H1 AA.dS (.dT (dkO (G.ones ++ [{ o with no := n }]) (shO (G.push { o with no := n }))))) b = none → H b = none := fun e => g1 (upd_none e).2
  have e12 : (upd H1 AA.dS (.dT (dkO (G.ones ++ [{ o with no := n }]) (shO (G.push { o with no := n }))))) AA.dP = some (.dT (dkO (G.ones ++ [{ o with no := n }]) ((ps ++ [a]).map V.ref))) := by rw [upd_ne N.PS]; exact e1
  have e2 : (upd H1 AA.dS (.dT (dkO (G.ones ++ [{ o with no := n }]) (shO (G.push { o with no := n }))))) AA.dS = some (.dT (dkO (G.ones ++ [{ o with no := n }]) (shO (G.push { o with no := n })))) := upd_same
  generalize upd H1 AA.dS (.dT (dkO (G.ones ++ [{ o with no := n }]) (shO (G.push { o with no := n })))) = H2 at *
  clear h5' hb1 hnb1 h11 e1 f1 g1 kP kS
  have h12 := f2 N.pP N.pS h1
  have hb2 := f2 (ne_of hb h3 nofun) (ne_of hb h5 nofun) hb
  have hnb2 := f2 (ne_of hnb h3 nofun) (ne_of hnb h5 nofun) hnb
  have h62 : MixD w H2 AA.dH (heldAll n0 G.ones (AA.hs.map Hd.p) AA.h0.p) := h6.same (fun u e => f2 N.PH.symm N.SH.symm e) fun b xs e => f2 (ne_of e h3 nofun) (ne_of e h5 nofun) e
  -- held
  refine ⟨_, rfl, p, C, AA.dx, _, _, rfl, h12, c.cl, c.nD, fldG_d _ _ _ _ _ _, _, rfl, AA.dH, _, some o.key, .ref hd0.p, rfl, h62, .inr ⟨o.key, b, rfl, rfl, hb2⟩, held_in ei ey', ?_⟩
  have hy2 : HoldF CH H2 hd0 o.f.ns o.f.rs := hy.fr fun b hb u x => by
    obtain ⟨o1, o2, o3, o4, o5⟩ := N.os _ mh0 _ hb
    exact f2 o3 o4 x
  obtain ⟨hdx, hd1, hd2, hye⟩ := hy2.at.get
  refine ⟨hd0.p, hdx, _, rfl, hye, by kernel_rfl, hd0.p, _, _, rfl, hy2.at, fun hd H3 s3 fr3 ndh hy3 => ?_⟩
  have m3 := h62.same (fun u e => s3 _ _ e) (fun b xs e => s3 _ _ e)
  refine ⟨_, rfl, p, C, AA.dx, _, _, rfl, s3 _ _ h12, c.cl, c.nD, fldG_d _ _ _ _ _ _, _, rfl, AA.dH, _, some ({ o with no := n } : One).key, rfl, m3, .inr ⟨_, nb, rfl, rfl, s3 _ _ hnb2⟩, fun z => hnew (heldAll_keys lhs' z), by rw [heldAll_len lhs']; omega, fun u hm => ?_⟩
  rw [← heldAll_push hn0 lhs'] at hm
  obtain ⟨xs6, e6, _⟩ := id h6
  have off : ∀ {b v}, b ≠ AA.dP → b ≠ AA.dS → b ≠ AA.dH → H b = some v → upd H3 AA.dH u b = some v := fun n1 n2 n3 e => by
    rw [upd_ne n3]
    exact s3 _ _ (f2 n1 n2 e)
  have offT : ∀ {a xs}, SqT K H a xs → SqT K (upd H3 AA.dH u) a xs := fun {a xs} e => by
    rcases e with (e | ⟨o, e⟩) | e
    · exact .inl (.inl (off (ne_of e h3 nofun) (ne_of e h5 nofun) (ne_of e e6 (by unfold MixO; nofun)) e))
    · exact .inl (.inr ⟨o, off (ne_of e h3 nofun) (ne_of e h5 nofun) (ne_of e e6 (by unfold MixO; nofun)) e⟩)
    · exact .inr e
  have frH : ∀ b ∈ hd.fp, H b = none := fun b hb => g2 (fr3 b hb)
  have apart : ∀ x ∈ AA.fp p, x ∉ hd.fp := fun x hx c => by
    obtain ⟨v, hv, _⟩ := W x hx
    rw [frH x c] at hv
    cases hv
  have dHn : AA.dH ∉ hd.fp := apart _ mp5
  refine q _ { AA with hs := AA.hs ++ [hd] } ⟨fun b v nb e => off (fun z => nb (by rw [z]; exact mp3)) (fun z => nb (by rw [z]; exact mp4)) (fun z => nb (by rw [z]; exact mp5)) e, ⟨⟨ps ++ [a], n0, off N.pP N.pS N.pH h1, off N.FP N.FS N.FH h2, by rw [upd_ne N.PH]; exact s3 _ _ e12, paired_snoc (L2.Paired.mapP h4 fun a o e => offT e) (offT ha), by rw [upd_ne N.SH]; exact s3 _ _ e2, ?_, paired_snoc (paired_memL h7 fun a ha o e => e.fr fun b hb u x => ?_) (hy3.off dHn fun b u n e => by rw [upd_ne n]; exact e), h8.fr fun b hb u x => ?_, ?_⟩, ?_, ?_⟩, fun b hb => ?_⟩
  · show MixD w _ AA.dH (heldAll n0 (G.ones ++ [_]) ((AA.hs ++ [hd]).map Hd.p) AA.h0.p)
    rw [List.map_append]
    exact hm
  · obtain ⟨o1, o2, o3, o4, o5⟩ := N.os _ ha _ hb
    exact off o3 o4 o5 x
  · obtain ⟨o1, o2, o3, o4, o5⟩ := N.o0 _ hb
    exact off o3 o4 o5 x
  · show n0 ≤ (G.ones ++ [_]).length
    rw [List.length_append]
    omega
  · have hm : ∀ {x : One}, x ∈ (G.push { o with no := n }).ones → x ∈ G.ones ∨ x = { o with no := n } := fun h => (List.mem_append.mp h).imp id List.mem_singleton.mp
    refine ⟨ok.h, fun x hx => ?_, ?_, fun x hx => ?_, ?_, ok.on, ok.ol, ok.os⟩
    · rcases hm hx with h | rfl
      · exact ok.fh x h
      · exact ok.fh o hg
    · show ((G.ones ++ [_]).map One.key).Nodup
      rw [List.map_append, List.nodup_append]
      refine ⟨ok.nd, by simp, fun x hx y hy e => ?_⟩
      rw [List.mem_singleton.mp hy] at e
      rw [e] at hx
      exact hnew hx
    · rcases hm hx with h | rfl
      · exact ok.st x h
      · exact ok.st o hg
    · show (G.ones ++ [_]).length ≤ 100
      rw [List.length_append]
      exact hlt
  · rw [fp_push, List.nodup_append]
    exact ⟨nd, ndh, fun x hx y hy e => apart x hx (by rw [e]; exact hy)⟩
  · rw [fp_push] at hb
    exact (List.mem_append.mp hb).imp id (frH b)
end
end Fd

set_option Elab.async false
set_option linter.all false
set_option maxRecDepth 100000
set_option maxHeartbeats 1000000
namespace Fd
open PySem PySem.Spec PyProof.Rows L2 RZ Fw LamX
abbrev sGC : Stmt := inC 37 14
/-- the least number that no one of that figure has -/
structure IsFree (G : Gs) (o : One) (n : Nat) : Prop where
  pos : 1 ≤ n
  new : ({ o with no := (n : Int) } : One).key ∉ G.ones.map One.key
  low : ∀ m : Nat, 1 ≤ m → m < n → ({ o with no := (m : Int) } : One).key ∈ G.ones.map One.key
theorem nodupK_le {α : Type} [DecidableEq α] : ∀ {l m : List α}, l.Nodup → (∀ x ∈ l, x ∈ m) → l.length ≤ m.length
  | [], _, _, _ => Nat.zero_le _
  | x :: l, m, nd, h => by
    obtain ⟨n1, n2⟩ := List.nodup_cons.mp nd
    have mx := h x (List.mem_cons_self ..)
    have := nodupK_le (l := l) (m := m.erase x) n2 fun y hy => by
      have ne : y ≠ x := fun e => n1 (e ▸ hy)
      exact (List.mem_erase_of_ne ne).mpr (h y (List.mem_cons_of_mem _ hy))
    rw [List.length_erase_of_mem mx] at this
    have p := List.length_pos_of_mem mx
    rw [List.length_cons]
    omega
theorem taken_le {G : Gs} {o : One} {j : Nat} (h : ∀ m : Nat, 1 ≤ m → m < j → ({ o with no := (m : Int) } : One).key ∈ G.ones.map One.key) : j - 1 ≤ G.ones.length := by
  have := nodupK_le (l := (List.range (j - 1)).map fun i => ({ o with no := ((i + 1 : Nat) : Int) } : One).key) (m := G.ones.map One.key) ?_ fun x hx => ?_
  · rwa [List.length_map, List.length_range, List.length_map] at this
  · rw [List.nodup_iff_pairwise_ne, List.pairwise_map]
    refine (List.nodup_iff_pairwise_ne.mp List.nodup_range).imp fun n e => n ?_
    have := (key_inj e).2
    dsimp only at this
    omega
  · obtain ⟨i, hi, rfl⟩ := List.mem_map.mp hx
    have := List.mem_range.mp hi
    exact h (i + 1) (by omega) (by omega)
theorem val_some {κ : Type} [DecidableEq κ] {l : List (κ × V)} {k : κ} (h : k ∈ l.map (·.1)) : (valV l k).isSome = true := by
  cases e : valV l k with
  | some v => rfl
  | none =>
    unfold valV at e
    obtain ⟨p, hp, ek⟩ := List.mem_map.mp h
    cases hf : l.find? fun q => decide (q.1 = k) with
    | some q => rw [hf] at e; cases e
    | none => exact absurd (decide_eq_true ek) (List.find?_eq_none.mp hf p hp)
section
variable {P : Program} {w : World} {K : PySem.W.Frag} {mg : Str → Option Value} {base : Heap} {f : Addr} {fd : FuncData} {C CH : Addr}
def spGC (w : World) (K : PySem.W.Frag) (C CH : Addr) : Sp := fun vs H Q _ => ∃ (p b : Addr) (A : GA) (G : Gs) (o : One), vs = [.ref p, .ref b] ∧ GsF w K C CH H p G A ∧ OneV K H b o ∧ o ∈ G.ones ∧ G.ones.length < 100 ∧
  ∀ t H' (n : Nat) A', IsFree G o n → Go w K C CH H p A (G.push { o with no := n }) A' H' → OneT H' t { o with no := n } → Q (.ref t) H'
theorem scGC : FnScope ["self", "one", "figure", "number"] ["self", "one"] (defScope sGC) := ⟨rfl, rfl, rfl, by decide +kernel, rfl, by decide +kernel, by decide +kernel⟩
theorem ok_gc {k kH : Nat} {fG : Addr} {fdG : FuncData} {psG : List Str} (F : Fun K "copy" "Ground.copy" sGC f fd) (c : GCls K C) (c_G : Cls K C) (hk : kH ≤ k) (m_tuple : mg "tuple" = none) (M_give : Meth K C "give" fG) (G_give : FnOk P w K mg base CX0 kH fG fdG psG (spGv w K C CH)) (b_give : Binds K fdG psG []) : FnOk P w K mg base CX0 (k + 1) f fd ["self", "one"] (spGC w K C CH) := by
  have sc := scGC
  have d_give : Vals [] [] := .nil
  refine F.ok sc (fun vs H Q E h => ?_) (fun cdv A outer s H vs Q E hr h => ?_)
  · obtain ⟨p, b, A, G, o, rfl, _⟩ := h
    rfl
  obtain ⟨p, b, AA, G, o, rfl, hp, hb, hg, hlt, q⟩ := h
  refine ⟨_, (pss_cons (ps_set (i := 2) sc.nd rfl (.inl rfl) (pe_ix (ixr_or (show IxR _ (rIxL K) from ix_list) (show IxR _ (rIxT K) from ix_tup)) (pv 1) pe_int (fun _ _ => rfl)))
      (pss_cons (ps_set (i := 3) sc.nd rfl (.inl rfl) pe_int)
      (pss_cons (ps_while PassesOwn.never (pt_cmp (pc_din (hu_of hr) (pe_tup (pa_cons (pv 2) (pa_cons (pv 3) pa_nil))) (pe_fld (pv 0) rfl))) (pss_one (ps_aug (i := 3) sc.nd rfl (.inl rfl) pe_int ip_add)))
      (pss_cons (ps_expr (pe_meth (pv 0) c_G M_give G_give (hr.mono (by omega)) b_give d_give pass0 (pa_cons (pe_callTy (show CallR _ (.type "tuple") (rTupO K) from call_tuple_of) (by rfl) m_tuple (by decide +kernel) (pa_cons (pv 1) pa_nil)) (pa_cons (pv 0) (pa_cons (pe_tup (pa_cons (pv 2) (pa_cons (pv 3) pa_nil))) pa_nil)))))
      (pss_one (ps_ret (pe_tup (pa_cons (pv 2) (pa_cons (pv 3) pa_nil))))))))), ?_⟩
  refine ⟨_, rfl, ix_or hb.sq (atI_nat (j := 0) rfl) ?_⟩
  obtain ⟨⟨ps, n0, h1, h2, h3, h4, r⟩, ok, nd⟩ := id hp
  have lps : G.ones.length = (ps.map V.ref).length := by rw [List.length_map]; exact (paired_len h4).symm
  refine ⟨fun m σ' H' => ∃ j : Nat, m = 200 - j ∧ 1 ≤ j ∧ σ' = [some (.ref p), some (.ref b), some (.str o.f.nm), some (.int j)] ∧ Same H H' ∧ ∀ m : Nat, 1 ≤ m → m < j → ({ o with no := (m : Int) } : One).key ∈ G.ones.map One.key, ⟨199, 1, rfl, Nat.le_refl 1, rfl, Same.refl H, fun m a b => by omega⟩, ?_⟩
  rintro m σ' H' ⟨j, rfl, hj, rfl, sm, lo⟩
  have jl := taken_le lo
  refine ⟨_, rfl, _, rfl, by show 2 ≤ sizeLine; decide, fun t nt => ?_⟩
  have st := same_upd (o := .tup [V.str o.f.nm, .int (j : Nat)]) nt
  have et := upd_same (H := H') (a := t) (o := .tup [V.str o.f.nm, .int (j : Nat)])
  generalize upd H' t (.tup [V.str o.f.nm, .int (j : Nat)]) = H1 at *
  have s1 := sm.trans st
  refine ⟨_, rfl, p, C, AA.dx, _, _, rfl, s1 _ _ h1, c.cl, c.nP, fldG_p _ _ _ _ _ _, AA.dP, _, rfl, DGet.t (k := ({ o with no := (j : Int) } : One).key) (s1 _ _ h3) et, ?_⟩
  refine ⟨_, rfl, ?_⟩
  by_cases hin : ({ o with no := (j : Int) } : One).key ∈ G.ones.map One.key
  · rw [val_some (by rw [dkO_keys lps]; exact hin)]
    refine iteT ⟨fun σ3 H3 => σ3 = [some (.ref p), some (.ref b), some (.str o.f.nm), some (.int ((j + 1 : Nat) : Int))] ∧ H3 = H1, ?_, ?_⟩
    · rintro _ _ ⟨rfl, rfl⟩
      refine ⟨200 - (j + 1), by omega, j + 1, rfl, by omega, rfl, s1, fun m a b => ?_⟩
      by_cases e : m = j
      · rw [e]; exact hin
      · exact lo m a (by omega)
    · exact ⟨_, rfl, _, _, rfl, rfl, by push_cast; rfl, rfl⟩
  rw [val_none (by rw [dkO_keys lps]; exact hin)]
  refine ifFF ?_
  have fr : IsFree G o j := ⟨hj, hin, lo⟩
  have hp1 := hp.same s1
  refine ⟨_, rfl, p, AA.dx, _, rfl, s1 _ _ h1, by kernel_rfl, ?_⟩
  refine ⟨_, rfl, ?_⟩
  unfold tNil
  refine key_or (hb.same s1) fun bk H2 s2 _ hbk => ?_
  refine ⟨_, rfl, _, rfl, _, rfl, by show 2 ≤ sizeLine; decide, fun nb nnb => ?_⟩
  have s3 := same_upd (o := .tup [V.str o.f.nm, .int (j : Nat)]) nnb
  have hnb := upd_same (H := H2) (a := nb) (o := .tup [V.str o.f.nm, .int (j : Nat)])
  generalize upd H2 nb (.tup [V.str o.f.nm, .int (j : Nat)]) = H3 at *
  have S3 := s1.trans (s2.trans s3)
  refine ⟨p, bk, nb, AA, G, o, (j : Int), rfl, hp.same S3, s3 _ _ hbk, hg, hnb, hin, hlt, fun H4 A' go => ?_⟩
  refine ⟨_, rfl, _, rfl, by show 2 ≤ sizeLine; decide, fun t2 nt2 => ?_⟩
  have s4 := same_upd (o := .tup [V.str o.f.nm, .int (j : Nat)]) nt2
  have et2 := upd_same (H := H4) (a := t2) (o := .tup [V.str o.f.nm, .int (j : Nat)])
  exact q t2 _ j A' fr ((go.pre S3).post s4) et2
end
end Fd

set_option Elab.async false
set_option linter.all false
set_option maxRecDepth 100000
set_option maxHeartbeats 1000000
namespace Fd
open PySem PySem.Spec PyProof.Rows L2 RZ Fw LamX
theorem call_lenT {X : Cx} : CallR X (.builtin "len") rLenT := call_len_dT
abbrev sGL : Stmt := inC 37 1
abbrev sGW : Stmt := inC 37 8
/-! ### the ones in their order -/
def ixS (zs : List Str) : Nms := zs.mapIdx fun i z => (z, (i : Int))
theorem ixS_at {zs : List Str} {i : Nat} {z : Str} (e : zs[i]? = some z) : (ixS zs)[i]? = some (z, (i : Int)) := by
  unfold ixS
  rw [List.getElem?_mapIdx, e]
  rfl
theorem ixS_len (zs : List Str) : (ixS zs).length = zs.length := List.length_mapIdx
theorem ixS_nm (zs : List Str) : (ixS zs).map (·.1) = zs := by
  refine List.ext_getElem? fun i => ?_
  unfold ixS
  rw [List.getElem?_map, List.getElem?_mapIdx]
  cases zs[i]? <;> rfl
def rkO (G : Gs) (o : One) : Int := (G.ord.idxOf o.f.nm : Nat)
def leO (G : Gs) (a b : One) : Bool := decide (rkO G a < rkO G b ∨ rkO G a = rkO G b ∧ a.no ≤ b.no)
/-- the ones, figures in order, numbers rising -/
def Gs.srt (G : Gs) : List One := G.ones.mergeSort (leO G)
theorem srt_mem {G : Gs} {o : One} : o ∈ G.srt ↔ o ∈ G.ones := List.mem_mergeSort
theorem srt_len (G : Gs) : G.srt.length = G.ones.length := List.length_mergeSort _
/-- all figures are the play's -/
def Gs.In (G : Gs) : Prop := ∀ o ∈ G.ones, o.f.nm ∈ G.ord
def kiO (G : Gs) (p : Addr × One) : KI := ⟨p.1, p.2.f.nm, p.2.no, rkO G p.2⟩
theorem paired_zip {α β : Type} {F : α → β → Prop} : ∀ {l : List α} {m : List β}, Paired F l m → ∀ p ∈ l.zip m, F p.1 p.2
  | _, _, .nil, _, h => nomatch h
  | _, _, .cons r t, p, h => by
    rcases List.mem_cons.mp h with rfl | h
    · exact r
    · exact paired_zip t p h
theorem paired_of {α β : Type} {F : α → β → Prop} : ∀ {l : List (α × β)}, (∀ p ∈ l, F p.1 p.2) → Paired F (l.map (·.1)) (l.map (·.2))
  | [], _ => .nil
  | p :: l, h => .cons (h p (List.mem_cons_self ..)) (paired_of fun q hq => h q (List.mem_cons_of_mem _ hq))
theorem keys_one {H : Hp} : ∀ {os : List One} {vs : List V} {bs : List Addr}, os.length = vs.length → IsKeys H (dkO os vs) bs → Paired (OneT H) bs os
  | [], [], _, _, h => by
    cases h
    exact .nil
  | f :: fs, v :: vs, _, hl, h => by
    cases h with | cons r t => exact .cons r (keys_one (Nat.succ.inj hl) t)
  | [], _ :: _, _, h, _ => nomatch h
  | _ :: _, [], _, h, _ => nomatch h
theorem zip_fst {α β : Type} {l : List α} {m : List β} (h : l.length = m.length) : (l.zip m).map (·.1) = l := List.map_fst_zip (Nat.le_of_eq h)
theorem zip_snd {α β : Type} {l : List α} {m : List β} (h : l.length = m.length) : (l.zip m).map (·.2) = m := List.map_snd_zip (Nat.le_of_eq h.symm)
section
variable {P : Program} {w : World} {K : PySem.W.Frag} {mg : Str → Option Value} {base : Heap} {f : Addr} {fd : FuncData} {C CH : Addr}
def spGo (w : World) (K : PySem.W.Frag) (C CH P0 : Addr) : Sp := fun vs H Q _ => ∃ (p : Addr) (G : Gs), vs = [.ref p] ∧ GsAt w K C CH H p G ∧ G.In ∧ Tabs (TT P0) H ∧ ∀ l H' as, ExtN H H' → Tabs (TT P0) H' → NewL H l → H' l = some (.lst (as.map V.ref)) → Paired (OneT H') as G.srt → Q (.ref l) H'
theorem ok_gO {k : Nat} {c0 P0 : Addr} (F : Fun K "ones" "Ground.ones" sGO f fd) (c : GCls K C) (hc0 : fd.code = .ref c0) (TB : TabB base mg c0 P0) (m_enumerate : mg "enumerate" = none) (m_sorted : mg "sorted" = none) (m_list : mg "list" = none) : FnOk P w K mg base CX0 (k + 1) f fd ["self"] (spGo w K C CH P0) := by
  have sc := scGO
  refine fun_okC F sc (fun vs H Q E h => ?_) (fun A outer s H vs Q E hr h => ?_)
  · obtain ⟨p, G, rfl, _⟩ := h
    rfl
  obtain ⟨p, G, rfl, hp, hin, hT, q⟩ := h
  have hcode : (cxOf CX0 P w K mg base ["self", "ranks", "rank", "figure"] "Ground.ones" (defScope sGO) f fd.code A outer s H E).nox.env.code = .ref c0 := hc0
  have mem_TT : (P0, (cxOf CX0 P w K mg base ["self", "ranks", "rank", "figure"] "Ground.ones" (defScope sGO) f fd.code A outer s H E).nox.env.qual ++ "<lambda>") ∈ TT P0 := by
    refine List.mem_singleton.mpr ?_
    kernel_rfl
  refine ⟨_, (pss_cons (ps_set (i := 1) sc.nd rfl (.inr rfl) (pe_dc (own := [("rank", 2), ("figure", 3)]) (g := gTup K 2 (gCons (gName 2) (gCons (gName 3) gNil))) (by rfl) sc.nd (pi_enum (by rfl) m_enumerate (pa_cons (pe_fld (pv 0) rfl) pa_nil)) (blkOk_by (own := [("rank", 2), ("figure", 3)]) (N := ["self", "ranks", "rank", "figure"]) (sc := defScope sGO) (by decide +kernel)) (fun _ _ _ _ _ => (pg_tup (by rfl) (pgs_cons (pg_name (i := 2) sc.nd rfl (.inl rfl)) (pgs_cons (pg_name (i := 3) sc.nd rfl (.inl rfl)) pgs_nil)))) (fun _ _ _ _ _ => pts_nil) (fun _ _ _ _ _ => (pv 3)) (fun _ _ _ _ _ => (pv 2))))
      (pss_one (ps_ret (Fw.pe_srtL (T := TT P0) (i := 1) (x := "one") (y := "ranks") (pa_cons (pe_callTy (call_list_dT (by rfl)) (by rfl) m_list (by decide +kernel) (pa_cons (pe_fld (pv 0) rfl) pa_nil)) pa_nil) (by rfl) m_sorted TB hcode mem_TT (fun p hp _ => (congrArg Prod.snd (List.mem_singleton.mp hp)).trans rfl) rfl (fun _ _ _ _ _ _ => rfl) rfl rfl rfl (by decide +kernel) rfl rfl (by decide +kernel) rfl rfl hr.depth (hu70 hr))))), ?_⟩
  obtain ⟨⟨dx, dF, dP, dS, dH, ps, hs, h0, n, h1, h2, h3, h4, h5, h6, h7, h8, h9, hn⟩, ok⟩ := hp
  have lps := paired_len h4
  refine ⟨_, rfl, p, C, dx, _, _, rfl, h1, c.cl, c.nF, fldG_f _ _ _ _ _ _, dF, _, rfl, SqL.of h2, fun D nD => dcg_it (put := putS) walk_enum (fun i HB => Same H HB ∧ HB D = some (.dK (nmK ((ixS G.ord).take i)))) ⟨same_upd nD, upd_same⟩ (fun i HB _ h => SqL.of (h.1 _ _ h2)) ?_ ?_⟩
  · rintro i v HB HC hi ⟨sm, hD⟩ ⟨T, x, z, rfl, nT, rfl, ex, ez⟩
    cases (Option.some.inj ex)
    dsimp only at ez
    rw [List.getElem?_map] at ez
    obtain ⟨g, eg, rfl⟩ := Option.map_eq_some_iff.mp ez
    have st := same_upd (o := .tup [V.int (i : Nat), .str g]) nT
    have hT2 := upd_same (H := HB) (a := T) (o := .tup [V.int (i : Nat), .str g])
    generalize upd HB T (.tup [V.int (i : Nat), .str g]) = HC at *
    refine ⟨T, _, rfl, .inl (.inl hT2), rfl, _, _, rfl, _, _, rfl, rfl, rfl, ?_⟩
    unfold tYes
    refine iteT ⟨_, rfl, _, rfl, _, Sum.inr g, rfl, st _ _ hD, ?_, Fd.Same.putN (sm.trans st) nD, ?_⟩
    · unfold nmK
      rw [List.length_map, List.length_take, ixS_len]
      exact small1000 (by have := ok.ol; omega)
    · rw [upd_same, putK_fresh, List.take_succ, ixS_at eg]
      · unfold nmK
        rw [List.map_append]
        rfl
      · exact nm_new (by rw [ixS_nm]; exact ok.on) (ixS_at eg)
  rintro HB ⟨sm, hD⟩
  rw [List.take_of_length_le (by rw [ixS_len, List.length_map]; exact Nat.le_refl _)] at hD
  refine ⟨_, rfl, p, C, dx, _, _, rfl, sm _ _ h1, c.cl, c.nP, fldG_p _ _ _ _ _ _, dP, _, rfl, .inl (sm _ _ h3), fun l0 bs nl hb => ?_⟩
  have hb' := keys_one (by rw [List.length_map]; exact lps.symm) hb
  have lb := paired_len hb'
  have s0 := same_upd (o := .lst (bs.map V.ref)) nl
  have e0 := upd_same (H := HB) (a := l0) (o := .lst (bs.map V.ref))
  generalize upd HB l0 (.lst (bs.map V.ref)) = HC at *
  have hz := paired_zip hb'
  have ea : (((bs.zip G.ones).map (kiO G)).map fun it => V.ref it.a) = bs.map V.ref := by
    conv => rhs; rw [← zip_fst lb]
    rw [List.map_map, List.map_map]
    rfl
  refine ⟨l0, D, (bs.zip G.ones).map (kiO G), _, rfl, by rw [ea]; exact SqL.of e0, by rw [List.length_map, List.length_zip]; have := ok.ln; omega, rfl, s0 _ _ hD, fun it hit => ?_, (hT.ext sm).ext s0, fun H2 l ex T2 nl2 => ?_⟩
  · obtain ⟨q1, hq, rfl⟩ := List.mem_map.mp hit
    have ho := hz q1 hq
    have hm := hin q1.2 (List.of_mem_zip hq).2
    refine ⟨.inl (.inl (s0 _ _ ho)), ?_⟩
    have eo : G.ord[G.ord.idxOf q1.2.f.nm]? = some q1.2.f.nm := by
      rw [List.getElem?_eq_getElem (List.idxOf_lt_length_of_mem hm), List.getElem_idxOf]
    exact val_map (g := V.int) (l := ixS G.ord) (by rw [ixS_nm]; exact ok.on) (ixS_at eo)
  · have es : ((bs.zip G.ones).map (kiO G)).mergeSort kiLe = ((bs.zip G.ones).mergeSort fun p q => kiLe (kiO G p) (kiO G q)).map (kiO G) := (List.map_mergeSort (r := fun p q => kiLe (kiO G p) (kiO G q)) (s := kiLe) (f := kiO G) (fun _ _ _ _ => rfl)).symm
    have eo : ((bs.zip G.ones).mergeSort fun p q => kiLe (kiO G p) (kiO G q)).map (·.2) = G.srt := by
      rw [List.map_mergeSort (s := leO G) (fun a _ b _ => by rw [kiLe_eq]; rfl), zip_snd lb]
      rfl
    have em : ∀ p ∈ (bs.zip G.ones).mergeSort fun p q => kiLe (kiO G p) (kiO G q), OneT HB p.1 p.2 := fun p hp => hz p (List.mem_mergeSort.mp hp)
    rw [es, List.map_map]
    generalize (bs.zip G.ones).mergeSort (fun p q => kiLe (kiO G p) (kiO G q)) = PL at *
    have ex0 : ExtN H H2 := ((ExtN.of sm).trans (ExtN.of s0)).trans ex
    have e9 : PL.map ((fun it => V.ref it.a) ∘ kiO G) = (PL.map (·.1)).map V.ref := by
      rw [List.map_map]
      rfl
    rw [e9]
    have su := same_upd (o := .lst ((PL.map (·.1)).map V.ref)) nl2
    refine q l _ (PL.map (·.1)) (ex0.trans (ExtN.of su)) (T2.ext su) (newL_ext ex0 nl2) upd_same ?_
    rw [← eo]
    exact L2.Paired.mapP (paired_of em) fun a g e => su _ _ (ex _ _ (s0 _ _ e) nofun)
def spGL (w : World) (K : PySem.W.Frag) (C CH : Addr) : Sp := fun vs H Q _ => ∃ (p : Addr) (G : Gs), vs = [.ref p] ∧ GsAt w K C CH H p G ∧ Q (.int (G.ones.length : Nat)) H
theorem scGL : FnScope ["self"] ["self"] (defScope sGL) := ⟨rfl, rfl, rfl, by decide +kernel, rfl, by decide +kernel, by decide +kernel⟩
theorem ok_gl {k : Nat} (F : Fun K "__len__" "Ground.__len__" sGL f fd) (c : GCls K C) (m_len : mg "len" = none) : FnOk P w K mg base CX0 (k + 1) f fd ["self"] (spGL w K C CH) := by
  have sc := scGL
  refine F.ok sc (fun vs H Q E h => ?_) (fun cdv A outer s H vs Q E hr h => ?_)
  · obtain ⟨p, G, rfl, _⟩ := h
    rfl
  obtain ⟨p, G, rfl, hp, q⟩ := h
  refine ⟨_, (pss_one (ps_ret (pe_callB Fd.call_lenT (by rfl) m_len (by decide +kernel) (pa_cons (pe_fld (pv 0) rfl) pa_nil)))), ?_⟩
  obtain ⟨⟨dx, dF, dP, dS, dH, ps, hs, h0, n, h1, h2, h3, h4, h5, h6, h7, h8⟩, ok⟩ := hp
  refine ⟨_, rfl, p, C, dx, _, _, rfl, h1, c.cl, c.nP, fldG_p _ _ _ _ _ _, dP, _, rfl, h3, ?_⟩
  rw [dkO_len (by rw [List.length_map]; exact (paired_len h4).symm)]
  exact q
def spGW (w : World) (K : PySem.W.Frag) (C CH : Addr) : Sp := fun vs H Q _ => ∃ (p b : Addr) (G : Gs) (o : One), vs = [.ref p, .ref b] ∧ GsAt w K C CH H p G ∧ OneV K H b o ∧ o ∈ G.ones ∧ ∀ H', Same H H' → Q (.bl o.sh) H'
theorem scGW : FnScope ["self", "one"] ["self", "one"] (defScope sGW) := ⟨rfl, rfl, rfl, by decide +kernel, rfl, by decide +kernel, by decide +kernel⟩
theorem ok_gw {k : Nat} (F : Fun K "is_shown" "Ground.is_shown" sGW f fd) (c : GCls K C) (m_tuple : mg "tuple" = none) : FnOk P w K mg base CX0 (k + 1) f fd ["self", "one"] (spGW w K C CH) := by
  have sc := scGW
  refine F.ok sc (fun vs H Q E h => ?_) (fun cdv A outer s H vs Q E hr h => ?_)
  · obtain ⟨p, b, G, g, rfl, _⟩ := h
    rfl
  obtain ⟨p, b, G, g, rfl, hp, hb, hg, q⟩ := h
  refine ⟨_, (pss_one (ps_ret (pe_dget (hu_of hr) (pe_fld (pv 0) rfl) (pe_callTy (show CallR _ (.type "tuple") (rTupO K) from call_tuple_of) (by rfl) m_tuple (by decide +kernel) (pa_cons (pv 1) pa_nil)) (fun _ _ => rfl)))), ?_⟩
  obtain ⟨⟨dx, dF, dP, dS, dH, ps, hs, h0, n, h1, h2, h3, h4, h5, h6, h7, h8⟩, ok⟩ := hp
  obtain ⟨i, ei⟩ := List.mem_iff_getElem?.mp hg
  refine ⟨_, rfl, p, C, dx, _, _, rfl, h1, c.cl, c.nS, fldG_s _ _ _ _ _ _, _, rfl, ?_⟩
  unfold tNil
  have lsh : G.ones.length = (shO G).length := by unfold shO; rw [List.length_map]
  exact key_or hb fun l H' s _ hl => ⟨dS, .bl g.sh, rfl, .inr ⟨_, g.key, l, .inl (s _ _ h5), rfl, hl, (val_at (dkO_nd lsh ok.nd) (dkO_at ei (by unfold shO; rw [List.getElem?_map, ei]; rfl))).symm⟩, q H' s⟩
end
end Fd

set_option Elab.async false
set_option linter.all false
set_option maxRecDepth 100000
set_option maxHeartbeats 1000000
namespace Fd
open PySem PySem.Spec PyProof.Rows L2 RZ Fw
/-- the drawer's box: its three numbers, drawn from at most n times -/
def Box (H : Hp) (a : Addr) (n : Nat) : Prop := ∃ b0 b1 b2 : Int, H a = some (.lst [.int b0, .int b1, .int b2]) ∧ 0 ≤ b0 ∧ 0 ≤ b1 ∧ b1 < 4611686018427387904 ∧ 0 ≤ b2 ∧ b2 ≤ n
theorem Box.same {H H' : Hp} {a : Addr} {n : Nat} (b : Box H a n) (s : Same H H') : Box H' a n := by
  obtain ⟨b0, b1, b2, h, r⟩ := b
  exact ⟨b0, b1, b2, s _ _ h, r⟩
theorem Box.le {H : Hp} {a : Addr} {n m : Nat} (b : Box H a n) (h : n ≤ m) : Box H a m := by
  obtain ⟨b0, b1, b2, e, h0, h1, h2, h3, h4⟩ := b
  exact ⟨b0, b1, b2, e, h0, h1, h2, h3, by omega⟩
theorem bit_lo (b : Bool) : -(2 ^ 64) < (if b = true then (1 : Int) else 0) := by cases b <;> decide
theorem bit_hi (b : Bool) : (if b = true then (1 : Int) else 0) < 2 ^ 64 := by cases b <;> decide
theorem bit_nn (b : Bool) : 0 ≤ (if b = true then (1 : Int) else 0) := by cases b <;> decide
section
variable {P : Program} {w : World} {K : PySem.W.Frag} {mg : Str → Option Value} {base : Heap} {f : Addr} {fd : FuncData}
abbrev sTake : Stmt := top 40
theorem scTake : FnScope ["_law_box_here", "_law_many", "_law_found", "_law_once", "_law_twice"] ["_law_box_here", "_law_many"] (defScope sTake) := ⟨rfl, rfl, rfl, by decide +kernel, rfl, by decide +kernel, by decide +kernel⟩
def spTake : Sp := fun vs H Q _ => ∃ (a : Addr) (n : Nat) (m : Int), vs = [.ref a, .int m] ∧ Box H a n ∧ n ≤ 1000000 ∧ 0 < m ∧ m ≤ 100000 ∧
  ∀ r H', 0 ≤ r → r < m → But a H H' → Box H' a (n + 1) → Q (.int r) H'
theorem ok_take {k : Nat} (F : Fun K "_law_take" "_law_take" sTake f fd) (m_divmod : mg "divmod" = none) : FnOk P w K mg base CX0 (k + 1) f fd ["_law_box_here", "_law_many"] spTake := by
  have sc := scTake
  refine F.ok sc (fun vs H Q E h => ?_) (fun cdv A outer s H vs Q E hr h => ?_)
  · obtain ⟨a, n, m, rfl, _⟩ := h
    rfl
  obtain ⟨a, n, m, rfl, hB, hn, m0, m1, q⟩ := h
  refine ⟨_, (pss_cons (ps_if (pt_cmpR op_gt (pe_ix ix_list (pv 0) pe_int (fun _ _ => rfl)) pe_int (nomark _)) (pss_cons (ps_asg (pe_callB call_divmod (by rfl) m_divmod (by decide +kernel) (pa_cons (pe_ix ix_list (pv 0) pe_int (fun _ _ => rfl)) (pa_cons (pv 1) pa_nil))) (pg_tup (by rfl) (pgs_cons (pg_sub (pv 0) pe_int set_list) (pgs_cons (pg_name (i := 2) sc.nd rfl (.inl rfl)) pgs_nil))))
      (pss_one (ps_ret (pv 2)))) pss_nil)
      (pss_cons (ps_asg (pe_op op_add (pe_ix ix_list (pv 0) pe_int (fun _ _ => rfl)) pe_int) (pg_sub (pv 0) pe_int set_list))
      (pss_cons (ps_set (i := 3) sc.nd rfl (.inl rfl) (pe_op op_mod (pe_op op_mul (pe_op op_add (pe_ix ix_list (pv 0) pe_int (fun _ _ => rfl)) (pe_op op_mul pe_int (pe_ix ix_list (pv 0) pe_int (fun _ _ => rfl)))) (pe_op op_add pe_int (pe_ix ix_list (pv 0) pe_int (fun _ _ => rfl)))) pe_int))
      (pss_cons (ps_set (i := 4) sc.nd rfl (.inl rfl) (pe_op op_mod (pe_op op_mul (pe_op op_add (pe_op op_add (pv 3) (pe_ix ix_list (pv 0) pe_int (fun _ _ => rfl))) (pe_op op_fdivW (pe_ix ix_list (pv 0) pe_int (fun _ _ => rfl)) pe_int)) (pe_op op_add (pe_op op_mod (pv 3) pe_int) pe_int)) pe_int))
      (pss_one (ps_ret (pe_op op_mod (pe_op op_fdivW (pe_op op_mod (pe_op op_add (pe_op op_mul (pv 4) pe_int) (pv 3)) pe_int) pe_int) (pv 1)))))))), ?_⟩
  obtain ⟨b0, b1, b2, e, h0, h1, h2, h3, h4⟩ := hB
  refine ⟨_, rfl, a, _, 0, .int b0, rfl, rfl, SqL.of e, rfl, b0, 0, rfl, rfl, _, rfl, ite2 (fun c => ?_) (fun c => ?_)⟩
  · have c' : (0 : Int) < b0 := of_decide_eq_true c
    refine ⟨_, rfl, a, _, 0, .int b0, rfl, rfl, SqL.of e, rfl, _, rfl, b0, m, rfl, ⟨m0, by omega⟩, fun p np => ?_⟩
    have e1 := same_upd (o := .tup [.int (b0 / m), .int (b0 % m)]) np a _ e
    have lt : b0 % m < m := Int.emod_lt_of_pos _ m0
    have ge : 0 ≤ b0 % m := Int.emod_nonneg _ (by omega)
    have dv : 0 ≤ b0 / m := Int.ediv_nonneg h0 (by omega)
    refine ⟨p, _, rfl, .inl (.inl upd_same), rfl, _, _, rfl, _, rfl, a, _, 0, 0, rfl, rfl, e1, rfl, _, _, rfl, rfl, _, rfl, ?_⟩
    refine q _ _ ge lt (fun b o nb ho => ?_) ⟨b0 / m, b1, b2, upd_same, dv, h1, h2, h3, by omega⟩
    rw [upd_ne nb]
    exact same_upd np b o ho
  · have eS := SqL.of (K := K) e
    refine ⟨_, rfl, a, _, 2, .int b2, rfl, rfl, eS, rfl, b2, 1, rfl, rfl, _, rfl, a, _, 2, 2, rfl, rfl, e, rfl, ?_⟩
    have e1 : (upd H a (.lst [.int b0, .int b1, .int (b2 + 1)])) a = some (.lst [.int b0, .int b1, .int (b2 + 1)]) := upd_same
    have eS := SqL.of (K := K) e1
    refine ⟨_, rfl, a, _, 1, .int b1, rfl, rfl, eS, rfl, _, rfl, a, _, 2, .int (b2 + 1), rfl, rfl, eS, rfl, 48271, b2 + 1, rfl, rfl, .inl ⟨by decide, by decide⟩, b1, _, rfl, rfl,
      _, rfl, a, _, 2, .int (b2 + 1), rfl, rfl, eS, rfl, 39373, b2 + 1, rfl, rfl, _, _, rfl, rfl, .inl ⟨by omega, by omega⟩, _, 2147483647, rfl, rfl, (show (0 : Int) < 2147483647 by decide), ?_⟩
    dsimp only
    generalize ho : (b1 + 48271 * (b2 + 1)) * (39373 + (b2 + 1)) % 2147483647 = once
    have o0 : 0 ≤ once := by rw [← ho]; exact Int.emod_nonneg _ (by decide)
    have o1 : once < 2147483647 := by rw [← ho]; exact Int.emod_lt_of_pos _ (by decide)
    have o2 : 0 ≤ once % 40009 := Int.emod_nonneg _ (by decide)
    have o3 : once % 40009 < 40009 := Int.emod_lt_of_pos _ (by decide)
    refine ⟨_, rfl, _, rfl, a, _, 2, .int (b2 + 1), rfl, rfl, eS, rfl, once, b2 + 1, rfl, rfl, _, rfl, a, _, 1, .int b1, rfl, rfl, eS, rfl, b1, 1000003, rfl, rfl, wide_div (b := 20) (by decide) (by decide) (by decide) (by decide),
      _, _, rfl, rfl, _, rfl, once, 40009, rfl, rfl, (show (0 : Int) < 40009 by decide), once % 40009, 7, rfl, rfl, _, _, rfl, rfl, .inr ⟨by omega, by omega⟩, _, 2147483629, rfl, rfl, (show (0 : Int) < 2147483629 by decide), ?_⟩
    dsimp only
    generalize ht : (once + (b2 + 1) + b1 / 1000003) * (once % 40009 + 7) % 2147483629 = twice
    refine ⟨_, rfl, twice, 48271, rfl, rfl, .inr ⟨by decide, by decide⟩, _, rfl, _, once, rfl, rfl, _, 2147483587, rfl, rfl, (show (0 : Int) < 2147483587 by decide), _, 64, rfl, rfl, wide_div (b := 7) (by decide) (by decide) (by decide) (by decide), _, rfl, _, m, rfl, rfl, m0, ?_⟩
    exact q _ _ (Int.emod_nonneg _ (by omega)) (Int.emod_lt_of_pos _ m0) But.upd ⟨b0, b1, b2 + 1, e1, h0, h1, h2, by omega, by omega⟩
abbrev sBox : Stmt := top 39
theorem scBox : FnScope ["_law_script", "_law_k", "_law_cell"] ["_law_script", "_law_k"] (defScope sBox) := ⟨rfl, rfl, rfl, by decide +kernel, rfl, by decide +kernel, by decide +kernel⟩
def spBox (K : PySem.W.Frag) : Sp := fun vs H Q _ => ∃ (a : Addr) (k : Nat) (ns : List Int), vs = [.ref a, .int k] ∧ SqL K H a (ns.map V.int) ∧ k < 100 ∧
  ∀ p H', Same H H' → H p = none → Box H' p 0 → Q (.ref p) H'
theorem ok_boxd {k : Nat} (F : Fun K "_law_box" "_law_box" sBox f fd) (m_len : mg "len" = none) (m_abs : mg "abs" = none) (m_int : mg "int" = none) :
    FnOk P w K mg base CX0 (k + 1) f fd ["_law_script", "_law_k"] (spBox K) := by
  have sc := scBox
  refine F.ok sc (fun vs H Q E h => ?_) (fun cdv A outer s H vs Q E hr h => ?_)
  · obtain ⟨a, n, m, rfl, _⟩ := h
    rfl
  obtain ⟨a, i, ns, rfl, hS, hi, q⟩ := h
  refine ⟨_, (pss_cons (ps_set (i := 2) sc.nd rfl (.inl rfl) (pe_ifExp (pt_cmpR op_lt (pv 1) (pe_callB call_len_seq (by rfl) m_len (by decide +kernel) (pa_cons (pv 0) pa_nil)) (nomark _)) (pe_ix ix_list (pv 0) (pv 1) (fun _ _ => rfl)) pe_int))
      (pss_one (ps_ret (pe_lst (pa_cons (pe_op op_mul (pe_callB call_abs (by rfl) m_abs (by decide +kernel) (pa_cons (pv 2) pa_nil)) (pe_callTy call_int1 (by rfl) m_int (by decide +kernel) (pa_cons (pe_cmpR op_ge (pe_callB call_abs (by rfl) m_abs (by decide +kernel) (pa_cons (pv 2) pa_nil)) (pe_op op_pow pe_int pe_int) (nomark _)) pa_nil))) (pa_cons (pe_op op_add (pe_op op_add (pe_op op_mod (pv 2) pe_int) (pe_op op_mul pe_int (pv 1))) pe_int) (pa_cons pe_int pa_nil))))))), ?_⟩
  refine ⟨_, rfl, _, rfl, a, _, rfl, .inl hS, i, _, rfl, rfl, _, rfl, ifE (fun v => ∃ cell : Int, v = .int cell) (fun c => ?_) (fun c => ⟨_, ⟨0, rfl⟩, fun Q' h => h⟩) ?_⟩
  · have c' : (i : Int) < ((ns.map V.int).length : Nat) := of_decide_eq_true c
    rw [List.length_map] at c'
    have hl : i < ns.length := by omega
    exact ⟨_, ⟨ns[i], rfl⟩, fun Q' h => ⟨_, rfl, _, rfl, a, _, i, .int ns[i], rfl, rfl, hS, atI_nat (by rw [List.getElem?_map, List.getElem?_eq_getElem hl]; rfl), h⟩⟩
  rintro _ ⟨cell, rfl⟩
  refine ⟨_, rfl, cell, rfl, _, rfl, cell, rfl, 10, 18, rfl, rfl, ⟨by decide, by decide, by decide⟩, _, _, rfl, rfl, .inr ⟨_, rfl, _, _, rfl, rfl, .inr ⟨bit_lo _, bit_hi _⟩, ?_⟩⟩
  refine ⟨_, rfl, cell, 2305843009213693951, rfl, rfl, (show (0 : Int) < 2305843009213693951 by decide), _, rfl, 39373, i, rfl, rfl, .inl ⟨by decide, by decide⟩, _, _, rfl, rfl, _, 17, rfl, rfl, ?_⟩
  have z0 : 0 ≤ cell % 2305843009213693951 := Int.emod_nonneg _ (by decide)
  have z1 : cell % 2305843009213693951 < 2305843009213693951 := Int.emod_lt_of_pos _ (by decide)
  refine ⟨by show 3 ≤ sizeLine; decide, fun p np => q p _ (same_upd np) np ⟨_, _, _, upd_same, ?_, ?_, ?_, Int.le_refl 0, Int.le_refl 0⟩⟩
  · refine Int.mul_nonneg ?_ (bit_nn _)
    split <;> omega
  · show 0 ≤ cell % 2305843009213693951 + 39373 * (i : Int) + 17
    omega
  · show cell % 2305843009213693951 + 39373 * (i : Int) + 17 < 4611686018427387904
    omega
end
end Fd

set_option Elab.async false
set_option linter.all false
set_option maxRecDepth 100000
set_option maxHeartbeats 1000000
namespace Fd
open PySem PySem.Spec PyProof.Rows L2 RZ Fw
section
variable {X : Cx}
/-- text * number -/
theorem op_mul_str : OpR X (binaryOp .Mult) (fun x y H Q => ∃ z n, x = .str z ∧ y = .int n ∧ MulOk z n ∧ Q (.str (Txt.mul z n)) H) := by
  intro pins s σ H x y v u Q I rx ry h
  obtain ⟨z, n, rfl, rfl, hz, q⟩ := h
  obtain ⟨t, rfl⟩ := rx
  obtain ⟨t', rfl⟩ := ry
  exact SB.mul hz fun t' tk => ⟨.str (Txt.mul z n), H, I.tok _, ⟨_, rfl⟩, q⟩
end
/-! ### words -/
/-- one to eight letters a to z -/
def IsNm (z : Str) : Prop := 1 ≤ z.cps.size ∧ z.cps.size ≤ 8 ∧ ∀ c ∈ z.cps.toList, 97 ≤ c ∧ c ≤ 122
abbrev ltrs : Str := Str.ofString "abcdefghijklmnoprstuvwxyz"
theorem ltrs_len : ltrs.cps.toList.length = 25 := by decide +kernel
theorem ltrs_all : ∀ c ∈ ltrs.cps.toList, 97 ≤ c ∧ c ≤ 122 := by decide +kernel
theorem ltrs_nodup : ltrs.cps.toList.Nodup := by decide +kernel
def ltr (i : Nat) : Nat := ltrs.cps.toList.getD i 0
theorem ltr_at {i : Nat} (h : i < 25) : ltrs.cps.toList[i]? = some (ltr i) := by
  have h' : i < ltrs.cps.toList.length := by rw [ltrs_len]; exact h
  unfold ltr
  rw [List.getD_eq_getElem?_getD, List.getElem?_eq_getElem h']
  rfl
theorem ltr_ok {i : Nat} (h : i < 25) : 97 ≤ ltr i ∧ ltr i ≤ 122 := ltrs_all _ (List.mem_of_getElem? (ltr_at h))
theorem ltr_inj {i j : Nat} (hi : i < 25) (hj : j < 25) (e : ltr i = ltr j) : i = j := nd_ix ltrs_nodup (ltr_at hi) (by rw [e]; exact ltr_at hj)
theorem ltr_atI {i : Int} (h0 : 0 ≤ i) (h : i < 25) : atI ltrs.cps.toList i = some (ltr i.toNat) := by
  have e : i = ((i.toNat : Nat) : Int) := by omega
  rw [e]
  exact atI_nat (by rw [Int.toNat_natCast]; exact ltr_at (by omega))
theorem ltrs_fit : ltrs.length ≤ sizeLine := by decide +kernel
theorem nodup_of {α : Type} {f : Nat → α} {m : Nat} (h : ∀ i j, i < j → j < m → f i ≠ f j) : ((List.range m).map f).Nodup := by
  refine List.pairwise_iff_getElem.mpr fun i j hi hj hij => ?_
  rw [List.length_map, List.length_range] at hi hj
  rw [List.getElem_map, List.getElem_map, List.getElem_range, List.getElem_range]
  exact h i j hij hj
/-- the k-th word of one letter told k + 1 times -/
def rep (c : Nat) (k : Nat) : Str := Txt.mul ⟨#[c]⟩ ((k : Int) + 1)
theorem fold_app (c : Nat) : ∀ (n : Nat) (acc : Array Nat), ((List.replicate n (#[c] : Array Nat)).foldl (· ++ ·) acc).toList = acc.toList ++ List.replicate n c
  | 0, acc => by simp
  | n + 1, acc => by
    rw [List.replicate_succ, List.foldl_cons, fold_app c n, Array.toList_append, List.replicate_succ, List.append_assoc]
    rfl
theorem rep_codes (c k : Nat) : (rep c k).cps.toList = List.replicate (k + 1) c := by
  unfold rep Txt.mul
  rw [if_neg (by omega)]
  by_cases h : k = 0
  · subst h
    rfl
  · have e : (((k : Int) + 1 == 1) || ((⟨#[c]⟩ : Str).length == 0)) = false := by
      rw [show ((k : Int) + 1 == 1) = false from beq_eq_false_iff_ne.mpr (by omega)]
      rfl
    rw [e, if_neg Bool.false_ne_true, show ((k : Int) + 1).toNat = k + 1 by omega]
    exact (fold_app c (k + 1) #[]).trans (List.nil_append _)
theorem rep_ok {c k : Nat} (hk : k < 7) : MulOk ⟨#[c]⟩ ((k : Int) + 1) := by
  refine ⟨?_, fun _ _ => ?_, fun _ _ => ?_⟩
  · rw [decide_eq_false (by omega), decide_eq_false (by omega)]
    rfl
  · show ¬ ((1 : Int) > (2 ^ 63 - 1) / ((k : Int) + 1))
    have : k = 0 ∨ k = 1 ∨ k = 2 ∨ k = 3 ∨ k = 4 ∨ k = 5 ∨ k = 6 := by omega
    rcases this with rfl | rfl | rfl | rfl | rfl | rfl | rfl <;> decide
  · rw [show (⟨#[c]⟩ : Str).length * ((k : Int) + 1).toNat = k + 1 by show 1 * _ = _; omega]
    have : k = 0 ∨ k = 1 ∨ k = 2 ∨ k = 3 ∨ k = 4 ∨ k = 5 ∨ k = 6 := by omega
    rcases this with rfl | rfl | rfl | rfl | rfl | rfl | rfl <;> decide +kernel
theorem rep_nm {c k : Nat} (hc : 97 ≤ c ∧ c ≤ 122) (hk : k < 7) : IsNm (rep c k) := by
  have l : (rep c k).cps.size = k + 1 := by rw [← Array.length_toList, rep_codes, List.length_replicate]
  refine ⟨by omega, by omega, fun x hx => ?_⟩
  rw [rep_codes] at hx
  rw [List.eq_of_mem_replicate hx]
  exact hc
theorem rep_ne {c i j : Nat} (h : i < j) : rep c i ≠ rep c j := fun e => by
  have := congrArg (fun z : Str => z.cps.toList.length) e
  simp only [rep_codes, List.length_replicate] at this
  omega
/-- a stem with one letter put in -/
def put1 (z : Str) (at_ : Int) (c : Nat) : Str := cutS z none (some at_) ++ ⟨#[c]⟩ ++ cutS z (some at_) none
theorem put1_codes {z : Str} {n : Nat} (h : n ≤ z.length) (c : Nat) : (put1 z (n : Int) c).cps.toList = z.cps.toList.take n ++ c :: z.cps.toList.drop n := by
  have l : z.cps.toList.length = z.length := Array.length_toList
  have e1 : (cutS z none (some (n : Int))).cps.toList = z.cps.toList.take n := by
    show ((z.cps.toList.drop (HT.sIx z.length 0 none)).take (HT.sIx z.length z.length (some (n : Int)) - HT.sIx z.length 0 none)) = _
    rw [HT.sIx_none, HT.sIx_nat, Nat.min_eq_left h]
    rfl
  have e2 : (cutS z (some (n : Int)) none).cps.toList = z.cps.toList.drop n := by
    show ((z.cps.toList.drop (HT.sIx z.length 0 (some (n : Int)))).take (HT.sIx z.length z.length none - HT.sIx z.length 0 (some (n : Int)))) = _
    rw [HT.sIx_none, HT.sIx_nat, Nat.min_eq_left h]
    exact List.take_of_length_le (by rw [List.length_drop, l]; exact Nat.le_refl _)
  show ((cutS z none (some (n : Int))).cps ++ #[c] ++ (cutS z (some (n : Int)) none).cps).toList = _
  rw [Array.toList_append, Array.toList_append, e1, e2, List.append_assoc]
  rfl
theorem put1_nm {z : Str} {n c : Nat} (h : n ≤ z.length) (hz : z.length ≤ 7) (hs : ∀ x ∈ z.cps.toList, 97 ≤ x ∧ x ≤ 122) (hc : 97 ≤ c ∧ c ≤ 122) : IsNm (put1 z (n : Int) c) := by
  have l0 : z.cps.toList.length = z.length := Array.length_toList
  have l : (put1 z (n : Int) c).cps.size = z.length + 1 := by
    rw [← Array.length_toList, put1_codes h, List.length_append, List.length_cons, List.length_take, List.length_drop, l0]
    omega
  refine ⟨by omega, by omega, fun x hx => ?_⟩
  rw [put1_codes h] at hx
  rcases List.mem_append.mp hx with q | q
  · exact hs _ (List.mem_of_mem_take q)
  · rcases List.mem_cons.mp q with q | q
    · rw [q]; exact hc
    · exact hs _ (List.mem_of_mem_drop q)
theorem put1_ne {z : Str} {n c c' : Nat} (h : n ≤ z.length) (hc : c ≠ c') : put1 z (n : Int) c ≠ put1 z (n : Int) c' := fun e => by
  have q := congrArg (fun z : Str => z.cps.toList) e
  simp only [put1_codes h] at q
  exact hc (List.cons.inj (List.append_cancel_left q)).1
abbrev one (c : Nat) : Str := ⟨#[c]⟩
theorem glue1 : ∀ (cs : List Nat) (acc : Array Nat), ((cs.map one).foldl (fun acc p => acc ++ (Str.ofString "").cps ++ p.cps) acc).toList = acc.toList ++ cs
  | [], acc => by simp
  | c :: cs, acc => by
    rw [List.map_cons, List.foldl_cons, glue1 cs, Array.toList_append, Array.toList_append, show (Str.ofString "").cps.toList = [] by decide +kernel, List.append_nil, List.append_assoc]
    rfl
theorem join1 : ∀ cs : List Nat, (Txt.join (Str.ofString "") (cs.map one)).cps.toList = cs
  | [] => rfl
  | c :: cs => glue1 cs #[c]
theorem But.free {a d : Addr} {H H' : Hp} {o : HO} (s : But a H H') (ha : H' a = some o) (h : H' d = none) : H d = none := by
  cases q : H d with
  | none => rfl
  | some u =>
    by_cases e : d = a
    · rw [e, ha] at h
      cases h
    · rw [s d u e q] at h
      cases h
theorem Box.is {H : Hp} {a : Addr} {n : Nat} (b : Box H a n) : ∃ o, H a = some o := by
  obtain ⟨b0, b1, b2, h, _⟩ := b
  exact ⟨_, h⟩
theorem Box.ne {H : Hp} {a d : Addr} {n : Nat} (b : Box H a n) (h : H d = none) : a ≠ d := by
  obtain ⟨o, e⟩ := b.is
  exact ne_of_none e h
theorem Box.upd {H : Hp} {a d : Addr} {n : Nat} {o : HO} (b : Box H a n) (h : a ≠ d) : Box (upd H d o) a n := by
  obtain ⟨b0, b1, b2, e, r⟩ := b
  exact ⟨b0, b1, b2, by rw [upd_ne h]; exact e, r⟩
theorem ifT {c : Prop} [Decidable c] {A B : Prop} (hc : c) (h : A) : if decide c = true then A else B := by
  rw [if_pos (decide_eq_true hc)]
  exact h
theorem ifF {c : Prop} [Decidable c] {A B : Prop} (hc : ¬ c) (h : B) : if decide c = true then A else B := by
  rw [decide_eq_false hc, if_neg Bool.false_ne_true]
  exact h
abbrev wordsT : Str := Str.ofString "stage figure name list run done else ground piece script x y way number"
def wds : List Str := Txt.split wordsT " "
theorem cut_from (xs : List V) (m : Nat) : cutV xs (some (m : Int)) none = xs.drop m := by
  unfold cutV
  rw [HT.sIx_nat, HT.sIx_none]
  by_cases h : m ≤ xs.length
  · rw [Nat.min_eq_left h, List.take_of_length_le (by rw [List.length_drop]; exact Nat.le_refl _)]
  · rw [Nat.min_eq_right (by omega), List.drop_eq_nil_of_le (Nat.le_refl _), List.drop_eq_nil_of_le (by omega), List.take_nil]
theorem wds_len {s m : Nat} (hs : s < 14) (hm : m ≤ 6) : (((wds ++ wds).drop s).take m).length = m := by
  have : (wds ++ wds).length = 28 := by decide +kernel
  rw [List.length_take, List.length_drop, this]
  omega
theorem wds_nd6 : ∀ s : Fin 14, (((wds ++ wds).drop s.val).take 6).Nodup := by decide +kernel
theorem wds_nd {s m : Nat} (hs : s < 14) (hm : m ≤ 6) : (((wds ++ wds).drop s).take m).Nodup := by
  have h := wds_nd6 ⟨s, hs⟩
  have e : ((wds ++ wds).drop s).take m = (((wds ++ wds).drop s).take 6).take m := by rw [List.take_take, Nat.min_eq_left hm]
  rw [e]
  exact h.sublist (List.take_sublist _ _)
theorem wds_a : ∀ z ∈ wds ++ wds, z.cps.size ≤ 8 ∧ ∀ c ∈ z.cps.toList, c < 128 := by decide +kernel
theorem wds_asc {s m : Nat} (hs : s < 14) : ∀ z ∈ ((wds ++ wds).drop s).take m, Asc 8 z := fun z hz => by
  obtain ⟨h1, h2⟩ := wds_a z (List.mem_of_mem_drop (List.mem_of_mem_take hz))
  exact ⟨h1, h2⟩
theorem mul_ok {c : Nat} {r : Int} (h : 0 ≤ r) (h7 : r < 7) : MulOk ⟨#[c]⟩ r := by
  by_cases h0 : r = 0
  · subst h0
    exact ⟨by decide, fun z => absurd (by decide : (0 : Int) < 1) z, fun z => absurd (by decide : (0 : Int) < 1) z⟩
  · obtain ⟨k, rfl⟩ : ∃ k : Nat, r = (k : Int) + 1 := ⟨(r - 1).toNat, by omega⟩
    exact rep_ok (by omega)
theorem mul_asc {c : Nat} {r : Int} (hc : 97 ≤ c ∧ c ≤ 122) (h : 0 ≤ r) (h7 : r < 7) : Asc 6 (Txt.mul (one c) r) := by
  by_cases h0 : r = 0
  · subst h0
    exact ⟨by show 0 ≤ 6; decide, fun x hx => by cases hx⟩
  · obtain ⟨k, rfl⟩ : ∃ k : Nat, r = (k : Int) + 1 := ⟨(r - 1).toNat, by omega⟩
    refine ⟨?_, fun x hx => ?_⟩
    · show (rep c k).cps.size ≤ 6
      rw [← Array.length_toList, rep_codes, List.length_replicate]
      omega
    · have hx : x ∈ (rep c k).cps.toList := hx
      rw [rep_codes] at hx
      rw [List.eq_of_mem_replicate hx]
      omega
theorem asc_one {c : Nat} (hc : 97 ≤ c ∧ c ≤ 122) : Asc 1 (one c) := ⟨Nat.le_refl _, fun x hx => by
  have : x = c := by simpa using hx
  omega⟩
theorem asc_rep {c k : Nat} (hc : 97 ≤ c ∧ c ≤ 122) : Asc (k + 1) (rep c k) := ⟨by rw [← Array.length_toList, rep_codes, List.length_replicate]; exact Nat.le_refl _, fun x hx => by
  rw [rep_codes] at hx
  rw [List.eq_of_mem_replicate hx]
  omega⟩
theorem cps_app {x y : Str} : (x ++ y).cps.toList = x.cps.toList ++ y.cps.toList := by rw [Str.cps_append, Array.toList_append]
/-- a stem and two letters -/
def two (stem : Str) (c : Nat) : Str := cutS stem none (some 6) ++ one (ltr (c / 25)) ++ one (ltr (c % 25))
theorem two_asc {stem : Str} {c : Nat} (h : Asc 6 stem) (hc : c < 625) : Asc 8 (two stem c) := ((h.cut none (some 6)).app (asc_one (ltr_ok (by omega)))).app (asc_one (ltr_ok (by omega)))
theorem two_ne {stem : Str} {c d : Nat} (hc : c < 625) (hd : d < 625) (n : c ≠ d) : two stem c ≠ two stem d := fun e => by
  have h := congrArg (fun z : Str => z.cps.toList) e
  unfold two at h
  simp only [cps_app, List.append_assoc] at h
  have h := List.append_cancel_left h
  have h1 : [ltr (c / 25), ltr (c % 25)] = [ltr (d / 25), ltr (d % 25)] := h
  injection h1 with a b
  injection b with b _
  have h1 := ltr_inj (by omega) (by omega) a
  have h2 := ltr_inj (by omega) (by omega) b
  omega
section
variable {P : Program} {w : World} {K : PySem.W.Frag} {mg : Str → Option Value} {base : Heap} {f : Addr} {fd : FuncData}
abbrev sNames : Stmt := top 41
theorem scNames : FnScope ["_law_box_here", "_law_many", "_law_letters", "_law_start", "_law_way", "_law_words", "_law_stem", "_law_step", "_law_found", "_law_k", "_law_who", "_law_two"] ["_law_box_here", "_law_many"] (defScope sNames) := ⟨rfl, rfl, rfl, by decide +kernel, rfl, by decide +kernel, by decide +kernel⟩
def spNames : Sp := fun vs H Q _ => ∃ (a : Addr) (n m : Nat), vs = [.ref a, .int m] ∧ Box H a n ∧ n + 6 ≤ 1000000 ∧ m ≤ 6 ∧
  ∀ (p : Addr) (ws : List Str) (H' : Hp), But a H H' → Box H' a (n + 6) → H p = none → H' p = some (.lst (ws.map V.str)) → ws.length = m → ws.Nodup → (∀ z ∈ ws, Asc 8 z) → Q (.ref p) H'
theorem ok_names {k : Nat} (F : Fun K "_law_names" "_law_names" sNames f fd) (G : FnG P w K mg base CX0 k "_law_take" ["_law_box_here", "_law_many"] spTake) (m_len : mg "len" = none) (m_range : mg "range" = none) (m_divmod : mg "divmod" = none) :
    FnOk P w K mg base CX0 (k + 1) f fd ["_law_box_here", "_law_many"] spNames := by
  obtain ⟨_, _, G__law_take, m__law_take, k__law_take, b__law_take⟩ := G
  have sc := scNames
  refine F.ok sc (fun vs H Q E h => ?_) (fun cdv A outer s H vs Q E hr h => ?_)
  · obtain ⟨a, n, m, rfl, _⟩ := h
    rfl
  obtain ⟨a, n, m, rfl, hB, hn, hm, q⟩ := h
  refine ⟨_, (pss_cons (ps_asg (pe_tup (pa_cons pe_str (pa_cons (pe_call G__law_take (hr.mono (by omega)) (by rfl) m__law_take k__law_take b__law_take .nil pass0 (pa_cons (pv 0) (pa_cons pe_int pa_nil))) (pa_cons (pe_call G__law_take (hr.mono (by omega)) (by rfl) m__law_take k__law_take b__law_take .nil pass0 (pa_cons (pv 0) (pa_cons pe_int pa_nil))) pa_nil)))) (pg_tup (by rfl) (pgs_cons (pg_name (i := 2) sc.nd rfl (.inr rfl)) (pgs_cons (pg_name (i := 3) sc.nd rfl (.inr rfl)) (pgs_cons (pg_name (i := 4) sc.nd rfl (.inl rfl)) pgs_nil)))))
      (pss_cons (ps_set (i := 5) sc.nd rfl (.inl rfl) (pe_bm PySem.F.plainAttrs_str PySem.F.slot_str_split PySem.F.type_str_split mt_split pe_str (pa_cons pe_str pa_nil)))
      (pss_cons (ps_if (pt_cmpR op_eq (pv 4) pe_int (nomark _)) (pss_one (ps_ret (pe_slice sl_list (pe_slice sl_list (pe_op op_cat (pv 5) (pv 5)) (po_some (pe_op op_mod (pv 3) pe_int)) po_none) po_none (po_some (pv 1))))) pss_nil)
      (pss_cons (ps_set (i := 6) sc.nd rfl (.inr rfl) (pe_op op_mul_str (pe_ix ix_str (pv 2) (pe_call G__law_take (hr.mono (by omega)) (by rfl) m__law_take k__law_take b__law_take .nil pass0 (pa_cons (pv 0) (pa_cons pe_int pa_nil))) (fun _ _ => rfl)) (pe_call G__law_take (hr.mono (by omega)) (by rfl) m__law_take k__law_take b__law_take .nil pass0 (pa_cons (pv 0) (pa_cons pe_int pa_nil)))))
      (pss_cons (ps_if (PW.pt (pw_and (pt_cmpR op_eq (pv 4) pe_int (nomark _)) (pw_and1 (pt_cmpR op_lt (pv 1) pe_int (nomark _))))) (pss_one (ps_ret (pe_lc (own := [("_law_k", 9)]) (by rfl) sc.nd  (pi_range1 (by rfl) m_range (pa_cons (pv 1) pa_nil)) (blkOk_by (own := [("_law_k", 9)]) (N := ["_law_box_here", "_law_many", "_law_letters", "_law_start", "_law_way", "_law_words", "_law_stem", "_law_step", "_law_found", "_law_k", "_law_who", "_law_two"]) (sc := defScope sNames) (by decide +kernel)) (fun _ _ _ _ _ => (pg_name (i := 9) sc.nd rfl (.inl rfl))) (fun _ _ _ _ _ => pts_nil) (fun _ _ _ _ _ => (pe_op op_add_str (pe_slice sl_str (pv 6) po_none (po_some pe_int)) (pe_op op_mul_str (pe_ix ix_str (pv 2) (pe_op op_mod (pv 3) pe_int) (fun _ _ => rfl)) (pe_op op_add (pv 9) pe_int))))))) pss_nil)
      (pss_cons (ps_par (i := 7) (j := 8) (by rfl) sc.nd rfl rfl (by decide) rfl rfl (pa_cons (pe_ix ix_list (pe_lst (pa_cons pe_int (pa_cons pe_int (pa_cons pe_int (pa_cons pe_int pa_nil))))) (pe_call G__law_take (hr.mono (by omega)) (by rfl) m__law_take k__law_take b__law_take .nil pass0 (pa_cons (pv 0) (pa_cons pe_int pa_nil))) (fun _ _ => rfl)) (pa_cons (pe_lst pa_nil) pa_nil)) (by rfl))
      (pss_cons (ps_for PassesOwn.never rfl (pi_range1 (by rfl) m_range (pa_cons (pv 1) pa_nil)) (pg_name (i := 9) sc.nd rfl (.inl rfl)) (pss_cons (ps_asg (pe_callB call_divmod (by rfl) m_divmod (by decide +kernel) (pa_cons (pe_op op_mod (pe_op op_add (pv 3) (pe_op op_mul (pv 7) (pv 9))) pe_int) (pa_cons pe_int pa_nil))) (pg_tup (by rfl) (pgs_cons (pg_name (i := 10) sc.nd rfl (.inl rfl)) (pgs_cons (pg_name (i := 11) sc.nd rfl (.inl rfl)) pgs_nil))))
      (pss_one (ps_expr (pe_bm PySem.F.plainAttrs_list PySem.F.slot_list_append PySem.F.type_list_append mt_append (pv 8) (pa_cons (pe_op op_add_str (pe_op op_add_str (pe_slice sl_str (pv 6) po_none (po_some pe_int)) (pe_ix ix_str (pv 2) (pv 10) (fun _ _ => rfl))) (pe_ix ix_str (pv 2) (pv 11) (fun _ _ => rfl))) pa_nil))))))
      (pss_one (ps_ret (pv 8)))))))))), ?_⟩
  refine ⟨_, rfl, a, n, 625, rfl, hB, by omega, by decide, by decide, fun r1 H1 r10 r11 s1 B1 => ⟨_, rfl, a, n + 1, 4, rfl, B1, by omega, by decide, by decide, fun r2 H2 r20 r21 s2 B2 => ?_⟩⟩
  refine ⟨by show 3 ≤ sizeLine; decide, fun t nt => ⟨t, _, rfl, .inl (.inl upd_same), rfl, _, _, rfl, _, _, rfl, _, _, rfl, rfl, ?_⟩⟩
  have s3 := (s1.trans s2).trans (But.of (same_upd (o := .tup [.str ltrs, .int r1, .int r2]) nt))
  have B3 : Box (upd H2 t (.tup [.str ltrs, .int r1, .int r2])) a (n + 2) := B2.same (same_upd nt)
  generalize upd H2 t (.tup [.str ltrs, .int r1, .int r2]) = H3 at *
  refine ⟨rfl, wordsT, " ", rfl, rfl, by decide +kernel, by decide +kernel, fun pw nw => ?_⟩
  have s4 := s3.trans (But.of (same_upd (o := .lst (wds.map V.str)) nw))
  have B4 : Box (upd H3 pw (.lst (wds.map V.str))) a (n + 2) := B3.same (same_upd nw)
  have e4 := upd_same (H := H3) (a := pw) (o := .lst (wds.map V.str))
  show _
  unfold wds at s4 B4 e4
  generalize upd H3 pw (.lst ((Txt.split wordsT " ").map V.str)) = H4 at *
  obtain ⟨ob4, hob4⟩ := B4.is
  refine ⟨_, rfl, rfl, _, rfl, ite2 (fun c => ?_) (fun c => ?_)⟩
  · refine ⟨_, rfl, _, rfl, pw, pw, _, _, rfl, rfl, e4, e4, by decide +kernel, fun pc nc => ?_⟩
    have s5 := same_upd (o := .lst ((Txt.split wordsT " ").map V.str ++ (Txt.split wordsT " ").map V.str)) nc
    have e5 := upd_same (H := H4) (a := pc) (o := .lst ((Txt.split wordsT " ").map V.str ++ (Txt.split wordsT " ").map V.str))
    generalize upd H4 pc (.lst ((Txt.split wordsT " ").map V.str ++ (Txt.split wordsT " ").map V.str)) = H5 at *
    refine ⟨_, rfl, r1, 14, rfl, rfl, (show (0 : Int) < 14 by decide), _, rfl, pc, _, rfl, SqL.of e5, fun pd nd => ?_⟩
    have hs : r1 % 14 = (((r1 % 14).toNat : Nat) : Int) := by omega
    have hs14 : (r1 % 14).toNat < 14 := by omega
    rw [hs, cut_from]
    generalize (r1 % 14).toNat = s0 at *
    have s6 := same_upd (o := .lst (((Txt.split wordsT " ").map V.str ++ (Txt.split wordsT " ").map V.str).drop s0)) nd
    have e6 := upd_same (H := H5) (a := pd) (o := .lst (((Txt.split wordsT " ").map V.str ++ (Txt.split wordsT " ").map V.str).drop s0))
    generalize upd H5 pd (.lst (((Txt.split wordsT " ").map V.str ++ (Txt.split wordsT " ").map V.str).drop s0)) = H6 at *
    refine ⟨_, rfl, m, rfl, pd, _, rfl, SqL.of e6, fun pe ne => ?_⟩
    rw [cut_to]
    have s7 := (s5.trans s6).trans (same_upd (o := .lst ((((Txt.split wordsT " ").map V.str ++ (Txt.split wordsT " ").map V.str).drop s0).take m)) ne)
    have e7 := upd_same (H := H6) (a := pe) (o := .lst ((((Txt.split wordsT " ").map V.str ++ (Txt.split wordsT " ").map V.str).drop s0).take m))
    have fe : H4 pe = none := same_free (s5.trans s6) ne
    refine q pe (((wds ++ wds).drop s0).take m) _ (s4.trans (But.of s7)) ((B4.same s7).le (by omega)) (s4.free hob4 fe) (e7.trans ?_) (wds_len hs14 hm) (wds_nd hs14 hm) (wds_asc hs14)
    unfold wds
    rw [← List.map_append, ← List.map_drop, ← List.map_take]
  refine ⟨_, rfl, _, rfl, a, n + 2, 25, rfl, B4, by omega, by decide, by decide, fun r3 H5 r30 r31 s5 B5 => ⟨ltrs, r3, _, rfl, rfl, ltrs_fit, ltr_atI r30 r31, _, rfl, a, n + 3, 7, rfl, B5, by omega, by decide, by decide, fun r4 H6 r40 r41 s6 B6 => ⟨_, _, rfl, rfl, mul_ok r40 (by omega), ?_⟩⟩⟩
  have ast : Asc 6 (Txt.mul (one (ltr r3.toNat)) r4) := mul_asc (ltr_ok (by omega)) r40 (by omega)
  generalize Txt.mul (one (ltr r3.toNat)) r4 = stem at *
  have s46 := (s4.trans s5).trans s6
  obtain ⟨ob6, hob6⟩ := B6.is
  have stl : stem.length ≤ 6 := ast.len
  refine ⟨_, rfl, rfl, _, rfl, ite2 (fun c1 => ⟨_, rfl, m, 7, rfl, rfl, _, rfl, ifT (by omega) ?_⟩) (fun c1 => iteF ?_)⟩
  · refine ⟨_, rfl, m, rfl, by omega, by omega, fun D2 nD2 => lc_it walk_range
      (fun i H' => But a H6 H' ∧ Box H' a (n + 4) ∧ H' D2 = some (.lst (((List.range i).map fun k => cutS stem none (some 1) ++ rep (ltr (r1 % 25).toNat) k).map V.str))) ⟨But.of (same_upd nD2), B6.same (same_upd nD2), upd_same⟩
      (fun _ _ _ _ => trivial) ?_ ?_⟩
    · rintro i x H7 _ hi ⟨s7, B7, hD2⟩ ⟨rfl, ex⟩
      obtain rfl : x = V.int i := ex.trans (congrArg V.int (Int.zero_add _))
      have hi' : i < m := by simpa using hi
      refine ⟨rfl, ?_⟩
      unfold tYes
      have hcl := (ast.cut none (some 1)).len
      refine iteT ⟨_, rfl, 1, rfl, stem, rfl, le_line (by omega), _, rfl, _, rfl, r1, 25, rfl, rfl, (show (0 : Int) < 25 by decide), ltrs, _, _, rfl, rfl, ltrs_fit, ltr_atI (by omega) (by omega), _, rfl, _, _, rfl, rfl, _, _, rfl, rfl, rep_ok (by omega), _, _, rfl, rfl, ?_, _, hD2, ?_, fun b o nb h => ?_, B7.upd (B6.ne nD2), ?_⟩
      · have h1 : (rep (ltr (r1 % 25).toNat) i).length = i + 1 := by
          show (rep (ltr (r1 % 25).toNat) i).cps.size = i + 1
          rw [← Array.length_toList, rep_codes, List.length_replicate]
        have h2 : (cutS stem none (some 1)).length ≤ 6 := hcl
        exact le_line (by show (cutS stem none (some 1)).length + (rep (ltr (r1 % 25).toNat) i).length ≤ 1000; omega)
      · rw [List.length_map, List.length_map, List.length_range]
        exact small1000 (by omega)
      · rw [upd_ne (fun z => by rw [z, nD2] at h; cases h)]
        exact s7 _ _ nb h
      · rw [upd_same, List.range_succ, List.map_append, List.map_append]
        rfl
    · rintro H7 ⟨s7, B7, hD2⟩
      refine q D2 _ H7 (s46.trans s7) (B7.le (by omega)) (s46.free hob6 nD2) hD2 ?_ (nodup_of fun i j h1 h2 e => ?_) fun z hz => ?_
      · rw [List.length_map, List.length_range, Int.toNat_natCast]
      · have h := congrArg (fun z : Str => z.cps.toList.length) e
        simp only [cps_app, rep_codes, List.length_append, List.length_replicate] at h
        omega
      · obtain ⟨i, hi, rfl⟩ := List.mem_map.mp hz
        have hi' : i < m := by simpa using hi
        have h1 : Asc 1 (cutS stem none (some 1)) := by
          refine ⟨?_, (ast.cut none (some 1)).lt⟩
          have e : (cutS stem none (some 1)).cps.toList = (stem.cps.toList.drop (HT.sIx stem.length 0 none)).take (HT.sIx stem.length stem.length (some ((1 : Nat) : Int)) - HT.sIx stem.length 0 none) := rfl
          rw [← Array.length_toList, e, List.length_take, HT.sIx_none, HT.sIx_nat]
          omega
        exact (h1.app (asc_rep (c := ltr (r1 % 25).toNat) (k := i) (ltr_ok (by omega)))).le (by omega)
  refine ⟨by show 4 ≤ sizeLine; decide, fun l nl => ?_⟩
  have s7 := same_upd (o := .lst [.int 1, .int 26, .int 7, .int 251]) nl
  have e7 := upd_same (H := H6) (a := l) (o := .lst [.int 1, .int 26, .int 7, .int 251])
  have B7 := B6.same s7
  have al := B6.ne nl
  generalize upd H6 l (.lst [.int 1, .int 26, .int 7, .int 251]) = H7 at *
  refine ⟨_, rfl, a, n + 4, 4, rfl, B7, by omega, by decide, by decide, fun r5 H8 r50 r51 s8 B8 => ?_⟩
  obtain ⟨st, hst, hat⟩ : ∃ st : Nat, (st = 1 ∨ st = 26 ∨ st = 7 ∨ st = 251) ∧ atI [V.int 1, .int 26, .int 7, .int 251] r5 = some (.int (st : Int)) := by
    have : r5 = 0 ∨ r5 = 1 ∨ r5 = 2 ∨ r5 = 3 := by omega
    rcases this with rfl | rfl | rfl | rfl
    · exact ⟨1, .inl rfl, rfl⟩
    · exact ⟨26, .inr (.inl rfl), rfl⟩
    · exact ⟨7, .inr (.inr (.inl rfl)), rfl⟩
    · exact ⟨251, .inr (.inr (.inr rfl)), rfl⟩
  refine ⟨l, _, r5, _, rfl, rfl, SqL.of (s8 _ _ al.symm e7), hat, by show 0 ≤ sizeLine; decide, fun D nD => ⟨_, _, rfl, ?_⟩⟩
  have s48 := (s46.trans (But.of s7)).trans s8
  have aD := B8.ne nD
  obtain ⟨ob8, hob8⟩ := B8.is
  refine ⟨_, rfl, m, rfl, by omega, by omega, for_it walk_range (fun i σ H' => But a H8 H' ∧ Box H' a (n + 5) ∧ H' D = some (.lst (((List.range i).map fun k => two stem ((r1.toNat + st * k) % 625)).map V.str)) ∧
    ∃ v9 v10 v11, σ = [some (.ref a), some (.int m), some (.str ltrs), some (.int r1), some (.int r2), some (.ref pw), some (.str stem), some (.int st), some (.ref D), v9, v10, v11]) ⟨But.of (same_upd nD), B8.same (same_upd nD), upd_same, none, none, none, rfl⟩ (fun _ _ _ _ _ => trivial) ?_ ?_⟩
  · rintro i x σ _ H9 hi ⟨s9, B9, hD, v9, v10, v11, rfl⟩ ⟨rfl, ex⟩
    obtain rfl : x = V.int i := ex.trans (congrArg V.int (Int.zero_add _))
    have hi' : i < m := by simpa using hi
    have ec : (r1 + (st : Int) * (i : Int)) % 625 = (((r1.toNat + st * i) % 625 : Nat) : Int) := by
      rw [show r1 + (st : Int) * (i : Int) = ((r1.toNat + st * i : Nat) : Int) by push_cast; omega]
      rfl
    have hc : (r1.toNat + st * i) % 625 < 625 := Nat.mod_lt _ (by decide)
    refine ⟨_, rfl, _, rfl, _, rfl, st, i, rfl, rfl, .inl ⟨by omega, by omega⟩, r1, _, rfl, rfl, _, 625, rfl, rfl, (show (0 : Int) < 625 by decide), ?_⟩
    dsimp only
    rw [ec]
    generalize hcc : (r1.toNat + st * i) % 625 = cc at *
    refine ⟨(cc : Int), 25, rfl, ⟨by decide, by decide⟩, fun tp np => ?_⟩
    have sT := same_upd (o := .tup [V.int ((cc : Int) / 25), .int ((cc : Int) % 25)]) np
    have eT := upd_same (H := H9) (a := tp) (o := .tup [V.int ((cc : Int) / 25), .int ((cc : Int) % 25)])
    have B10 := B9.same sT
    have hD' := sT _ _ hD
    generalize upd H9 tp (.tup [V.int ((cc : Int) / 25), .int ((cc : Int) % 25)]) = H10 at *
    have hcl := (ast.cut none (some 6)).len
    have hcl : (cutS stem none (some 6)).length ≤ 6 := hcl
    refine ⟨tp, _, rfl, .inl (.inl eT), rfl, _, _, rfl, _, _, rfl, rfl, ?_⟩
    refine ⟨_, rfl, .inl ⟨rfl, _, SqL.of hD'⟩, _, rfl, 6, rfl, stem, rfl, le_line (by omega), _, rfl, _, rfl, ltrs, _, _, rfl, rfl, ltrs_fit, ltr_atI (by omega) (by omega), _, _, rfl, rfl, ?_, _, rfl, _, rfl, ltrs, _, _, rfl, rfl, ltrs_fit, ltr_atI (by omega) (by omega), _, _, rfl, rfl, ?_, D, _, _, rfl, rfl, hD', ?_, fun b o nb h => ?_, B10.upd aD, ?_, _, _, _, rfl⟩
    · exact le_line (by show (cutS stem none (some 6)).length + 1 ≤ 1000; omega)
    · have h3 : (cutS stem none (some 6) ++ one (ltr ((cc : Int) / 25).toNat)).length = (cutS stem none (some 6)).length + 1 := Array.size_append
      exact le_line (by show (cutS stem none (some 6) ++ one (ltr ((cc : Int) / 25).toNat)).length + 1 ≤ 1000; omega)
    · rw [List.length_map, List.length_map, List.length_range]
      exact small1000 (by omega)
    · rw [upd_ne (fun z => by rw [z, nD] at h; cases h)]
      exact sT _ _ (s9 _ _ nb h)
    · rw [upd_same, List.range_succ, List.map_append, List.map_append]
      have e1 : ((cc : Int) / 25).toNat = cc / 25 := by omega
      have e2 : ((cc : Int) % 25).toNat = cc % 25 := by omega
      rw [e1, e2, ← hcc]
      rfl
  · rintro σ H9 ⟨s9, B9, hD, v9, v10, v11, rfl⟩
    refine ⟨_, rfl, q D _ H9 (s48.trans s9) (B9.le (by omega)) (s48.free hob8 nD) hD ?_ (nodup_of fun i j h1 h2 => two_ne (Nat.mod_lt _ (by decide)) (Nat.mod_lt _ (by decide)) fun e => ?_) fun z hz => ?_⟩
    · rw [List.length_map, List.length_range, Int.toNat_natCast]
    · have h2' : j < m := by simpa using h2
      rcases hst with rfl | rfl | rfl | rfl <;> omega
    · obtain ⟨i, hi, rfl⟩ := List.mem_map.mp hz
      exact two_asc ast (Nat.mod_lt _ (by decide))
end
end Fd

set_option Elab.async false
set_option linter.all false
set_option maxRecDepth 100000
set_option maxHeartbeats 1000000
namespace Fd
open PySem PySem.Spec PyProof.Rows L2 RZ Fw LamX
section
variable {P : Program} {w : World} {K : PySem.W.Frag} {mg : Str → Option Value} {base : Heap} {f : Addr} {fd : FuncData}
theorem iteB {A B : Prop} {c : Bool} (hc : c = true) (h : A) : if c = true then A else B := by
  rw [if_pos hc]
  exact h
theorem kit2 {K : PySem.W.Frag} {t u v : String} {b1 b2 : Bool} (h1 : kitB t u = some b1) (h2 : kitB t v = some b2) : PySem.W.kitAny K (.type t) [.type u, .type v] = some (b1 || b2) := by
  cases b1 with
  | true => exact kitAny_cons (kit_ty h1) (fun z => nomatch z) (fun _ => rfl)
  | false =>
    refine kitAny_cons (kit_ty h1) (fun _ => ?_) (fun z => nomatch z)
    cases b2 with
    | true => exact kitAny_cons (kit_ty h2) (fun z => nomatch z) (fun _ => rfl)
    | false => exact kitAny_cons (kit_ty h2) (fun _ => rfl) (fun z => nomatch z)
/-! ### _law_same, of equal things -/
abbrev sSame : Stmt := top 42
theorem scSame : FnScope ["_law_found", "_law_due", "_law_who", "_law_other"] ["_law_found", "_law_due"] (defScope sSame) := ⟨rfl, rfl, rfl, by decide +kernel, rfl, by decide +kernel, by decide +kernel⟩
def spSame (K : PySem.W.Frag) (n : Nat) : Sp := fun vs H Q _ => ∃ (x y : V) (d : PyData), vs = [x, y] ∧ Dp K H x d ∧ Dp K H y d ∧ OkD n d ∧ ∀ H', Same H H' → Q (.bl true) H'
structure SameB (mg : Str → Option Value) : Prop where
  m_isinstance : mg "isinstance" = none
  m_list : mg "list" = none
  m_tuple : mg "tuple" = none
  m_len : mg "len" = none
  m_all : mg "all" = none
  m_zip : mg "zip" = none
  m_str : mg "str" = none
  m_int : mg "int" = none
  m_bool : mg "bool" = none
theorem ok_same1 {n : Nat} (F : Fun K "_law_same" "_law_same" sSame f fd) (B : SameB mg) (G : FnG P w K mg base CX0 n "_law_same" ["_law_found", "_law_due"] (spSame K n)) :
    FnOk P w K mg base CX0 (n + 1) f fd ["_law_found", "_law_due"] (spSame K (n + 1)) := by
  obtain ⟨_, _, G__law_same, m__law_same, k__law_same, b__law_same⟩ := G
  obtain ⟨m_isinstance, m_list, m_tuple, m_len, m_all, m_zip, m_str, m_int, m_bool⟩ := B
  have sc := scSame
  refine F.ok sc (fun vs H Q E h => ?_) (fun cdv A outer s H vs Q E hr h => ?_)
  · obtain ⟨a, n, m, rfl, _⟩ := h
    rfl
  obtain ⟨x, y, d, rfl, hx, hy, ok, q⟩ := h
  refine ⟨_, (pss_cons (ps_if (pt_val (pe_callB call_isiT (by rfl) m_isinstance (by decide +kernel) (pa_cons (pv 1) (pa_cons (pe_tup (pa_cons (pe_bltn (v := .ty "list") (by rfl) m_list (by decide +kernel) rfl) (pa_cons (pe_bltn (v := .ty "tuple") (by rfl) m_tuple (by decide +kernel) rfl) pa_nil))) pa_nil)))) (pss_cons (ps_if (PW.pt (pw_or (pt_cmpR op_ne (pe_callB call_isi (by rfl) m_isinstance (by decide +kernel) (pa_cons (pv 0) (pa_cons (pe_bltn (v := .ty "list") (by rfl) m_list (by decide +kernel) rfl) pa_nil))) (pe_callB call_isi (by rfl) m_isinstance (by decide +kernel) (pa_cons (pv 1) (pa_cons (pe_bltn (v := .ty "list") (by rfl) m_list (by decide +kernel) rfl) pa_nil))) (nomark _)) (pw_or1 (pt_cmpR op_ne (pe_callB call_isi (by rfl) m_isinstance (by decide +kernel) (pa_cons (pv 0) (pa_cons (pe_bltn (v := .ty "tuple") (by rfl) m_tuple (by decide +kernel) rfl) pa_nil))) (pe_callB call_isi (by rfl) m_isinstance (by decide +kernel) (pa_cons (pv 1) (pa_cons (pe_bltn (v := .ty "tuple") (by rfl) m_tuple (by decide +kernel) rfl) pa_nil))) (nomark _))))) (pss_one (ps_ret pe_bl)) pss_nil)
      (pss_one (ps_ret (pe_and (pe_cmpR op_eq (pe_callB call_len_seq (by rfl) m_len (by decide +kernel) (pa_cons (pv 0) pa_nil)) (pe_callB call_len_seq (by rfl) m_len (by decide +kernel) (pa_cons (pv 1) pa_nil)) (nomark _)) (pe_one (pe_callB (cr_all rfl) (by rfl) m_all (by decide +kernel) (pa_cons (pe_lc (own := [("_law_who", 2), ("_law_other", 3)]) (g := gTup K 2 (gCons (gName 2) (gCons (gName 3) gNil))) (by rfl) sc.nd  (pi_zipA (by rfl) m_zip (pa_cons (pv 0) (pa_cons (pv 1) pa_nil))) (blkOk_by (own := [("_law_who", 2), ("_law_other", 3)]) (N := ["_law_found", "_law_due", "_law_who", "_law_other"]) (sc := defScope sSame) (by decide +kernel)) (fun _ _ _ _ _ => (pg_tup (by rfl) (pgs_cons (pg_name (i := 2) sc.nd rfl (.inl rfl)) (pgs_cons (pg_name (i := 3) sc.nd rfl (.inl rfl)) pgs_nil)))) (fun _ _ _ _ _ => pts_nil) (fun _ _ _ _ _ => (pe_call G__law_same (hr.mono (by omega)) (by rfl) m__law_same k__law_same b__law_same .nil pass0 (pa_cons (pv 2) (pa_cons (pv 3) pa_nil))))) pa_nil))))))) pss_nil)
      (pss_cons (ps_if (PW.pt (pw_or (pt_cmpR op_isN (pv 1) pe_non (nomark _)) (pw_or1 (pt_val (pe_callB call_isiT (by rfl) m_isinstance (by decide +kernel) (pa_cons (pv 1) (pa_cons (pe_tup (pa_cons (pe_bltn (v := .ty "bool") (by rfl) m_bool (by decide +kernel) rfl) (pa_cons (pe_bltn (v := .ty "str") (by rfl) m_str (by decide +kernel) rfl) pa_nil))) pa_nil))))))) (pss_one (ps_ret (pe_and (pe_cmpR op_eq (pv 0) (pv 1) (nomark _)) (pe_and (pe_cmpR op_eq (pe_callB call_isi (by rfl) m_isinstance (by decide +kernel) (pa_cons (pv 0) (pa_cons (pe_bltn (v := .ty "bool") (by rfl) m_bool (by decide +kernel) rfl) pa_nil))) (pe_callB call_isi (by rfl) m_isinstance (by decide +kernel) (pa_cons (pv 1) (pa_cons (pe_bltn (v := .ty "bool") (by rfl) m_bool (by decide +kernel) rfl) pa_nil))) (nomark _)) (pe_one (pe_cmpR op_eq (pe_cmpR op_isN (pv 0) pe_non (nomark _)) (pe_cmpR op_isN (pv 1) pe_non (nomark _)) (nomark _))))))) pss_nil)
      (pss_one (ps_ret (pe_and (pe_callB call_isi (by rfl) m_isinstance (by decide +kernel) (pa_cons (pv 0) (pa_cons (pe_bltn (v := .ty "int") (by rfl) m_int (by decide +kernel) rfl) pa_nil))) (pe_and (pe_not (pe_callB call_isi (by rfl) m_isinstance (by decide +kernel) (pa_cons (pv 0) (pa_cons (pe_bltn (v := .ty "bool") (by rfl) m_bool (by decide +kernel) rfl) pa_nil)))) (pe_one (pe_cmpR op_eq (pv 0) (pv 1) (nomark _))))))))), ?_⟩
  refine ⟨_, rfl, by show 2 ≤ sizeLine; decide, fun p np => ?_⟩
  have s1 : Same H (upd H p (.tup [.ty "list", .ty "tuple"])) := same_upd np
  cases d with
  | none =>
    cases hx; cases hy
    refine ⟨_, p, _, .type "NoneType", _, false, rfl, upd_same, .cons (.ty _) (.cons (.ty _) .nil), .base .non, kit2 (b1 := false) (b2 := false) (by decide +kernel) (by decide +kernel), _, rfl, iteF ?_⟩
    refine ⟨_, rfl, rfl, _, rfl, iteT (iteT ?_)⟩
    exact ⟨_, rfl, _, rfl, rfl, _, rfl, iteB (decide_eq_true rfl) ⟨_, rfl, _, _, .type "NoneType", _, false, rfl, .ty _, .base .non, kit_ty (by decide +kernel), _, rfl, _, _, .type "NoneType", _, false, rfl, .ty _, .base .non, kit_ty (by decide +kernel), rfl, _, rfl, iteB (decide_eq_true rfl) ⟨_, rfl, rfl, _, rfl, rfl, rfl, qd (q _ s1)⟩⟩⟩
  | str z =>
    cases hx; cases hy
    refine ⟨_, p, _, .type "str", _, false, rfl, upd_same, .cons (.ty _) (.cons (.ty _) .nil), .base (.str z), kit2 (b1 := false) (b2 := false) (by decide +kernel) (by decide +kernel), _, rfl, iteF ?_⟩
    refine ⟨_, rfl, rfl, _, rfl, iteF ⟨_, rfl, by show 2 ≤ sizeLine; decide, fun p2 np2 => ?_⟩⟩
    have s2 := s1.trans (same_upd (o := .tup [.ty "bool", .ty "str"]) np2)
    refine ⟨_, p2, _, .type "str", _, true, rfl, upd_same, .cons (.ty _) (.cons (.ty _) .nil), .base (.str z), kit2 (b1 := false) (b2 := true) (by decide +kernel) (by decide +kernel), _, rfl, iteT ?_⟩
    exact ⟨_, rfl, _, rfl, rfl, _, rfl, iteB (decide_eq_true rfl) ⟨_, rfl, _, _, .type "str", _, false, rfl, .ty _, .base (.str z), kit_ty (by decide +kernel), _, rfl, _, _, .type "str", _, false, rfl, .ty _, .base (.str z), kit_ty (by decide +kernel), rfl, _, rfl, iteB (decide_eq_true rfl) ⟨_, rfl, rfl, _, rfl, rfl, rfl, qd (q _ s2)⟩⟩⟩
  | int z =>
    cases hx; cases hy
    refine ⟨_, p, _, .type "int", _, false, rfl, upd_same, .cons (.ty _) (.cons (.ty _) .nil), .base (.int z), kit2 (b1 := false) (b2 := false) (by decide +kernel) (by decide +kernel), _, rfl, iteF ?_⟩
    refine ⟨_, rfl, rfl, _, rfl, iteF ⟨_, rfl, by show 2 ≤ sizeLine; decide, fun p2 np2 => ?_⟩⟩
    have s2 := s1.trans (same_upd (o := .tup [.ty "bool", .ty "str"]) np2)
    refine ⟨_, p2, _, .type "int", _, false, rfl, upd_same, .cons (.ty _) (.cons (.ty _) .nil), .base (.int z), kit2 (b1 := false) (b2 := false) (by decide +kernel) (by decide +kernel), _, rfl, iteF ?_⟩
    exact ⟨_, rfl, _, _, .type "int", _, true, rfl, .ty _, .base (.int z), kit_ty (by decide +kernel), _, rfl, iteT ⟨_, rfl, _, _, .type "int", _, false, rfl, .ty _, .base (.int z), kit_ty (by decide +kernel), _, rfl, _, rfl, iteT ⟨_, rfl, _, rfl, rfl, qd (q _ s2)⟩⟩⟩
  | bool z =>
    cases hx; cases hy
    refine ⟨_, p, _, .type "bool", _, false, rfl, upd_same, .cons (.ty _) (.cons (.ty _) .nil), .base (.bl z), kit2 (b1 := false) (b2 := false) (by decide +kernel) (by decide +kernel), _, rfl, iteF ?_⟩
    refine ⟨_, rfl, rfl, _, rfl, iteF ⟨_, rfl, by show 2 ≤ sizeLine; decide, fun p2 np2 => ?_⟩⟩
    have s2 := s1.trans (same_upd (o := .tup [.ty "bool", .ty "str"]) np2)
    refine ⟨_, p2, _, .type "bool", _, true, rfl, upd_same, .cons (.ty _) (.cons (.ty _) .nil), .base (.bl z), kit2 (b1 := true) (b2 := false) (by decide +kernel) (by decide +kernel), _, rfl, iteT ?_⟩
    exact ⟨_, rfl, _, rfl, rfl, _, rfl, iteB (decide_eq_true rfl) ⟨_, rfl, _, _, .type "bool", _, true, rfl, .ty _, .base (.bl z), kit_ty (by decide +kernel), _, rfl, _, _, .type "bool", _, true, rfl, .ty _, .base (.bl z), kit_ty (by decide +kernel), rfl, _, rfl, iteB (decide_eq_true rfl) ⟨_, rfl, rfl, _, rfl, rfl, rfl, qd (q _ s2)⟩⟩⟩
  | dict _ => exact ok.elim
  | list ds =>
    obtain ⟨w1, w2⟩ := (show ds.length ≤ 1000 ∧ ∀ d ∈ ds, OkD n d from ok)
    cases hx with | @lst a xs _ ha ax =>
    cases hy with | @lst b ys _ hb by_ =>
    have ha1 := s1.seq ha
    have hb1 := s1.seq hb
    have le : xs.length = ys.length := (dpAll_len ax).trans (dpAll_len by_).symm
    refine ⟨_, p, _, .type "list", _, true, rfl, upd_same, .cons (.ty _) (.cons (.ty _) .nil), ty_lst hb1, kitLT (b1 := true) (b2 := false) (by decide +kernel) (by decide +kernel), _, rfl, iteT ?_⟩
    refine ⟨_, rfl, _, _, .type "list", _, true, rfl, .ty _, ty_lst ha1, kit_ty (by decide +kernel), _, rfl, _, _, .type "list", _, true, rfl, .ty _, ty_lst hb1, kit_ty (by decide +kernel), rfl, _, rfl, iteF
      ⟨_, rfl, _, _, .type "list", _, false, rfl, .ty _, ty_lst ha1, kit_ty (by decide +kernel), _, rfl, _, _, .type "list", _, false, rfl, .ty _, ty_lst hb1, kit_ty (by decide +kernel), rfl, _, rfl, iteF ?_⟩⟩
    refine ⟨_, rfl, a, _, rfl, .inl ha1, _, rfl, b, _, rfl, .inl hb1, rfl, true, congrArg V.bl (decide_eq_true (by rw [le])), iteT ?_⟩
    refine ⟨_, rfl, _, rfl, a, b, xs, ys, rfl, .inl ⟨ha1, hb1, fun D nD => lc_it (walk_zip (xs := xs) (ys := ys) rfl) (fun i H' => Same (upd H p (.tup [.ty "list", .ty "tuple"])) H' ∧ H' D = some (.lst (List.replicate i (.bl true)))) ⟨same_upd nD, upd_same⟩
      (fun i H' _ h => ⟨h.1.seq ha1, h.1.seq hb1⟩) ?_ ?_⟩⟩
    · rintro i v H1 H2 hi ⟨sm, hD⟩ ⟨T, x, y, rfl, nT, rfl, ex, ey⟩
      obtain ⟨d, ed, dx⟩ := dpAll_at (dpAll_same (s1.trans sm) ds xs ax) ex
      obtain ⟨d', ed', dy⟩ := dpAll_at (dpAll_same (s1.trans sm) ds ys by_) ey
      obtain rfl : d = d' := Option.some.inj (ed.symm.trans ed')
      have sT := same_upd (o := .tup [x, y]) nT
      refine ⟨T, _, rfl, .inl (.inl upd_same), rfl, _, _, rfl, _, _, rfl, rfl, rfl, ?_⟩
      unfold tYes
      refine iteT ?_
      refine ⟨_, rfl, _, rfl, x, y, d, rfl, dp_same sT _ _ dx, dp_same sT _ _ dy, w2 d (List.mem_of_getElem? ed), fun H3 s3 => ⟨_, s3 _ _ (sT _ _ hD), ?_, ?_, ?_⟩⟩
      · rw [List.length_replicate]
        exact small1000 (by have := dpAll_len ax; omega)
      · intro b' o' h'
        have nb : b' ≠ D := fun z => by rw [z, nD] at h'; cases h'
        rw [upd_ne nb]
        exact s3 _ _ (sT _ _ (sm _ _ h'))
      · rw [upd_same, List.replicate_succ']
    · rintro H1 ⟨sm, hD⟩
      refine ⟨D, List.replicate (min xs.length ys.length) true, rfl, SqL.of (by rw [hD, List.map_replicate]), ?_⟩
      rw [all_rep]
      exact q _ (s1.trans sm)
  | tuple ds =>
    obtain ⟨w1, w2⟩ := (show ds.length ≤ 1000 ∧ ∀ d ∈ ds, OkD n d from ok)
    cases hx with | @tup a xs _ ha ax =>
    cases hy with | @tup b ys _ hb by_ =>
    have ha1 := seqT s1 ha
    have hb1 := seqT s1 hb
    have le : xs.length = ys.length := (dpAll_len ax).trans (dpAll_len by_).symm
    refine ⟨_, p, _, .type "tuple", _, true, rfl, upd_same, .cons (.ty _) (.cons (.ty _) .nil), ty_tup hb1, kitLT (b1 := false) (b2 := true) (by decide +kernel) (by decide +kernel), _, rfl, iteT ?_⟩
    refine ⟨_, rfl, _, _, .type "tuple", _, false, rfl, .ty _, ty_tup ha1, kit_ty (by decide +kernel), _, rfl, _, _, .type "tuple", _, false, rfl, .ty _, ty_tup hb1, kit_ty (by decide +kernel), rfl, _, rfl, iteF
      ⟨_, rfl, _, _, .type "tuple", _, true, rfl, .ty _, ty_tup ha1, kit_ty (by decide +kernel), _, rfl, _, _, .type "tuple", _, true, rfl, .ty _, ty_tup hb1, kit_ty (by decide +kernel), rfl, _, rfl, iteF ?_⟩⟩
    refine ⟨_, rfl, a, _, rfl, .inr ha1, _, rfl, b, _, rfl, .inr hb1, rfl, true, congrArg V.bl (decide_eq_true (by rw [le])), iteT ?_⟩
    refine ⟨_, rfl, _, rfl, a, b, xs, ys, rfl, .inr ⟨ha1, hb1, fun D nD => lc_it (walk_zipT (xs := xs) (ys := ys) rfl) (fun i H' => Same (upd H p (.tup [.ty "list", .ty "tuple"])) H' ∧ H' D = some (.lst (List.replicate i (.bl true)))) ⟨same_upd nD, upd_same⟩
      (fun i H' _ h => ⟨seqT h.1 ha1, seqT h.1 hb1⟩) ?_ ?_⟩⟩
    · rintro i v H1 H2 hi ⟨sm, hD⟩ ⟨T, x, y, rfl, nT, rfl, ex, ey⟩
      obtain ⟨d, ed, dx⟩ := dpAll_at (dpAll_same (s1.trans sm) ds xs ax) ex
      obtain ⟨d', ed', dy⟩ := dpAll_at (dpAll_same (s1.trans sm) ds ys by_) ey
      obtain rfl : d = d' := Option.some.inj (ed.symm.trans ed')
      have sT := same_upd (o := .tup [x, y]) nT
      refine ⟨T, _, rfl, .inl (.inl upd_same), rfl, _, _, rfl, _, _, rfl, rfl, rfl, ?_⟩
      unfold tYes
      refine iteT ?_
      refine ⟨_, rfl, _, rfl, x, y, d, rfl, dp_same sT _ _ dx, dp_same sT _ _ dy, w2 d (List.mem_of_getElem? ed), fun H3 s3 => ⟨_, s3 _ _ (sT _ _ hD), ?_, ?_, ?_⟩⟩
      · rw [List.length_replicate]
        exact small1000 (by have := dpAll_len ax; omega)
      · intro b' o' h'
        have nb : b' ≠ D := fun z => by rw [z, nD] at h'; cases h'
        rw [upd_ne nb]
        exact s3 _ _ (sT _ _ (sm _ _ h'))
      · rw [upd_same, List.replicate_succ']
    · rintro H1 ⟨sm, hD⟩
      refine ⟨D, List.replicate (min xs.length ys.length) true, rfl, SqL.of (by rw [hD, List.map_replicate]), ?_⟩
      rw [all_rep]
      exact q _ (s1.trans sm)
theorem ok_same (F : Fun K "_law_same" "_law_same" sSame f fd) (B : SameB mg) (m : mg "_law_same" = some (.ref f)) (b : Binds K fd ["_law_found", "_law_due"] []) :
    ∀ n, FnOk P w K mg base CX0 n f fd ["_law_found", "_law_due"] (spSame K n)
  | 0 => ⟨fun vs H Q E h => by obtain ⟨_, _, d, _, _, _, ok, _⟩ := h; exact ok.elim, fun A outer s H args us vs Q E _ _ _ _ h => by obtain ⟨_, _, d, _, _, _, ok, _⟩ := h; exact ok.elim⟩
  | n + 1 => ok_same1 F B ⟨f, fd, ok_same F B m b n, m, F.kp, b⟩
end
end Fd

set_option Elab.async false
set_option linter.all false
set_option maxRecDepth 100000
set_option maxHeartbeats 2000000
namespace PySem
namespace FellX
open PySem.W PySem.Calls PyProof.Rows PySem.HandSPX Builtin Builtin.ObjectAttr
abbrev rtTail : List Value := [.type "RuntimeError", .type "Exception", .type "BaseException", .type "object"]
/-- a first field of a fresh error whose class stands straight under RuntimeError -/
theorem rt_osa {prog : Program} {w : World} {A : Around} {R : Result → Shared → Prop} {hp : Heap} {gs : Array GenState} {dr : Drawn} {n : Nat} {os : OsState}
    {K : W.Frag} {f : Str} {tk : Tok} {v : Value} {x C : Addr} {fv : Array Value} {cd : ClassData} (X : K.In hp)
    (hx : hp.get? x = some { cls := .ref C, data := .fields fv }) (hcd : W.clsIn K C = some cd) (hm : cd.mro = .ref C :: rtTail) (hh : cd.hasDict = true)
    (ha : W.findIn K (.ref C) f = some none)
    (hq : ∀ h' tk' dx, (∀ b o, b ≠ x → hp.get? b = some o → h'.get? b = some o) → hp.objs.size ≤ dx → dx ≠ x →
      h'.get? x = some { cls := .ref C, dict := some dx, data := .fields fv } → h'.Ns1 dx (fun y => if y = f then some v else none) →
      R (.ok (.ret .none)) ⟨h', gs, dr, tk', os⟩) :
    codeAny (model prog w) A (.call (.builtin "object.__setattr__") ⟨[.ref x, .str f tk, v], []⟩) R ⟨hp, gs, dr, n, os⟩ := by
  have J : W.InstAt hp x { cls := .ref C, data := .fields fv } C none := ⟨hx, rfl, rfl, trivial⟩
  have S := F.store_object
  have hob : cd.mro.contains (.type "object") = true := by
    rw [hm, List.contains_cons, show rtTail.contains (.type "object") = true by decide +kernel, Bool.or_true]
  have xs : x ≠ hp.objs.size := Nat.ne_of_lt (Heap.lt_size hx)
  have su : W.Looks (model prog w) hp (isInstance (.ref x) (.type "object")) true := J.type.andThen
    (W.looks_mroIn X (by unfold W.mroIn; rw [hcd, Option.bind_some, if_neg (by rw [hm]; intro z; cases z), hob]))
  refine codeAny_call_builtin S.slot.plain S.entry
    (@W.check_slot (model prog w) _ _ ⟨hp, gs, dr, n, os⟩ "object.__setattr__" "object" "__setattr__" (.ref x) [.str f tk, v] [] _ S.kind S.split su
      (S.args (.ref x) (.str f tk) v) ?_)
  have lm : W.Looks (model prog w) hp (mroOf (.ref C)) cd.mro := (W.looks_clsIn X hcd).andThen .now
  have lt : W.Looks (model prog w) hp (storeTaker? none) none := .now
  have lc : W.Looks (model prog w) hp (classData C) cd := W.looks_clsIn X hcd
  rw [W.osa_eq, refuse_eq]
  refine wpAny_bind (wpAny_bind (J.type.at (wpAny_bind (lm.at ?_))))
  rw [hm, refuseLoop_ref, show refuseLoop (Value.ref x) "__setattr__" rtTail = pure () from F.store_RuntimeError.passes _]
  refine wpAny_pure (wpAny_bind (J.type.at (wpAny_bind
    ((W.looks_findIn X ha).at (wpAny_bind (lt.at ?_))))))
  show wpAny _ _ (storeInOwnDict (.ref x) (.ref C) (.str f tk) f v false) _ _ _
  obtain ⟨_, _, mro, _, _, hd, _, _, _, _, _⟩ := cd
  dsimp only at hh
  subst hh
  unfold storeInOwnDict ownDictForStores
  repeat (first
    | with_reducible refine store_in_new ?_ ?_
    | with_reducible refine wpAny_loadPart_at hx ?_
    | with_reducible refine lc.at ?_
    | wp_step)
  · exact ⟨_, #[], _, (Heap.get?_update_ne _ _ _ _ xs.symm).trans (Heap.get?_push_at rfl rfl), rfl,
      fun e he => absurd he (by simp), fun _ => rfl⟩
  · intro h' tk' hn' hs
    have hx' : (hp.push { cls := .type "dict", data := .dict #[] }).get? x = some { cls := .ref C, data := .fields fv } :=
      Heap.get?_push_of_some _ hx
    refine hq h' tk' hp.objs.size (fun b o nb e => ?_) (Nat.le_refl _) xs.symm ?_ hn'
    · exact (hs.2 b (Nat.ne_of_lt (Heap.lt_size e))).trans
        ((Heap.get?_update_ne _ _ _ _ nb).trans (Heap.get?_push_of_some _ e))
    · exact (hs.2 x xs).trans (Heap.get?_update_self _ hx' rfl)
end FellX
end PySem
namespace PySem
namespace FellX
open PySem.W PySem.Calls PyProof.Rows PySem.HandSPX
/-! ### the text of __init__ -/
def iA (p1 p2 : Pos) : Arguments := { posonlyargs := [], args := [{ arg := "self", annotation := none, pos := p1 }, { arg := "word", annotation := none, pos := p2 }], vararg := none, kwonlyargs := [], kw_defaults := [], kwarg := none, defaults := [] }
def iB (q1 q2 q3 q4 : Pos) : List Stmt := [.Assign [.Attribute (.Name "self" q1) "word" q2] (.Name "word" q3) q4]
def iS : Scope := { kind := .function, names := [(PySem.Str.ofString "self", .local), (PySem.Str.ofString "word", .local)], isGenerator := false, isCoroutine := false, more := [] }
/-- what the written part says of Fell, at C, and of its __init__, at fI -/
structure FellTxt (K : Frag) (mg : Str → Option Value) (C fI : Addr) : Prop where
  gC : mg "Fell" = some (.ref C)
  cls : ∃ nm q N bs bm sn sub ab col dd k0 k1 k2 k3 k5, K.lookup C = some (excClassObj nm q C N bs bm true sn sub ab col dd k0 k1 k2 k3 k5 "RuntimeError.__new__") ∧ bm = rtTail
  sa : findIn K (.ref C) "__setattr__" = some (some (.builtin "object.__setattr__"))
  ga : findIn K (.ref C) "__getattribute__" = some (some (.builtin "BaseException.__getattribute__"))
  gg : findIn K (.ref C) "__getattr__" = some none
  noN : findIn K (.ref C) "word" = some none
  iC : findIn K (.ref C) "__init__" = some (some (.ref fI))
  tC : typeIn K (.ref fI) = some (.type "function")
  kC : keepIn K (.ref C) = true
  exC : subIn K (.ref C) (.type "BaseException") = some true
  tyC : typeIn K (.ref C) = some (.type "type")
  hdC : hasDictIn K C = true
  te : exmOne K (.ref C) (.ref C) = some true
  fn : ∃ (oc : Value) (od : Option Addr) (doc pm : Value) (an : Option Addr) (cdv ct : Value) (osl : Array (Option Value)) (p1 p2 q1 q2 q3 q4 : Pos),
    K.lookup fI = some ⟨oc, od, .func (fnOf "__init__" "Fell.__init__" (iA p1 p2) (iB q1 q2 q3 q4) iS .none .none doc pm an cdv ct), osl⟩ ∧ codeIn K cdv "Fell.__init__" = true
theorem one_size (v : Value) : [v].length ≤ sizeLine := by
  rw [sizeLine_eq]
  exact (by decide : 1 ≤ 16777216)
theorem kept_but {K : Frag} {h h' : Heap} {x : Addr} (X : K.In h) (hx : K.lookup x = none) (k : ∀ b o, b ≠ x → h.get? b = some o → h'.get? b = some o) : K.In h' := fun a o e =>
  k a o (fun z => by rw [z, hx] at e; cases e) (X a o e)
theorem ldC {M : Model} {s : Shared} {name : Str} {scope : Scope} {L a : Addr} {cd : Value} {m : Str → Option Value} {x : Str} {pos : Pos} {v : Value} {Q : Value → Shared → Prop} {A : Around} {E : Value → Shared → Prop} (hn : s.heap.Ns L m) (hv : m x = some v) (h : Q v s)
    (hk : scope.kind = .function := by rfl) (hl : (envOfC name scope L a cd).kindOf x = some .local := by rfl) (hd : (x == ("__debug__" : Str)) = false := by decide) :
    wpAny M A (eval (.Name x pos) (envOfC name scope L a cd)) Q E s := wpAny_Name (wpAny_loadName_local hk hl hn hv h) hd
/-- what __init__ leaves of a fresh exception at x -/
structure InitEnd (h h' : Heap) (x C dx t1 : Addr) (v : Value) : Prop where
  keep : ∀ b o, b ≠ x → h.get? b = some o → h'.get? b = some o
  obj : h'.get? x = some { cls := .ref C, dict := some dx, data := .fields #[.ref t1, .none, .none, .none, .bool false, .none] }
  dbig : h.objs.size ≤ dx
  dne : dx ≠ x
  ns : h'.Ns1 dx (fun y => if y = "word" then some v else none)
/-- a made Fell -/
structure OwnMade (h h' : Heap) (e C d : Addr) (v : Value) : Prop where
  keep : ∀ b o, h.get? b = some o → h'.get? b = some o
  new : h.objs.size ≤ e
  obj : ∃ oe vs, h'.get? e = some oe ∧ oe.cls = .ref C ∧ oe.dict = some d ∧ oe.data = .fields vs ∧ vs[1]? = some .none
  dbig : h.objs.size ≤ d
  dne : d ≠ e
  ns : h'.Ns1 d (fun y => if y = "word" then some v else none)
section
variable {prog : Program} {w : World} {A : Around} {E : Value → Shared → Prop} {R : Result → Shared → Prop} {s : Shared} {K : Frag} {mg : Str → Option Value} {C fI : Addr}
theorem fell_init (T : FellTxt K mg C fI) {x t0 : Addr} {v : Value} (X : K.In s.heap) (hlim : s.heap.NoLimit) (hx : s.heap.get? x = some (excO C t0)) (hnx : K.lookup x = none) (hroom : A.depth < recursionLimit)
    (hq : ∀ h' tk dx, InitEnd s.heap h' x C dx t0 v → R (.ok (.ret .none)) { s with heap := h', toks := tk }) :
    codeAny (model prog w) A (.call (.ref fI) ⟨[.ref x, v], []⟩) R s := by
  obtain ⟨oc, od, doc, pm, an, cdv, ct, osl, p1, p2, q1, q2, q3, q4, ho, hcd⟩ := T.fn
  obtain ⟨nm, q, N, bs, bm, sn, sub, ab, col, dd, k0, k1, k2, k3, k5, hC, hbm⟩ := T.cls
  have hcl : clsIn K C = some { name := nm, bases := bs, mro := .ref C :: bm, ns := N, qualname := q, hasDict := true, slotNames := sn, subclasses := sub, abstract := ab, collection := col, hasDel := false } := by unfold clsIn; rw [hC] <;> rfl
  refine Att.call_fn (binds := [("self", .ref x), ("word", v)]) X hlim ho hcd hroom (BindsTo.of_eq (by first | rfl | with_unfolding_all rfl)) (by first | rfl | decide | with_unfolding_all rfl) (fun s₁ IC => ?_) rfl rfl rfl
  obtain ⟨h₁, tk₁, rfl⟩ := IC.toInCall.same
  have k : ∀ b o, s.heap.get? b = some o → h₁.get? b = some o := IC.toInCall.keep
  have hn := IC.toInCall.ns
  have hxL : s.heap.objs.size ≠ x := Nat.ne_of_gt (Heap.lt_size hx)
  have X₁ : K.In h₁ := X.keeps k
  have hx₁ := k _ _ hx
  -- self.by = by
  show wpAny _ _ (execs _ _) _ _ _
  refine wpAny_execs_cons (plainObj_wpAny_Assign_Attribute ?_)
  refine ldC (v := v) hn (by first | rfl | with_unfolding_all rfl | kernel_rfl) (ldC (v := .ref x) hn (by first | rfl | with_unfolding_all rfl | kernel_rfl) ?_)
  refine set_plain X₁ (ox := excO C t0) (od := none) ⟨hx₁, rfl, rfl, trivial⟩ T.sa ?_
  refine rt_osa X₁ hx₁ hcl (show (Value.ref C :: bm) = .ref C :: rtTail by rw [hbm]) rfl T.noN (fun h₃ tk₃ dx k₃ dn dne hx₃ hn₃ => ?_)
  show wpAny _ _ (execs _ _) _ _ _
  have z : s.heap.objs.size < h₁.objs.size := hn.lt
  exact wpAny_execs_nil (hq h₃ tk₃ dx ⟨fun b o hb e => k₃ b o hb (k b o e), hx₃, Nat.le_of_lt (Nat.lt_of_lt_of_le z dn), dne, hn₃⟩)
theorem fell_made (T : FellTxt K mg C fI) {v : Value} (X : K.In s.heap) (hlim : s.heap.NoLimit) (hroom : A.depth + 1 < recursionLimit)
    (hq : ∀ h' tk e d, OwnMade s.heap h' e C d v → R (.ok (.ret (.ref e))) { s with heap := h', toks := tk }) :
    codeAny (model prog w) A (.call (.ref C) ⟨[v], []⟩) R s := by
  obtain ⟨nm, q, N, bs, bm, sn, sub, ab, col, dd, k0, k1, k2, k3, k5, hC, hbm⟩ := T.cls
  obtain ⟨hp, g, dr, tk, os⟩ := s
  have k : ∀ b o, hp.get? b = some o → ((hp.push (kdv_tup [v])).push (excO C hp.objs.size)).get? b = some o := fun b o e => Heap.get?_push_of_some _ (Heap.get?_push_of_some _ e)
  have hget : ((hp.push (kdv_tup [v])).push (excO C hp.objs.size)).get? (hp.objs.size + 1) = some (excO C hp.objs.size) := by heap_get
  have hnx : K.lookup (hp.objs.size + 1) = none := by
    cases e : K.lookup (hp.objs.size + 1) with
    | none => rfl
    | some o =>
      have z : hp.get? (hp.objs.size + 1) = some o := X _ _ e
      exact absurd (Nat.lt_of_succ_lt (Heap.lt_size z)) (Nat.lt_irrefl _)
  refine call_own F.excBase_RuntimeError (fun X => by rw [hbm]) (X _ _ hC) (looks_findIn X T.iC) (fun self => bind_fn X self T.tC) (one_size v) ?_
  refine fell_init (s := ⟨(hp.push (kdv_tup [v])).push (excO C hp.objs.size), g, dr, tk, os⟩) T (X.keeps k) (hlim.keeps k) hget hnx ?_ fun h' tk' dx ⟨k', hx, dn, dne, hns⟩ => ?_
  · show A.depth + 1 < recursionLimit
    exact hroom
  · have old : ∀ b o, hp.get? b = some o → h'.get? b = some o := fun b o e => k' b o (Nat.ne_of_lt (Nat.lt_succ_of_lt (Heap.lt_size e))) (k b o e)
    have z : hp.objs.size + 1 + 1 ≤ dx := by
      first
        | (simpa only [Heap.size_push] using dn)
        | exact dn
        | (have q := dn; rw [Heap.size_push, Heap.size_push] at q; exact q)
    exact ⟨rfl, hq h' tk' (hp.objs.size + 1) dx ⟨old, Nat.le_succ _, ⟨_, _, hx, rfl, rfl, rfl, rfl⟩, Nat.le_trans (Nat.le_trans (Nat.le_succ _) (Nat.le_succ _)) z, dne, hns⟩⟩
end
end FellX
end PySem
namespace L2
open PySem PySem.Spec PyProof.Rows
theorem relO_fell {v : V} {v' : Value} (r : RelV v v') (f : Str) : RelO (List.lookup f [(("word" : Str), v)]) (if f = "word" then some v' else none) := by
  by_cases hw : f = "word"
  · subst hw
    rw [if_pos rfl]
    have q : List.lookup ("word" : Str) [(("word" : Str), v)] = some v := by simp [List.lookup]
    rw [q]
    exact r
  · rw [if_neg hw]
    have qw : (f == ("word" : Str)) = false := by simpa using hw
    have q2 : List.lookup f [(("word" : Str), v)] = none := by simp [List.lookup, qw]
    rw [q2]
    trivial
section
variable {X : Cx} {C fI : Addr}
/-- Fell(e) -/
def tMkFell (C : Addr) (ta : TA) : St → Hp → XK → Prop := fun σ H Q => ta σ H fun vs H1 => ∃ v, vs = [v] ∧ ∀ d, H1 d = none → Q (.ref C) (some d) (upd H1 d (.xd [(("word" : Str), v)]))
theorem pmk_fell {a : Expr} {ta : TA} {p pos : Pos} {k : Nat} (T : PySem.FellX.FellTxt X.K X.mg C fI) (hr : Room k X.A) (ha : PA X [a] ta) (hg : Gl X "Fell" := by rfl)
    (he : starEach (a :: []) X.env = (false, eval a X.env) :: starEach [] X.env := by rfl) (hpl : (backTo pos (starEach [] X.env)).any (·.1) = false := by rfl) :
    PMk X (.Call (.Name "Fell" p) [a] [] pos) (tMkFell C ta) := by
  intro pins s σ H Q I h
  refine wpAny_Call_Name_kw (ld_glob I hg T.gC ?_)
  refine PySem.W.callWith_K (h₀ := X.base) I.ok.mod.kin T.kC (thn (ha.run pos pins s σ H _ I h) fun us s1 hh => ?_) he hpl
  obtain ⟨vs, H1, I1, r1, v, ev, q1⟩ := hh
  subst ev
  refine ⟨I1.kIn, ?_⟩
  cases r1 with
  | cons rv rn =>
    rename_i v' us'
    cases rn
    show wpAny _ _ (call (.ref C) [v']) _ _ _
    have hlim := I1.nolimit
    obtain ⟨hp, g, dr, tk, os⟩ := s1
    refine wpAny_call (PySem.FellX.fell_made T I1.kIn hlim (by have := hr.dp; omega) fun h' tk' e d M => ?_)
    show MkP X pins σ Q (.ref e) ⟨h', g, dr, tk', os⟩
    obtain ⟨oe, fv, hoe, hc, hd, hdat, h1⟩ := M.obj
    have hns := M.ns
    obtain ⟨G', g1, g2⟩ := restrict h' fun b => decide (b ≠ e)
    have gk : ∀ b, b ≠ e → G'.get? b = h'.get? b := fun b hb => g1 b (decide_eq_true hb)
    have ge : G'.get? e = none := g2 e (by simp)
    have old : ∀ b o, hp.get? b = some o → G'.get? b = some o := fun b o q => (gk b (Nat.ne_of_lt (Nat.lt_of_lt_of_le (Heap.lt_size q) M.new))).trans (M.keep b o q)
    have ob : ObjOk X.prog X.w (upd H1 d (.xd [(("word" : Str), v)])) G' d (.xd [(("word" : Str), v)]) :=
      ⟨_, hns.at (fun o q => (gk d M.dne).trans q), fun f => relO_fell rv f⟩
    have J : Inv X pins σ (upd H1 d (.xd [(("word" : Str), v)])) ⟨G', g, dr, tk', os⟩ := I1.laid (t' := tk') old M.dbig ob
    refine ⟨e, oe, fv, ⟨G', g, dr, tk', os⟩, _, .ref C, some d, rfl, J, fun b o q => ?_, ge, hoe, ⟨hc, hd⟩, hdat, h1, ?_, rfl, I1.bare, raises_own T.exC T.tyC, q1 d (I1.hok.fresh M.dbig)⟩
    · by_cases hb : b = e
      · have q' : G'.get? b = some o := q
        rw [hb, ge] at q'; cases q'
      · exact (gk b hb).symm.trans q
    · rw [upd_ne (Ne.symm M.dne)]
      exact I1.hok.fresh M.new
/-- raise Fell(e) -/
def tRaiseFell (C : Addr) (W : WX) (ta : TA) : TS := fun _ σ H => tMkFell C ta σ H fun cls d H' => W cls d σ H'
theorem ps_raiseFell {a : Expr} {ta : TA} {W : WX} {p pos pos2 : Pos} {k : Nat} (hc : X.calm = true) (T : PySem.FellX.FellTxt X.K X.mg C fI) (hr : Room k X.A) (tk : Takes X W) (ha : PA X [a] ta) (hg : Gl X "Fell" := by rfl)
    (he : starEach (a :: []) X.env = (false, eval a X.env) :: starEach [] X.env := by rfl) (hpl : (backTo pos (starEach [] X.env)).any (·.1) = false := by rfl) :
    PS X (.Raise (some (.Call (.Name "Fell" p) [a] [] pos)) none pos2) (tRaiseFell C W ta) := ps_raise hc tk (pmk_fell T hr ha hg he hpl)
/-- low.by, low the exception that the suite holds (at a; its class cls, its dict d) -/
def tWord (C : Addr) (a : Addr) (cls : Value) (d : Option Addr) (te : TE) : TE := fun σ H Q => te σ H fun x H1 => x = .ref a ∧ cls = .ref C ∧ ∃ (dd : Addr) (v : V), d = some dd ∧ H1 dd = some (.xd [(("word" : Str), v)]) ∧ Q v H1
theorem pe_word {a : Addr} {oe : Obj} {cls : Value} {d : Option Addr} {pn : List (Addr × Obj)} {e : Expr} {te : TE} {pos : Pos} (T : PySem.FellX.FellTxt X.K X.mg C fI) (hz : Zc cls d oe) (hf : ∃ vs, oe.data = .fields vs) (he : PE (X.suite a ((a, oe) :: pn)) e te)
    (hb : attributeBase e "word" X.env (eval e X.env) = eval e X.env := by rfl) :
    PE (X.suite a ((a, oe) :: pn)) (.Attribute e "word" pos) (tWord C a cls d te) := by
  refine ⟨fun pins s σ H Q I h => ?_⟩
  refine attr_of hb (thn (he.run pins s σ H _ I h) fun u s1 hh => ?_)
  obtain ⟨x, H1, I1, rx, ex, ec, dd, v, ed, ea, q⟩ := hh
  subst ex
  obtain rfl : u = Value.ref a := rx
  subst ec
  subst ed
  obtain ⟨ha, _⟩ := I1.pin (a, oe) (List.mem_append_left _ List.mem_cons_self)
  obtain ⟨vs, hd⟩ := hf
  have hx : ObjOk X.prog X.w H1 s1.heap dd (.xd [(("word" : Str), v)]) := I1.hok dd _ ea
  obtain ⟨mA, hns, hr⟩ := hx
  obtain ⟨od, ho, hl⟩ := lookIn_ns hns
  have l : List.lookup ("word" : Str) [(("word" : Str), v)] = some v := by simp [List.lookup]
  obtain ⟨u, hu, ru⟩ := RelO.some_of (v := v) (o := mA "word") (by rw [← l]; exact hr "word")
  have J : PySem.W.InstAt s1.heap a oe C (some od) := ⟨ha, hz.1, by unfold PySem.W.notCls; rw [hd] <;> rfl, by rw [hz.2]; exact ho⟩
  exact HandSPX.exc_get I1.kIn J T.ga T.gg T.exC (PySem.W.findObj_own T.hdC T.noN rfl (by rw [hl, hu])) (handed_of ru) ⟨v, H1, I1.tok _, ru, q⟩
end
end L2


set_option Elab.async false
set_option linter.all false
set_option maxRecDepth 100000
set_option maxHeartbeats 2000000
/-! A try whose suite keeps the error by another name: behind it the error is tracked, its class and its fields are read. -/
namespace L2
open PySem PySem.Spec PyProof.Rows
/-- a caught error at a: its class, its own dict -/
def ErrO (cls : Value) (d : Option Addr) (a : Addr) : HO :=
  .ext fun h => ∃ (oe : Obj) (vs : Array Value), h.get? a = some oe ∧ Zc cls d oe ∧ oe.data = .fields vs
theorem errO_at {P : Program} {w : World} {H : Hp} {h : Heap} {a : Addr} {cls : Value} {d : Option Addr}
    (hk : HOk P w H h) (e : H a = some (ErrO cls d a)) : ∃ (oe : Obj) (vs : Array Value), h.get? a = some oe ∧ Zc cls d oe ∧ oe.data = .fields vs :=
  (show ObjOk P w H h a (ErrO cls d a) from hk a _ e).1
section
variable {X : Cx} {pins : List (Addr × Obj)} {σ : St} {H : Hp} {s : Shared}
/-- what was pinned is tracked from here on -/
theorem Inv.track {a : Addr} {oe : Obj} {cls : Value} {d : Option Addr} (I : Inv X ((a, oe) :: pins) σ H s) (hz : Zc cls d oe) (hf : ∃ vs, oe.data = .fields vs)
    (h0 : ∀ o, X.s_0.heap.get? a = some o → a ∉ X.ex → False) (hp : ∀ p ∈ X.pn ++ pins, p.1 ≠ a) : Inv X pins σ (upd H a (ErrO cls d a)) s := by
  have mem : (a, oe) ∈ X.pn ++ (a, oe) :: pins := List.mem_append_right _ List.mem_cons_self
  obtain ⟨ga, na, nl, nf, nc⟩ := I.pin _ mem
  dsimp only at ga na nl nf nc
  obtain ⟨vs, hv⟩ := hf
  have ne : ∀ {b : Addr} {o : HO}, H b = some o → b ≠ a := fun q => ne_of_none q na
  refine ⟨I.ok, I.os, I.bare, ⟨I.base.keep, I.base.slot, fun b o e n hx => ?_, I.base.there, fun b xs q => ?_, fun b o u q => ?_, fun b ps q => ?_⟩,
    I.loc, I.cell, ?_, fun x c e => ?_, fun p hm => ?_, ?_, I.len⟩
  · by_cases hb : b = a
    · subst hb
      exact (h0 o e hx).elim
    · rw [upd_ne hb]
      exact I.base.free b o e n hx
  · have q' := I.base.tups b xs q
    rw [upd_ne (ne q')]
    exact q'
  · have q' := I.base.frzs b o u q
    rw [upd_ne (ne q')]
    exact q'
  · obtain ⟨more, q'⟩ := I.base.tbls b ps q
    exact ⟨more, by rw [upd_ne (ne q')]; exact q'⟩
  · rw [upd_ne nl.symm]
    exact I.free
  · have nca : c ≠ a := fun z => by
      obtain ⟨v, o, go, hd⟩ := I.cell x c e
      rw [z, ga] at go
      cases go
      exact nc _ hd
    rw [upd_ne nca]
    exact I.freeC x c e
  · have hm' : p ∈ X.pn ++ (a, oe) :: pins := by
      rcases List.mem_append.mp hm with z | z
      · exact List.mem_append_left _ z
      · exact List.mem_append_right _ (List.mem_cons_of_mem _ z)
    obtain ⟨g1, n1, r1⟩ := I.pin p hm'
    exact ⟨g1, by rw [upd_ne (hp p hm)]; exact n1, r1⟩
  · exact I.hok.laidN (fun _ _ q => q) na ⟨⟨oe, vs, ga, hz, hv⟩, ⟨oe, ga⟩, fun _ _ ⟨o, v, q, r⟩ k => ⟨o, v, k o q, r⟩⟩
end
/-- what «except x as n» wishes of an error of the body, the error being tracked behind the suite -/
def wKeep (K : PySem.W.Frag) (c : Value) (i : Nat) (ts : Addr → Value → Option Addr → TS) (Wout : WX) (D : Ends) : WX := fun cls d σ H =>
  ∃ b, PySem.W.exmOne K cls c = some b ∧ (b = false → Wout cls d σ H) ∧ (b = true → ∀ a, H a = none →
    ts a cls d ({ nx := fun σ' H' => H' a = none → D.nx (σ'.set i none) (upd H' a (ErrO cls d a)), rt := fun _ _ => False, bk := fun _ _ => False, ct := fun _ _ => False } : Ends) (σ.set i (some (.ref a))) H)
section
variable {X : Cx} {x n : Str} {c : Value} {i : Nat} {body suite : List Stmt} {b₀ : Stmt} {np pos pos' : Pos} {tb : WX → TS} {ts : Addr → Value → Option Addr → TS} {Wout : WX}
theorem ps_try_keep (hs : X.stack = X.env :: X.outer) (hf : X.env.frame = some X.env.locals) (hN : X.N.Nodup) (hi : X.N[i]? = some n)
    (hln : X.env.kindOf n = some .local) (hc : Names X x c) (tk : Takes X Wout)
    (hb : ∀ (W : WX) (pn : List (Addr × Obj)) (xe : Value → Shared → Prop), Takes (X.tr pn xe) W →
      PassesOwn (model X.prog X.w) X.A X.env xe → PSs (X.tr pn xe) body (tb W))
    (hsu : ∀ (a : Addr) (oe : Obj) (cls : Value) (d : Option Addr) (pn : List (Addr × Obj)), Zc cls d oe → (∃ vs, oe.data = .fields vs) →
      PSs (X.suite a ((a, oe) :: pn)) (b₀ :: suite) (ts a cls d)) :
    PS X (.Try body [.ExceptHandler (some (.Name x np)) (some n) (b₀ :: suite) pos'] [] [] pos) (fun D σ H => tb (wKeep X.K c i ts Wout D) D σ H) := by
  refine ⟨fun pins s σ H D I h => ?_⟩
  have fr : X.A.frames = some (X.env :: X.outer) := by rw [I.ok.frames, hs]
  refine wpAny_Try_except ?_
  refine wpAny_mono ((hb (wKeep X.K c i ts Wout D) (X.pn ++ pins)
    (fun e s₁ => wpAny (model X.prog X.w) X.A (noteFrame e X.env) (fun _ s₂ =>
      wpAny (model X.prog X.w) X.A (setFlight e none) (fun _ s₃ =>
        wpAny (model X.prog X.w) X.A (handleBy e X.env [.ExceptHandler (some (.Name x np)) (some n) (b₀ :: suite) pos'])
          (SP X pins D) X.xe s₃) X.xe s₂) X.xe s₁)
    (fun u s' xx => ?_) PassesOwn.looking).run [] s σ H D (I.toTry _) h) (fun f s1 end1 => ?_) (fun e s1 he => he)
  · obtain ⟨a, B, sI, pi', σ1, H1, cls, d, rfl, I1', nb, up, sky, na, os, ag, b, hb1, hno, hyes⟩ := xx
    have I1 : Inv X pins σ1 H1 sI := I1'.ofTry I.ok
    have sk : Sky B (X.env :: X.outer) a (Zc cls d) X.env.locals s'.heap := by rw [← hs]; exact sky
    show wpAny (model X.prog X.w) X.A (noteFrame (.ref a) X.env) _ _ _
    refine Sky.land Zc.steady fr hf sk fun h3 fl up3 => ?_
    have I3 : Inv X pins σ1 H1 { s' with heap := h3 } := I1.landed nb fl.1 (up.trans up3) os ag
    obtain ⟨o3, v3, g3, z3, d3⟩ := fl.there
    have nfr : a ∉ frs (X.env :: X.outer) := fun hm => by
      obtain ⟨_, o', e', hnf⟩ := fl.2.2.1.mem hm
      rw [g3] at e'
      cases e'
      exact hnf _ d3
    have nL : a ≠ X.env.locals := fun z => nfr (List.mem_filterMap.mpr ⟨X.env, List.mem_cons_self, by rw [hf, z]⟩)
    have nF : a ∉ X.fs := fun hm => by
      obtain ⟨e, he, q⟩ := List.mem_filterMap.mp hm
      exact nfr (List.mem_filterMap.mpr ⟨e, List.mem_cons_of_mem _ he, q⟩)
    have nB : B.get? a = none := by
      rcases sky with z | z | z
      · exact z.2.1
      · exact z.2.1
      · exact z.2.1
    have gone : ∀ {b : Addr} {o : Obj}, sI.heap.get? b = some o → b ∉ frs X.stack → b ≠ a := fun {b o} q hb z => by
      have q' := nb b o q hb
      rw [z, nB] at q'
      cases q'
    have h0 : ∀ o, X.s_0.heap.get? a = some o → a ∉ X.ex → False := fun o q hx => by
      obtain ⟨o', q'⟩ := I1.base.there a o q hx
      exact gone q' (by rw [hs]; exact nfr) rfl
    have hp : ∀ p ∈ X.pn ++ pins, p.1 ≠ a := fun p hm => by
      obtain ⟨g, _, nl, nf, _⟩ := I1.pin p hm
      refine gone g fun hq => ?_
      rcases List.mem_cons.mp (I1.stkSub _ hq) with z | z
      · exact nl z
      · exact nf z
    have S3 := I3.suite g3 d3 na nL nF
    refine wpAny_handleBy_cons (codeAny_handlers_test ?_) (by intro q; cases q)
    have LT : PySem.W.Looks (model X.prog X.w) h3 (typeOf (.ref a)) cls := fun _ _ _ _ k q =>
      wpAny_typeOf_ref (k _ _ g3) (by rw [z3.1]; exact q)
    have LM := PySem.W.exm_one (M := model X.prog X.w) I3.kIn LT hb1
    have nameIs : ∀ {Q : Value → Shared → Prop} {E : Value → Shared → Prop}, Q c { s' with heap := h3 } →
        wpAny (model X.prog X.w) (X.A.mark (some (.ref a))) (eval (.Name x np) X.env) Q E { s' with heap := h3 } := fun {Q E} q => by
      obtain ⟨hg, hdbg, hm | ⟨hm, hv, hnn⟩⟩ := hc
      · exact ld_glob (X := X.suite a ((a, o3) :: (X.pn ++ pins))) S3 hg hm q hdbg
      · exact ld_blt (X := X.suite a ((a, o3) :: (X.pn ++ pins))) S3 hg hm hv q hnn hdbg
    refine nameIs (LM.here ?_)
    cases b with
    | true =>
      refine codeAny_handlers_suite_as ?_
      refine HandSPX.lands_againZ fl fun h4 fl4 up4 => ?_
      have I4 : Inv X pins σ1 H1 { s' with heap := h4 } := I1.landed nb fl4.1 ((up.trans up3).trans up4) os ag
      obtain ⟨o4, v4, g4, z4, d4⟩ := fl4.there
      have S4 := I4.suite g4 d4 na nL nF
      refine store_ok (X := X.suite a ((a, o4) :: (X.pn ++ pins))) (v := .ref a) S4 hN hi (.inl hln) rfl (fun s5 S5 => ?_) (.inr hln)
      refine wpAny_mono ((hsu a o4 cls d (X.pn ++ pins) z4 ⟨_, d4⟩).run [] s5 _ H1 _ S5 (hyes rfl a na)) (fun f s6 e6 => ?_) (fun _ _ z => False.elim z)
      cases f with
      | next =>
        obtain ⟨σ6, H6, S6, q6⟩ := e6
        have K6 : Inv X ((a, o4) :: pins) σ6 H6 s6 := ⟨I.ok, S6.os, S6.bare, S6.base, S6.loc, S6.cell, S6.free, S6.freeC, fun p hm => S6.pin p (by
          rw [List.append_nil]
          rcases List.mem_append.mp hm with z | z
          · exact List.mem_cons_of_mem _ (List.mem_append_left _ z)
          · rcases List.mem_cons.mp z with z | z
            · rw [z]; exact List.mem_cons_self
            · exact List.mem_cons_of_mem _ (List.mem_append_right _ z)), S6.hok, S6.len⟩
        have n6 : H6 a = none := (S6.pin (a, o4) (List.mem_append_left _ List.mem_cons_self)).2.1
        exact gone_ok K6 hN hi hln fun s7 K7 => ⟨_, _, K7.track z4 ⟨_, d4⟩ h0 hp, q6 n6⟩
      | brk => obtain ⟨_, _, _, q6⟩ := e6; exact q6.elim
      | cont => obtain ⟨_, _, _, q6⟩ := e6; exact q6.elim
      | ret u => obtain ⟨_, _, _, _, _, q6⟩ := e6; exact q6.elim
    | false =>
      show wpAny _ X.A (handleBy (.ref a) X.env []) _ _ _
      refine wpAny_handleBy_nil ?_
      obtain ⟨k1, k2, k3, oe, vs, T, oT, ts', he, hz, hd, h1, hr⟩ := id fl
      unfold PySem.passOn
      refine wpAny_bind (wpAny_field he hd h1 ?_)
      rw [if_neg (show ¬ ((Value.ref T == Value.none) = true) from by simp)]
      have fin : wpAny (model X.prog X.w) X.A (setFlight (.ref a) X.env.frame) (fun _ s4 =>
          wpAny (model X.prog X.w) X.A (throw (.ref a) : Sem Flow) (SP X pins D) X.xe s4) X.xe { s' with heap := h3 } := by
        rw [hf]
        refine HandSPX.setFlight_upZ fl fun h4 hh4 up4 => wpAny_throw (tk _ _ ?_)
        exact ⟨a, B, sI, pins, σ1, H1, cls, d, rfl, I1, nb, (up.trans up3).trans up4,
          .inr (.inr (by rw [hs]; exact hh4)), na, os, ag, hno rfl⟩
      first
        | exact wpAny_bind (wpAny_pure (wpAny_bind fin))
        | exact wpAny_bind fin
  · cases f with
    | next => obtain ⟨σ', H', J', q⟩ := end1; exact wpAny_execs_nil ⟨σ', H', J'.ofTry I.ok, q⟩
    | brk => obtain ⟨σ', H', J', q⟩ := end1; exact ⟨σ', H', J'.ofTry I.ok, q⟩
    | cont => obtain ⟨σ', H', J', q⟩ := end1; exact ⟨σ', H', J'.ofTry I.ok, q⟩
    | ret u => obtain ⟨v, σ', H', J', r, q⟩ := end1; exact ⟨v, σ', H', J'.ofTry I.ok, r, q⟩
end
/-! ### what a tracked error tells -/
/-- what its class says -/
structure ErrC (K : PySem.W.Frag) (C : Addr) : Prop extends XfC K C where
  ac : PySem.W.findIn K (.ref C) "__class__" = some (some (.builtin "object.__class__"))
  sg : PySem.W.specialIn K (.builtin "object.__class__") "__get__" = some (some (.builtin "getset_descriptor.__get__"))
  tk : PySem.W.takesIn K (.builtin "object.__class__") = some true
  mo : PySem.W.mroIn K C (.type "object") = some true
section
variable {X : Cx} {pins : List (Addr × Obj)} {σ : St} {H : Hp} {s : Shared} {C a d : Addr} {fs : List (Str × V)}
theorem errO_inst (I : Inv X pins σ H s) (ea : H a = some (ErrO (.ref C) (some d) a)) (ed : H d = some (.xd fs)) :
    ∃ (oe : Obj) (od : Obj), PySem.W.InstAt s.heap a oe C (some od) ∧ ∃ mA : Str → Option Value, (∀ n, PySem.W.lookIn n od = some (mA n)) ∧ ∀ f, RelO (fs.lookup f) (mA f) := by
  obtain ⟨oe, vs, g, hz, hv⟩ := errO_at I.hok ea
  obtain ⟨mA, hns, hr⟩ := (show ObjOk X.prog X.w H s.heap d (.xd fs) from I.hok d _ ed)
  obtain ⟨od, ho, hl⟩ := lookIn_ns hns
  exact ⟨oe, od, ⟨g, hz.1, by unfold PySem.W.notCls; rw [hv] <;> rfl, by rw [hz.2]; exact ho⟩, mA, hl, hr⟩
/-- e.f of a tracked error -/
def tErrF (C : Addr) (f : Str) (te : TE) : TE := fun σ H Q => te σ H fun x H1 => ∃ (a d : Addr) (fs : List (Str × V)) (v : V),
  x = .ref a ∧ H1 a = some (ErrO (.ref C) (some d) a) ∧ H1 d = some (.xd fs) ∧ fs.lookup f = some v ∧ Q v H1
theorem pe_errF {e : Expr} {te : TE} {pos : Pos} {n : Str} (T : ErrC X.K C) (hno : PySem.W.findIn X.K (.ref C) n = some none) (he : PE X e te)
    (hb : attributeBase e n X.env (eval e X.env) = eval e X.env := by rfl) : PE X (.Attribute e n pos) (tErrF C n te) := by
  refine ⟨fun pins s σ H Q I h => attr_of hb (thn (he.run pins s σ H _ I h) fun u s1 hh => ?_)⟩
  obtain ⟨x, H1, I1, rx, a, d, fs, v, rfl, ea, ed, l, q⟩ := hh
  obtain rfl : u = Value.ref a := rx
  obtain ⟨oe, od, J, mA, hl, hr⟩ := errO_inst I1 ea ed
  obtain ⟨u, hu, ru⟩ := RelO.some_of (v := v) (o := mA n) (by rw [← l]; exact hr n)
  exact HandSPX.exc_get I1.kIn J T.ga T.gg T.exC (PySem.W.findObj_own T.hdC hno rfl (by rw [hl, hu])) (handed_of ru) ⟨v, H1, I1.tok _, ru, q⟩
/-- isinstance(e, T) of a tracked error, T a built-in class -/
def rIsErr (K : PySem.W.Frag) (C : Addr) : List V → Hp → VK → Prop := fun xs H Q => ∃ (a d : Addr) (fs : List (Str × V)) (n : String) (b : Bool),
  xs = [.ref a, .ty n] ∧ H a = some (ErrO (.ref C) (some d) a) ∧ H d = some (.xd fs) ∧ PySem.W.kitOne K (.ref C) (.type n) = some b ∧ Q (.bl b) H
theorem call_isErr (T : ErrC X.K C) : CallR X (.builtin "isinstance") (rIsErr X.K C) := by
  intro pins s σ H xs us Q I r h
  obtain ⟨a, d, fs, n, b, rfl, ea, ed, e, q⟩ := h
  obtain ⟨u1, u2, rfl, r1, r2⟩ := vals2 r
  cases (show u1 = Value.ref a from r1)
  cases (show u2 = Value.type n from r2)
  obtain ⟨oe, od, J, _⟩ := errO_inst I ea ed
  have hcl : (PySem.W.clsIn X.K C).isSome = true := by
    obtain ⟨cd, hc, _⟩ := PySem.W.any_some T.hdC
    rw [hc]
    rfl
  exact PySem.W.kia_one (PySem.W.kitx_exc hcl T.ga T.gg T.exC T.ac T.sg T.tk T.mo) I.kIn J e (fun z => nomatch z) fun tk => ⟨.bl b, H, I.tok tk, rfl, q⟩
end
end L2

set_option Elab.async false
set_option linter.all false
set_option maxRecDepth 100000
set_option maxHeartbeats 2000000
namespace Fv
open PySem PySem.Spec PyProof.Rows L2 Fd
/-! ### more rules -/
def gOr (g g' : TG) : TG := fun v σ H Q => g v σ H Q ∨ g' v σ H Q
section
variable {X : Cx}
/-- of several defs that may raise, the one that the i-th slot holds -/
def HeldX (P : Program) (w : World) (K : PySem.W.Frag) (mg : Str → Option Value) (base : Heap) (k : Nat) (f : Addr) (sp : Sp) : Prop :=
  ∃ (fd : FuncData) (ps : List Str), FnOk P w K mg base (L2.CX P w) k f fd ps sp ∧ PySem.W.keepIn K (.ref f) = true ∧ Binds K fd ps []
def tCallX (P : Program) (w : World) (K : PySem.W.Frag) (mg : Str → Option Value) (base : Heap) (k i : Nat) (E : L2.St → XK) (t : TA) : TE := fun σ H Q =>
  ∃ f sp, σ[i]? = some (some (.ref f)) ∧ HeldX P w K mg base k f sp ∧ t σ H fun vs H1 => sp vs H1 Q (E σ)
theorem pe_callX {k i : Nat} {E : L2.St → XK} {x : Str} {p pos : Pos} {e : Expr} {es : List Expr} {t : TA} (hr : Room k X.A) (hN : X.N[i]? = some x) (hv : Vis X.env.scope x)
    (hx : ∀ σ, PassesAt (L2.CX X.prog X.w) X σ (E σ)) (ha : PA X (e :: es) t) (hdb : (x == ("__debug__" : Str)) = false := by decide) (hcd : (x == ("__classdict__" : Str)) = false := by decide)
    (he : starEach (e :: es) X.env = (false, eval e X.env) :: starEach es X.env := by rfl) (hpl : (backTo pos (starEach es X.env)).any (·.1) = false := by rfl) :
    PE X (.Call (.Name x p) (e :: es) [] pos) (tCallX X.prog X.w X.K X.mg X.base k i E t) := by
  refine ⟨fun pins s σ H Q I h => ?_⟩
  obtain ⟨f, sp, hs, ⟨fd, ps, F, hk, hb⟩, ht⟩ := h
  have ld := (pe_var (pos := p) hN hv hdb hcd).run pins s σ H (fun v H1 => v = .ref f ∧ H1 = H) I ⟨.ref f, hs, rfl, rfl⟩
  refine wpAny_Call_Name_kw (thn ld fun u s1 hh => ?_)
  obtain ⟨v, H1, I1, r1, rfl, rfl⟩ := hh
  cases r1
  refine PySem.W.callWith_K (h₀ := X.base) I.ok.mod.kin hk (thn (ha.run pos pins s1 σ _ _ I1 ht) fun us s2 hh => ?_) he hpl
  obtain ⟨vs, H2, I2, r2, q2⟩ := hh
  exact ⟨I2.kIn, run_fnS F hr hb (hx σ) I2 r2 q2⟩
/-- a target by either of two readings -/
theorem pg_or {tg : Expr} {g g' : TG} (h : PG X tg g) (h' : PG X tg g') : PG X tg (gOr g g') :=
  ⟨fun pins s σ H v u Q I r q => q.elim (h.run pins s σ H v u Q I r) (h'.run pins s σ H v u Q I r)⟩
/-- what is walked, by either of two readings -/
theorem pi_or {tg it : Expr} {w w' : TI} (h : PI X tg it w) (h' : PI X tg it w') : PI X tg it (fun σ H R => w σ H R ∨ w' σ H R) :=
  ⟨fun pins s σ H R I q => q.elim (h.run pins s σ H R I) (h'.run pins s σ H R I)⟩
end
/-! ### a list or a tuple -/
def Sq (K : PySem.W.Frag) (H : Hp) (a : Addr) (xs : List V) : Prop := SqT K H a xs ∨ SqL K H a xs
theorem Sq.same {K : PySem.W.Frag} {H H' : Hp} {a : Addr} {xs : List V} (h : Sq K H a xs) (s : Same H H') : Sq K H' a xs := h.elim (fun z => .inl (seqT s z)) fun z => .inr (s.seq z)
theorem Sq.tup {K : PySem.W.Frag} {H : Hp} {a : Addr} {xs : List V} (h : H a = some (.tup xs)) : Sq K H a xs := .inl (SqT.of h)
theorem Sq.lst {K : PySem.W.Frag} {H : Hp} {a : Addr} {xs : List V} (h : H a = some (.lst xs)) : Sq K H a xs := .inr (SqL.of h)
theorem Sq.ty {K : PySem.W.Frag} {H : Hp} {a : Addr} {xs : List V} (h : Sq K H a xs) : TyX K H (.ref a) (.type "tuple") ∨ TyX K H (.ref a) (.type "list") := h.elim (fun z => .inl (ty_tup z)) fun z => .inr (ty_lst z)
theorem ixq {K : PySem.W.Frag} {H : Hp} {a : Addr} {xs : List V} {i : Int} {v : V} {Q : VK} (h : Sq K H a xs) (e : atI xs i = some v) (q : Q v H) : rIxT K (.ref a) (.int i) H Q ∨ rIxL K (.ref a) (.int i) H Q :=
  h.elim (fun z => .inl ⟨a, xs, i, v, rfl, rfl, z, e, q⟩) fun z => .inr ⟨a, xs, i, v, rfl, rfl, z, e, q⟩
/-- a fall by the word w from the heap H -/
def Falls (C : Addr) (E : XK) (H : Hp) (w : Str) : Prop := ∀ d, H d = none → E (.ref C) (some d) (upd H d (.xd [(("word" : Str), .str w)]))
section
variable {P : Program} {w : World} {K : PySem.W.Frag} {mg : Str → Option Value} {base : Heap} {f C fI : Addr} {fd : FuncData}
/-! ### is_number, is_value -/
abbrev sIsNum : Stmt := top 7
theorem scIsNum : FnScope ["thing"] ["thing"] (defScope sIsNum) := ⟨rfl, rfl, rfl, by decide +kernel, rfl, by decide +kernel, by decide +kernel⟩
def spIsNum (K : PySem.W.Frag) : Sp := fun vs H Q _ => ∃ x, vs = [x] ∧ ((∃ i, x = .int i ∧ Q (.bl true) H) ∨ ∃ a xs, x = .ref a ∧ Sq K H a xs ∧ Q (.bl false) H)
theorem ok_isNum {k : Nat} (F : Fun K "is_number" "is_number" sIsNum f fd) (m_isinstance : mg "isinstance" = none) (m_int : mg "int" = none) (m_bool : mg "bool" = none) :
    FnOk P w K mg base CX0 (k + 1) f fd ["thing"] (spIsNum K) := by
  have sc := scIsNum
  refine F.ok sc (fun vs H Q E h => ?_) (fun cdv A outer s H vs Q E hr h => ?_)
  · obtain ⟨x, rfl, _⟩ := h
    rfl
  obtain ⟨x, rfl, h⟩ := h
  refine ⟨_, (pss_one (ps_ret (pe_and (pe_callB call_isi (by rfl) m_isinstance (by decide +kernel) (pa_cons (pv 0) (pa_cons (pe_bltn (v := .ty "int") (by rfl) m_int (by decide +kernel) rfl) pa_nil))) (pe_one (pe_not (pe_callB call_isi (by rfl) m_isinstance (by decide +kernel) (pa_cons (pv 0) (pa_cons (pe_bltn (v := .ty "bool") (by rfl) m_bool (by decide +kernel) rfl) pa_nil)))))))), ?_⟩
  rcases h with ⟨i, rfl, q⟩ | ⟨a, xs, rfl, h, q⟩
  · exact ⟨_, rfl, _, _, .type "int", _, true, rfl, .ty _, .base (.int i), kit_ty (by decide +kernel), _, rfl, iteT ⟨_, rfl, _, _, .type "int", _, false, rfl, .ty _, .base (.int i), kit_ty (by decide +kernel), _, rfl, q⟩⟩
  · rcases h.ty with t | t
    · exact ⟨_, rfl, _, _, .type "tuple", _, false, rfl, .ty _, t, kit_ty (by decide +kernel), _, rfl, iteF q⟩
    · exact ⟨_, rfl, _, _, .type "list", _, false, rfl, .ty _, t, kit_ty (by decide +kernel), _, rfl, iteF q⟩
abbrev sIsVal : Stmt := top 8
theorem scIsVal : FnScope ["thing"] ["thing"] (defScope sIsVal) := ⟨rfl, rfl, rfl, by decide +kernel, rfl, by decide +kernel, by decide +kernel⟩
def inB (i : Int) : Bool := decide (-1000000 ≤ i) && decide (i ≤ 1000000)
def spIsVal : Sp := fun vs H Q _ => ∃ i : Int, vs = [.int i] ∧ Q (.bl (inB i)) H
theorem ok_isVal {k : Nat} {t t' : Tok} (F : Fun K "is_value" "is_value" sIsVal f fd) (G : FnG P w K mg base CX0 k "is_number" ["thing"] (spIsNum K)) (m_LEAST : mg "LEAST_VALUE" = some (.int (-1000000) t)) (m_MOST : mg "MOST_VALUE" = some (.int 1000000 t')) :
    FnOk P w K mg base CX0 (k + 1) f fd ["thing"] spIsVal := by
  obtain ⟨_, _, G_is_number, m_is_number, k_is_number, b_is_number⟩ := G
  have sc := scIsVal
  refine F.ok sc (fun vs H Q E h => ?_) (fun cdv A outer s H vs Q E hr h => ?_)
  · obtain ⟨x, rfl, _⟩ := h
    rfl
  obtain ⟨i, rfl, q⟩ := h
  refine ⟨_, (pss_one (ps_ret (pe_and (pe_call G_is_number (hr.mono (by omega)) (by rfl) m_is_number k_is_number b_is_number .nil pass0 (pa_cons (pv 0) pa_nil)) (pe_one (pe_chain op_le op_le (pe_glob (v := .int (-1000000)) (by rfl) m_LEAST ⟨_, rfl⟩) (pv 0) (pe_glob (v := .int 1000000) (by rfl) m_MOST ⟨_, rfl⟩)))))), ?_⟩
  refine ⟨_, rfl, _, rfl, .inl ⟨i, rfl, _, rfl, iteT ⟨_, rfl, _, _, rfl, rfl, _, rfl, ite2 (fun c => ?_) (fun c => ?_)⟩⟩⟩
  · refine ⟨_, _, rfl, rfl, ?_⟩
    unfold inB at q
    rw [c] at q
    exact q
  · unfold inB at q
    rw [Bool.eq_false_iff.mpr c] at q
    exact q
/-! ### the five sums -/
inductive BOp where
  | plus | minus | by_ | over | rest
def BOp.word : BOp → Str
  | .plus => "plus" | .minus => "minus" | .by_ => "by" | .over => "over" | .rest => "rest"
def BOp.run : BOp → Int → Int → Except Str Int
  | .plus, a, b => .ok (a + b)
  | .minus, a, b => .ok (a - b)
  | .by_, a, b => .ok (a * b)
  | .over, a, b => if b = 0 then .error "nought" else .ok (a.fdiv b)
  | .rest, a, b => if b = 0 then .error "nought" else .ok (a.fmod b)
/-- what comes of r: a value, or a fall -/
def Comes (C : Addr) (H : Hp) (r : Except Str Int) (Q : VK) (E : XK) : Prop := match r with
  | .ok i => Q (.int i) H
  | .error w => Falls C E H w
def spSum (C : Addr) (o : BOp) : Sp := fun vs H Q E => ∃ a b : Int, vs = [.int a, .int b] ∧ inB a = true ∧ inB b = true ∧ Comes C H (o.run a b) Q E
theorem inB_lo {i : Int} (h : inB i = true) : -1000000 ≤ i := of_decide_eq_true (Bool.and_eq_true_iff.mp h).1
theorem inB_hi {i : Int} (h : inB i = true) : i ≤ 1000000 := of_decide_eq_true (Bool.and_eq_true_iff.mp h).2
abbrev sPlus : Stmt := top 9
theorem ok_plus {k : Nat} (F : Fun K "plus" "plus" sPlus f fd) : FnOk P w K mg base (L2.CX P w) (k + 1) f fd ["first", "second"] (spSum C .plus) := by
  have sc : FnScope ["first", "second"] ["first", "second"] (defScope sPlus) := ⟨rfl, rfl, rfl, by decide +kernel, rfl, by decide +kernel, by decide +kernel⟩
  refine F.okX sc (fun vs H Q E h => ?_) (fun cdv A outer s H vs Q E hr h => ?_)
  · obtain ⟨a, b, rfl, _⟩ := h
    rfl
  obtain ⟨a, b, rfl, ha, hb, q⟩ := h
  exact ⟨_, (pss_one (ps_ret (pe_op op_add (pv 0) (pv 1)))), _, rfl, _, rfl, _, _, rfl, rfl, q⟩
abbrev sMinus : Stmt := top 10
theorem ok_minus {k : Nat} (F : Fun K "minus" "minus" sMinus f fd) : FnOk P w K mg base (L2.CX P w) (k + 1) f fd ["first", "second"] (spSum C .minus) := by
  have sc : FnScope ["first", "second"] ["first", "second"] (defScope sMinus) := ⟨rfl, rfl, rfl, by decide +kernel, rfl, by decide +kernel, by decide +kernel⟩
  refine F.okX sc (fun vs H Q E h => ?_) (fun cdv A outer s H vs Q E hr h => ?_)
  · obtain ⟨a, b, rfl, _⟩ := h
    rfl
  obtain ⟨a, b, rfl, ha, hb, q⟩ := h
  exact ⟨_, (pss_one (ps_ret (pe_op op_sub (pv 0) (pv 1)))), _, rfl, _, rfl, _, _, rfl, rfl, q⟩
abbrev sBy : Stmt := top 11
theorem ok_by {k : Nat} (F : Fun K "by" "by" sBy f fd) : FnOk P w K mg base (L2.CX P w) (k + 1) f fd ["first", "second"] (spSum C .by_) := by
  have sc : FnScope ["first", "second"] ["first", "second"] (defScope sBy) := ⟨rfl, rfl, rfl, by decide +kernel, rfl, by decide +kernel, by decide +kernel⟩
  refine F.okX sc (fun vs H Q E h => ?_) (fun cdv A outer s H vs Q E hr h => ?_)
  · obtain ⟨a, b, rfl, _⟩ := h
    rfl
  obtain ⟨a, b, rfl, ha, hb, q⟩ := h
  have := inB_lo ha
  have := inB_hi ha
  exact ⟨_, (pss_one (ps_ret (pe_op op_mul (pv 0) (pv 1)))), _, rfl, _, rfl, _, _, rfl, rfl, .inl ⟨by omega, by omega⟩, q⟩
abbrev sOver : Stmt := top 12
theorem ok_over {k : Nat} (T : PySem.FellX.FellTxt K mg C fI) (F : Fun K "over" "over" sOver f fd) : FnOk P w K mg base (L2.CX P w) (k + 2) f fd ["first", "second"] (spSum C .over) := by
  have sc : FnScope ["first", "second"] ["first", "second"] (defScope sOver) := ⟨rfl, rfl, rfl, by decide +kernel, rfl, by decide +kernel, by decide +kernel⟩
  refine F.okX sc (fun vs H Q E h => ?_) (fun cdv A outer s H vs Q E hr h => ?_)
  · obtain ⟨a, b, rfl, _⟩ := h
    rfl
  obtain ⟨a, b, rfl, ha, hb, q⟩ := h
  refine ⟨_, (pss_cons (ps_if (pt_cmpR op_eq (pv 1) pe_int (nomark _)) (pss_one (ps_raiseFell rfl T hr (takes_of rfl rfl rfl rfl) (by exact (pa_cons pe_str pa_nil)))) pss_nil)
      (pss_one (ps_ret (pe_op op_fdivN (pv 0) (pv 1))))), _, rfl, rfl, _, rfl, ite2 (fun c => ?_) (fun c => ?_)⟩
  · have e : b = 0 := V.int.inj (of_decide_eq_true c)
    subst e
    exact ⟨_, rfl, fun d nd => q d nd⟩
  · have e : b ≠ 0 := fun z => c (decide_eq_true (by rw [z]))
    have := inB_lo hb
    have := inB_hi hb
    rw [show BOp.run .over a b = .ok (a.fdiv b) from if_neg e] at q
    exact ⟨_, rfl, _, rfl, _, _, rfl, rfl, ⟨e, by omega⟩, q⟩
abbrev sRest : Stmt := top 13
theorem ok_rest {k : Nat} (T : PySem.FellX.FellTxt K mg C fI) (F : Fun K "rest" "rest" sRest f fd) : FnOk P w K mg base (L2.CX P w) (k + 2) f fd ["first", "second"] (spSum C .rest) := by
  have sc : FnScope ["first", "second"] ["first", "second"] (defScope sRest) := ⟨rfl, rfl, rfl, by decide +kernel, rfl, by decide +kernel, by decide +kernel⟩
  refine F.okX sc (fun vs H Q E h => ?_) (fun cdv A outer s H vs Q E hr h => ?_)
  · obtain ⟨a, b, rfl, _⟩ := h
    rfl
  obtain ⟨a, b, rfl, ha, hb, q⟩ := h
  refine ⟨_, (pss_cons (ps_if (pt_cmpR op_eq (pv 1) pe_int (nomark _)) (pss_one (ps_raiseFell rfl T hr (takes_of rfl rfl rfl rfl) (by exact (pa_cons pe_str pa_nil)))) pss_nil)
      (pss_one (ps_ret (pe_op op_modN (pv 0) (pv 1))))), _, rfl, rfl, _, rfl, ite2 (fun c => ?_) (fun c => ?_)⟩
  · have e : b = 0 := V.int.inj (of_decide_eq_true c)
    subst e
    exact ⟨_, rfl, fun d nd => q d nd⟩
  · have e : b ≠ 0 := fun z => c (decide_eq_true (by rw [z]))
    rw [show BOp.run .rest a b = .ok (a.fmod b) from if_neg e] at q
    exact ⟨_, rfl, _, rfl, _, _, rfl, rfl, e, q⟩
/-! ### place_in, first_of -/
abbrev sPlace : Stmt := top 18
def spPlace (K : PySem.W.Frag) (C : Addr) : Sp := fun vs H Q E => ∃ (a : Addr) (xs : List V) (i : Int), vs = [.ref a, .int i] ∧ Sq K H a xs ∧ (0 ≤ i ∧ i < xs.length → Q (.int i) H) ∧ (¬ (0 ≤ i ∧ i < xs.length) → Falls C E H "none")
theorem ok_place {k : Nat} (T : PySem.FellX.FellTxt K mg C fI) (F : Fun K "place_in" "place_in" sPlace f fd) (m_len : mg "len" = none) : FnOk P w K mg base (L2.CX P w) (k + 2) f fd ["row", "place"] (spPlace K C) := by
  have sc : FnScope ["row", "place"] ["row", "place"] (defScope sPlace) := ⟨rfl, rfl, rfl, by decide +kernel, rfl, by decide +kernel, by decide +kernel⟩
  refine F.okX sc (fun vs H Q E h => ?_) (fun cdv A outer s H vs Q E hr h => ?_)
  · obtain ⟨a, b, i, rfl, _⟩ := h
    rfl
  obtain ⟨a, xs, i, rfl, hs, q1, q2⟩ := h
  refine ⟨_, (pss_cons (ps_if (pt_not (pt_chain op_le op_lt pe_int (pv 1) (pe_callB call_len_seq (by rfl) m_len (by decide +kernel) (pa_cons (pv 0) pa_nil)))) (pss_one (ps_raiseFell rfl T hr (takes_of rfl rfl rfl rfl) (by exact (pa_cons pe_str pa_nil)))) pss_nil)
      (pss_one (ps_ret (pv 1)))), ?_⟩
  refine ⟨_, rfl, _, _, rfl, rfl, _, rfl, ite2 (fun c => ?_) (fun c => ?_)⟩
  · have c' : 0 ≤ i := of_decide_eq_true c
    refine ⟨_, rfl, a, xs, rfl, hs.symm, _, _, rfl, rfl, _, rfl, ?_⟩
    by_cases h : i < xs.length
    · rw [decide_eq_true h]
      exact iteF ⟨_, rfl, q1 ⟨c', h⟩⟩
    · rw [decide_eq_false h]
      exact iteT ⟨_, rfl, fun d nd => q2 (fun z => h z.2) d nd⟩
  · exact ⟨_, rfl, iteT ⟨_, rfl, fun d nd => q2 (fun z => c (decide_eq_true z.1)) d nd⟩⟩
/-- pairs of a text and something, each a tuple or a list -/
def Prs (K : PySem.W.Frag) (H : Hp) (ps : List V) (kvs : List (Str × V)) : Prop := Paired (fun v (kv : Str × V) => ∃ a, v = .ref a ∧ Sq K H a [.str kv.1, kv.2]) ps kvs
abbrev sFirst : Stmt := top 17
def spFirst (K : PySem.W.Frag) (C : Addr) : Sp := fun vs H Q E => ∃ (a : Addr) (ps : List V) (kvs : List (Str × V)) (x : Str), vs = [.ref a, .str x] ∧ Sq K H a ps ∧ Prs K H ps kvs ∧
  (∀ u, kvs.lookup x = some u → Q u H) ∧ (kvs.lookup x = none → Falls C E H "none")
theorem prs_at {K : PySem.W.Frag} {H : Hp} : ∀ {ps : List V} {kvs : List (Str × V)} {i : Nat} {v : V}, Prs K H ps kvs → ps[i]? = some v → ∃ kv, kvs[i]? = some kv ∧ ∃ a, v = .ref a ∧ Sq K H a [.str kv.1, kv.2]
  | _, _, i, v, .nil, e => by simp at e
  | _, _, 0, v, .cons r t, e => by cases (Option.some.inj e); exact ⟨_, rfl, r⟩
  | _, _, i + 1, v, .cons r t, e => prs_at (i := i) t e
theorem look_skip : ∀ {kvs : List (Str × V)} {i : Nat} {kv : Str × V} {x : Str}, (kvs.take i).lookup x = none → kvs[i]? = some kv → kv.1 ≠ x → (kvs.take (i + 1)).lookup x = none
  | [], i, kv, x, _, e, _ => by simp at e
  | p :: r, 0, kv, x, _, e, n => by
    obtain ⟨k, v⟩ := p
    cases (Option.some.inj e)
    show List.lookup x [(k, v)] = none
    rw [List.lookup_cons, show (x == k) = false from beq_eq_false_iff_ne.mpr (Ne.symm n)]
    rfl
  | p :: r, i + 1, kv, x, h, e, n => by
    obtain ⟨k, v⟩ := p
    rw [List.take_succ_cons, List.lookup_cons] at h ⊢
    by_cases q : (x == k) = true
    · rw [q] at h
      cases h
    · rw [Bool.eq_false_iff.mpr q] at h ⊢
      exact look_skip (i := i) h e n
theorem look_hit : ∀ {kvs : List (Str × V)} {i : Nat} {kv : Str × V} {x : Str}, (kvs.take i).lookup x = none → kvs[i]? = some kv → kv.1 = x → kvs.lookup x = some kv.2
  | [], i, kv, x, _, e, _ => by simp at e
  | p :: r, 0, kv, x, _, e, n => by
    obtain ⟨k, v⟩ := p
    cases (Option.some.inj e)
    rw [List.lookup_cons, show (x == k) = true from beq_iff_eq.mpr n.symm]
  | p :: r, i + 1, kv, x, h, e, n => by
    obtain ⟨k, v⟩ := p
    rw [List.take_succ_cons, List.lookup_cons] at h
    rw [List.lookup_cons]
    by_cases q : (x == k) = true
    · rw [q] at h
      cases h
    · rw [Bool.eq_false_iff.mpr q] at h ⊢
      exact look_hit (i := i) h e n
theorem prs_len {K : PySem.W.Frag} {H : Hp} : ∀ {ps : List V} {kvs : List (Str × V)}, Prs K H ps kvs → ps.length = kvs.length
  | _, _, .nil => rfl
  | _, _, .cons _ t => by rw [List.length_cons, List.length_cons, prs_len t]
theorem ok_first {k : Nat} (T : PySem.FellX.FellTxt K mg C fI) (F : Fun K "first_of" "first_of" sFirst f fd) : FnOk P w K mg base (L2.CX P w) (k + 2) f fd ["pairs", "name"] (spFirst K C) := by
  have sc : FnScope ["pairs", "name", "other", "held"] ["pairs", "name"] (defScope sFirst) := ⟨rfl, rfl, rfl, by decide +kernel, rfl, by decide +kernel, by decide +kernel⟩
  refine F.okX sc (fun vs H Q E h => ?_) (fun cdv A outer s H vs Q E hr h => ?_)
  · obtain ⟨a, b, c, i, rfl, _⟩ := h
    rfl
  obtain ⟨a, ps, kvs, x, rfl, hs, hp, q1, q2⟩ := h
  refine ⟨_, (pss_cons (ps_for (passes_of rfl) rfl (pi_or (pi_tup (pv 0)) (pi_list (pv 0))) (pg_or (pg_tup (by rfl) (pgs_cons (pg_name (i := 2) sc.nd rfl (.inl rfl)) (pgs_cons (pg_name (i := 3) sc.nd rfl (.inl rfl)) pgs_nil))) (pg_lst (by rfl) (pgs_cons (pg_name (i := 2) sc.nd rfl (.inl rfl)) (pgs_cons (pg_name (i := 3) sc.nd rfl (.inl rfl)) pgs_nil)))) (pss_one (ps_if (pt_cmpR op_eq (pv 2) (pv 1) (nomark _)) (pss_one (ps_ret (pv 3))) pss_nil)))
      (pss_one (ps_raiseFell rfl T hr (takes_of rfl rfl rfl rfl) (by exact (pa_cons pe_str pa_nil))))), ?_⟩
  have e0 : (kvs.take ps.length).lookup x = none → kvs.lookup x = none := fun h => by rw [prs_len hp, List.take_length] at h; exact h
  have key : ∀ (D : Ends) (v2 v3 : Option V) (b : Addr) (kv : Str × V), Sq K H b [.str kv.1, kv.2] → (kv.1 = x → D.rt kv.2 H) → (kv.1 ≠ x → D.nx [some (.ref a), some (.str x), some (.str kv.1), some kv.2] H) →
      gOr (gTup K 2 (gCons (gName 2) (gCons (gName 3) gNil))) (gLst K 2 (gCons (gName 2) (gCons (gName 3) gNil))) (.ref b) [some (.ref a), some (.str x), v2, v3] H
        fun σ2 H2 => tIfS (tTest (tOp rEq (tVar 2) (tVar 1))) (tRet (tVar 3)) tNext D σ2 H2 := fun D v2 v3 b kv hb h1 h2 => by
    have fin : tIfS (tTest (tOp rEq (tVar 2) (tVar 1))) (tRet (tVar 3)) tNext D [some (.ref a), some (.str x), some (.str kv.1), some kv.2] H := by
      refine ⟨_, rfl, _, rfl, rfl, _, rfl, ite2 (fun c => ?_) (fun c => ?_)⟩
      · exact ⟨_, rfl, h1 (V.str.inj (of_decide_eq_true c))⟩
      · exact h2 fun z => c (decide_eq_true (by rw [z]))
    rcases hb with hb | hb
    · exact .inl ⟨b, _, rfl, hb, rfl, _, _, rfl, _, _, rfl, rfl, fin⟩
    · exact .inr ⟨b, _, rfl, hb, rfl, _, _, rfl, _, _, rfl, rfl, fin⟩
  rcases hs with hs | hs
  · refine .inl ⟨_, rfl, a, rfl, ⟨_, hs⟩, for_it (walk_tup (K := K) (a := a) (xs := ps)) (fun i σ H' => H' = H ∧ (kvs.take i).lookup x = none ∧ ∃ v2 v3, σ = [some (.ref a), some (.str x), v2, v3]) ⟨rfl, rfl, none, none, rfl⟩
      (fun i σ H' _ h => by rw [h.1]; exact hs) ?_ ?_⟩
    · rintro i v σ H1 H2 hi ⟨e1, hn, v2, v3, rfl⟩ ⟨e2, ev⟩
      obtain ⟨kv, ek, b, rfl, hb⟩ := prs_at hp ev
      rw [e2, e1]
      exact key _ _ _ b kv hb (fun z => q1 _ (look_hit hn ek z)) (fun z => ⟨rfl, look_skip hn ek z, _, _, rfl⟩)
    · rintro σ H1 ⟨rfl, hn, v2, v3, rfl⟩
      exact ⟨_, rfl, fun d nd => q2 (e0 hn) d nd⟩
  · refine .inr ⟨_, rfl, a, rfl, ⟨_, hs⟩, for_it (walk_list (K := K) (a := a) (xs := ps)) (fun i σ H' => H' = H ∧ (kvs.take i).lookup x = none ∧ ∃ v2 v3, σ = [some (.ref a), some (.str x), v2, v3]) ⟨rfl, rfl, none, none, rfl⟩
      (fun i σ H' _ h => by rw [h.1]; exact hs) ?_ ?_⟩
    · rintro i v σ H1 H2 hi ⟨e1, hn, v2, v3, rfl⟩ ⟨e2, ev⟩
      obtain ⟨kv, ek, b, rfl, hb⟩ := prs_at hp ev
      rw [e2, e1]
      exact key _ _ _ b kv hb (fun z => q1 _ (look_hit hn ek z)) (fun z => ⟨rfl, look_skip hn ek z, _, _, rfl⟩)
    · rintro σ H1 ⟨rfl, hn, v2, v3, rfl⟩
      exact ⟨_, rfl, fun d nd => q2 (e0 hn) d nd⟩
end
end Fv

set_option Elab.async false
set_option linter.all false
set_option maxRecDepth 100000
set_option maxHeartbeats 2000000
namespace Fv
open PySem PySem.Spec PyProof.Rows L2 Fd
/-! ### looks and eyes, as data -/
inductive Lk where
  | num (i : Int) | name (x : Str) | many (x : Str) | item (x : Str) (a : Lk) | spot (k : Nat) | bin (o : BOp) (a b : Lk)
structure Ey where
  names : List (Str × Int)
  lists : List (Str × List Int)
  spot : List Int
  met : List Str
def far (r : Except Str Int) : Except Str Int := match r with
  | .ok i => if inB i = true then .ok i else .error "far"
  | .error w => .error w
def some_of {α : Type} (o : Option α) (f : α → Except Str Int) : Except Str Int := match o with
  | some x => f x
  | none => .error "none"
def then_ (r : Except Str Int) (f : Int → Except Str Int) : Except Str Int := match r with
  | .ok i => f i
  | .error w => .error w
def itemOf (l : List Int) (i : Int) : Except Str Int := if 0 ≤ i ∧ i < l.length then .ok (l.getD i.toNat 0) else .error "none"
def val (E : Ey) : Lk → Except Str Int
  | .num i => far (.ok i)
  | .name x => far (some_of (E.names.lookup x) .ok)
  | .many x => far (some_of (E.lists.lookup x) fun l => .ok l.length)
  | .item x a => far (some_of (E.lists.lookup x) fun l => then_ (val E a) (itemOf l))
  | .spot k => far (.ok (E.spot.getD k 0))
  | .bin o a b => far (then_ (val E a) fun i => then_ (val E b) fun j => o.run i j)
def raw (E : Ey) : Lk → Except Str Int
  | .num i => .ok i
  | .name x => some_of (E.names.lookup x) .ok
  | .many x => some_of (E.lists.lookup x) fun l => .ok l.length
  | .item x a => some_of (E.lists.lookup x) fun l => then_ (val E a) (itemOf l)
  | .spot k => .ok (E.spot.getD k 0)
  | .bin o a b => then_ (val E a) fun i => then_ (val E b) fun j => o.run i j
theorem val_raw (E : Ey) (L : Lk) : val E L = far (raw E L) := by cases L <;> rfl
theorem val_in {E : Ey} {L : Lk} {i : Int} (h : val E L = .ok i) : inB i = true := by
  rw [val_raw] at h
  unfold far at h
  split at h
  · split at h
    · rename_i q
      cases h
      exact q
    · cases h
  · cases h
def Lk.deep : Lk → Nat
  | .item _ a => a.deep + 1
  | .bin _ a b => max a.deep b.deep + 1
  | _ => 1
def spotWords : List Str := ["x", "y", "way", "number"]
inductive LkAt (K : PySem.W.Frag) (H : Hp) : V → Lk → Prop where
  | num (i : Int) : LkAt K H (.int i) (.num i)
  | name {a : Addr} {x : Str} (h : Sq K H a [.str "name", .str x]) : LkAt K H (.ref a) (.name x)
  | many {a : Addr} {x : Str} (h : Sq K H a [.str "many", .str x]) : LkAt K H (.ref a) (.many x)
  | item {a : Addr} {x : Str} {u : V} {L : Lk} (h : Sq K H a [.str "item", .str x, u]) (hu : LkAt K H u L) : LkAt K H (.ref a) (.item x L)
  | spot {a : Addr} {k : Nat} {z : Str} (hk : spotWords[k]? = some z) (h : Sq K H a [.str z]) : LkAt K H (.ref a) (.spot k)
  | bin {a : Addr} {o : BOp} {u v : V} {L M : Lk} (h : Sq K H a [.str o.word, u, v]) (hu : LkAt K H u L) (hv : LkAt K H v M) : LkAt K H (.ref a) (.bin o L M)
theorem LkAt.same {K : PySem.W.Frag} {H H' : Hp} (s : Same H H') {v : V} {L : Lk} (h : LkAt K H v L) : LkAt K H' v L := by
  induction h with
  | num i => exact .num i
  | name h => exact .name (h.same s)
  | many h => exact .many (h.same s)
  | item h _ ih => exact .item (h.same s) ih
  | spot hk h => exact .spot hk (h.same s)
  | bin h _ _ i1 i2 => exact .bin (h.same s) i1 i2
theorem LkAt.sq {K : PySem.W.Frag} {H : Hp} {v : V} {L : Lk} (h : LkAt K H v L) : (∃ i, v = .int i ∧ L = .num i) ∨ ∃ a xs, v = .ref a ∧ Sq K H a xs := by
  cases h with
  | num i => exact .inl ⟨i, rfl, rfl⟩
  | name h => exact .inr ⟨_, _, rfl, h⟩
  | many h => exact .inr ⟨_, _, rfl, h⟩
  | item h _ => exact .inr ⟨_, _, rfl, h⟩
  | spot _ h => exact .inr ⟨_, _, rfl, h⟩
  | bin h _ _ => exact .inr ⟨_, _, rfl, h⟩
def Rows (K : PySem.W.Frag) (H : Hp) (rs : List (Str × V)) (ls : List (Str × List Int)) : Prop := Paired (fun (kv : Str × V) (xl : Str × List Int) => kv.1 = xl.1 ∧ ∃ a, kv.2 = .ref a ∧ Sq K H a (xl.2.map V.int)) rs ls
structure EyAt (K : PySem.W.Frag) (H : Hp) (E : Ey) (n l s m : Addr) : Prop where
  nm : ∃ ps, Sq K H n ps ∧ Prs K H ps (E.names.map fun p => (p.1, V.int p.2))
  ls : ∃ ps rs, Sq K H l ps ∧ Prs K H ps rs ∧ Rows K H rs E.lists
  sp : Sq K H s (E.spot.map V.int)
  s4 : E.spot.length = 4
  mt : Sq K H m (E.met.map V.str)
def Eyes (K : PySem.W.Frag) (H : Hp) (e : Addr) (E : Ey) : Prop := ∃ n l s m, Sq K H e [.ref n, .ref l, .ref s, .ref m] ∧ EyAt K H E n l s m
theorem Prs.same {K : PySem.W.Frag} {H H' : Hp} (s : Same H H') {ps : List V} {kvs : List (Str × V)} (h : Prs K H ps kvs) : Prs K H' ps kvs := Paired.mapP h fun _ _ ⟨a, e, q⟩ => ⟨a, e, q.same s⟩
theorem Rows.same {K : PySem.W.Frag} {H H' : Hp} (s : Same H H') {rs : List (Str × V)} {ls : List (Str × List Int)} (h : Rows K H rs ls) : Rows K H' rs ls := Paired.mapP h fun _ _ ⟨e, a, q, z⟩ => ⟨e, a, q, z.same s⟩
theorem Eyes.same {K : PySem.W.Frag} {H H' : Hp} (s : Same H H') {e : Addr} {E : Ey} (h : Eyes K H e E) : Eyes K H' e E := by
  obtain ⟨n, l, s', m, h1, ⟨ps, h2, h3⟩, ⟨ps', rs, h4, h5, h6⟩, h7, h8, h9⟩ := h
  exact ⟨n, l, s', m, h1.same s, ⟨ps, h2.same s, h3.same s⟩, ⟨ps', rs, h4.same s, h5.same s, h6.same s⟩, h7.same s, h8, h9.same s⟩
theorem names_look (x : Str) : ∀ ns : List (Str × Int), (ns.map fun p => (p.1, V.int p.2)).lookup x = (ns.lookup x).map V.int
  | [] => rfl
  | (k, v) :: r => by
    rw [List.map_cons, List.lookup_cons, List.lookup_cons]
    by_cases h : (x == k) = true
    · rw [h]; rfl
    · rw [Bool.eq_false_iff.mpr h]
      exact names_look x r
theorem rows_look {K : PySem.W.Frag} {H : Hp} (x : Str) : ∀ {rs : List (Str × V)} {ls : List (Str × List Int)}, Rows K H rs ls → (rs.lookup x = none ∧ ls.lookup x = none) ∨ ∃ a l, rs.lookup x = some (.ref a) ∧ ls.lookup x = some l ∧ Sq K H a (l.map V.int)
  | _, _, .nil => .inl ⟨rfl, rfl⟩
  | (k, v) :: rs, (k', l) :: ls, .cons r t => by
    obtain ⟨e, a, ea, q⟩ := r
    dsimp only at e ea q
    subst e ea
    rw [List.lookup_cons, List.lookup_cons]
    by_cases h : (x == k) = true
    · rw [h]; exact .inr ⟨a, l, rfl, rfl, q⟩
    · rw [Bool.eq_false_iff.mpr h]
      exact rows_look x t
/-- what the top has written besides defs -/
structure Wr (K : PySem.W.Frag) (w : World) (mg : Str → Option Value) (sp sm : Addr) (fs : BOp → Addr) : Prop where
  mP : mg "SPOT_WORDS" = some (.ref sp)
  mS : mg "SUMS" = some (.ref sm)
  kP : ∃ its n sl, K.lookup sp = some ⟨.type "tuple", none, .seq its n, sl⟩ ∧ Vals (spotWords.map V.str) its.toList ∧ its.size ≤ sizeLine
  kS : ∀ o : BOp, KDct K w sm o.word (.ref (fs o))
theorem Wr.sqP {K : PySem.W.Frag} {w : World} {mg : Str → Option Value} {sp sm : Addr} {fs : BOp → Addr} (W : Wr K w mg sp sm fs) (H : Hp) : SqT K H sp (spotWords.map V.str) := by
  obtain ⟨its, n, sl, h1, h2, h3⟩ := W.kP
  exact .inr ⟨_, its, n, h1, rfl, rfl, h3, h2⟩
theorem gq {K : PySem.W.Frag} {H : Hp} {a : Addr} {xs : List V} {σ : L2.St} {n : Nat} {g : TGs} {Q : L2.St → Hp → Prop} (h : Sq K H a xs) (hl : xs.length = n) (q : g xs σ H Q) : gOr (gTup K n g) (gLst K n g) (.ref a) σ H Q :=
  h.elim (fun z => .inl ⟨a, xs, rfl, z, hl, q⟩) fun z => .inr ⟨a, xs, rfl, z, hl, q⟩
theorem comes_ok {C : Addr} {H : Hp} {r : Except Str Int} {Q : VK} {E : XK} {i : Int} (h : Comes C H r Q E) (e : r = .ok i) : Q (.int i) H := by subst e; exact h
theorem comes_err {C : Addr} {H : Hp} {r : Except Str Int} {Q : VK} {E : XK} {w : Str} (h : Comes C H r Q E) (e : r = .error w) : Falls C E H w := by subst e; exact h
theorem spot_in {k : Nat} {z : Str} (h : spotWords[k]? = some z) : inV (.str z) (spotWords.map V.str) = true ∧ (∀ m, m < k → spotWords[m]? ≠ some z) ∧ k < 4 ∧ z ≠ "name" ∧ z ≠ "many" ∧ z ≠ "item" := by
  have hk : k < 4 := by
    obtain ⟨h', _⟩ := List.getElem?_eq_some_iff.mp h
    exact h'
  have : k = 0 ∨ k = 1 ∨ k = 2 ∨ k = 3 := by omega
  rcases this with rfl | rfl | rfl | rfl
  · cases (Option.some.inj h); exact ⟨by decide +kernel, fun m hm => absurd hm (by omega), hk, by decide +kernel, by decide +kernel, by decide +kernel⟩
  · cases (Option.some.inj h)
    refine ⟨by decide +kernel, fun m hm => ?_, hk, by decide +kernel, by decide +kernel, by decide +kernel⟩
    have : m = 0 := by omega
    subst this; decide +kernel
  · cases (Option.some.inj h)
    refine ⟨by decide +kernel, fun m hm => ?_, hk, by decide +kernel, by decide +kernel, by decide +kernel⟩
    have : m = 0 ∨ m = 1 := by omega
    rcases this with rfl | rfl <;> decide +kernel
  · cases (Option.some.inj h)
    refine ⟨by decide +kernel, fun m hm => ?_, hk, by decide +kernel, by decide +kernel, by decide +kernel⟩
    have : m = 0 ∨ m = 1 ∨ m = 2 := by omega
    rcases this with rfl | rfl | rfl <;> decide +kernel
theorem bop_words (o : BOp) : inV (.str o.word) (spotWords.map V.str) = false ∧ o.word ≠ "name" ∧ o.word ≠ "many" ∧ o.word ≠ "item" := by
  cases o <;> exact ⟨by decide +kernel, by decide +kernel, by decide +kernel, by decide +kernel⟩
theorem iteB {b : Bool} {A B : Prop} (h : b = true) (a : A) : if b = true then A else B := by subst h; exact iteT a
theorem iteBF {b : Bool} {A B : Prop} (h : b = false) (a : B) : if b = true then A else B := by subst h; exact iteF a
theorem neS {a b : Str} (h : a ≠ b) : ¬ (V.str a = V.str b) := fun z => h (V.str.inj z)
section
variable {P : Program} {w : World} {K : PySem.W.Frag} {mg : Str → Option Value} {base : Heap} {f C fI sp sm : Addr} {fs : BOp → Addr} {fd : FuncData}
abbrev sOut : Stmt := top 16
theorem scOut : FnScope ["look", "eyes", "names", "lists", "spot", "met", "word", "row", "first", "second", "action"] ["look", "eyes"] (defScope sOut) := ⟨rfl, rfl, rfl, by decide +kernel, rfl, by decide +kernel, by decide +kernel⟩
def spOut (K : PySem.W.Frag) (C : Addr) (n : Nat) : Sp := fun vs H Q E => ∃ (v : V) (e : Addr) (L : Lk) (Y : Ey), vs = [v, .ref e] ∧ LkAt K H v L ∧ L.deep ≤ n ∧ Eyes K H e Y ∧ Comes C H (raw Y L) Q E
def spVal (K : PySem.W.Frag) (C : Addr) (n : Nat) : Sp := fun vs H Q E => ∃ (v : V) (e : Addr) (L : Lk) (Y : Ey), vs = [v, .ref e] ∧ LkAt K H v L ∧ L.deep ≤ n ∧ Eyes K H e Y ∧ Comes C H (val Y L) Q E
theorem ok_out {k n : Nat} (W : Wr K w mg sp sm fs) (T : PySem.FellX.FellTxt K mg C fI) (F : Fun K "outcome" "outcome" sOut f fd) (GN : FnG P w K mg base CX0 k "is_number" ["thing"] (spIsNum K))
    (GF : FnG P w K mg base (L2.CX P w) k "first_of" ["pairs", "name"] (spFirst K C)) (GP : FnG P w K mg base (L2.CX P w) k "place_in" ["row", "place"] (spPlace K C)) (GV : FnG P w K mg base (L2.CX P w) k "value_of" ["look", "eyes"] (spVal K C n))
    (GS : ∀ o : BOp, HeldX P w K mg base k (fs o) (spSum C o)) (m_len : mg "len" = none) : FnOk P w K mg base (L2.CX P w) (k + 1) f fd ["look", "eyes"] (spOut K C (n + 1)) := by
  obtain ⟨_, _, G_is_number, m_is_number, k_is_number, b_is_number⟩ := GN
  obtain ⟨_, _, G_first_of, m_first_of, k_first_of, b_first_of⟩ := GF
  obtain ⟨_, _, G_place_in, m_place_in, k_place_in, b_place_in⟩ := GP
  obtain ⟨_, _, G_value_of, m_value_of, k_value_of, b_value_of⟩ := GV
  have sc := scOut
  refine F.okX sc (fun vs H Q E h => ?_) (fun cdv A outer s H vs Q E hr h => ?_)
  · obtain ⟨v, e, L, Y, rfl, _⟩ := h
    rfl
  obtain ⟨v, e, L, Y, rfl, hL, hd, hE, q⟩ := h
  refine ⟨_, (pss_cons (ps_if (pt_val (pe_call G_is_number (hr.mono (by omega)) (by rfl) m_is_number k_is_number b_is_number .nil pass0 (pa_cons (pv 0) pa_nil))) (pss_one (ps_ret (pv 0))) pss_nil)
      (pss_cons (ps_asg (pv 1) (pg_or (pg_tup (by rfl) (pgs_cons (pg_name (i := 2) sc.nd rfl (.inl rfl)) (pgs_cons (pg_name (i := 3) sc.nd rfl (.inl rfl)) (pgs_cons (pg_name (i := 4) sc.nd rfl (.inl rfl)) (pgs_cons (pg_name (i := 5) sc.nd rfl (.inl rfl)) pgs_nil))))) (pg_lst (by rfl) (pgs_cons (pg_name (i := 2) sc.nd rfl (.inl rfl)) (pgs_cons (pg_name (i := 3) sc.nd rfl (.inl rfl)) (pgs_cons (pg_name (i := 4) sc.nd rfl (.inl rfl)) (pgs_cons (pg_name (i := 5) sc.nd rfl (.inl rfl)) pgs_nil)))))))
      (pss_cons (ps_set (i := 6) sc.nd rfl (.inl rfl) (pe_ix (IxR.or ix_tup ix_list) (pv 0) pe_int (fun _ _ => rfl)))
      (pss_cons (ps_if (pt_cmpR op_eq (pv 6) pe_str (nomark _)) (pss_one (ps_ret (pe_callS G_first_of (hr.mono (by omega)) (by rfl) m_first_of k_first_of b_first_of (fun σ => passAt (takes_of rfl rfl rfl rfl) σ) (pa_cons (pv 2) (pa_cons (pe_ix (IxR.or ix_tup ix_list) (pv 0) pe_int (fun _ _ => rfl)) pa_nil))))) pss_nil)
      (pss_cons (ps_if (pt_cmpR op_eq (pv 6) pe_str (nomark _)) (pss_one (ps_ret (pe_callB call_len_seq (by rfl) m_len (by decide +kernel) (pa_cons (pe_callS G_first_of (hr.mono (by omega)) (by rfl) m_first_of k_first_of b_first_of (fun σ => passAt (takes_of rfl rfl rfl rfl) σ) (pa_cons (pv 3) (pa_cons (pe_ix (IxR.or ix_tup ix_list) (pv 0) pe_int (fun _ _ => rfl)) pa_nil))) pa_nil)))) pss_nil)
      (pss_cons (ps_if (pt_cmpR op_eq (pv 6) pe_str (nomark _)) (pss_cons (ps_set (i := 7) sc.nd rfl (.inl rfl) (pe_callS G_first_of (hr.mono (by omega)) (by rfl) m_first_of k_first_of b_first_of (fun σ => passAt (takes_of rfl rfl rfl rfl) σ) (pa_cons (pv 3) (pa_cons (pe_ix (IxR.or ix_tup ix_list) (pv 0) pe_int (fun _ _ => rfl)) pa_nil))))
      (pss_one (ps_ret (pe_ix (IxR.or ix_tup ix_list) (pv 7) (pe_callS G_place_in (hr.mono (by omega)) (by rfl) m_place_in k_place_in b_place_in (fun σ => passAt (takes_of rfl rfl rfl rfl) σ) (pa_cons (pv 7) (pa_cons (pe_callS G_value_of (hr.mono (by omega)) (by rfl) m_value_of k_value_of b_value_of (fun σ => passAt (takes_of rfl rfl rfl rfl) σ) (pa_cons (pe_ix (IxR.or ix_tup ix_list) (pv 0) pe_int (fun _ _ => rfl)) (pa_cons (pv 1) pa_nil))) pa_nil))) (fun _ _ => rfl))))) pss_nil)
      (pss_cons (ps_if (pt_cmpR op_in_seq (pv 6) (pe_glob (v := .ref sp) (by rfl) W.mP rfl) (by rfl)) (pss_one (ps_ret (pe_ix (IxR.or ix_tup ix_list) (pv 4) (pe_bm PySem.F.plainAttrs_tuple PySem.F.slot_tuple_index PySem.F.type_tuple_index mt_tup_index (pe_glob (v := .ref sp) (by rfl) W.mP rfl) (pa_cons (pv 6) pa_nil)) (fun _ _ => rfl)))) pss_nil)
      (pss_cons (ps_set (i := 8) sc.nd rfl (.inl rfl) (pe_callS G_value_of (hr.mono (by omega)) (by rfl) m_value_of k_value_of b_value_of (fun σ => passAt (takes_of rfl rfl rfl rfl) σ) (pa_cons (pe_ix (IxR.or ix_tup ix_list) (pv 0) pe_int (fun _ _ => rfl)) (pa_cons (pv 1) pa_nil))))
      (pss_cons (ps_set (i := 9) sc.nd rfl (.inl rfl) (pe_callS G_value_of (hr.mono (by omega)) (by rfl) m_value_of k_value_of b_value_of (fun σ => passAt (takes_of rfl rfl rfl rfl) σ) (pa_cons (pe_ix (IxR.or ix_tup ix_list) (pv 0) pe_int (fun _ _ => rfl)) (pa_cons (pv 1) pa_nil))))
      (pss_cons (ps_set (i := 10) sc.nd rfl (.inl rfl) (pe_ix ix_kdict (pe_glob (v := .ref sm) (by rfl) W.mS rfl) (pv 6) (fun _ _ => rfl)))
      (pss_one (ps_ret (pe_callX (k := k) (i := 10) (hr.mono (by omega)) rfl (.inl rfl) (fun σ => passAt (takes_of rfl rfl rfl rfl) σ) (by exact (pa_cons (pv 8) (pa_cons (pv 9) pa_nil)))))))))))))))), ?_⟩
  obtain ⟨en, el, es, em, he, hY⟩ := id hE
  cases hL with
  | num i => exact ⟨_, rfl, _, rfl, .inl ⟨i, rfl, _, rfl, iteT ⟨_, rfl, q⟩⟩⟩
  | @name a x hs =>
    refine ⟨_, rfl, _, rfl, .inr ⟨a, _, rfl, hs, _, rfl, iteF ⟨_, rfl, gq he rfl ⟨_, _, rfl, _, _, rfl, _, _, rfl, _, _, rfl, rfl, _, rfl, ixq hs rfl ?_⟩⟩⟩⟩
    obtain ⟨ps, h1, h2⟩ := hY.nm
    refine ⟨_, rfl, rfl, _, rfl, ifT rfl ⟨_, rfl, _, rfl, ixq hs rfl ⟨en, ps, _, x, rfl, h1, h2, fun u hu => ?_, fun hn => ?_⟩⟩⟩
    · rw [names_look] at hu
      cases e : Y.names.lookup x with
      | none => rw [e] at hu; cases hu
      | some i => rw [e] at hu; cases hu; exact comes_ok q (show some_of (Y.names.lookup x) .ok = .ok i by rw [e]; rfl)
    · rw [names_look] at hn
      cases e : Y.names.lookup x with
      | some i => rw [e] at hn; cases hn
      | none => exact comes_err q (show some_of (Y.names.lookup x) .ok = .error "none" by rw [e]; rfl)
  | @many a x hs =>
    refine ⟨_, rfl, _, rfl, .inr ⟨a, _, rfl, hs, _, rfl, iteF ⟨_, rfl, gq he rfl ⟨_, _, rfl, _, _, rfl, _, _, rfl, _, _, rfl, rfl, _, rfl, ixq hs rfl ?_⟩⟩⟩⟩
    obtain ⟨ps, rs, h1, h2, h3⟩ := hY.ls
    refine ⟨_, rfl, rfl, _, rfl, ifF (neS (by decide +kernel)) ⟨_, rfl, rfl, _, rfl, ifT rfl ⟨_, rfl, _, rfl, ixq hs rfl ⟨el, ps, rs, x, rfl, h1, h2, fun u hu => ?_, fun hn => ?_⟩⟩⟩⟩
    · rcases rows_look x h3 with ⟨z, _⟩ | ⟨b, l, z, zl, zs⟩
      · rw [z] at hu; cases hu
      · rw [z] at hu
        cases hu
        refine ⟨b, _, rfl, zs.symm, ?_⟩
        rw [List.length_map]
        exact comes_ok q (show some_of (Y.lists.lookup x) (fun l => .ok l.length) = _ by rw [zl]; rfl)
    · rcases rows_look x h3 with ⟨_, z⟩ | ⟨b, l, z, zl, zs⟩
      · exact comes_err q (show some_of (Y.lists.lookup x) (fun l => .ok l.length) = .error "none" by rw [z]; rfl)
      · rw [z] at hn; cases hn
  | @item a x u L hs hu =>
    refine ⟨_, rfl, _, rfl, .inr ⟨a, _, rfl, hs, _, rfl, iteF ⟨_, rfl, gq he rfl ⟨_, _, rfl, _, _, rfl, _, _, rfl, _, _, rfl, rfl, _, rfl, ixq hs rfl ?_⟩⟩⟩⟩
    obtain ⟨ps, rs, h1, h2, h3⟩ := hY.ls
    refine ⟨_, rfl, rfl, _, rfl, ifF (neS (by decide +kernel)) ⟨_, rfl, rfl, _, rfl, ifF (neS (by decide +kernel)) ⟨_, rfl, rfl, _, rfl, ifT rfl ⟨_, rfl, _, rfl, ixq hs rfl ⟨el, ps, rs, x, rfl, h1, h2, fun u' hu' => ?_, fun hn => ?_⟩⟩⟩⟩⟩
    · rcases rows_look x h3 with ⟨z, _⟩ | ⟨b, l, z, zl, zs⟩
      · rw [z] at hu'; cases hu'
      · rw [z] at hu'
        cases hu'
        have q1 : Comes C H (then_ (val Y L) (itemOf l)) Q E := by
          have q0 : Comes C H (some_of (Y.lists.lookup x) fun l => then_ (val Y L) (itemOf l)) Q E := q
          rw [zl] at q0
          exact q0
        refine ⟨_, rfl, _, rfl, _, rfl, ixq hs rfl ⟨_, rfl, u, e, L, Y, rfl, hu, Nat.le_of_succ_le_succ hd, hE, ?_⟩⟩
        cases ev : val Y L with
        | error z => exact comes_err q1 (by rw [ev]; rfl)
        | ok i =>
          rw [ev] at q1
          refine ⟨b, _, i, rfl, zs, fun hi => ?_, fun hi => ?_⟩
          · rw [List.length_map] at hi
            have hl : i.toNat < l.length := by omega
            refine ixq zs (v := .int (l.getD i.toNat 0)) ?_ (comes_ok q1 (if_pos hi))
            have ei : i = ((i.toNat : Nat) : Int) := by omega
            rw [ei]
            exact atI_nat (by rw [Int.toNat_natCast, List.getElem?_map, List.getD_eq_getElem?_getD, List.getElem?_eq_getElem hl]; rfl)
          · rw [List.length_map] at hi
            exact comes_err q1 (if_neg hi)
    · rcases rows_look x h3 with ⟨_, z⟩ | ⟨b, l, z, zl, zs⟩
      · exact comes_err q (show some_of (Y.lists.lookup x) (fun l => then_ (val Y L) (itemOf l)) = .error "none" by rw [z]; rfl)
      · rw [z] at hn; cases hn
  | @spot a j z hk hs =>
    obtain ⟨w1, w2, w3, w4, w5, w6⟩ := spot_in hk
    obtain ⟨its, nn, sl, p1, p2, p3⟩ := W.kP
    refine ⟨_, rfl, _, rfl, .inr ⟨a, _, rfl, hs, _, rfl, iteF ⟨_, rfl, gq he rfl ⟨_, _, rfl, _, _, rfl, _, _, rfl, _, _, rfl, rfl, _, rfl, ixq hs rfl ?_⟩⟩⟩⟩
    refine ⟨_, rfl, rfl, _, rfl, ifF (neS w4) ⟨_, rfl, rfl, _, rfl, ifF (neS w5) ⟨_, rfl, rfl, _, rfl, ifF (neS w6) ⟨_, rfl, sp, _, rfl, .inr (W.sqP H), rfl, by decide +kernel, _, rfl, iteB w1 ?_⟩⟩⟩⟩
    refine ⟨_, rfl, .inr (.inl ⟨rfl, _, p1, rfl, rfl⟩), _, rfl, sp, spotWords, z, j, rfl, rfl, W.sqP H, hk, w2, ixq hY.sp (v := .int (Y.spot.getD j 0)) (atI_nat ?_) q⟩
    have h4 : j < Y.spot.length := by rw [hY.s4]; exact w3
    rw [List.getElem?_map, List.getD_eq_getElem?_getD, List.getElem?_eq_getElem h4]
    rfl
  | @bin a o u v L M hs hu hv =>
    obtain ⟨w1, w2, w3, w4⟩ := bop_words o
    refine ⟨_, rfl, _, rfl, .inr ⟨a, _, rfl, hs, _, rfl, iteF ⟨_, rfl, gq he rfl ⟨_, _, rfl, _, _, rfl, _, _, rfl, _, _, rfl, rfl, _, rfl, ixq hs rfl ?_⟩⟩⟩⟩
    refine ⟨_, rfl, rfl, _, rfl, ifF (neS w2) ⟨_, rfl, rfl, _, rfl, ifF (neS w3) ⟨_, rfl, rfl, _, rfl, ifF (neS w4) ⟨_, rfl, sp, _, rfl, .inr (W.sqP H), rfl, by decide +kernel, _, rfl, iteBF w1 ?_⟩⟩⟩⟩
    have hd' : max L.deep M.deep ≤ n := Nat.le_of_succ_le_succ hd
    have q1 : Comes C H (then_ (val Y L) fun i => then_ (val Y M) fun j => o.run i j) Q E := q
    refine ⟨_, rfl, ixq hs rfl ⟨_, rfl, u, e, L, Y, rfl, hu, by omega, hE, ?_⟩⟩
    cases ev : val Y L with
    | error z => exact comes_err q1 (by rw [ev]; rfl)
    | ok i =>
      rw [ev] at q1
      refine ⟨_, rfl, ixq hs rfl ⟨_, rfl, v, e, M, Y, rfl, hv, by omega, hE, ?_⟩⟩
      cases ew : val Y M with
      | error z => exact comes_err q1 (by show then_ (val Y M) _ = _; rw [ew]; rfl)
      | ok j =>
        have q2 : Comes C H (o.run i j) Q E := by
          have q0 : Comes C H (then_ (val Y M) fun j => o.run i j) Q E := q1
          rw [ew] at q0
          exact q0
        exact ⟨_, rfl, sm, o.word, _, rfl, rfl, W.kS o, fs o, spSum C o, rfl, GS o, _, rfl, _, rfl, i, j, rfl, val_in ev, val_in ew, q2⟩
end
end Fv

set_option Elab.async false
set_option linter.all false
set_option maxRecDepth 100000
set_option maxHeartbeats 2000000
namespace Fv
open PySem PySem.Spec PyProof.Rows L2 Fd
section
variable {P : Program} {w : World} {K : PySem.W.Frag} {mg : Str → Option Value} {base : Heap} {f C fI sp sm : Addr} {fs : BOp → Addr} {fd : FuncData}
abbrev sVal : Stmt := top 15
theorem ok_val {k n : Nat} (T : PySem.FellX.FellTxt K mg C fI) (F : Fun K "value_of" "value_of" sVal f fd) (GI : FnG P w K mg base CX0 k "is_value" ["thing"] spIsVal)
    (GO : FnG P w K mg base (L2.CX P w) k "outcome" ["look", "eyes"] (spOut K C n)) : FnOk P w K mg base (L2.CX P w) (k + 1) f fd ["look", "eyes"] (spVal K C n) := by
  obtain ⟨_, _, G_is_value, m_is_value, k_is_value, b_is_value⟩ := GI
  obtain ⟨_, _, G_outcome, m_outcome, k_outcome, b_outcome⟩ := GO
  have sc : FnScope ["look", "eyes", "value"] ["look", "eyes"] (defScope sVal) := ⟨rfl, rfl, rfl, by decide +kernel, rfl, by decide +kernel, by decide +kernel⟩
  refine F.okX sc (fun vs H Q E h => ?_) (fun cdv A outer s H vs Q E hr h => ?_)
  · obtain ⟨v, e, L, Y, rfl, _⟩ := h
    rfl
  obtain ⟨v, e, L, Y, rfl, hL, hd, hE, q⟩ := h
  refine ⟨_, (pss_cons (ps_set (i := 2) sc.nd rfl (.inl rfl) (pe_callS G_outcome (hr.mono (by omega)) (by rfl) m_outcome k_outcome b_outcome (fun σ => passAt (takes_of rfl rfl rfl rfl) σ) (pa_cons (pv 0) (pa_cons (pv 1) pa_nil))))
      (pss_cons (ps_if (pt_not (pt_val (pe_call G_is_value (hr.mono (by omega)) (by rfl) m_is_value k_is_value b_is_value .nil pass0 (pa_cons (pv 2) pa_nil)))) (pss_one (ps_raiseFell rfl T hr (takes_of rfl rfl rfl rfl) (by exact (pa_cons pe_str pa_nil)))) pss_nil)
      (pss_one (ps_ret (pv 2))))), ?_⟩
  rw [val_raw] at q
  refine ⟨_, rfl, _, rfl, v, e, L, Y, rfl, hL, hd, hE, ?_⟩
  cases er : raw Y L with
  | error z => exact comes_err q (by rw [er]; rfl)
  | ok i =>
    rw [er] at q
    refine ⟨_, rfl, i, rfl, _, rfl, ?_⟩
    by_cases hi : inB i = true
    · rw [hi]
      exact iteF ⟨_, rfl, comes_ok q (if_pos hi)⟩
    · rw [Bool.eq_false_iff.mpr hi]
      exact iteT ⟨_, rfl, fun d nd => comes_err q (if_neg hi) d nd⟩
/-- the defs of looks.py that the two call -/
structure Looks5 (P : Program) (w : World) (K : PySem.W.Frag) (mg : Str → Option Value) (base : Heap) (C fI sp sm : Addr) (fs : BOp → Addr) : Prop where
  T : PySem.FellX.FellTxt K mg C fI
  W : Wr K w mg sp sm fs
  N : FnG P w K mg base CX0 3 "is_number" ["thing"] (spIsNum K)
  I : FnG P w K mg base CX0 3 "is_value" ["thing"] spIsVal
  F : FnG P w K mg base (L2.CX P w) 3 "first_of" ["pairs", "name"] (spFirst K C)
  L : FnG P w K mg base (L2.CX P w) 3 "place_in" ["row", "place"] (spPlace K C)
  S : ∀ o : BOp, HeldX P w K mg base 3 (fs o) (spSum C o)
theorem _root_.Fd.FnG.mono {P : Program} {w : World} {K : PySem.W.Frag} {mg : Str → Option Value} {base : Heap} {CX : CXT} {j k : Nat} {x : Str} {ps : List Str} {sp : Sp} (G : FnG P w K mg base CX j x ps sp) (h : j ≤ k) : FnG P w K mg base CX k x ps sp := by
  obtain ⟨f, fd, F, r⟩ := G
  exact ⟨f, fd, F.mono h, r⟩
theorem HeldX.mono {P : Program} {w : World} {K : PySem.W.Frag} {mg : Str → Option Value} {base : Heap} {j k : Nat} {f : Addr} {sp : Sp} (G : HeldX P w K mg base j f sp) (h : j ≤ k) : HeldX P w K mg base k f sp := by
  obtain ⟨fd, ps, F, r⟩ := G
  exact ⟨fd, ps, F.mono h, r⟩
theorem ok_values {fo : Addr} {fod : FuncData} (L : Looks5 P w K mg base C fI sp sm fs) (m_len : mg "len" = none) (DV : Df K mg "value_of" sVal ["look", "eyes"] f fd) (DO : Df K mg "outcome" sOut ["look", "eyes"] fo fod) :
    ∀ n, FnG P w K mg base (L2.CX P w) (2 * n + 4) "value_of" ["look", "eyes"] (spVal K C n)
  | 0 => ⟨f, fd, ⟨fun vs H Q E h => by
      obtain ⟨v, e, L, Y, rfl, _⟩ := h
      rfl, fun A outer s H args us vs Q E _ _ _ _ h => by
      obtain ⟨v, e, L, Y, _, _, hd, _⟩ := h
      exact absurd hd (by cases L <;> simp [Lk.deep])⟩, DV.m, DV.F.kp, DV.b⟩
  | n + 1 => by
    have G := ok_values L m_len DV DO n
    have O : FnG P w K mg base (L2.CX P w) (2 * n + 5) "outcome" ["look", "eyes"] (spOut K C (n + 1)) :=
      DO.g (ok_out (k := 2 * n + 4) L.W L.T DO.F (L.N.mono (by omega)) (L.F.mono (by omega)) (L.L.mono (by omega)) G (fun o => (L.S o).mono (by omega)) m_len)
    exact DV.g (ok_val (k := 2 * n + 5) L.T DV.F (L.I.mono (by omega)) O)
end
end Fv

set_option Elab.async false
set_option linter.all false
set_option maxRecDepth 100000
set_option maxHeartbeats 1000000
namespace Fd
open PySem PySem.Spec PyProof.Rows L2 RZ Fw LamX
/-! ### what a deed of names or lists does -/
theorem keys_at {nm : Nms} {i : Nat} {q : Str × Int} (e : nm[i]? = some q) : q.1 ∈ nm.map (·.1) := List.mem_map.mpr ⟨q, List.mem_of_getElem? e, rfl⟩
theorem nmK_len {nm : Nms} : (nmK nm).length = nm.length := by unfold nmK; exact List.length_map ..
theorem map_set_int {l : List Int} {i : Nat} {v : Int} : (l.map V.int).set i (.int v) = (l.set i v).map V.int := by rw [List.map_set]
theorem map_erase_int : ∀ {l : List Int} {i : Nat}, (l.map V.int).eraseIdx i = (l.eraseIdx i).map V.int
  | [], _ => rfl
  | _ :: _, 0 => rfl
  | x :: l, i + 1 => by rw [List.map_cons, List.eraseIdx_cons_succ, List.eraseIdx_cons_succ, List.map_cons, map_erase_int (l := l) (i := i)]
section
variable {P : Program} {w : World} {K : PySem.W.Frag} {mg : Str → Option Value} {base : Heap} {f CF fI : Addr} {fd : FuncData}
abbrev sSetN : Stmt := top 22
def spSetN : Sp := fun vs H Q _ => ∃ (d : Addr) (nm : Nms) (i : Nat) (x : Str) (o v : Int), vs = [.ref d, .str x, .int v] ∧ H d = some (.dK (nmK nm)) ∧ nm[i]? = some (x, o) ∧ nm.length ≤ 100 ∧ Q .non (upd H d (.dK (nmK (setN nm x v))))
theorem scSetN : FnScope ["numbers", "name", "value"] ["numbers", "name", "value"] (defScope sSetN) := ⟨rfl, rfl, rfl, by decide +kernel, rfl, by decide +kernel, by decide +kernel⟩
theorem ok_setN {k : Nat} (F : Fun K "set_number" "set_number" sSetN f fd) : FnOk P w K mg base (L2.CX P w) (k + 1) f fd ["numbers", "name", "value"] spSetN := by
  have sc := scSetN
  refine F.okX sc (fun vs H Q E h => ?_) (fun cdv A outer s H vs Q E hr h => ?_)
  · obtain ⟨d, nm, i, x, o, v, rfl, _⟩ := h
    rfl
  obtain ⟨d, nm, i, x, o, v, rfl, hd, ei, ln, q⟩ := h
  refine ⟨_, (pss_one (ps_dput (hu_of hr) (pv 0) (pv 1) (pv 2) rfl)), ?_⟩
  refine ⟨_, rfl, _, rfl, _, rfl, d, _, rfl, DPut.k (k := Sum.inr x) hd (by rw [nmK_len]; exact small1000 (by omega)), ?_⟩
  rw [putK_nm (keys_at ei)]
  exact q
abbrev sAddN : Stmt := top 23
def spAddN (CF : Addr) : Sp := fun vs H Q E => ∃ (d : Addr) (nm : Nms) (i : Nat) (x : Str) (o v : Int), vs = [.ref d, .str x, .int v] ∧ H d = some (.dK (nmK nm)) ∧ nm[i]? = some (x, o) ∧ (nm.map (·.1)).Nodup ∧ nm.length ≤ 100 ∧
  (Fv.inB (o + v) = true → Q .non (upd H d (.dK (nmK (setN nm x (o + v)))))) ∧ (Fv.inB (o + v) = false → Fv.Falls CF E H "far")
theorem scAddN : FnScope ["numbers", "name", "value", "total"] ["numbers", "name", "value"] (defScope sAddN) := ⟨rfl, rfl, rfl, by decide +kernel, rfl, by decide +kernel, by decide +kernel⟩
theorem ok_addN {k : Nat} (T : PySem.FellX.FellTxt K mg CF fI) (F : Fun K "add_number" "add_number" sAddN f fd) (GI : FnG P w K mg base CX0 (k + 1) "is_value" ["thing"] Fv.spIsVal) : FnOk P w K mg base (L2.CX P w) (k + 2) f fd ["numbers", "name", "value"] (spAddN CF) := by
  obtain ⟨_, _, G_is_value, m_is_value, k_is_value, b_is_value⟩ := GI
  have sc := scAddN
  refine F.okX sc (fun vs H Q E h => ?_) (fun cdv A outer s H vs Q E hr h => ?_)
  · obtain ⟨d, nm, i, x, o, v, rfl, _⟩ := h
    rfl
  obtain ⟨d, nm, i, x, o, v, rfl, hd, ei, nd, ln, q1, q2⟩ := h
  refine ⟨_, (pss_cons (ps_set (i := 3) sc.nd rfl (.inl rfl) (pe_op op_add (pe_dget (hu_of hr) (pv 0) (pv 1) (fun _ _ => rfl)) (pv 2)))
      (pss_cons (ps_if (pt_not (pt_val (pe_call G_is_value (hr.mono (by omega)) (by rfl) m_is_value k_is_value b_is_value .nil pass0 (pa_cons (pv 3) pa_nil)))) (pss_one (ps_raiseFell rfl T hr (takes_of rfl rfl rfl rfl) (by exact (pa_cons pe_str pa_nil)))) pss_nil)
      (pss_one (ps_dput (hu_of hr) (pv 0) (pv 1) (pv 3) rfl)))), ?_⟩
  have hv : valV (nmK nm) (Sum.inr x) = some (.int o) := val_map (g := V.int) nd ei
  refine ⟨_, rfl, _, rfl, d, .int o, rfl, .inl ⟨_, Sum.inr x, .inl hd, rfl, hv.symm⟩, _, rfl, _, _, rfl, rfl, ?_⟩
  refine ⟨_, rfl, _, rfl, _, rfl, ?_⟩
  cases hb : Fv.inB (o + v) with
  | true =>
    refine ifFF ⟨_, rfl, _, rfl, _, rfl, d, _, rfl, DPut.k (k := Sum.inr x) hd (by rw [nmK_len]; exact small1000 (by omega)), ?_⟩
    rw [putK_nm (keys_at ei)]
    exact q1 hb
  | false =>
    exact iteT ⟨_, rfl, fun d nd => q2 hb d nd⟩
abbrev sPutV : Stmt := top 24
def spPutV (K : PySem.W.Frag) (CF : Addr) : Sp := fun vs H Q E => ∃ (r vl : Addr) (row : List Int) (v : Int) (ws : List Int), vs = [.ref r, .ref vl] ∧ H r = some (.lst (row.map V.int)) ∧ SqL K H vl ((v :: ws).map V.int) ∧ row.length ≤ 100 ∧
  (row.length < 8 → Q .non (upd H r (.lst ((row ++ [v]).map V.int)))) ∧ (¬ row.length < 8 → Fv.Falls CF E H "full")
theorem scPutV : FnScope ["row", "values"] ["row", "values"] (defScope sPutV) := ⟨rfl, rfl, rfl, by decide +kernel, rfl, by decide +kernel, by decide +kernel⟩
theorem ok_putV {k : Nat} {t : Tok} (T : PySem.FellX.FellTxt K mg CF fI) (F : Fun K "put_value" "put_value" sPutV f fd) (m_len : mg "len" = none) (m_LONGEST : mg "LONGEST_LIST" = some (.int 8 t)) : FnOk P w K mg base (L2.CX P w) (k + 2) f fd ["row", "values"] (spPutV K CF) := by
  have sc := scPutV
  refine F.okX sc (fun vs H Q E h => ?_) (fun cdv A outer s H vs Q E hr h => ?_)
  · obtain ⟨r, vl, row, v, ws, rfl, _⟩ := h
    rfl
  obtain ⟨r, vl, row, v, ws, rfl, hd, hv, ln, q1, q2⟩ := h
  refine ⟨_, (pss_cons (ps_if (pt_cmpR op_ge (pe_callB call_len_seq (by rfl) m_len (by decide +kernel) (pa_cons (pv 0) pa_nil)) (pe_glob (v := .int 8) (by rfl) m_LONGEST ⟨_, rfl⟩) (nomark _)) (pss_one (ps_raiseFell rfl T hr (takes_of rfl rfl rfl rfl) (by exact (pa_cons pe_str pa_nil)))) pss_nil)
      (pss_one (ps_expr (pe_bm PySem.F.plainAttrs_list PySem.F.slot_list_append PySem.F.type_list_append mt_append (pv 0) (pa_cons (pe_ix ix_list (pv 1) pe_int (fun _ _ => rfl)) pa_nil))))), ?_⟩
  refine ⟨_, rfl, r, _, rfl, .inl (SqL.of hd), ?_⟩
  rw [List.length_map]
  refine ⟨_, _, rfl, rfl, _, rfl, ?_⟩
  by_cases hl : row.length < 8
  · rw [show decide ((8 : Int) ≤ (row.length : Int)) = false from decide_eq_false (by omega)]
    refine ifFF ⟨_, rfl, .inl ⟨rfl, _, SqL.of hd⟩, _, rfl, vl, _, 0, .int v, rfl, rfl, hv, atI_nat (j := 0) rfl, ?_⟩
    refine ⟨r, _, _, rfl, rfl, hd, by rw [List.length_map]; exact small1000 (by omega), ?_⟩
    have := q1 hl
    rw [List.map_append] at this
    exact this
  · rw [show decide ((8 : Int) ≤ (row.length : Int)) = true from decide_eq_true (by omega)]
    exact iteT ⟨_, rfl, fun d nd => q2 hl d nd⟩
abbrev sDropV : Stmt := top 25
def spDropV (K : PySem.W.Frag) (CF : Addr) : Sp := fun vs H Q E => ∃ (r vl : Addr) (row : List Int) (v : Int) (ws : List Int), vs = [.ref r, .ref vl] ∧ H r = some (.lst (row.map V.int)) ∧ SqL K H vl ((v :: ws).map V.int) ∧ row.length ≤ 100 ∧
  (0 ≤ v ∧ v < row.length → Q .non (upd H r (.lst ((row.eraseIdx v.toNat).map V.int)))) ∧ (¬ (0 ≤ v ∧ v < row.length) → Fv.Falls CF E H "none")
theorem scDropV : FnScope ["row", "values"] ["row", "values"] (defScope sDropV) := ⟨rfl, rfl, rfl, by decide +kernel, rfl, by decide +kernel, by decide +kernel⟩
theorem ok_dropV {k : Nat} (F : Fun K "drop_value" "drop_value" sDropV f fd) (GP : FnG P w K mg base (L2.CX P w) k "place_in" ["row", "place"] (Fv.spPlace K CF)) : FnOk P w K mg base (L2.CX P w) (k + 1) f fd ["row", "values"] (spDropV K CF) := by
  obtain ⟨_, _, G_place_in, m_place_in, k_place_in, b_place_in⟩ := GP
  have sc := scDropV
  refine F.okX sc (fun vs H Q E h => ?_) (fun cdv A outer s H vs Q E hr h => ?_)
  · obtain ⟨r, vl, row, v, ws, rfl, _⟩ := h
    rfl
  obtain ⟨r, vl, row, v, ws, rfl, hd, hv, ln, q1, q2⟩ := h
  refine ⟨_, (pss_one (ps_delL (pv 0) (pe_callS G_place_in (hr.mono (by omega)) (by rfl) m_place_in k_place_in b_place_in (fun σ => passAt (takes_of rfl rfl rfl rfl) σ) (pa_cons (pv 0) (pa_cons (pe_ix ix_list (pv 1) pe_int (fun _ _ => rfl)) pa_nil))))), ?_⟩
  refine ⟨_, rfl, _, rfl, _, rfl, vl, _, 0, .int v, rfl, rfl, hv, atI_nat (j := 0) rfl, r, _, v, rfl, .inr (SqL.of hd), fun hb => ?_, fun hb => q2 (by rw [List.length_map] at hb; exact hb)⟩
  rw [List.length_map] at hb
  refine ⟨r, _, v, v.toNat, rfl, rfl, hd, by omega, by omega, ?_, ?_⟩
  · rw [List.length_map]
    unfold seqIndex?
    simp only [show ¬ v < 0 from by omega, if_false, hb.1, hb.2, decide_true, Bool.and_self, if_true]
  · rw [map_erase_int]
    exact q1 hb
abbrev sWriteV : Stmt := top 26
def spWriteV (K : PySem.W.Frag) (CF : Addr) : Sp := fun vs H Q E => ∃ (r vl : Addr) (row : List Int) (v z : Int) (ws : List Int), vs = [.ref r, .ref vl] ∧ H r = some (.lst (row.map V.int)) ∧ SqL K H vl ((v :: z :: ws).map V.int) ∧ row.length ≤ 100 ∧
  (0 ≤ v ∧ v < row.length → Q .non (upd H r (.lst ((row.set v.toNat z).map V.int)))) ∧ (¬ (0 ≤ v ∧ v < row.length) → Fv.Falls CF E H "none")
theorem scWriteV : FnScope ["row", "values"] ["row", "values"] (defScope sWriteV) := ⟨rfl, rfl, rfl, by decide +kernel, rfl, by decide +kernel, by decide +kernel⟩
theorem ok_writeV {k : Nat} (F : Fun K "write_value" "write_value" sWriteV f fd) (GP : FnG P w K mg base (L2.CX P w) k "place_in" ["row", "place"] (Fv.spPlace K CF)) : FnOk P w K mg base (L2.CX P w) (k + 1) f fd ["row", "values"] (spWriteV K CF) := by
  obtain ⟨_, _, G_place_in, m_place_in, k_place_in, b_place_in⟩ := GP
  have sc := scWriteV
  refine F.okX sc (fun vs H Q E h => ?_) (fun cdv A outer s H vs Q E hr h => ?_)
  · obtain ⟨r, vl, row, v, z, ws, rfl, _⟩ := h
    rfl
  obtain ⟨r, vl, row, v, z, ws, rfl, hd, hv, ln, q1, q2⟩ := h
  refine ⟨_, (pss_one (ps_asg (pe_ix ix_list (pv 1) pe_int (fun _ _ => rfl)) (pg_sub (pv 0) (pe_callS G_place_in (hr.mono (by omega)) (by rfl) m_place_in k_place_in b_place_in (fun σ => passAt (takes_of rfl rfl rfl rfl) σ) (pa_cons (pv 0) (pa_cons (pe_ix ix_list (pv 1) pe_int (fun _ _ => rfl)) pa_nil))) set_list))), ?_⟩
  refine ⟨_, rfl, vl, _, 1, .int z, rfl, rfl, hv, atI_nat (j := 1) rfl, _, rfl, _, rfl, _, rfl, vl, _, 0, .int v, rfl, rfl, hv, atI_nat (j := 0) rfl, r, _, v, rfl, .inr (SqL.of hd), fun hb => ?_, fun hb => q2 (by rw [List.length_map] at hb; exact hb)⟩
  rw [List.length_map] at hb
  refine ⟨r, _, v, v.toNat, rfl, rfl, hd, ?_, ?_⟩
  · unfold ixN
    rw [List.length_map, if_pos hb.1, if_pos hb.2]
  · rw [map_set_int]
    exact q1 hb
end
end Fd

set_option Elab.async false
set_option linter.all false
set_option maxRecDepth 100000
set_option maxHeartbeats 2000000
/-! A list comprehension whose element is a call that may raise: y = [f(..) for target in iter if ..]. -/
namespace L2
open PySem PySem.Spec PyProof.Rows
theorem hideFr {h base : Heap} {C : Addr} : ∀ {l : List Env}, h.FunFrames base l → h.FunFrames (base.hide C) l
  | [], _ => trivial
  | env :: rest, ⟨k, ⟨L, o, e1, e2, e3, e4⟩, r⟩ => by
    have q : (base.hide C).get? L = none := by
      cases q : (base.hide C).get? L with
      | none => rfl
      | some o' =>
        rw [Heap.of_hide q] at e2
        cases e2
    exact ⟨k, ⟨L, o, e1, q, e3, e4⟩, hideFr r⟩
section
variable {X : Cx} {E : XK}
/-- an exception that a call in the block let out leaves the block, and flies on in the def's own frame -/
theorem lcx_fails {W0 : WX} {C : Addr} {ce : Env} {u : Value} {s' : Shared} {m : Str → Option Value} (hs : X.stack = X.env :: X.outer) (hf : X.env.frame = some X.env.locals) (tk : Takes X W0) (hcf : ce.frame = X.env.frame) (hC : ce.locals = C)
    (f1 : C ≠ X.env.locals) (f2 : C ∉ X.fs) (f3 : C ∈ X.ex ∨ X.s_0.heap.objs.size ≤ C) (f4 : ∀ x c, X.env.cells.lookup x = some c → c ≠ C) (f5 : ∀ p ∈ X.pn, p.1 ≠ C) (hn : s'.heap.Ns C m)
    (x : XE X (fun c d σ H => W0 c d σ H ∧ H C = none) u s') : notedBy (model X.prog X.w) X.A ce (CompFails (model X.prog X.w) X.A X.xe ce) u s' := by
  obtain ⟨a, B, sI, pins, σ, H, cls, d, rfl, I, nb, up, sky, na, os, ag, w, hHC⟩ := x
  have onTop : X.A.frames = some (X.env :: X.outer) := I.ok.frames.trans (congrArg some hs)
  have Cst : C ∉ frs X.stack := fun hm => by
    rcases List.mem_cons.mp (I.stkSub C hm) with z | z
    · exact f1 z
    · exact f2 z
  obtain ⟨oC, esC, epC, hoC, hdC, _⟩ := hn
  rw [hs] at sky
  have fin : ∀ h1, HandSPX.HeldZ B (X.env :: X.outer) a (Zc cls d) X.env.locals h1 → s'.heap.UpToSlots h1 → CompFails (model X.prog X.w) X.A X.xe ce (.ref a) { s' with heap := h1 } := fun h1 hh up1 => by
    have hn1 : h1.Ns ce.locals m := by
      rw [hC]
      exact Heap.Ns.upToSlots ⟨oC, esC, epC, hoC, hdC, ‹_›⟩ up1
    refine ⟨m, hn1, fun h2 m2 hn2 sb => ?_⟩
    rw [hC] at hn1 hn2 sb
    obtain ⟨k1, k2, k3, oe, vs, T, oT, ts, he, hz, hd, hv1, hnT, hTe, hT, hdT, hv3⟩ := hh
    obtain ⟨oD, esD, epD, hoD, hdD, _⟩ := hn1
    have aC : a ≠ C := fun z => by
      rw [z, hoD] at he
      cases he
      rw [hdD] at hd
      cases hd
    have TC : T ≠ C := fun z => by
      rw [z, hoD] at hT
      cases hT
      rw [hdD] at hdT
      cases hdT
    have hb : HandSPX.HeldZ (B.hide C) (X.env :: X.outer) a (Zc cls d) X.env.locals h2 := by
      refine ⟨fun b o e => ?_, ?_, ?_, oe, vs, T, oT, ts, (sb.2 a aC).trans he, hz, hd, hv1, ?_, hTe, (sb.2 T TC).trans hT, hdT, hv3⟩
      · have nC : b ≠ C := fun z => by rw [z, Heap.hide_self] at e; cases e
        exact (sb.2 b nC).trans (k1 b o (Heap.of_hide e))
      · rw [Heap.hide_ne _ aC]; exact k2
      · have fr : h2.FunFrames B (X.env :: X.outer) := Heap.FunFrames.sameBut sb hn2 k3
        exact hideFr fr
      · rw [Heap.hide_ne _ TC]; exact hnT
    have hb4 := hb
    obtain ⟨_, _, _, oe', vs', T', oT', ts', he', hz', hd', hv1', _⟩ := hb
    unfold PySem.passOn
    refine wpAny_bind (wpAny_field he' hd' hv1' ?_)
    rw [if_neg (by simp : ¬ ((Value.ref T' == Value.none) = true)), hcf, hf]
    refine wpAny_bind (HandSPX.setFlight_onZ hb4 fun h3 hh3 up3 => ?_)
    refine wpAny_throw (tk _ _ ⟨a, B.hide C, { sI with heap := sI.heap.hide C }, [], σ, H, cls, d, rfl, ?_, fun b o e hb => ?_, fun b o e nf => ?_, .inr (.inr (by rw [hs]; exact hh3)), na, os, ag, w⟩)
    · have I0 : Inv X [] σ H sI := I.unpinned (pins := [])
      exact I0.turned (t' := sI.toks) (fun b o hb e => by rw [Heap.hide_ne _ hb]; exact e) hHC f1 f3 f4 fun p hp => f5 p (by simpa using hp)
    · have nC : b ≠ C := fun z => by rw [z, Heap.hide_self] at e; cases e
      rw [Heap.hide_ne _ nC]
      exact nb b o (Heap.of_hide e) hb
    · have nC : b ≠ C := fun z => by rw [z, Heap.hide_self] at e; cases e
      obtain ⟨sl, e1⟩ := up b o (Heap.of_hide e) nf
      obtain ⟨sl2, e2⟩ := up1 b _ e1 nf
      obtain ⟨sl3, e3⟩ := up3 b _ ((sb.2 b nC).trans e2) nf
      exact ⟨sl3, e3⟩
  show wpAny _ _ (noteFrame (.ref a) ce) _ _ s'
  rw [noteFrame_env _ hcf]
  rcases sky with ⟨hB, hn', hl, oe, vs, he, hz, hd, h1⟩ | fl | atL
  · exact HandSPX.look_newZ Zc.steady onTop hl hf he hB hn' hd h1 hz fin
  · exact HandSPX.looks_onZ Zc.steady onTop hf fl fin
  · exact HandSPX.againZ hf atL.2.2.2 (fin s'.heap atL (Heap.UpToSlots.refl _))
/-- the block's loop in its own context B, by a measure of the turns that are left; R is what is owed behind it -/
theorem lcx_loop {B : Cx} {R : Result → Shared → Prop} {elt tg iter : Expr} {scope : Scope} {pos : Pos} {it D : Addr} {walked : List Addr} {tn : Nat → Heap → Prop} {J : It} {g : TG} {te : TE} {vs : List Nat} {σ₀ : St} {Qd : Hp → Prop} {Wv : Nat → Nat → Hp → Prop}
    (calm : B.calm = true) (walk : Turn B.prog B.w B.K tg J walked it tn) (still : ∀ {σ : St} {H : Hp} {s : Shared}, Inv B [] σ H s → (∀ b ∈ walked, H b = none) → ∀ b ∈ walked, FpOk B [] H b)
    (tgt : PG B.nox tg g) (el : PE (B.wish (notedBy (model B.prog B.w) B.A B.env fun e s => R (.error e) s)) elt te) (over : ∀ {H : Hp} {s : Shared}, Inv B [] σ₀ H s → Qd H → R (.ok .next) s)
    (each : ∀ i m H, Wv i m H → (J.stop i H ∧ Qd H) ∨ (J.go i H ∧ ∃ N : Hp → Prop, (∀ H', N H' → ∃ m', m' < m ∧ Wv (i + 1) m' H') ∧ ∀ x H', J.yld i H x H' → g x σ₀ H' fun σ2 H2 => wipe σ2 vs = σ₀ ∧ tYes σ2 H2 fun b H3 =>
      if b = true then te σ2 H3 fun y H4 => ∃ acc, H4 D = some (.lst acc) ∧ acc.length < sizeLine ∧ N (upd H4 D (.lst (acc ++ [y]))) else N H3))
    {m : Nat} {H : Hp} {s : Shared} (inv : Inv B [] σ₀ H s) (at0 : tn 0 s.heap) (free : ∀ b ∈ walked, H b = none) (start : Wv 0 m H) :
    codeAny (model B.prog B.w) B.A (.compLoop (.ListComp elt [⟨tg, iter, [], 0⟩] scope pos) 0 (.ref it) (.ref D) B.env) R s := by
  refine compLoop_any (fun left st => ∃ k Hk, Inv B [] σ₀ Hk st ∧ tn k st.heap ∧ (∀ b ∈ walked, Hk b = none) ∧ Wv k left Hk) (fun left st ⟨k, Hk, ik, tk, fk, wk⟩ => ?_) m ⟨0, H, inv, at0, free, start⟩
  rcases each k left Hk wk with ⟨no, qd⟩ | ⟨yes, N, less, run⟩
  · exact thnF (walk.done B rfl rfl rfl calm k [] st σ₀ Hk (fun _ _ => False) ik (still ik fk) tk no) fun r st' ⟨hr, ie⟩ => by
      rw [hr]
      exact over ie qd
  refine thnF (walk.item B rfl rfl rfl calm k [] st σ₀ Hk (fun _ _ => False) ik (still ik fk) tk yes) fun r st1 ⟨u, hr, nxt⟩ => ?_
  rw [hr]
  refine thnF nxt fun _ st2 ⟨x, H2, i2, rx, yx, t2, f2⟩ => ?_
  have held := i2.pinned (still i2 f2) (walk.obj _ _ t2)
  have keeps : ∀ {Hz : Hp} {σz : St} {sz : Shared}, wipe σz vs = σ₀ → Inv B ([] ++ pinsAt walked st2.heap) σz Hz sz → N Hz → ∃ m', m' < left ∧ ∃ k' Hk', Inv B [] σ₀ Hk' sz ∧ tn k' sz.heap ∧ (∀ b ∈ walked, Hk' b = none) ∧ Wv k' m' Hk' := fun {Hz σz sz} hz iz nz => by
    obtain ⟨m', lt, wz⟩ := less Hz nz
    have pin : ∀ b ∈ walked, ∀ o, st2.heap.get? b = some o → sz.heap.get? b = some o ∧ Hz b = none := fun b hb o e => by
      have p := iz.pin (b, o) (List.mem_append_right _ (List.mem_append_right _ (mem_pinsAt hb e)))
      exact ⟨p.1, p.2.1⟩
    have same : ∀ (j : Nat) v, σ₀[j]? = some (some v) → σz[j]? = some (some v) := fun j v e => (wipe_some (hz ▸ e)).1
    refine ⟨m', lt, k + 1, Hz, Inv.weak (Inv.unpinned (pins := []) iz) (by rw [← hz]; exact wipe_length ..) same, ?_, ?_, wz⟩
    · exact walk.keep _ _ _ t2 fun b hb o e => (pin b hb o e).1
    · intro b hb
      obtain ⟨o, e, _⟩ := walk.obj _ _ t2 b hb
      exact (pin b hb o e).2
  refine thnF (tgt.run _ st2 σ₀ H2 x u _ (held.wish _) rx (run x H2 yx)) fun _ st3 ⟨σ3, H3, i3, w3, q3⟩ => ?_
  refine thnF ((pts_nil (X := B.nox)).run _ st3 σ3 H3 _ i3 q3) fun b st4 ⟨H4, i4, q4⟩ => ?_
  cases b with
  | false => exact keeps w3 i4.unwish q4
  | true => exact thn (el.run _ st4 σ3 H4 _ (i4.unwish.wish _) q4) fun v st5 ⟨y, H5, i5, ry, acc, hD, hz, n5⟩ => app_ok (X := B) i5.unwish hD hz ry fun st6 i6 => keeps w3 i6 n5
/-- what a call in the block may let out goes where the def's own calls let it -/
abbrev BlkX (X : Cx) (scope : Scope) (E : XK) (elt : Expr) (te : TE) : Prop := ∀ (s : Shared) (H : Hp) (C : Addr) (cl : List (Str × Addr)) (fp : List Addr) (ξ : Value → Shared → Prop),
  (∀ σ, PassesAt (L2.CX X.prog X.w) ((X.blk s H scope (compEnvC scope cl C X.env) fp).wish ξ) σ E) → PE ((X.blk s H scope (compEnvC scope cl C X.env) fp).wish ξ) elt te
/-- y = [f(..) for target in iter], y a local, the element a call that may raise -/
theorem ps_setLcX {i : Nat} {y : Str} {py : Pos} {elt tg iter : Expr} {scope : Scope} {own : List (Str × Nat)} {pos spos : Pos} {wi : TI} {g : TG} {te : TE} (hst : X.stack = X.env :: X.outer) (hfm : X.env.frame = some X.env.locals) (tk : Takes X (fun c d _ H => E c d H))
    (hc : X.calm = true) (hN : X.N.Nodup) (hy : X.N[i]? = some y) (hyl : X.env.scope.names.lookup y = some .local)
    (hsw : swapsWith (.ListComp elt [⟨tg, iter, [], 0⟩] scope pos) (some (.Name y py)) spos.line X.env = pure true) (hi : PI X tg iter wi) (ok : BlkOk X.N X.env.scope scope own)
    (hg : ∀ (s : Shared) (H : Hp) (C : Addr) (cl : List (Str × Addr)) (fp : List Addr), PG (X.blk s H scope (compEnvC scope cl C X.env) fp) tg g)
    (he : BlkX X scope E elt te) (hs : ∀ x, foldedSetIterable iter X.env x = pure x := by intro _; rfl) :
    PS X (.Assign [.Name y py] (.ListComp elt [⟨tg, iter, [], 0⟩] scope pos) spos) (tAsg (tLc wi g tYes te (own.map (·.2))) (gName i)) := by
  refine ⟨fun pins s σ H F I h => ?_⟩
  have fr : ∀ y ∈ scope.names, y.2 = .free → ∃ c, X.env.cells.lookup y.1 = some c := fun y hy e => I.ok.has _ (ok.free y hy e)
  rw [exec_Assign_Name_used _ _ _ _ hsw]
  refine wpAny_bind (wpAny_standAt (wpAny_bind (wpAny_bind (thn (Q := fun _ s' => SP X pins F .next s') ?_ fun _ s' hq => wpAny_pure (wpAny_pure hq)))))
  refine comprehension_at rfl hs (closure_ok fr) ok.kind (fun y hy e => (ok.uniq y hy).trans (congrArg some e)) (thn (hi.run pins s σ H _ I h) fun xv s1 hx => thn hx fun itv s2 ⟨it, walked, tn, J, H2, eit, I2, walk, t2, f2, red⟩ => ?_)
  rw [eit]
  refine wpAny_newObj_type (newEnv_comp ?_) (by show 0 ≤ sizeLine; decide)
  -- the new list
  obtain ⟨D, hD⟩ : ∃ D, s2.heap.objs.size = D := ⟨_, rfl⟩
  rw [hD]
  have freeD : H2 D = none := I2.hok.fresh (Nat.le_of_eq hD)
  obtain ⟨Wv, ⟨m0, w0⟩, each⟩ := red D freeD
  obtain ⟨s3, hs3⟩ : ∃ s3 : Shared, s3 = { s2 with heap := s2.heap.push { cls := .type "list", data := .seq ([] : List Value).toArray } } := ⟨_, rfl⟩
  have old : ∀ b o, s2.heap.get? b = some o → s3.heap.get? b = some o := fun b o e => by rw [hs3]; exact Heap.get?_push_of_some _ e
  have I3 : Inv X pins σ (upd H2 D (.lst [])) s3 := by
    subst hs3
    exact I2.laid (t' := s2.toks) old (Nat.le_of_eq hD) ⟨Nat.zero_le _, [], 0, .nil, by rw [← hD]; exact Heap.get?_push_size _ rfl⟩
  have low : ∀ b ∈ walked, b < s2.heap.objs.size := fun b hb => let ⟨_, e, _⟩ := walk.obj _ _ t2 b hb; Heap.lt_size e
  obtain ⟨H3, hH3⟩ : ∃ H3, upd H2 D (.lst []) = H3 := ⟨_, rfl⟩
  rw [hH3] at I3 w0
  have f3 : ∀ b ∈ walked, FpOk X pins H3 b ∧ b < s3.heap.objs.size := fun b hb => by
    have lt := low b hb
    obtain ⟨z0, z1⟩ := f2 b hb
    refine ⟨⟨?_, z1⟩, by rw [hs3, Heap.size_push]; exact Nat.lt_succ_of_lt lt⟩
    rw [← hH3, upd_ne (Nat.ne_of_lt (hD ▸ lt))]
    exact z0
  have I4 := block_start I3 ok hN f3
  -- the block's own context
  obtain ⟨ce, hce⟩ : ∃ ce, compEnvC scope (cellsFrom (s3.heap.objs.size + 1) scope.names (cloFrom X.env.cells scope.names [])) s3.heap.objs.size X.env = ce := ⟨_, rfl⟩
  have cF : ce.frame = X.env.frame := by rw [← hce]; rfl
  have cL : ce.locals = s3.heap.objs.size := by rw [← hce]; rfl
  have tgt : PG (X.blk s3 H3 scope ce walked) tg g := by rw [← hce]; exact hg ..
  have elx : ∀ ξ, (∀ σ, PassesAt (L2.CX X.prog X.w) ((X.blk s3 H3 scope ce walked).wish ξ) σ E) → PE ((X.blk s3 H3 scope ce walked).wish ξ) elt te := by rw [← hce]; exact fun ξ hp => he _ _ _ _ _ ξ hp
  rw [← hs3]
  show codeAny _ _ (.compStart _ 0 (.ref it) (.ref D) (compEnvC scope (cellsFrom (s3.heap.objs.size + 1) scope.names (cloFrom X.env.cells scope.names [])) s3.heap.objs.size X.env)) (compEnds _ _ _ (some (assign (.Name y py) X.env)) _ (.ref D) (compEnvC scope (cellsFrom (s3.heap.objs.size + 1) scope.names (cloFrom X.env.cells scope.names [])) s3.heap.objs.size X.env)) _
  rw [hce] at I4 ⊢
  obtain ⟨s4, hs4⟩ : ∃ s4 : Shared, s4 = { s3 with heap := pushCells (s3.heap.push { cls := .type "dict", data := .dict #[] }) scope.names } := ⟨_, rfl⟩
  rw [← hs4] at I4 ⊢
  have t4 : tn 0 s4.heap := walk.keep _ _ _ t2 fun b _ o e => by rw [hs4]; exact pushCells_keeps _ _ _ _ (Heap.get?_push_of_some _ (old b o e))
  have back : ∀ {pb : List (Addr × Obj)} {σ' : St} {H' : Hp} {s' : Shared}, Inv (X.blk s3 H3 scope ce walked) pb σ' H' s' → Inv X pins σ H' s' ∧ FpOk X pins H' ce.locals ∧ ∃ m, s'.heap.Ns ce.locals m := fun {pb σ' H' s'} ib => by
    refine ⟨I3.call' (ch := walked) ib.os ib.base ib.hok ib.bare fun b hb => ?_, I3.fpOk (Nat.le_of_eq cL.symm) ib.free, let ⟨m, hn, _⟩ := ib.loc; ⟨m, hn⟩⟩
    obtain ⟨⟨_, q1, _, q3, q4, q5⟩, _⟩ := f3 b hb
    exact ⟨q3, q1, q4, q5⟩
  have still : ∀ {σ' : St} {H' : Hp} {s' : Shared}, Inv (X.blk s3 H3 scope ce walked) [] σ' H' s' → (∀ b ∈ walked, H' b = none) → ∀ b ∈ walked, FpOk (X.blk s3 H3 scope ce walked) [] H' b := fun {σ' H' s'} ib fb b hb => by
    obtain ⟨q1, q2⟩ := ib.ok.exf b hb
    exact ⟨fb b hb, q1, ib.ok.exfs b hb, .inl hb, q2, fun p hp => by cases (show p ∈ ([] : List (Addr × Obj)) from hp)⟩
  -- what a call in it lets out
  have out : ∀ σ', PassesAt (L2.CX X.prog X.w) ((X.blk s3 H3 scope ce walked).wish (notedBy (model X.prog X.w) X.A ce fun e s' => compEnds (model X.prog X.w) X.A X.xe (some (assign (.Name y py) X.env)) (fun _ s' => SP X pins F .next s') (.ref D) ce (.error e) s')) σ' E := fun σ' pb Hb sb u s' Ib c => by
    obtain ⟨IX, ⟨c0, c1, c2, c3, c4, c5⟩, m, oC, es, ep, ho, r⟩ := back Ib.unwish
    obtain ⟨a, B, H', cls, d, eu, fl, hok, ub, na, os, ag, hE⟩ := (show CX X.prog X.w X.stack Hb sb E u s' from c)
    have nst : ce.locals ∉ frs X.stack := fun hm => (List.mem_cons.mp (IX.stkSub _ hm)).elim c1 c2
    have flight := XE.of_call (W := fun c d _ H => E c d H ∧ H ce.locals = none) (E := fun c d H => E c d H ∧ H ce.locals = none) IX (fun _ _ _ z => z) (u := u) (s' := s') ⟨a, B, H', cls, d, eu, fl, hok, ub, na, os, ag, hE, ub.free _ _ ho c0⟩
    exact lcx_fails hst hfm tk cF rfl c1 c2 c3 c4 (fun p hp => c5 p (List.mem_append_left _ hp)) ⟨oC, es, ep, fl.1 _ _ (ub.keep _ _ ho c0 nst), r⟩ flight
  have free3 : ∀ b ∈ walked, H3 b = none := fun b hb => (f3 b hb).1.1
  have loop := lcx_loop (B := X.blk s3 H3 scope ce walked) (R := compEnds (model X.prog X.w) X.A X.xe (some (assign (.Name y py) X.env)) (fun _ s' => SP X pins F .next s') (.ref D) ce) (iter := iter) (scope := scope) (pos := pos) (Qd := fun H1 => gName i (.ref D) σ H1 F.nx)
    hc walk still tgt (elx _ out) (fun {H' s'} ib qd => ?_) each I4 t4 free3 w0
  · exact codeAny_compStart_list loop (walk.self X.A 0 _ _ _ t4 loop)
  -- the end: the name is stored, the block let go
  obtain ⟨IX, ⟨c0, c1, c2, c3, c4, c5⟩, m, hn⟩ := back ib
  show wpAny _ _ (assign (.Name y py) X.env (.ref D)) _ _ _
  refine wpAny_assign_Name (store_ok2 (v := V.ref D) IX hN hy (.inl hyl) rfl (fun s5 I5 ⟨a, sb, ha⟩ => ⟨m, hn.sameBut sb ?_, fun h6 sb6 => ⟨_, H', I5.turned (t' := s5.toks) (fun b o hb e => (sb6.2 b hb).trans e) c0 c1 c3 c4 c5, qd⟩⟩) (.inr hyl))
  rcases ha with z | z
  · rw [z]; exact c1
  · exact fun e => c4 y a z e.symm
end
end L2

set_option Elab.async false
set_option linter.all false
set_option maxRecDepth 100000
set_option maxHeartbeats 400000
/-! methods that may raise, called by place with defaults or by keywords -/
namespace Fw
open PySem PySem.Spec PyProof.Rows L2
def tMethSD (C : Addr) (m : Str) (sp : Sp) (dvs : List V) (E : L2.St → XK) (ta : TE) (t : TA) : TE := fun σ H Q => ta σ H fun x H1 => ∃ a dx fs, x = .ref a ∧ H1 a = some (.ins C dx fs) ∧ fs.lookup m = none ∧
  t σ H1 fun vs H2 => sp (x :: (vs ++ dvs)) H2 Q (E σ)
def tMethKS (C : Addr) (m : Str) (n l : Nat) (sp : Sp) (gV : List V → List V → List V) (E : L2.St → XK) (ta : TE) (t tk : TA) : TE := fun σ H Q => ta σ H fun x H1 => ∃ a dx fs, x = .ref a ∧ H1 a = some (.ins C dx fs) ∧ fs.lookup m = none ∧
  t σ H1 fun vs H2 => tk σ H2 fun zs H3 => vs.length = n ∧ zs.length = l ∧ sp (gV (x :: vs) zs) H3 Q (E σ)
section
variable {X : Cx} {CX : CXT} {k n : Nat} {f C : Addr} {fd : FuncData} {ps ks : List Str} {sp : Sp} {E : L2.St → XK} {m : Str} {dvs : List V} {ds : List Value} {apos pos : Pos} {o e : Expr} {es : List Expr} {kws : List Keyword} {ta : TE} {t tk : TA} {g : List Value → List Value → List Value} {gV : List V → List V → List V}
theorem run_fnNS {pins : List (Addr × Obj)} {σ : L2.St} {H : Hp} {s : Shared} {Q : VK} {us ws : List Value} {vs zs : List V} (F : FnOk X.prog X.w X.K X.mg X.base CX k f fd ps sp) (hr : Room k X.A) (hb : KBn X.K fd ps n ks g gV) (hx : PassesAt CX X σ (E σ))
    (I : Inv X pins σ H s) (r : Vals vs us) (rz : Vals zs ws) (l1 : vs.length = n) (l2 : zs.length = ks.length) (h : sp (gV vs zs) H Q (E σ)) : wpAny (model X.prog X.w) X.A (call (.ref f) us (ks.zip ws)) (EP X pins σ Q) X.xe s := by
  have r2 := hb.rel r rz
  refine wpAny_call (codeAny_mono (F.run X.A X.stack s H ⟨us, ks.zip ws⟩ (g us ws) (gV vs zs) Q (E σ) hr I.env0 (hb.to s us ws I.kIn (r.length.symm.trans l1) (rz.length.symm.trans l2)) r2 h) fun r s' hq => ?_)
  cases r with
  | error e => exact hx pins H s e s' I hq
  | ok fl =>
    cases fl with
    | ret u => exact I.after hq
    | next => exact False.elim hq
    | brk => exact False.elim hq
    | cont => exact False.elim hq
/-- o.m(e, ..), which may raise -/
theorem pe_methSD {pl : Sem Bool} (he : PE X o ta) (c : Cls X.K C) (hm : Meth X.K C m f) (F : FnOk X.prog X.w X.K X.mg X.base CX k f fd ps sp) (hr : Room k X.A) (hb : Binds X.K fd ps ds) (hd : Vals dvs ds) (hx : ∀ σ, PassesAt CX X σ (E σ)) (ha : PA X (e :: es) t)
    (hst : starEach (e :: es) X.env = (false, eval e X.env) :: starEach es X.env := by rfl) (hpl : (backTo pos (starEach es X.env)).any (·.1) = false := by rfl)
    (ht : eval (.Call (.Attribute o m apos) (e :: es) [] pos) X.env = (do
      let ov ← eval o X.env
      standAt apos.atName
      let (f, first) ← holding [ov] (getMethod ov m pl)
      callWith pos f first (backTo pos (starEach (e :: es) X.env)) (backToKw pos (keywordEach [] X.env))) := by rfl) :
    PE X (.Call (.Attribute o m apos) (e :: es) [] pos) (tMethSD C m sp dvs E ta t) := by
  refine ⟨fun pins s σ H Q I h => ?_⟩
  refine PySem.W.methodCall_KW (pl := pl) (thn (he.run pins s σ H _ I h) fun u s1 ⟨x, H1, I1, rx, a, dx, fs, ex, ea, l, q⟩ => ?_) ht
  subst ex
  obtain rfl : u = Value.ref a := rx
  refine getmeth_ok I1 ea c hm l ?_
  refine PySem.W.callWith_K (first := [.ref a]) (h₀ := X.base) I.ok.mod.kin hm.kp (thn (ha.run pos pins s1 σ H1 _ I1 q) fun us s2 ⟨vs, H2, I2, r, q2⟩ => ⟨I2.kIn, ?_⟩) hst hpl
  exact run_fnSD (us := .ref a :: us) (vs := .ref a :: vs) F hr hb hd (hx σ) I2 (.cons rfl r) q2
/-- o.m(e, .., k = v, ..), which may raise -/
theorem pe_methKS {pl : Sem Bool} (he : PE X o ta) (c : Cls X.K C) (hm : Meth X.K C m f) (F : FnOk X.prog X.w X.K X.mg X.base CX k f fd ps sp) (hr : Room k X.A) (hb : KBn X.K fd ps (n + 1) ks g gV) (hx : ∀ σ, PassesAt CX X σ (E σ)) (ha : PA X (e :: es) t) (hkw : PK X kws tk)
    (ht : eval (.Call (.Attribute o m apos) (e :: es) kws pos) X.env = (do
      let v ← eval o X.env
      standAt apos.atName
      let (f, first) ← holding [v] (getMethod v m pl)
      callWith pos f first (backTo pos (starEach (e :: es) X.env)) (backToKw pos (keywordEach kws X.env))) := by rfl)
    (hst : starEach (e :: es) X.env = (false, eval e X.env) :: starEach es X.env := by rfl)
    (hall : (backToKw pos (keywordEach kws X.env)).all (·.1.isSome) = true := by rfl) (hks : (backToKw pos (keywordEach kws X.env)).filterMap (·.1) = ks := by rfl)
    (hpl : ((backTo pos (starEach (e :: es) X.env)).any (·.1) || (backToKw pos (keywordEach kws X.env)).any (·.1.isNone)) = false := by rfl) :
    PE X (.Call (.Attribute o m apos) (e :: es) kws pos) (tMethKS C m n ks.length sp gV E ta t tk) := by
  refine ⟨fun pins s σ H Q I h => ?_⟩
  refine PySem.W.methodCall_KW (pl := pl) (thn (he.run pins s σ H _ I h) fun u s1 ⟨x, H1, I1, rx, a, dx, fs, ex, ea, l, q⟩ => ?_) ht
  subst ex
  cases rx
  refine getmeth_ok I1 ea c hm l ?_
  refine PySem.W.callWith_KW (first := [.ref a]) (h₀ := X.base) I1.ok.mod.kin hm.kp hall (thn (ha.run pos pins s1 σ H1 _ I1 q) fun us s2 ⟨vs, H2, I2, r, q1⟩ => thn (hkw.run pos pins s2 σ H2 _ I2 q1) fun ws s3 ⟨zs, H3, I3, rz, l1, l2, q2⟩ => ⟨I3.kIn, ?_⟩) hpl hst
  rw [hks]
  exact run_fnNS (us := .ref a :: us) (vs := .ref a :: vs) F hr hb (hx σ) I3 (.cons rfl r) rz (by rw [List.length_cons, l1]) l2 q2
end
end Fw

set_option Elab.async false
set_option linter.all false
set_option maxRecDepth 100000
set_option maxHeartbeats 2000000
/-! A module's top with one expression in its midst that the kernel can't run (it leans on the world's hashes): real steps ahead of it and behind it, the expression by wp. -/
namespace Fw
open PySem PySem.W PySem.Calls PyProof.Rows
/-! ### real steps -/
section
variable {tb : String → Option Builtin} {p : Program} {w : World} {n₀ : Nat} {ann : Option Value}
theorem go_one {s s' : Shared} {t t' : Thread} (h1 : through t = false) (h2 : stepOk n₀ ann t = true) (h3 : step (denote tb) p w s t = .go s' t') {m : Nat} {r : Shared × Thread} (h : topGo tb p w n₀ ann m s' t' = some r) : topGo tb p w n₀ ann (m + 1) s t = some r := by
  unfold topGo
  rw [h1, h2, h3]
  exact h
/-- one step of a topGo, looked at -/
theorem go_out {s : Shared} {t : Thread} {m : Nat} {r : Shared × Thread} (h : topGo tb p w n₀ ann (m + 1) s t = some r) : through t = false ∧ stepOk n₀ ann t = true ∧ ∃ s' t', step (denote tb) p w s t = .go s' t' ∧ topGo tb p w n₀ ann m s' t' = some r := by
  unfold topGo at h
  cases h1 : through t with
  | true => rw [h1] at h; exact nomatch h
  | false =>
    cases h2 : stepOk n₀ ann t with
    | false => rw [h1, h2] at h; exact nomatch h
    | true =>
      rw [h1, h2] at h
      cases h3 : step (denote tb) p w s t with
      | halt o x => rw [h3] at h; exact nomatch h
      | go s' t' => rw [h3] at h; exact ⟨rfl, rfl, s', t', rfl, h⟩
theorem go_trans : ∀ {n m : Nat} {s s1 : Shared} {t t1 : Thread} {r : Shared × Thread}, topGo tb p w n₀ ann n s t = some (s1, t1) → topGo tb p w n₀ ann m s1 t1 = some r → ∃ k, topGo tb p w n₀ ann k s t = some r
  | 0, m, s, s1, t, t1, r, h, q => by
    cases (show some (s, t) = some (s1, t1) from h)
    exact ⟨m, q⟩
  | n + 1, m, s, s1, t, t1, r, h, q => by
    obtain ⟨h1, h2, s', t', h3, h4⟩ := go_out h
    obtain ⟨k, hk⟩ := go_trans h4 q
    exact ⟨k + 1, go_one h1 h2 h3 hk⟩
/-- what real steps of the top leave alone -/
theorem go_keeps : ∀ {n : Nat} {s s' : Shared} {t t' : Thread}, topGo tb p w n₀ ann n s t = some (s', t') → s'.heap.life = s.heap.life ∧ s'.os = s.os ∧
    ∀ b o, b < n₀ → b ≠ mainNs → b ≠ cStatics → ann ≠ some (.ref b) → s.heap.get? b = some o → s'.heap.get? b = some o
  | 0, s, s', t, t', h => by
    cases (show some (s, t) = some (s', t') from h)
    exact ⟨rfl, rfl, fun _ _ _ _ _ _ e => e⟩
  | n + 1, s, s', t, t', h => by
    obtain ⟨h1, h2, s1, t1, h3, h4⟩ := go_out h
    obtain ⟨l, os, fr⟩ := go_keeps h4
    obtain ⟨hc, hk⟩ := Bool.and_eq_true_iff.mp h2
    refine ⟨l.trans (step_life (denote tb) p w s s1 t t1 h3), os.trans (step_os_same h3 (by revert hk; cases t.cur <;> simp)), fun b o q1 q2 q3 q4 q5 => fr b o q1 q2 q3 q4 ?_⟩
    have e := step_heap (denote tb) p w s s1 t t1 h3
    cases hcur : t.cur with
    | update a _ f _ =>
      rw [hcur] at e hk
      rw [e]
      have ne : b ≠ a := fun z => by
        subst z
        simp only [Bool.or_eq_true, Nat.ble_eq, beq_iff_eq] at hk
        rcases hk with ((z | z) | z) | z
        · omega
        · exact q2 z
        · exact q3 z
        · exact q4 z
      rw [Heap.get?_update_ne _ _ _ _ ne]
      exact q5
    | alloc x _ =>
      rw [hcur] at e
      rw [e]
      exact Heap.get?_push_of_some x q5
    | _ =>
      rw [hcur] at e
      rw [e]
      exact q5
section
variable {α : Type} {B : List Frame} {K' : α → Sem Fin} {H' : Value → Sem Fin} {gd : Bool → Bool} {lv : List Value → List Value} {res : α → Flow}
/-- a piece that comes to its end: the same steps with what stands behind it -/
theorem seg_goes (hB : splitAtGen B = none) : ∀ (n : Nat) {s s' : Shared} {t t' : Thread} {f : Flow} {c' : Code} {p' : Pos}, Rel2 (fun a => .pure (.done (res a))) K' deadEnd H' gd lv B t t' →
    segRun tb p w n₀ ann B.length n s t = some (f, s', c', p') → ∃ a m, res a = f ∧ topGo tb p w n₀ ann m s t' = some (s', ⟨K' a, c', p', B⟩)
  | 0, _, _, _, _, _, _, _, _, h => nomatch (show (none : Option (Flow × Shared × Code × Pos)) = some _ from h)
  | n + 1, s, s', t, t', f, c', p', R, h => by
    obtain ⟨cur, code, pos, st⟩ := t
    obtain ⟨cur', code', pos', st'⟩ := t'
    obtain ⟨ec, ep, R⟩ := R
    dsimp only at ec ep R
    subst ec ep
    replace h : (match endAt B.length ⟨cur, code, pos, st⟩ with
      | some g => some (g, s, code, pos)
      | none => match stepOk n₀ ann ⟨cur, code, pos, st⟩ with
        | false => none
        | true => match step (denote tb) p w s ⟨cur, code, pos, st⟩ with
          | .go s' t' => segRun tb p w n₀ ann B.length n s' t'
          | .halt _ _ => none) = some (f, s', c', p') := h
    cases he : endAt B.length ⟨cur, code, pos, st⟩ with
    | some g =>
      rw [he] at h
      cases h
      rcases R with ⟨u1, u2, x, u3, u4⟩ | ⟨u1, F⟩
      · have v1 := u1.symm
        have v2 := u2.symm
        subst v1 v2 u3 u4
        cases x with
        | pure a =>
          have z : some (res a) = some f := by
            rw [← he]
            simp only [endAt, Sem.wrap, beq_self_eq_true]
          exact ⟨a, 0, Option.some.inj z, rfl⟩
        | _ => exact absurd he (by simp [endAt, Sem.wrap])
      · have e : (st.length == B.length) = false := beq_eq_false_iff_ne.mpr (Nat.ne_of_gt F.longer.1)
        simp only [endAt, e] at he
        exact nomatch he
    | none =>
      rw [he] at h
      cases hk : stepOk n₀ ann ⟨cur, code, pos, st⟩ with
      | false => rw [hk] at h; exact nomatch h
      | true =>
        rw [hk] at h
        cases hs : step (denote tb) p w s ⟨cur, code, pos, st⟩ with
        | halt o x => rw [hs] at h; exact nomatch h
        | go s2 t2 =>
          rw [hs] at h
          have h : segRun tb p w n₀ ann B.length n s2 t2 = some (f, s', c', p') := h
          rcases R with ⟨u1, u2, x, u3, u4⟩ | ⟨u1, F⟩
          · have v1 := u1.symm
            have v2 := u2.symm
            subst v1 v2 u3 u4
            have np : ∀ a, x ≠ .pure a := fun a z => by
              subst z
              simp [endAt, Sem.wrap] at he
            have nr : ∀ e, x ≠ .raise e := fun e z => by
              subst z
              obtain ⟨x1, x2, x3, x4, x5⟩ := s
              simp only [Sem.wrap, step] at hs
              exact nomatch hs
            obtain ⟨k1, k2⟩ := okOuter (K' := K') (H' := H') np nr hk
            obtain ⟨t3, k3, R3⟩ := step_outer (K' := K') (H' := H') hB np hs
            obtain ⟨a, m, ea, hm⟩ := seg_goes hB n R3 h
            exact ⟨a, m + 1, ea, go_one k2 k1 k3 hm⟩
          · subst u1
            obtain ⟨k1, k2⟩ := okInner hB F hk
            obtain ⟨t3, k3, R3⟩ := step_inner hB F hs
            obtain ⟨a, m, ea, hm⟩ := seg_goes hB n R3 h
            exact ⟨a, m + 1, ea, go_one k2 k1 k3 hm⟩
end
end
theorem clean0 : leftWithCleanup (#[] : Array GenState) = false := by simp [leftWithCleanup]
theorem step_halt_done {den : Code → Sem Fin} {p : Program} {w : World} {s S : Shared} {t : Thread} {f : Flow} (h : step den p w s t = .halt (.done f) S) : through t = true := by
  obtain ⟨heap, gens, drawn, toks, os⟩ := s
  obtain ⟨cur, code, pos, stack⟩ := t
  cases cur <;> simp only [step, finish] at h <;> (repeat' split at h) <;> simp_all [through]
/-! ### a run that ends -/
section
variable {p : Program} {w : World} {n₀ : Nat} {ann : Option Value}
/-- the run from here ends, at S, each thread on the way calm -/
def Halts (p : Program) (w : World) (s : Shared) (t : Thread) (S : Shared) : Prop :=
  ∃ n f, runN (denote table) p w n s t = .halted (.done f) S ∧ ∀ k s1 t1, runN (denote table) p w k s t = .running s1 t1 → t1.calm = true
theorem halts_step {s s' S : Shared} {t t' : Thread} (hc : t.calm = true) (hs : step (denote table) p w s t = .go s' t') (h : Halts p w s' t' S) : Halts p w s t S := by
  obtain ⟨n, f, h1, h2⟩ := h
  refine ⟨n + 1, f, by simp only [runN, hs]; exact h1, fun k s1 t1 q => ?_⟩
  cases k with
  | zero => cases (show Run.running s t = .running s1 t1 from q); exact hc
  | succ k =>
    simp only [runN, hs] at q
    exact h2 k s1 t1 q
theorem halts_go : ∀ {m : Nat} {s s' S : Shared} {t t' : Thread}, topGo table p w n₀ ann m s t = some (s', t') → Halts p w s' t' S → Halts p w s t S
  | 0, s, s', S, t, t', h, q => by
    cases (show some (s, t) = some (s', t') from h)
    exact q
  | m + 1, s, s', S, t, t', h, q => by
    obtain ⟨h1, h2, s1, t1, h3, h4⟩ := go_out h
    exact halts_step (Bool.and_eq_true_iff.mp h2).1 h3 (halts_go h4 q)
theorem halts_through {s : Shared} {t : Thread} (h : through t = true) (hg : s.gens = #[]) : Halts p w s t s := by
  obtain ⟨cur, code, pos, st⟩ := t
  obtain ⟨h1, h2⟩ := Bool.and_eq_true_iff.mp h
  have h1 : st = [] := List.isEmpty_iff.mp h1
  subst h1
  cases cur with
  | pure fin =>
    cases fin with
    | done f =>
      obtain ⟨hp, gs, d, tk, os⟩ := s
      have hg : gs = #[] := hg
      subst hg
      have e : step (denote table) p w ⟨hp, #[], d, tk, os⟩ ⟨.pure (.done f), code, pos, []⟩ = .halt (.done f) ⟨hp, #[], d, tk, os⟩ := by
        show finish (.done f) ⟨hp, #[], d, tk, os⟩ = _
        unfold finish
        rw [if_neg (by rw [clean0]; exact Bool.false_ne_true)]
      refine ⟨1, f, by simp only [runN, e], fun k s1 t1 q => ?_⟩
      cases k with
      | zero =>
        cases (show Run.running _ _ = .running s1 t1 from q)
        rfl
      | succ k =>
        simp only [runN, e] at q
        exact nomatch q
    | again c => exact nomatch h2
  | _ => exact nomatch h2
theorem halts_top : ∀ {N : Nat} {s S : Shared} {t : Thread}, topRun table p w n₀ ann N s t = some S → S.gens = #[] → Halts p w s t S
  | 0, _, _, _, h, _ => nomatch (show (none : Option Shared) = some _ from h)
  | N + 1, s, S, t, h, hg => by
    unfold topRun at h
    cases h1 : through t with
    | true =>
      rw [h1] at h
      cases (show some s = some S from h)
      exact halts_through h1 hg
    | false =>
      cases h2 : stepOk n₀ ann t with
      | false => rw [h1, h2] at h; exact nomatch h
      | true =>
        rw [h1, h2] at h
        cases h3 : step (denote table) p w s t with
        | halt o x => rw [h3] at h; exact nomatch h
        | go s' t' =>
          rw [h3] at h
          exact halts_step (Bool.and_eq_true_iff.mp h2).1 h3 (halts_top h hg)
theorem forget_bare {s S : Shared} (h : s.forget = S.forget) (hg : S.gens = #[]) : s = S := by
  obtain ⟨hp, gs, d, tk, os⟩ := s
  obtain ⟨hp', gs', d', tk', os'⟩ := S
  have hg : gs' = #[] := hg
  subst hg
  have h : (⟨hp, gs.map GenState.forget, d, tk, os⟩ : Shared) = ⟨hp', #[], d', tk', os'⟩ := by
    have z : (⟨hp, gs.map GenState.forget, d, tk, os⟩ : Shared) = ⟨hp', (#[] : Array GenState).map GenState.forget, d', tk', os'⟩ := h
    rw [z, Array.map_empty]
  injection h with h1 h2 h3 h4 h5
  have hz : gs = #[] := by
    have := congrArg Array.size h2
    simp only [Array.size_map] at this
    exact Array.eq_empty_of_size_eq_zero this
  subst h1 h3 h4 h5 hz
  rfl
theorem halts_runs {s S : Shared} {cur : Sem Fin} {c : Code} {pos : Pos} {st : List Frame} (h : Halts p w s ⟨cur, c, pos, st⟩ S) (hg : S.gens = #[]) : ∃ f, Runs (model p w) ⟨c, none, none, [], none⟩ pos cur st s (.ret (.ok f)) S := by
  obtain ⟨n, f, h1, h2⟩ := h
  obtain ⟨s', h3, h4⟩ := runN_calm_runNI (denote table) p w h1 h2
  have e := forget_bare (s := s') (S := S) (by first | exact h4 | exact h4.symm) hg
  subst e
  exact ⟨f, (halts_iff (M := model p w) (r := .ok f)).mp ⟨n, h3⟩ |>.1⟩
theorem runs_halts {s S : Shared} {cur : Sem Fin} {c : Code} {pos : Pos} {st : List Frame} {f : Flow} (h : Runs (model p w) ⟨c, none, none, [], none⟩ pos cur st s (.ret (.ok f)) S) (hg : S.gens = #[]) : Halts p w s ⟨cur, c, pos, st⟩ S := by
  have hl : leftWithCleanup S.gens = false := by rw [hg]; exact clean0
  obtain ⟨n, hn⟩ := (halts_iff (M := model p w) (r := .ok f)).mpr ⟨h, hl⟩
  obtain ⟨s'', h1, h2, h3⟩ := runNI_real (denote table) p w (show runNI (denote table) p w n s ⟨cur, c, pos, st⟩ = .halted (.done f) S from hn) rfl
  have e := forget_bare h2 hg
  subst e
  exact ⟨n, f, h1, h3⟩
/-- an expression by wp, with what stands behind it -/
theorem halts_mid {α : Type} {m : Sem α} {K : α → Sem Fin} {H : Value → Sem Fin} {gd : Bool → Bool} {lv : List Value → List Value} {s S : Shared} {c : Code} {pos : Pos} {B : List Frame} {Q : α → Pos → Shared → Prop} (hg : S.gens = #[])
    (hw : Sem.wp (model p w) ((⟨c, none, none, [], none⟩ : Ctx).over B) m Q (fun _ _ _ => False) pos s) (hk : ∀ a p' s', Q a p' s' → Halts p w s' ⟨K a, c, p', B⟩ S) : Halts p w s ⟨m.wrap K H gd lv, c, pos, B⟩ S := by
  obtain ⟨e, s'', hr, f, he, hS⟩ := runs_wrap_of_wp (M := model p w) (Γ := ⟨c, none, none, [], none⟩) (fs := B) (Φ := fun e s'' => ∃ f, e = .ret (.ok f) ∧ s'' = S) K H gd lv m hw
    (fun a p' s' q => by
      obtain ⟨f, r⟩ := halts_runs (hk a p' s' q) hg
      exact ⟨_, _, r, f, rfl, rfl⟩) (fun _ _ _ q => q.elim)
  subst he hS
  exact runs_halts hr hg
/-- the end, seen by the scheduler -/
theorem halts_sched {s S : Shared} {t : Thread} (h : Halts p w s t S) (hr : s.asleep) : ∃ n t', schedN (denote table) p w n (.single s t) = .running (.single S t') ∧ through t' = true := by
  obtain ⟨n, f, h1, h2⟩ := h
  have last : ∀ (n : Nat) (s : Shared) (t : Thread), runN (denote table) p w n s t = .halted (.done f) S → ∃ k s' t', runN (denote table) p w k s t = .running s' t' ∧ step (denote table) p w s' t' = .halt (.done f) S := by
    intro n
    induction n with
    | zero => intro s t h; exact nomatch h
    | succ n ih =>
      intro s t h
      cases hs : step (denote table) p w s t with
      | go s' t' =>
        simp only [runN, hs] at h
        obtain ⟨k, s1, t1, q1, q2⟩ := ih s' t' h
        exact ⟨k + 1, s1, t1, by simp only [runN, hs]; exact q1, q2⟩
      | halt o s' =>
        simp only [runN, hs] at h
        cases h
        exact ⟨0, s, t, rfl, hs⟩
  obtain ⟨k, s', t', q1, q2⟩ := last n s t h1
  have e := step_halt_same (denote table) p w s' S t' _ q2
  subst e
  refine ⟨k, t', ?_, ?_⟩
  · have goes : ∀ (k j : Nat) (s : Shared) (t : Thread) (s1 : Shared) (t1 : Thread), j < k → (∃ s2 t2, runN (denote table) p w k s t = .running s2 t2) → runN (denote table) p w j s t = .running s1 t1 → ∃ s3 t3, step (denote table) p w s1 t1 = .go s3 t3 := by
      intro k
      induction k with
      | zero => intro j s t s1 t1 hj; omega
      | succ k ih =>
        intro j s t s1 t1 hj ⟨s2, t2, r⟩ q
        cases hs : step (denote table) p w s t with
        | halt o x => simp only [runN, hs] at r; exact nomatch r
        | go s' t' =>
          cases j with
          | zero =>
            cases (show Run.running s t = .running s1 t1 from q)
            exact ⟨s', t', hs⟩
          | succ j =>
            simp only [runN, hs] at r q
            exact ih j s' t' s1 t1 (by omega) ⟨s2, t2, r⟩ q
    rw [schedN_prefix (denote table) p w k s t hr fun j s1 t1 hj r => ⟨h2 j s1 t1 r, fun z => by
      obtain ⟨s3, t3, q3⟩ := goes k j s t s1 t1 hj ⟨_, _, q1⟩ r
      rw [q3] at z
      exact nomatch z⟩, q1]
    rfl
  · exact step_halt_done q2
end
end Fw

set_option Elab.async false
set_option linter.all false
set_option maxRecDepth 100000
set_option maxHeartbeats 2000000
/-! An open row from its top, world by world: the top's end is told for each world by itself, no bound of steps is asked. -/
namespace Fw
open PySem PySem.W PySem.Calls PyProof.Rows HandSHeadRun
/-- the top's end at a world -/
structure TopEnd (p q : Program) (loose : List Str) (Xt : Shared → Bool) {α : Type} (Yf : Shared → α) (Ya : World → α) (w : World) (s₀ s₁ : Shared) : Prop where
  run : Halts p w s₀ (topStub p) s₁
  ns : s₀.heap.isNs mainGlobals = true
  g0 : s₀.gens = #[]
  g1 : s₁.gens = #[]
  life : s₁.heap.life = s₀.heap.life
  os : s₁.os = s₀.os
  keeps : ∀ b o, b < s₀.heap.objs.size → b ≠ mainNs → b ≠ cStatics → s₀.heap.nsMap mainGlobals "__annotations__" ≠ some (.ref b) → s₀.heap.get? b = some o → s₁.heap.get? b = some o
  looks : looksF p s₀.heap s₁ = true
  seen : openSeen q loose (importedModules p.main.body) Xt true s₁ = openGood q loose
  obs : Yf s₁ = Ya w
def TopsE (p q : Program) (loose : List Str) (Xt : Shared → Bool) {α : Type} (Yf : Shared → α) (Ya : World → α) : Prop :=
  ∀ w : World, ∃ (N : Nat) (s₀ s₁ : Shared), fencedOpening table p w N = some s₀ ∧ TopEnd p q loose Xt Yf Ya w s₀ s₁
section
variable {p q : Program} {loose : List Str} {Xt : Shared → Bool} {XP : (Str → Option Value) → Heap → Prop} {α : Type} {Yf : Shared → α} {Ya : World → α}
/-- what stands behind the top -/
structure Stands (p q : Program) (loose : List Str) (XP : (Str → Option Value) → Heap → Prop) (w : World) (a b : Shared) : Prop where
  ran : TopRan p w a b
  sleeps : b.asleep
  bare : b.gens = #[]
  ns : b.heap.isNs mainGlobals = true
  gr : Ground q loose [] XP w b (b.heap.nsMap mainGlobals) (b.heap.nsMap builtinsNs) b.heap
theorem stands (T : TopsE p q loose Xt Yf Ya) (hX : ∀ s, Xt s = true → XP (s.heap.nsMap mainGlobals) s.heap) (hch : chainsOk q = true) (w : World) :
    (∃ s, AfterRun (opening p) w s) ∧ ∀ s, AfterRun (opening p) w s → ∃ a, fenceModules? p s = some a ∧ a.gens = #[] ∧ ∃ b, Stands p q loose XP w a b ∧ Yf b = Ya w := by
  obtain ⟨N, a, b, hf, E⟩ := T w
  obtain ⟨s, hi, hfe⟩ := Option.bind_eq_some_iff.mp hf
  have A := AfterImport.of_importEnds hi
  refine ⟨⟨s, A⟩, fun s' hs' => ?_⟩
  have es : s' = s := AfterImport.unique hs' A
  subst es
  have za : a.asleep := Shared.asleep_of_life (fence_lifeW hfe) A.life
  have lk : (staticsOk (importedModules p.main.body) a.heap b.heap && namesBound p b.heap && gensDone b && laidKept a.heap b.heap) = true := E.looks
  obtain ⟨lk, k4⟩ := Bool.and_eq_true_iff.mp lk
  obtain ⟨lk, k3⟩ := Bool.and_eq_true_iff.mp lk
  obtain ⟨k1, k2⟩ := Bool.and_eq_true_iff.mp lk
  obtain ⟨G, _, hns, c1, c2, c3, c4⟩ := ground_of_open (w := w) hX hch E.seen
  refine ⟨a, hfe, E.g0, b, ⟨⟨halts_sched E.run za, E.life, Shared.rest_eq E.os, fun x o hx nx => ?_, c1, statics_of_ok k1, c2, c3, c4, gens_of_done k3, names_of_bound k2, laid_of_kept k4⟩, Shared.asleep_of_life E.life za, E.g1, hns, G⟩, E.obs⟩
  exact E.keeps x o (Heap.lt_size hx) (fun z => nx (.inl z)) (fun z => nx (.inr (.inl z))) (fun z => nx (.inr (.inr ((Pin.globalOf_eq E.ns _).trans z)))) hx
end
/-- the row, from its top's ends and the walk of its call -/
theorem holdsE {r : OpenRow} {q : Program} {loose : List Str} {Xt : Shared → Bool} {XP : (Str → Option Value) → Heap → Prop} {H : Hook} {d : DefRec} {kwd : List (Str × Expr)}
    (T : TopsE r.prog q loose Xt H.obs H.val) (hX : ∀ s, Xt s = true → XP (s.heap.nsMap mainGlobals) s.heap) (hXk : ∀ mg h h', XP mg h → (∀ b o, h.get? b = some o → h'.get? b = some o) → XP mg h')
    (hdef : defOf q r.name = some (d, kwd)) (hp : r.prog.theDef r.name = some (d.params, d.body, d.scope)) (hk : kwWritten? d.params.kwonlyargs d.params.kw_defaults = some kwd) (hRf : ∀ s, Xt s = true → RecFacts r.records s.heap)
    (hwr : (!r.writes || r.records.isEmpty) = true) (k1 : r.wellSaid = true) (ok : (chainsOk q && opensWell r.prog && (frees r.toRowW && r.within.isEmpty)) = true) (hb : r.prog.bare) (hw : r.toRowW.promised)
    (call : WalkO q loose XP H.says r.toRowW d kwd fun f vs => PySem.call f vs) : r.Holds := by
  obtain ⟨ok12, ok34⟩ := Bool.and_eq_true_iff.mp ok
  obtain ⟨hch, opens⟩ := Bool.and_eq_true_iff.mp ok12
  obtain ⟨ok3, ok4⟩ := Bool.and_eq_true_iff.mp ok34
  obtain ⟨hsame, hu, ha, hap, hm⟩ := frees_parts ok3
  refine ⟨k1, hw, ⟨hb, opens, by show r.toRowW.makers.map _ = []; rw [hm]; rfl⟩, hw.witness, fun w => ⟨(stands T hX hch w).1, fun s' hs' => ?_⟩⟩
  obtain ⟨a, hf, ga, b, S, y⟩ := (stands (XP := fun mg h => XP mg h ∧ RecFacts r.toRowW.records h) T (fun s hs => ⟨hX s hs, hRf s hs⟩) hch w).2 s' hs'
  have G2 := S.gr
  have RF := G2.X.2
  have G1 : Ground q loose [] XP w b (b.heap.nsMap mainGlobals) (b.heap.nsMap builtinsNs) b.heap :=
    ⟨G2.T, G2.B, G2.D, G2.TE, G2.TD, G2.W, G2.X.1, G2.cls, G2.has, G2.apart, G2.once, G2.K⟩
  refine ⟨a, hf, ga, b, S.ran, fun n hn => ?_, RF.1, RF.2.1, ?_⟩
  · have en : n = r.name := by
      split at hn <;> simp_all
    subst en
    exact pinned_of_view S.ns G1 hdef hp hk
  have G := RF.ground (R := r.toRowW.records) G1
  refine ClaimW.callFrom_of_specG (c := r.toRowW.claim) S.sleeps S.bare fun args hpre hlay ord hord => ?_
  obtain ⟨⟨vs, s₁⟩, laid⟩ := Option.isSome_iff_exists.mp (layAllW_isSome (P := w.params) (ord := ord) G.has args r.toRowW.args b (pre_splitW hpre).1)
  have keeps := layAllW_keeps _ _ _ laid
  have rest := layAllW_rest _ _ _ laid
  obtain ⟨as, hrd, hin, hold⟩ := reads_layAllW hord _ _ _ laid hlay s₁.heap (fun _ _ e => e)
  have L : Laid r.toRowW.records w b s₁ args vs as := ⟨⟨ord, hord, laid⟩, hrd, hin, hold, keeps, rest.1.trans S.bare, rest.2.2.1⟩
  have Gk := G.keeps hXk keeps
  obtain ⟨fa, o, pm, cd, doc, dV, kV, h1, h2, h3, h4, h5⟩ := Gk.fn hdef
  have W := call w b s₁ _ _ Gk (H.keeps _ _ _ (H.of w b y) keeps) fa o pm cd doc dV kV h2 h3 h4 h5 (defOf_name hdef ▸ h1) L.gens args vs as hpre hlay L.reads L.well (L.low G.low)
  have idf := ident_freeW hu ha hap
  have wi : r.toRowW.claim.within = [] := List.isEmpty_iff.mp ok4
  refine ⟨vs, s₁, laid, wpAny_bind (wpAny_nsGet Gk.T.g ?_)⟩
  rw [h1]
  refine wpAny_bind (wpAny_mono W (fun v s' g => ?_) fun e s' g => ?_)
  · have z := g.laid (c := r.toRowW.claim) hsame wi idf L
    exact wpAny_pure ⟨_, rfl, z.1, z.2.1, z.2.2, fun qq => ⟨namesKept_of S.ran S.ns r.keeps keeps g.2.1.old, noTable hwr qq⟩⟩
  · have z := g.laid (c := r.toRowW.claim) hsame wi idf L
    exact ⟨z.1, z.2.1, z.2.2, fun qq => ⟨namesKept_of S.ran S.ns r.keeps keeps g.2.1.old, noTable hwr qq⟩⟩
end Fw

set_option Elab.async false
set_option linter.all false
set_option maxRecDepth 100000
set_option maxHeartbeats 2000000
/-! A display of 18 pairs whose keys are tuples of two texts, whose values are tuples of texts: what it leaves, object by object. -/
namespace Fw
open PySem PySem.W PySem.Calls PyProof.Rows
abbrev PK : Type := Str × Str × List Str
def key (p : PK) : List Str := [p.1, p.2.1]
def toksV : Nat → List Str → List Value
  | _, [] => []
  | t, x :: r => .str x t :: toksV (t + 1) r
/-- a tuple of texts, their tokens from t on -/
def tO (t : Nat) (zs : List Str) : Obj := { cls := .type "tuple", data := .seq (toksV t zs).toArray }
def dO (es : List DictEntry) : Obj := { cls := .type "dict", data := .dict es.toArray es.length }
def lo : Nat → List PK → List Obj
  | _, [] => []
  | t, p :: r => tO t (key p) :: tO (t + 2) p.2.2 :: lo (t + p.2.2.length + 5) r
def lt : Nat → List PK → Nat
  | t, [] => t
  | t, p :: r => lt (t + p.2.2.length + 5) r
def lx : Nat → List PK → List (List Str × Addr × Value)
  | _, [] => []
  | a, p :: r => (key p, a, .ref (a + 1)) :: lx (a + 2) r
theorem lo_app : ∀ (a b : List PK) (t : Nat), lo t (a ++ b) = lo t a ++ lo (lt t a) b
  | [], _, _ => rfl
  | p :: a, b, t => by
    show _ :: _ :: lo _ (a ++ b) = _
    rw [lo_app a b]
    rfl
theorem lt_app : ∀ (a b : List PK) (t : Nat), lt t (a ++ b) = lt (lt t a) b
  | [], _, _ => rfl
  | p :: a, b, t => lt_app a b _
theorem lo_len : ∀ (a : List PK) (t : Nat), (lo t a).length = 2 * a.length
  | [], _ => rfl
  | p :: a, t => by
    show (lo _ a).length + 1 + 1 = 2 * (a.length + 1)
    rw [lo_len a]
    omega
theorem lx_app : ∀ (a b : List PK) (i : Nat), lx i (a ++ b) = lx i a ++ lx (i + 2 * a.length) b
  | [], _, _ => rfl
  | p :: a, b, i => by
    show _ :: lx (i + 2) (a ++ b) = _
    rw [lx_app a b, show i + 2 + 2 * a.length = i + 2 * (p :: a).length by rw [List.length_cons]; omega]
    rfl
theorem lx_keys : ∀ (a : List PK) (i : Nat), (lx i a).map (·.1) = a.map key
  | [], _ => rfl
  | p :: a, i => by
    show _ :: (lx _ a).map _ = _
    rw [lx_keys a]
    rfl
theorem lx_len : ∀ (a : List PK) (i : Nat), (lx i a).length = a.length
  | [], _ => rfl
  | p :: a, i => congrArg (· + 1) (lx_len a _)
/-! ### a heap with objects behind -/
def ext (h : Heap) (l : List Obj) : Heap := ⟨h.objs ++ l.toArray, h.life⟩
theorem ext_nil (h : Heap) : ext h [] = h := by
  obtain ⟨o, l⟩ := h
  show (⟨o ++ ([] : List Obj).toArray, l⟩ : Heap) = ⟨o, l⟩
  rw [show o ++ ([] : List Obj).toArray = o by simp]
theorem ext_push (h : Heap) (l : List Obj) (o : Obj) : (ext h l).push o = ext h (l ++ [o]) := by
  show (⟨(h.objs ++ l.toArray).push o, h.life⟩ : Heap) = ⟨h.objs ++ (l ++ [o]).toArray, h.life⟩
  rw [show (h.objs ++ l.toArray).push o = h.objs ++ (l ++ [o]).toArray by simp]
theorem ext_size (h : Heap) (l : List Obj) : (ext h l).objs.size = h.objs.size + l.length := by
  show (h.objs ++ l.toArray).size = _
  simp
theorem ext_get {h : Heap} {l : List Obj} {i : Nat} {o : Obj} (e : l[i]? = some o) (ho : ∀ c d s, o ≠ ⟨c, d, .freed, s⟩) : (ext h l).get? (h.objs.size + i) = some o := by
  have g : (h.objs ++ l.toArray)[h.objs.size + i]? = some o := by
    rw [Array.getElem?_append_right (by omega), show h.objs.size + i - h.objs.size = i by omega]
    simpa using e
  unfold Heap.get? ext
  rw [g]
  obtain ⟨c, d, dt, s⟩ := o
  cases dt <;> first | rfl | exact absurd rfl (ho c d s)
theorem ext_upd (h : Heap) (o : Obj) (l : List Obj) (f : Obj → Obj) : (ext h (o :: l)).update h.objs.size f = ext h (f o :: l) := by
  show (⟨(h.objs ++ (o :: l).toArray).modify h.objs.size f, h.life⟩ : Heap) = ⟨h.objs ++ (f o :: l).toArray, h.life⟩
  congr 1
  apply Array.ext_getElem?
  intro i
  rw [Array.getElem?_modify]
  by_cases e : h.objs.size = i
  · subst e
    rw [if_pos rfl, Array.getElem?_append_right (Nat.le_refl _), Array.getElem?_append_right (Nat.le_refl _)]
    simp
  · rw [if_neg e]
    by_cases q : i < h.objs.size
    · rw [Array.getElem?_append_left q, Array.getElem?_append_left q]
    · rw [Array.getElem?_append_right (by omega), Array.getElem?_append_right (by omega)]
      obtain ⟨k, hk⟩ : ∃ k, i - h.objs.size = k + 1 := ⟨i - h.objs.size - 1, by omega⟩
      rw [hk]
      simp
section
variable {prog : Program} {w : World} {A : Around} {E : Value → Shared → Prop} {env : Env}
theorem items_of : ∀ (zs : List Str) (t : Nat), ItemsAre (strKind prog w) zs (toksV t zs)
  | [], _ => .nil
  | x :: r, t => .cons (by show Value.isStrOf x (.str x t) = true; simp [Value.isStrOf]) (items_of r (t + 1))
theorem tO_key {h : Heap} {l : List Obj} {i t : Nat} {zs : List Str} (e : l[i]? = some (tO t zs)) : IsTupleKey (strKind prog w) (ext h l) zs (h.objs.size + i) :=
  ⟨_, _, _, ext_get e (fun c d s z => by injection z with _ _ z _; exact nomatch z), rfl, rfl, by simpa using items_of zs t⟩
theorem lx_is {h : Heap} {l : List Obj} : ∀ (L : List PK) (t i : Nat), (∀ j o, (lo t L)[j]? = some o → l[i + j]? = some o) → ∀ x ∈ lx (h.objs.size + i) L, IsTupleKey (strKind prog w) (ext h l) x.1 x.2.1
  | [], _, _, _, x, hx => nomatch hx
  | p :: r, t, i, hl, x, hx => by
    rcases List.mem_cons.mp hx with z | z
    · subst z
      exact tO_key (hl 0 _ rfl)
    · refine lx_is r (t + p.2.2.length + 5) (i + 2) (fun j o e => ?_) x z
      rw [show i + 2 + j = i + (j + 2) by omega]
      exact hl (j + 2) o e
/-- texts, written -/
inductive CS : List Expr → List Str → Prop where
  | nil : CS [] []
  | cons {x : Str} {k : Nat} {pos : Pos} {es : List Expr} {zs : List Str} : CS es zs → CS (.Constant (.str x) k pos :: es) (x :: zs)
theorem wp_items {pos : Pos} : ∀ {es : List Expr} {zs : List Str} {s : Shared} {Q : List Value → Shared → Prop}, CS es zs → Q (toksV s.toks zs) { s with toks := s.toks + zs.length } → wpAny (model prog w) A (spliced (backTo pos (starEach es env))) Q E s
  | _, _, s, Q, .nil, h => wpAny_items_nil h
  | _, _, s, Q, .cons (zs := zs) c, h => wpAny_items_cons (wpAny_Constant_str (wp_items c (by
      show Q (_ :: toksV (s.toks + 1) zs) { s with toks := s.toks + 1 + zs.length }
      rw [show s.toks + 1 + zs.length = s.toks + (zs.length + 1) by omega]
      exact h)))
theorem toksV_len : ∀ (zs : List Str) (t : Nat), (toksV t zs).length = zs.length
  | [], _ => rfl
  | x :: r, t => congrArg (· + 1) (toksV_len r _)
theorem wp_tuple {es : List Expr} {zs : List Str} {k : Nat} {pos : Pos} {s : Shared} {Q : Value → Shared → Prop} (c : CS es zs) (hz : zs.length ≤ 100) (h : Q (.ref s.heap.objs.size) { s with heap := s.heap.push (tO s.toks zs), toks := s.toks + zs.length }) :
    wpAny (model prog w) A (eval (.Tuple es k pos) env) Q E s :=
  wpAny_Tuple (wp_items c ⟨by rw [toksV_len]; exact Nat.le_trans hz (by decide), h⟩)
/-- the pairs, as they are evaluated -/
inductive PairsAre (env : Env) (pos : Pos) : List (Sem Value × Sem Value) → List PK → Prop where
  | nil : PairsAre env pos [] []
  | cons {ke ve : List Expr} {kk vk : Nat} {kp vp : Pos} {p : PK} {ps : List (Sem Value × Sem Value)} {r : List PK} : CS ke (key p) → CS ve p.2.2 → p.2.2.length ≤ 100 → PairsAre env pos ps r →
    PairsAre env pos ((eval (.Tuple ke kk kp) env, (do let x ← eval (.Tuple ve vk vp) env; standAt pos; pure x)) :: ps) (p :: r)
/-- the state behind some of the pairs: the dict first, then keys and values -/
def mid (w : World) (prog : Program) (s : Shared) (L : List PK) : Shared := { s with heap := ext s.heap (dO ((lx (s.heap.objs.size + 1) L).map (entryOfKey (tupleKind (strKind prog w)))) :: lo s.toks L), toks := lt s.toks L }
/-- d[k] = v of a new key: the entry is the last -/
theorem wp_new {s : Shared} {L : List PK} {p : PK} {h : Heap} {t : Nat} {Q : Unit → Shared → Prop} (hu : A.units < cLine) (hs : s.heap = ext h (dO ((lx (h.objs.size + 1) L).map (entryOfKey (tupleKind (strKind prog w)))) :: lo t (L ++ [p])))
    (hn : ((L ++ [p]).map key).Nodup) (hz : L.length ≤ 1000) (q : Q () { s with heap := ext h (dO ((lx (h.objs.size + 1) (L ++ [p])).map (entryOfKey (tupleKind (strKind prog w)))) :: lo t (L ++ [p])), toks := s.toks + 3 }) :
    wpAny (model prog w) A (dictSet h.objs.size (.ref (h.objs.size + 1 + 2 * L.length)) (.ref (h.objs.size + 1 + 2 * L.length + 1))) Q E s := by
  obtain ⟨hp, g, d, tk, os⟩ := s
  have hs : hp = _ := hs
  have is : ∀ x ∈ lx (h.objs.size + 1) (L ++ [p]), IsTupleKey (strKind prog w) hp x.1 x.2.1 := by
    rw [hs]
    exact lx_is (L ++ [p]) t 1 fun j o e => by rw [show 1 + j = j + 1 by omega]; exact e
  have mine : IsTupleKey (strKind prog w) hp (key p) (h.objs.size + 1 + 2 * L.length) := is (key p, _, _) (by
    rw [lx_app]
    exact List.mem_append_right _ (List.mem_cons_self ..))
  have hd : hp.get? h.objs.size = some (dO ((lx (h.objs.size + 1) L).map (entryOfKey (tupleKind (strKind prog w))))) := by
    rw [hs]
    exact ext_get (h := h) (i := 0) rfl (fun c d s z => by injection z with _ _ z _; exact nomatch z)
  have nk : ∀ (j : Nat) (x : Addr × Value), (lx (h.objs.size + 1) L)[j]? ≠ some (key p, x) := fun j x z => by
    rw [List.map_append, List.nodup_append] at hn
    have m1 : key p ∈ L.map key := by
      rw [← lx_keys L (h.objs.size + 1)]
      exact List.mem_map.mpr ⟨_, List.mem_of_getElem? z, rfl⟩
    exact hn.2.2 _ m1 _ (List.mem_singleton.mpr rfl) rfl
  unfold dictSet
  try with_reducible refine wpAny_holding ?_
  refine wpAny_bind ((tupleKind (strKind prog w)).pyHash hu mine ?_)
  unfold dictSetHashed
  try with_reducible refine wpAny_holding ?_
  refine wpAny_bind (wpAny_dictFind_heap (knd := tupleKind (strKind prog w)) (s := ⟨hp, g, d, tk + 3, os⟩) hu mine hd rfl (by simp) (fun x hx => is x (by rw [lx_app]; exact List.mem_append_left _ hx)) (by
    rw [lx_keys]
    rw [List.map_append, List.nodup_append] at hn
    exact hn.1) (fun _ => ?_) fun j x z => absurd z (nk j x))
  refine wpAny_bind (wpAny_rule (wpAny_updateDictKeys (s := ⟨hp, g, d, tk + 3, os⟩) hd rfl ?_ (by
    rw [List.size_toArray, List.length_map, lx_len]
    exact Nat.le_trans hz (by decide))))
  have e : hp.update h.objs.size (Obj.mapDictKeys fun es => es.push ⟨(tupleKind (strKind prog w)).hash (key p), .ref (h.objs.size + 1 + 2 * L.length), .ref (h.objs.size + 1 + 2 * L.length + 1)⟩) = ext h (dO ((lx (h.objs.size + 1) (L ++ [p])).map (entryOfKey (tupleKind (strKind prog w)))) :: lo t (L ++ [p])) := by
    rw [hs, ext_upd]
    congr 2
    rw [lx_app, List.map_append]
    show (⟨_, _, _, _⟩ : Obj) = ⟨_, _, _, _⟩
    simp [dO, Obj.mapDictKeys, lx, entryOfKey]
  rw [e]
  exact q
/-- pair by pair -/
theorem wp_long {pos : Pos} {s : Shared} (hu : A.units < cLine) : ∀ (rest done : List PK) (pairs : List (Sem Value × Sem Value)) (Q : PUnit → Shared → Prop), PairsAre env pos pairs rest → ((done ++ rest).map key).Nodup → (done ++ rest).length ≤ 1000 → Q PUnit.unit (mid w prog s (done ++ rest)) →
    wpAny (model prog w) A (forIn pairs PUnit.unit fun (x : Sem Value × Sem Value) (_ : PUnit) => (do let kv ← x.1; let vv ← holding [kv] x.2; holding [kv, vv] (dictSet s.heap.objs.size kv vv); pure (ForInStep.yield PUnit.unit) : Sem (ForInStep PUnit))) Q E (mid w prog s done)
  | _, done, _, Q, .nil, _, _, q => by
    rw [List.append_nil] at q
    rw [List.forIn_nil]
    exact wpAny_pure q
  | _, done, _, Q, .cons (ke := ke) (ve := ve) (kk := kk) (vk := vk) (kp := kp) (vp := vp) (p := p) (ps := ps) (r := r) c1 c2 c3 c4, hn, hl, q => by
    rw [List.forIn_cons]
    dsimp only
    have ed : done ++ p :: r = (done ++ [p]) ++ r := by simp
    rw [ed] at hn hl q
    have hl' : (done ++ [p]).length ≤ 1000 := Nat.le_trans (by rw [List.length_append (as := done ++ [p])]; exact Nat.le_add_right _ _) hl
    have hn' : ((done ++ [p]).map key).Nodup := by
      rw [List.map_append] at hn
      exact (List.nodup_append.mp hn).1
    refine wpAny_bind (wpAny_bind (wp_tuple (k := kk) (pos := kp) c1 (by show 2 ≤ 100; decide) (wpAny_bind (wpAny_holding (wpAny_bind (wp_tuple (k := vk) (pos := vp) c2 c3 (wpAny_bind (wpAny_standAt (wpAny_pure ?_)))))))))
    have es : s.heap.objs.size + 1 + 2 * done.length = (mid w prog s done).heap.objs.size := by
      show _ = (ext s.heap _).objs.size
      rw [ext_size, List.length_cons, lo_len]
      omega
    have e2 : ∀ o, ((mid w prog s done).heap.push o).objs.size = s.heap.objs.size + 1 + 2 * done.length + 1 := fun o => by
      rw [Heap.size_push, es]
    have e1 : (ext s.heap (dO ((lx (s.heap.objs.size + 1) done).map (entryOfKey (tupleKind (strKind prog w)))) :: lo s.toks done)).objs.size = s.heap.objs.size + 1 + 2 * done.length := es.symm
    have eo : lo s.toks (done ++ [p]) = lo s.toks done ++ [tO (lt s.toks done) (key p)] ++ [tO (lt s.toks done + 2) p.2.2] := by
      rw [lo_app]
      simp [lo]
    have et : lt s.toks (done ++ [p]) = lt s.toks done + p.2.2.length + 5 := by
      rw [lt_app]
      rfl
    refine wpAny_bind (wpAny_holding ?_)
    show wpAny _ _ (dictSet s.heap.objs.size (.ref (mid w prog s done).heap.objs.size) (.ref ((mid w prog s done).heap.push _).objs.size)) _ _ _
    rw [e2, ← es]
    refine wp_new (t := s.toks) (p := p) hu ?_ hn' (by rw [List.length_append] at hl'; omega) (wpAny_pure ?_)
    · show ((ext s.heap _).push _).push _ = _
      rw [ext_push, ext_push, eo]
      rfl
    · refine (congrArg (fun x => wpAny (model prog w) A _ Q E x) ?_).mp (wp_long hu r (done ++ [p]) ps Q c4 hn hl q)
      show mid w prog s (done ++ [p]) = _
      unfold mid
      rw [et]
      show Shared.mk _ _ _ _ _ = Shared.mk _ _ _ _ _
      congr 1
      show lt s.toks done + p.2.2.length + 5 = lt s.toks done + 2 + p.2.2.length + 3
      omega
end
end Fw

set_option Elab.async false
set_option linter.all false
set_option maxRecDepth 100000
set_option maxHeartbeats 2000000
namespace Fw
open PySem PySem.W PySem.Calls PyProof.Rows
theorem ext_ext (h : Heap) (a b : List Obj) : ext (ext h a) b = ext h (a ++ b) := by
  show (⟨(h.objs ++ a.toArray) ++ b.toArray, h.life⟩ : Heap) = ⟨h.objs ++ (a ++ b).toArray, h.life⟩
  congr 1
  simp
section
variable {prog : Program} {w : World} {A : Around} {E : Value → Shared → Prop} {env : Env}
theorem pairs_len {pos : Pos} : ∀ {ps : List (Sem Value × Sem Value)} {L : List PK}, PairsAre env pos ps L → ps.length = L.length
  | _, _, .nil => rfl
  | _, _, .cons _ _ _ r => congrArg (· + 1) (pairs_len r)
theorem wp_sub_long {pos : Pos} {s : Shared} {ps : List (Sem Value × Sem Value)} {L : List PK} {Q : Addr → Shared → Prop} (hu : A.units < cLine) (c : PairsAre env pos ps L) (h15 : 15 < ps.length) (hn : (L.map key).Nodup) (hl : L.length ≤ 1000) (q : Q s.heap.objs.size (mid w prog s L)) :
    wpAny (model prog w) A (subDict ps) Q E s := by
  unfold subDict
  refine wpAny_bind (wpAny_alloc ?_)
  refine wpAny_bind (wpAny_holding ?_)
  rw [if_neg (by omega)]
  refine wpAny_bind (wpAny_rule ?_)
  have e : (Shared.mk (s.heap.push { cls := .type "dict", data := .dict #[] }) s.gens s.drawn s.toks s.os) = mid w prog s [] := by
    have z : s.heap.push { cls := .type "dict", data := .dict #[] } = ext s.heap [dO []] := by
      have z := ext_push s.heap [] { cls := .type "dict", data := .dict #[] }
      rw [ext_nil] at z
      exact z
    show Shared.mk _ _ _ _ _ = Shared.mk (ext s.heap [dO []]) _ _ _ _
    rw [z]
    rfl
  rw [e]
  exact wpAny_bind (wp_long (E := E) hu L [] ps _ c hn hl (wpAny_pure (wpAny_pure q)))
theorem wp_sub_one {pos : Pos} {s : Shared} {ps : List (Sem Value × Sem Value)} {p : PK} {Q : Addr → Shared → Prop} (hu : A.units < cLine) (c : PairsAre env pos ps [p]) (q : Q s.heap.objs.size (mid w prog s [p])) :
    wpAny (model prog w) A (subDict ps) Q E s := by
  cases c with
  | cons c1 c2 c3 c4 =>
    rename_i ke ve kk vk kp vp ps
    cases c4
    unfold subDict
    refine wpAny_bind (wpAny_alloc ?_)
    refine wpAny_bind (wpAny_holding ?_)
    rw [if_pos (by show 1 ≤ 15; decide)]
    unfold evalPairs
    refine wpAny_bind (wpAny_bind (wp_tuple (k := kk) (pos := kp) c1 (by show 2 ≤ 100; decide) (wpAny_bind (wpAny_holding (wpAny_bind (wp_tuple (k := vk) (pos := vp) c2 c3 (wpAny_bind (wpAny_standAt (wpAny_pure ?_)))))))))
    unfold evalPairs
    refine wpAny_bind (wpAny_holding (wpAny_pure (wpAny_pure ?_)))
    refine wpAny_holding ?_
    rw [List.forIn_cons]
    dsimp only
    have e1 : (s.heap.push { cls := .type "dict", data := .dict #[] }).objs.size = s.heap.objs.size + 1 + 2 * ([] : List PK).length := by rw [Heap.size_push]; rfl
    have e2 : ∀ o, ((s.heap.push { cls := .type "dict", data := .dict #[] }).push o).objs.size = s.heap.objs.size + 1 + 2 * ([] : List PK).length + 1 := fun o => by rw [Heap.size_push, Heap.size_push]; rfl
    rw [e1, e2]
    refine wpAny_bind (wpAny_bind (wpAny_bind (wp_new (t := s.toks) (p := p) (L := []) hu ?_ (by simp) (Nat.zero_le _) (wpAny_pure ?_))))
    · show ((s.heap.push _).push _).push _ = _
      conv => lhs; rw [← ext_nil s.heap]
      rw [ext_push, ext_push, ext_push]
      rfl
    · dsimp only
      rw [List.forIn_nil]
      refine wpAny_pure (wpAny_pure (wpAny_pure ?_))
      refine (congrArg (fun x => Q s.heap.objs.size x) ?_).mp q
      unfold mid
      show Shared.mk _ _ _ _ _ = Shared.mk _ _ _ _ _
      congr 1
      show s.toks + p.2.2.length + 5 = s.toks + 2 + p.2.2.length + 3
      omega
/-- the state behind the whole display -/
def fin (w : World) (prog : Program) (s : Shared) (L : List PK) (p : PK) : Shared :=
  let m := s.heap.objs.size
  let a := m + 1 + 2 * L.length
  let k := tupleKind (strKind prog w)
  { s with heap := ext s.heap (dO ((lx (m + 1) L ++ lx (a + 1) [p]).map (entryOfKey k)) :: (lo s.toks L ++ dO ((lx (a + 1) [p]).map (entryOfKey k)) :: lo (lt s.toks L) [p])), toks := lt s.toks (L ++ [p]) }
theorem wp_merge {s : Shared} {L : List PK} {p : PK} {Q : Unit → Shared → Prop} (hu : A.units < cLine) (hn : ((L ++ [p]).map key).Nodup) (hl : L.length ≤ 1000) (h0 : L ≠ []) (hm : sysModules < s.heap.objs.size) (q : Q () (fin w prog s L p)) :
    wpAny (model prog w) A (mergeMapping s.heap.objs.size (.ref (s.heap.objs.size + 1 + 2 * L.length)) false) Q E (mid w prog (mid w prog s L) [p]) := by
  have ea : (ext s.heap (dO ((lx (s.heap.objs.size + 1) L).map (entryOfKey (tupleKind (strKind prog w)))) :: lo s.toks L)).objs.size = s.heap.objs.size + 1 + 2 * L.length := by
    rw [ext_size, List.length_cons, lo_len]
    omega
  have eS : mid w prog (mid w prog s L) [p] = { s with heap := ext s.heap (dO ((lx (s.heap.objs.size + 1) L).map (entryOfKey (tupleKind (strKind prog w)))) :: (lo s.toks L ++ dO ((lx (s.heap.objs.size + 1 + 2 * L.length + 1) [p]).map (entryOfKey (tupleKind (strKind prog w)))) :: lo (lt s.toks L) [p])), toks := lt s.toks (L ++ [p]) } := by
    unfold mid
    dsimp only
    rw [ea, ext_ext, lt_app]
    rfl
  rw [eS]
  generalize hH : ext s.heap (dO ((lx (s.heap.objs.size + 1) L).map (entryOfKey (tupleKind (strKind prog w)))) :: (lo s.toks L ++ dO ((lx (s.heap.objs.size + 1 + 2 * L.length + 1) [p]).map (entryOfKey (tupleKind (strKind prog w)))) :: lo (lt s.toks L) [p])) = H
  have nf : ∀ es c d sl, dO es ≠ ⟨c, d, .freed, sl⟩ := fun es c d sl z => by injection z with _ _ z _; exact nomatch z
  have gd : H.get? s.heap.objs.size = some (dO ((lx (s.heap.objs.size + 1) L).map (entryOfKey (tupleKind (strKind prog w))))) := by
    rw [← hH]
    exact ext_get (h := s.heap) (i := 0) rfl (nf _)
  have gs : H.get? (s.heap.objs.size + 1 + 2 * L.length) = some (dO ((lx (s.heap.objs.size + 1 + 2 * L.length + 1) [p]).map (entryOfKey (tupleKind (strKind prog w))))) := by
    rw [← hH, show s.heap.objs.size + 1 + 2 * L.length = s.heap.objs.size + (1 + 2 * L.length) by omega]
    refine ext_get (h := s.heap) (i := 1 + 2 * L.length) ?_ (nf _)
    rw [show 1 + 2 * L.length = 2 * L.length + 1 by omega, List.getElem?_cons_succ, List.getElem?_append_right (by rw [lo_len]; exact Nat.le_refl _), lo_len, Nat.sub_self]
    rfl
  have is1 : ∀ x ∈ lx (s.heap.objs.size + 1) L, IsTupleKey (strKind prog w) H x.1 x.2.1 := by
    rw [← hH]
    refine lx_is L s.toks 1 fun j o e => ?_
    rw [show 1 + j = j + 1 by omega, List.getElem?_cons_succ, List.getElem?_append_left (by
      have := (List.getElem?_eq_some_iff.mp e).1
      exact this)]
    exact e
  have is2 : IsTupleKey (strKind prog w) H (key p) (s.heap.objs.size + 1 + 2 * L.length + 1) := by
    rw [← hH, show s.heap.objs.size + 1 + 2 * L.length + 1 = s.heap.objs.size + (2 * L.length + 2) by omega]
    refine tO_key (t := lt s.toks L) ?_
    rw [show 2 * L.length + 2 = (2 * L.length + 1) + 1 by omega, List.getElem?_cons_succ, List.getElem?_append_right (by rw [lo_len]; omega), lo_len, show 2 * L.length + 1 - 2 * L.length = 1 by omega]
    rfl
  have nk : ∀ (j : Nat) (x : Addr × Value), (lx (s.heap.objs.size + 1) L)[j]? ≠ some (key p, x) := fun j x z => by
    rw [List.map_append, List.nodup_append] at hn
    have m1 : key p ∈ L.map key := by
      rw [← lx_keys L (s.heap.objs.size + 1)]
      exact List.mem_map.mpr ⟨_, List.mem_of_getElem? z, rfl⟩
    exact hn.2.2 _ m1 _ (List.mem_singleton.mpr rfl) rfl
  have hT : (Shared.mk H s.gens s.drawn (lt s.toks (L ++ [p])) s.os).TypeIs (.ref (s.heap.objs.size + 1 + 2 * L.length)) "dict" := ⟨_, gs, rfl⟩
  unfold mergeMapping
  refine wpAny_bind (wpAny_isInstance hT isSubtype_dict_dict ?_)
  rw [if_pos rfl]
  refine wpAny_bind (wpAny_specialOf hT F.slot_dict_iter.lookup ?_)
  rw [show ((some (Value.builtin "dict.__iter__") : Option Value) == some (Value.builtin "dict.__iter__")) = true from beq_self_eq_true _]
  refine wpAny_bind (wpAny_pure ?_)
  dsimp only
  rw [if_neg (by
    rw [beq_iff_eq]
    intro z
    have y := hm
    rw [← z] at y
    exact absurd y (Nat.not_lt.mpr (by omega)))]
  refine wpAny_bind (wpAny_dictEntries gd rfl ?_)
  rw [if_neg (by
    intro z
    have : ((lx (s.heap.objs.size + 1) L).map (entryOfKey (tupleKind (strKind prog w)))) = [] := by simpa using z
    rw [List.map_eq_nil_iff] at this
    have := congrArg List.length this
    rw [lx_len] at this
    exact h0 (List.eq_nil_of_length_eq_zero this))]
  refine wpAny_bind (wpAny_dictEntries gs rfl ?_)
  refine wpAny_bind (wpAny_dictEpoch gs rfl ?_)
  show wpAny _ _ (forIn (List.range 1) PUnit.unit _ >>= _) _ _ _
  rw [show List.range 1 = [0] from rfl, List.forIn_cons]
  refine wpAny_bind (wpAny_bind (wpAny_bind (wpAny_dictEntries gs rfl ?_)))
  show wpAny _ _ (do
    holding [Value.ref (s.heap.objs.size + 1 + 2 * L.length + 1), Value.ref (s.heap.objs.size + 1 + 2 * L.length + 1 + 1)] (dictPut s.heap.objs.size ((tupleKind (strKind prog w)).hash (key p)) (Value.ref (s.heap.objs.size + 1 + 2 * L.length + 1)) (Value.ref (s.heap.objs.size + 1 + 2 * L.length + 1 + 1)))
    let x ← dictEpoch (s.heap.objs.size + 1 + 2 * L.length)
    if (x != 1) = true then do
        let _ ← (unsupported "dict.changed-during-merge" : Sem PUnit)
        pure (ForInStep.yield PUnit.unit)
      else pure (ForInStep.yield PUnit.unit) : Sem (ForInStep PUnit)) _ _ _
  refine wpAny_bind (wpAny_holding ?_)
  unfold dictPut
  refine wpAny_bind (wpAny_dictFind_heap (knd := tupleKind (strKind prog w)) hu is2 gd rfl (by simp) is1 (by
    rw [lx_keys]
    rw [List.map_append, List.nodup_append] at hn
    exact hn.1) (fun _ => ?_) fun j x z => absurd z (nk j x))
  refine wpAny_updateDictKeys gd rfl ?_ (by
    rw [List.size_toArray, List.length_map, lx_len]
    exact Nat.le_trans hl (by decide))
  have eH : H.update s.heap.objs.size (Obj.mapDictKeys fun es => es.push ⟨(tupleKind (strKind prog w)).hash (key p), .ref (s.heap.objs.size + 1 + 2 * L.length + 1), .ref (s.heap.objs.size + 1 + 2 * L.length + 1 + 1)⟩) = (fin w prog s L p).heap := by
    rw [← hH, ext_upd]
    show ext s.heap _ = ext s.heap _
    congr 2
    rw [List.map_append]
    show (⟨_, _, _, _⟩ : Obj) = ⟨_, _, _, _⟩
    simp [dO, Obj.mapDictKeys, lx, entryOfKey]
  rw [eH]
  have e9 : s.heap.objs.size + 1 + 2 * L.length = s.heap.objs.size + (2 * L.length + 1) := by omega
  have gs' : (fin w prog s L p).heap.get? (s.heap.objs.size + 1 + 2 * L.length) = some (dO ((lx (s.heap.objs.size + 1 + 2 * L.length + 1) [p]).map (entryOfKey (tupleKind (strKind prog w))))) := by
    refine (congrArg (fun a => (fin w prog s L p).heap.get? a) e9).trans (ext_get (h := s.heap) (i := 2 * L.length + 1) ?_ (nf _))
    rw [List.getElem?_cons_succ, List.getElem?_append_right (by rw [lo_len]; exact Nat.le_refl _), lo_len, Nat.sub_self]
    rfl
  refine wpAny_bind (wpAny_dictEpoch gs' rfl ?_)
  rw [if_neg (by show ¬ ((1 : Nat) != 1) = true; decide)]
  refine wpAny_pure ?_
  dsimp only
  rw [List.forIn_nil]
  exact wpAny_pure (wpAny_pure q)
end
end Fw

set_option Elab.async false
set_option linter.all false
set_option maxRecDepth 100000
set_option maxHeartbeats 2000000
namespace Fw
open PySem PySem.W PySem.Calls PyProof.Rows
abbrev PS : Type := Sem Value × Sem Value
theorem gather (f : (Option (Sem Value) × Sem Value) → (Option Addr × List PS) → Sem (ForInStep (Option Addr × List PS))) (hf : ∀ (p : PS) (run : List PS), run.length + 1 < 17 → f (some p.1, p.2) (none, run) = pure (.yield (none, run ++ [p]))) (rest : List PS) :
    ∀ (a run : List PS), run.length + a.length < 17 → forIn ((a ++ rest).map fun p => (some p.1, p.2)) ((none : Option Addr), run) f = forIn (rest.map fun p => (some p.1, p.2)) ((none : Option Addr), run ++ a) f
  | [], run, _ => by rw [List.append_nil]; rfl
  | p :: a, run, h => by
    rw [List.length_cons] at h
    rw [List.cons_append, List.map_cons, List.forIn_cons, hf p run (by omega), pure_bind]
    dsimp only
    rw [gather f hf rest a (run ++ [p]) (by rw [List.length_append]; show run.length + 1 + a.length < 17; omega), List.append_assoc]
    rfl
section
variable {prog : Program} {w : World} {A : Around} {E : Value → Shared → Prop} {env : Env}
theorem wp_display {pos : Pos} {s : Shared} {a : List PS} {b c : PS} {L : List PK} {p : PK} {Q : Value → Shared → Prop} (hu : A.units < cLine) (ha : a.length = 16) (c1 : PairsAre env pos (a ++ [b]) L) (c2 : PairsAre env pos [c] [p]) (hn : ((L ++ [p]).map key).Nodup) (hm : sysModules < s.heap.objs.size)
    (q : Q (.ref s.heap.objs.size) (fin w prog s L p)) : wpAny (model prog w) A (dictDisplay ((a ++ [b, c]).map fun p => (some p.1, p.2))) Q E s := by
  have hL : L.length = 17 := by
    rw [← pairs_len c1, List.length_append, ha]
    rfl
  have hn1 : (L.map key).Nodup := by
    rw [List.map_append] at hn
    exact (List.nodup_append.mp hn).1
  unfold dictDisplay
  dsimp only
  rw [gather _ (fun p run h => by
    have hne : ((run ++ [(p.1, p.2)]).length == 17) = false := by simp; omega
    simp only [hne, Bool.false_eq_true, if_false]) [b, c] a [] (by rw [ha]; decide)]
  rw [List.nil_append, List.map_cons, List.forIn_cons]
  have e17 : ((a ++ [(b.1, b.2)]).length == 17) = true := by rw [List.length_append, ha]; rfl
  have ne : (a ++ [(b.1, b.2)]).isEmpty = false := by cases a <;> rfl
  simp only [e17, if_true, ne, Bool.false_eq_true, if_false]
  refine wpAny_bind (wpAny_bind (wpAny_bind (wpAny_bind (wp_sub_long (w := w) (prog := prog) hu c1 (by rw [List.length_append, ha]; show 15 < 17; decide) hn1 (by rw [hL]; decide) ?_))))
  refine wpAny_pure (wpAny_pure ?_)
  dsimp only
  rw [List.map_cons, List.map_nil, List.forIn_cons]
  simp only [List.nil_append, List.length_singleton, show ((1 : Nat) == 17) = false from rfl, Bool.false_eq_true, if_false]
  refine wpAny_bind (wpAny_pure ?_)
  dsimp only
  rw [List.forIn_nil]
  refine wpAny_pure ?_
  simp only [List.isEmpty_cons, Bool.false_eq_true, if_false]
  refine wpAny_bind (wpAny_bind (wpAny_holding (wp_sub_one (w := w) (prog := prog) hu c2 ?_)))
  have es : (mid w prog s L).heap.objs.size = s.heap.objs.size + 1 + 2 * L.length := by
    show (ext s.heap _).objs.size = _
    rw [ext_size, List.length_cons, lo_len]
    omega
  rw [es]
  refine wpAny_bind (wpAny_onRaise (wpAny_holding (wp_merge hu hn (by rw [hL]; decide) (fun z => by rw [z] at hL; exact nomatch hL) hm ?_)))
  exact wpAny_pure (wpAny_pure q)
end
end Fw

set_option Elab.async false
set_option linter.all false
set_option maxRecDepth 100000
set_option maxHeartbeats 2000000
/-! The top with the display in its midst, run in the kernel ahead of it and behind it. -/
noncomputable section
namespace Fw
open PySem PySem.W PySem.Calls PyProof.Rows HandSHeadRun
section
variable (st : SharedT → Thread → Option (SharedT × Thread)) (n0 : Nat) (ann : Option Value)
def goS : Nat → SharedT → Thread → Option (SharedT × Thread)
  | 0, s, t => some (s, t)
  | m + 1, s, t => match through t with
    | true => none
    | false => match stepOk n0 ann t with
      | false => none
      | true => match st s t with
        | some (s', t') => frS s' fun s' => goS m s' t'
        | none => none
def segF : Nat → SharedT → Thread → Option (Flow × SharedT × Code × Pos)
  | 0, _, _ => none
  | m + 1, s, t => match endAt 1 t with
    | some f => some (f, s, t.code, t.pos)
    | none => match stepOk n0 ann t with
      | false => none
      | true => match st s t with
        | some (s', t') => frS s' fun s' => segF m s' t'
        | none => none
end
section
variable {tb : String → Option Builtin} {p : Program} {w : World} {n0 : Nat} {ann : Option Value}
theorem goS_ok : ∀ {m : Nat} {s s' : SharedT} {t t' : Thread}, goS (stepT (denote tb) p w) n0 ann m s t = some (s', t') → topGo tb p w n0 ann m s.abs t = some (s'.abs, t')
  | 0, s, s', t, t', h => by
    cases (show some (s, t) = some (s', t') from h)
    rfl
  | m + 1, s, s', t, t', h => by
    have h : (match through t with
      | true => none
      | false => match stepOk n0 ann t with
        | false => none
        | true => match stepT (denote tb) p w s t with
          | some (s', t') => frS s' fun s' => goS (stepT (denote tb) p w) n0 ann m s' t'
          | none => none) = some (s', t') := h
    cases h1 : through t with
    | true => rw [h1] at h; exact nomatch h
    | false =>
      cases h2 : stepOk n0 ann t with
      | false => rw [h1, h2] at h; exact nomatch h
      | true =>
        rw [h1, h2] at h
        cases h3 : stepT (denote tb) p w s t with
        | none => rw [h3] at h; exact nomatch h
        | some r =>
          obtain ⟨s2, t2⟩ := r
          rw [h3] at h
          have h : (frS s2 fun s' => goS (stepT (denote tb) p w) n0 ann m s' t2) = some (s', t') := h
          rw [frS_eq] at h
          exact go_one h1 h2 (stepT_spec h3) (goS_ok h)
theorem segF_ok : ∀ {m : Nat} {s s' : SharedT} {t : Thread} {f : Flow} {c : Code} {q : Pos}, segF (stepT (denote tb) p w) n0 ann m s t = some (f, s', c, q) → segRun tb p w n0 ann 1 m s.abs t = some (f, s'.abs, c, q)
  | 0, _, _, _, _, _, _, h => nomatch (show (none : Option (Flow × SharedT × Code × Pos)) = some _ from h)
  | m + 1, s, s', t, f, c, q, h => by
    have h : (match endAt 1 t with
      | some f => some (f, s, t.code, t.pos)
      | none => match stepOk n0 ann t with
        | false => none
        | true => match stepT (denote tb) p w s t with
          | some (s', t') => frS s' fun s' => segF (stepT (denote tb) p w) n0 ann m s' t'
          | none => none) = some (f, s', c, q) := h
    unfold segRun
    cases h1 : endAt 1 t with
    | some g =>
      rw [h1] at h
      cases (show some (g, s, t.code, t.pos) = some (f, s', c, q) from h)
      rfl
    | none =>
      cases h2 : stepOk n0 ann t with
      | false => rw [h1, h2] at h; exact nomatch h
      | true =>
        rw [h1, h2] at h
        cases h3 : stepT (denote tb) p w s t with
        | none => rw [h3] at h; exact nomatch h
        | some r =>
          obtain ⟨s2, t2⟩ := r
          rw [h3] at h
          have h : (frS s2 fun s' => segF (stepT (denote tb) p w) n0 ann m s' t2) = some (f, s', c, q) := h
          rw [frS_eq] at h
          show (match step (denote tb) p w s.abs t with
            | .go s' t' => segRun tb p w n0 ann 1 m s' t'
            | .halt _ _ => none) = some (f, s'.abs, c, q)
          rw [stepT_spec h3]
          exact segF_ok h
end
/-! ### the display's objects behind a tree -/
def finObjs (w : World) (prog : Program) (m t : Nat) (L : List PK) (p : PK) : List Obj :=
  dO ((lx (m + 1) L ++ lx (m + 1 + 2 * L.length + 1) [p]).map (entryOfKey (tupleKind (strKind prog w)))) :: (lo t L ++ dO ((lx (m + 1 + 2 * L.length + 1) [p]).map (entryOfKey (tupleKind (strKind prog w)))) :: lo (lt t L) [p])
def layT (w : World) (prog : Program) (L : List PK) (p : PK) (s : SharedT) : Option SharedT := match putAll (finObjs w prog s.n s.toks L p) s.tree s.n with
  | some (t, n) => frNat n fun n => some ⟨t, n, s.life, s.gens, s.drawn, lt s.toks (L ++ [p]), s.os⟩
  | none => none
theorem ext_foldl : ∀ (l : List Obj) (h : Heap), l.foldl (fun h o => h.push o) h = ext h l
  | [], h => (ext_nil h).symm
  | o :: l, h => by
    show l.foldl _ (h.push o) = _
    rw [ext_foldl l (h.push o)]
    have z := ext_push h [] o
    rw [ext_nil] at z
    rw [z, ext_ext]
    rfl
theorem layT_ok {w : World} {prog : Program} {L : List PK} {p : PK} {s s' : SharedT} (h : layT w prog L p s = some s') : s'.abs = fin w prog s.abs L p := by
  unfold layT at h
  cases e : putAll (finObjs w prog s.n s.toks L p) s.tree s.n with
  | none => rw [e] at h; exact nomatch h
  | some r =>
    obtain ⟨t, n⟩ := r
    rw [e] at h
    have h : (frNat n fun n => some (⟨t, n, s.life, s.gens, s.drawn, lt s.toks (L ++ [p]), s.os⟩ : SharedT)) = some s' := h
    rw [frNat_eq] at h
    cases h
    have q := putAll_ok (life := s.life) e
    rw [ext_foldl] at q
    have sz : (absHeap s.tree s.n s.life).objs.size = s.n := absHeap_size s.tree s.n s.life
    show Shared.mk (absHeap t n s.life) s.gens s.drawn _ s.os = Shared.mk (ext (absHeap s.tree s.n s.life) _) s.gens s.drawn _ s.os
    rw [q]
    show _ = Shared.mk (ext (absHeap s.tree s.n s.life) (finObjs w prog (absHeap s.tree s.n s.life).objs.size s.toks L p)) s.gens s.drawn _ s.os
    rw [sz]
    rfl
/-! ### the whole -/
structure Plan where
  p : Program
  env : Env
  q0 : Pos
  pos0 : Pos
  l : List Stmt
  rest : List Stmt
  x : Str
  np : Pos
  keys : List (Option Expr)
  values : List Expr
  dpos : Pos
  apos : Pos
  L : List PK
  pk : PK
  k0 : Nat
  kB : Nat
  kL : Nat
  kF : Nat
  M : Nat
def Plan.st (D : Plan) : Stmt := .Assign [.Name D.x D.np] (.Dict D.keys D.values D.dpos) D.apos
def Plan.b (D : Plan) : List Stmt := D.l ++ D.st :: D.rest
def Plan.c (D : Plan) : Code := .body (behindTheImports D.p) D.env
def Plan.B (D : Plan) : List Frame := [topFrame D.q0]
def Plan.F (D : Plan) (v : Value) : Sem Flow := do
  standAt D.np
  bindName D.env D.x v
  pure .next
structure Big where
  tA : Thread
  n1 : Nat
  cB : Code
  c1 : Code
  c3 : Code
  s4 : SharedT
def bigF (st : SharedT → Thread → Option (SharedT × Thread)) (D : Plan) (w : World) (os : OsState) (p2 : Pos) : Option Big := match putAll (boot_heap w.params).objs.toList .nil 0 with
  | none => none
  | some (t, n) => frNat n fun n0 => match goS st n0 (bootAnn w) D.k0 (bootT w os (t, n0)) (topStub D.p) with
    | none => none
    | some (sA, tA) => match segF st n0 (bootAnn w) D.kB sA (blockOf (behindTheImports D.p) D.env D.c D.pos0 D.B) with
      | some (.next, sB, cB, pB) => (match segF st n0 (bootAnn w) D.kL sB (piecesOf D.l D.env D.c pB D.B) with
        | some (.next, s1, c1, _) => (match layT w D.p D.L D.pk s1 with
          | some s2 => (match segF st n0 (bootAnn w) D.kF s2 ⟨(D.F (.ref s1.n)).wrap doneF deadEnd id id, D.c, p2, D.B⟩ with
            | some (.next, s3, c3, p3) => (match goF st n0 (bootAnn w) D.M s3 (restOf D.rest D.env D.c p3 D.B) with
              | some s4 => some ⟨tA, s1.n, cB, c1, c3, s4⟩
              | none => none)
            | _ => none)
          | none => none)
        | _ => none)
      | _ => none
end Fw

end
set_option Elab.async false
set_option linter.all false
set_option maxRecDepth 100000
set_option maxHeartbeats 2000000
noncomputable section
namespace Fw
open PySem PySem.W PySem.Calls PyProof.Rows HandSHeadRun
/-- an expression by wp, with what stands behind it; its end told by a property -/
theorem halts_mid' {p : Program} {w : World} {α : Type} {m : Sem α} {K : α → Sem Fin} {H : Value → Sem Fin} {gd : Bool → Bool} {lv : List Value → List Value} {s : Shared} {c : Code} {pos : Pos} {B : List Frame} {Q : α → Pos → Shared → Prop} {G : Shared → Prop}
    (hw : Sem.wp (model p w) ((⟨c, none, none, [], none⟩ : Ctx).over B) m Q (fun _ _ _ => False) pos s) (hk : ∀ a p' s', Q a p' s' → ∃ S, Halts p w s' ⟨K a, c, p', B⟩ S ∧ S.gens = #[] ∧ G S) : ∃ S, Halts p w s ⟨m.wrap K H gd lv, c, pos, B⟩ S ∧ S.gens = #[] ∧ G S := by
  obtain ⟨e, S, hr, f, he, hg, hS⟩ := runs_wrap_of_wp (M := model p w) (Γ := ⟨c, none, none, [], none⟩) (fs := B) (Φ := fun e s'' => ∃ f, e = .ret (.ok f) ∧ s''.gens = #[] ∧ G s'') K H gd lv m hw
    (fun a p' s' q => by
      obtain ⟨S, h1, h2, h3⟩ := hk a p' s' q
      obtain ⟨f, r⟩ := halts_runs h1 h2
      exact ⟨_, _, r, f, rfl, h2, h3⟩) (fun _ _ _ q => q.elim)
  subst he
  exact ⟨S, runs_halts hr hg, hg, hS⟩
/-- what an end keeps of a state -/
structure Keeps (n₀ : Nat) (ann : Option Value) (s S : Shared) : Prop where
  life : S.heap.life = s.heap.life
  os : S.os = s.os
  fr : ∀ b o, b < n₀ → b ≠ mainNs → b ≠ cStatics → ann ≠ some (.ref b) → s.heap.get? b = some o → S.heap.get? b = some o
theorem Keeps.trans {n₀ : Nat} {ann : Option Value} {a b c : Shared} (x : Keeps n₀ ann a b) (y : Keeps n₀ ann b c) : Keeps n₀ ann a c :=
  ⟨y.life.trans x.life, y.os.trans x.os, fun i o h1 h2 h3 h4 h => y.fr i o h1 h2 h3 h4 (x.fr i o h1 h2 h3 h4 h)⟩
theorem keeps_go {p : Program} {w : World} {tb : String → Option Builtin} {n₀ : Nat} {ann : Option Value} {n : Nat} {s s' : Shared} {t t' : Thread} (h : topGo tb p w n₀ ann n s t = some (s', t')) : Keeps n₀ ann s s' := by
  obtain ⟨a, b, c⟩ := go_keeps h
  exact ⟨a, b, c⟩
theorem keeps_fin {w : World} {prog : Program} {n₀ : Nat} {ann : Option Value} (s : Shared) (L : List PK) (p : PK) : Keeps n₀ ann s (fin w prog s L p) :=
  ⟨rfl, rfl, fun b o _ _ _ _ h => by
    have lt := Heap.lt_size h
    show (ext s.heap _).get? b = some o
    unfold Heap.get? ext at *
    rw [Array.getElem?_append_left lt]
    exact h⟩
section
variable {D : Plan} {w : World} {os : OsState}
/-- the Around of the top's body -/
def topA (D : Plan) : Around := { handled := none, depth := frameCount [(.builtin "claim.caller" {}, D.q0)] + D.c.weight, frames := none, guards := none, units := D.c.cUnits + unitsOf [(.builtin "claim.caller" {}, D.q0)] }
theorem top_in : ((⟨D.c, none, none, [], none⟩ : Ctx).over D.B).In (topA D) :=
  ⟨rfl, Nat.le_refl _, fun l hl => (nomatch (show (none : Option (List Env)) = some l from hl)), fun g hg => (nomatch (show (none : Option (List Code)) = some g from hg)), Nat.le_refl _⟩
/-- what must be shown of a plan -/
structure Plan.Ok (D : Plan) : Prop where
  body : behindTheImports D.p = D.l ++ D.st :: D.rest
  sw : swapsWith (.Dict D.keys D.values D.dpos) (some (.Name D.x D.np)) D.apos.line D.env = pure false
  shape : ∃ (a : List PS) (b c : PS), a.length = 16 ∧ (evalEachOpt D.keys D.env).zip ((evalEach D.values D.env).map fun v => do let x ← v; standAt D.dpos; pure x) = (a ++ [b, c]).map (fun p => (some p.1, p.2)) ∧ PairsAre D.env D.dpos (a ++ [b]) D.L ∧ PairsAre D.env D.dpos [c] [D.pk]
  nd : ((D.L ++ [D.pk]).map key).Nodup
  un : D.c.cUnits + unitsOf [(.builtin "claim.caller" {}, D.q0)] < cLine
theorem big_ends {D : Plan} {w : World} {os : OsState} {G : SharedT → Prop} (O : D.Ok)
    (run : ∀ p2, ∃ r, bigF (stepT (denote table) D.p w) D w os p2 = some r ∧ r.tA = ⟨denote table D.c, D.c, D.pos0, D.B⟩ ∧ Nat.blt sysModules r.n1 = true ∧ r.cB = D.c ∧ r.c1 = D.c ∧ r.c3 = D.c ∧ r.s4.gens = #[] ∧ G r.s4) (hz : (⟨boot_heap w.params, #[], boot_drawn, boot_toks, os⟩ : Shared).asleep) :
    ∃ S : SharedT, Halts D.p w ⟨boot_heap w.params, #[], boot_drawn, boot_toks, os⟩ (topStub D.p) S.abs ∧ S.gens = #[] ∧ Keeps (boot_heap w.params).objs.size (bootAnn w) ⟨boot_heap w.params, #[], boot_drawn, boot_toks, os⟩ S.abs ∧ G S := by
  -- what the run is, piece by piece
  have parts : ∀ p2, ∃ (sA sB s1 s2 s3 s4 : SharedT) (pB p1 p3 : Pos) (t : PySem.W.BT) (n : Nat), putAll (boot_heap w.params).objs.toList .nil 0 = some (t, n) ∧ goS (stepT (denote table) D.p w) n (bootAnn w) D.k0 (bootT w os (t, n)) (topStub D.p) = some (sA, ⟨denote table D.c, D.c, D.pos0, D.B⟩) ∧
      segF (stepT (denote table) D.p w) n (bootAnn w) D.kB sA (blockOf (behindTheImports D.p) D.env D.c D.pos0 D.B) = some (.next, sB, D.c, pB) ∧ segF (stepT (denote table) D.p w) n (bootAnn w) D.kL sB (piecesOf D.l D.env D.c pB D.B) = some (.next, s1, D.c, p1) ∧ Nat.blt sysModules s1.n = true ∧ layT w D.p D.L D.pk s1 = some s2 ∧
      segF (stepT (denote table) D.p w) n (bootAnn w) D.kF s2 ⟨(D.F (.ref s1.n)).wrap doneF deadEnd id id, D.c, p2, D.B⟩ = some (.next, s3, D.c, p3) ∧ goF (stepT (denote table) D.p w) n (bootAnn w) D.M s3 (restOf D.rest D.env D.c p3 D.B) = some s4 ∧ s4.gens = #[] ∧ G s4 := by
    intro p2
    obtain ⟨r, hr, e1, en1, e2, e3, e4, hg, hG⟩ := run p2
    unfold bigF at hr
    split at hr
    · exact nomatch hr
    rename_i t n ht
    rw [frNat_eq] at hr
    split at hr
    · exact nomatch hr
    rename_i sA tA hA
    split at hr
    · rename_i sB cB pB hB
      split at hr
      · rename_i s1 c1 p1 h1
        split at hr
        · rename_i s2 h2
          split at hr
          · rename_i s3 c3 p3 h3
            split at hr
            · rename_i s4 h4
              cases hr
              dsimp only at e1 en1 e2 e3 e4 hg hG
              subst e1 e2 e3 e4
              exact ⟨sA, sB, s1, s2, s3, s4, pB, p1, p3, t, n, ht, hA, hB, h1, en1, h2, h3, h4, hg, hG⟩
            · exact nomatch hr
          · exact nomatch hr
        · exact nomatch hr
      · exact nomatch hr
    · exact nomatch hr
  obtain ⟨sA, sB, s1, s2, _, _, pB, p1, _, t, n, ht, hA, hB, h1, n1, h2, _⟩ := parts default
  have eh := putAll_heap ht
  have en : (boot_heap w.params).objs.size = n := by
    rw [← eh]
    exact absHeap_size t n _
  have eb : (bootT w os (t, n)).abs = ⟨boot_heap w.params, #[], boot_drawn, boot_toks, os⟩ := by
    show (⟨absHeap t n (boot_heap w.params).life, #[], boot_drawn, boot_toks, os⟩ : Shared) = _
    rw [eh]
  have suffix : ∀ p2, ∃ (s3 s4 : SharedT) (p3 : Pos), segF (stepT (denote table) D.p w) n (bootAnn w) D.kF s2 ⟨(D.F (.ref s1.n)).wrap doneF deadEnd id id, D.c, p2, D.B⟩ = some (.next, s3, D.c, p3) ∧ goF (stepT (denote table) D.p w) n (bootAnn w) D.M s3 (restOf D.rest D.env D.c p3 D.B) = some s4 ∧ s4.gens = #[] ∧ G s4 := by
    intro p2
    obtain ⟨sA', sB', s1', s2', s3, s4, pB', p1', p3, t', n', ht', hA', hB', h1', _, h2', h3, h4, hg, hG⟩ := parts p2
    rw [ht] at ht'
    cases ht'
    rw [hA] at hA'
    cases hA'
    rw [hB] at hB'
    cases hB'
    rw [h1] at h1'
    cases h1'
    rw [h2] at h2'
    cases h2'
    exact ⟨s3, s4, p3, h3, h4, hg, hG⟩
  have goA := goS_ok hA
  rw [eb] at goA
  have kA := keeps_go goA
  have sB0 : splitAtGen D.B = none := rfl
  obtain ⟨_, mB, _, goB⟩ := seg_goes (res := fun _ : Unit => Flow.next) (K' := fun _ => (execs (behindTheImports D.p) D.env).wrap doneF (leaveH D.env) id id) (H' := Sem.raise) (B := D.B) sB0 D.kB (t := blockOf (behindTheImports D.p) D.env D.c D.pos0 D.B)
    (t' := ⟨(blockStart (behindTheImports D.p) D.env).wrap (fun _ => (execs (behindTheImports D.p) D.env).wrap doneF (leaveH D.env) id id) .raise id id, D.c, D.pos0, D.B⟩) ⟨rfl, rfl, .inl ⟨rfl, rfl, _, rfl, rfl⟩⟩ (segF_ok hB)
  have kB := keeps_go goB
  obtain ⟨fC, mC, eC, goC⟩ := seg_goes (res := fun f : Flow => f) (K' := fun f => match f with | .next => (execs (D.st :: D.rest) D.env).wrap doneF (leaveH D.env) id id | f => doneF f) (H' := leaveH D.env) (B := D.B) sB0 D.kL (t := piecesOf D.l D.env D.c pB D.B)
    (t' := ⟨(execs D.l D.env).wrap (fun f => match f with | .next => (execs (D.st :: D.rest) D.env).wrap doneF (leaveH D.env) id id | f => doneF f) (leaveH D.env) id id, D.c, pB, D.B⟩) ⟨rfl, rfl, .inl ⟨rfl, rfl, _, rfl, rfl⟩⟩ (segF_ok h1)
  have eC : fC = .next := eC
  subst eC
  have kC := keeps_go goC
  have K1 : Keeps n (bootAnn w) ⟨boot_heap w.params, #[], boot_drawn, boot_toks, os⟩ s1.abs := (kA.trans kB).trans kC
  have sz : s1.abs.heap.objs.size = s1.n := absHeap_size s1.tree s1.n s1.life
  -- behind the display
  have behind : ∀ p', ∃ S, Halts D.p w (fin w D.p s1.abs D.L D.pk) ⟨(D.F (.ref s1.abs.heap.objs.size)).wrap (fun f => match f with | .next => (execs D.rest D.env).wrap doneF (leaveH D.env) id id | f => doneF f) (leaveH D.env) id id, D.c, p', D.B⟩ S ∧ S.gens = #[] ∧
      ∃ S4 : SharedT, S = S4.abs ∧ S4.gens = #[] ∧ Keeps n (bootAnn w) s1.abs S ∧ G S4 := by
    intro p'
    obtain ⟨s3, s4, p3, h3, h4, hg, hG⟩ := suffix p'
    rw [sz, ← layT_ok h2]
    obtain ⟨fE, mE, eE, goE⟩ := seg_goes (res := fun f : Flow => f) (K' := fun f => match f with | .next => (execs D.rest D.env).wrap doneF (leaveH D.env) id id | f => doneF f) (H' := leaveH D.env) (B := D.B) sB0 D.kF (t := ⟨(D.F (.ref s1.n)).wrap doneF deadEnd id id, D.c, p', D.B⟩)
      (t' := ⟨(D.F (.ref s1.n)).wrap (fun f => match f with | .next => (execs D.rest D.env).wrap doneF (leaveH D.env) id id | f => doneF f) (leaveH D.env) id id, D.c, p', D.B⟩) ⟨rfl, rfl, .inl ⟨rfl, rfl, _, rfl, rfl⟩⟩ (segF_ok h3)
    have eE : fE = .next := eE
    subst eE
    have top := goF_ok h4
    have kE := keeps_go goE
    have k2 : Keeps n (bootAnn w) s1.abs s2.abs := by
      rw [layT_ok h2]
      exact keeps_fin _ _ _
    have K3 := (K1.trans k2).trans kE
    obtain ⟨_, l4, o4, f4⟩ := topRun_spec _ _ _ _ (Shared.asleep_of_life K3.life hz) top
    have k4 : Keeps n (bootAnn w) s3.abs s4.abs := ⟨l4, o4, f4⟩
    exact ⟨s4.abs, halts_go goE (halts_top top hg), hg, s4, rfl, hg, (k2.trans kE).trans k4, hG⟩
  have ex : exec D.st D.env = ((do standAt D.apos; eval (.Dict D.keys D.values D.dpos) D.env) : Sem Value) >>= D.F := by
    show exec (.Assign [.Name D.x D.np] (.Dict D.keys D.values D.dpos) D.apos) D.env = _
    rw [exec_Assign_Name _ _ _ _ _ O.sw]
    rfl
  obtain ⟨a, b, c, ha, hsh, c1, c2⟩ := O.shape
  have hu : (topA D).units < cLine := O.un
  have hm : sysModules < s1.abs.heap.objs.size := by
    rw [sz]
    exact Nat.le_of_ble_eq_true n1
  have wpD : wpAny (model D.p w) (topA D) ((do standAt D.apos; eval (.Dict D.keys D.values D.dpos) D.env) : Sem Value) (fun v s' => v = .ref s1.abs.heap.objs.size ∧ s' = fin w D.p s1.abs D.L D.pk) (fun _ _ => False) s1.abs := by
    refine wpAny_bind (wpAny_standAt ?_)
    rw [arm_eval_Dict, hsh]
    exact wpAny_bind (wpAny_standAt (wp_display hu ha c1 c2 O.nd hm ⟨rfl, rfl⟩))
  obtain ⟨S, hS, hg, S4, rfl, hg4, hk4, hG⟩ := halts_mid' (p := D.p) (w := w) (K := fun v => (D.F v).wrap (fun f => match f with | .next => (execs D.rest D.env).wrap doneF (leaveH D.env) id id | f => doneF f) (leaveH D.env) id id) (H := leaveH D.env) (gd := id) (lv := id) (c := D.c) (pos := p1) (B := D.B)
    (G := fun S => ∃ S4 : SharedT, S = S4.abs ∧ S4.gens = #[] ∧ Keeps n (bootAnn w) s1.abs S ∧ G S4) (wpD _ p1 top_in) (fun v p' s' q => by
      obtain ⟨rfl, rfl⟩ := q
      exact behind p')
  refine ⟨S4, ?_, hg4, by rw [en]; exact K1.trans hk4, hG⟩
  refine halts_go goA ?_
  have eB : denote table D.c = (blockStart (behindTheImports D.p) D.env).wrap (fun _ => (execs (behindTheImports D.p) D.env).wrap doneF (leaveH D.env) id id) .raise id id := body_wrap _
  rw [eB]
  refine halts_go goB ?_
  rw [show (execs (behindTheImports D.p) D.env).wrap doneF (leaveH D.env) id id = (execs D.l D.env).wrap (fun f => match f with | .next => (execs (D.st :: D.rest) D.env).wrap doneF (leaveH D.env) id id | f => doneF f) (leaveH D.env) id id by rw [O.body, execs_app_wrap]; rfl]
  refine halts_go goC ?_
  show Halts D.p w s1.abs ⟨(execs (D.st :: D.rest) D.env).wrap doneF (leaveH D.env) id id, D.c, p1, D.B⟩ S4.abs
  rw [execs_cons_wrap, ex, Sem.bind_eq_wrap', Sem.wrap_wrap]
  exact hS
end
end Fw

end
set_option Elab.async false
set_option linter.all false
set_option maxRecDepth 100000
set_option maxHeartbeats 2000000
noncomputable section
namespace Fw
open PySem PySem.W PySem.Calls PyProof.Rows HandSHeadRun
/-- what is read off a run's end -/
def seeB (D : Plan) (q : Program) (loose : List Str) (Xt : Shared → Bool) {α : Type} (ob : SharedT → α) (w : World) (r : Big) := (r.tA, Nat.blt sysModules r.n1, r.cB, r.c1, r.c3, r.s4.gens.size, looksF D.p (boot_heap w.params) r.s4.abs, seenQ q loose (importedModules D.p.main.body) Xt r.s4.abs, ob r.s4)
def RunB (D : Plan) (q : Program) (loose : List Str) (Xt : Shared → Bool) {α : Type} (ob : SharedT → α) (val : World → α) : Prop :=
  ∀ (w : World) (os : OsState) (p2 : Pos), (bigF (stepQ (denQ tabQ) D.p w) D w os p2).map (seeB D q loose Xt ob w) = some (⟨denQ tabQ D.c, D.c, D.pos0, D.B⟩, true, D.c, D.c, D.c, 0, true, openGood q loose, val w)
theorem tops_of {D : Plan} {q : Program} {loose : List Str} {Xt : Shared → Bool} {H : Hook} {ob : SharedT → H.α} (O : D.Ok) (ho : ∀ s : SharedT, ob s = H.obs s.abs) (e : opening D.p = plainProg D.p.main.scope.names) (f : ∀ s, fenceModules? D.p s = some s) (run : RunB D q loose Xt ob H.val) :
    TopsE D.p q loose Xt H.obs H.val := fun w => by
  obtain ⟨⟨hp, gs, dr, tk, os⟩, hf, e0⟩ := Option.map_eq_some_iff.mp (boot_open (N := 600) e rfl f w)
  obtain ⟨rfl, rfl, rfl, rfl⟩ : hp = boot_heap w.params ∧ gs = Array.mk [] ∧ dr = boot_drawn ∧ tk = boot_toks := by simpa using e0
  rw [← table_eq_tree] at hf
  obtain ⟨s, hi, hfe⟩ := Option.bind_eq_some_iff.mp hf
  have A := AfterImport.of_importEnds hi
  have hz := Shared.asleep_of_life (fence_lifeW hfe) A.life
  have eq : ∀ p2, bigF (stepQ (denQ tabQ) D.p w) D w os p2 = bigF (stepT (denote table) D.p w) D w os p2 := fun p2 => by
    rw [← stepQ_eq, ← denQ_eq, ← tabQ_eq, table_eq_tree]
  obtain ⟨S, hS, hg, kS, g1, g2, g3⟩ := big_ends (w := w) (os := os) (G := fun S => looksF D.p (boot_heap w.params) S.abs = true ∧ openSeen q loose (importedModules D.p.main.body) Xt true S.abs = openGood q loose ∧ H.obs S.abs = H.val w) O (fun p2 => by
    obtain ⟨r, hr, hv⟩ := Option.map_eq_some_iff.mp (run w os p2)
    rw [eq] at hr
    have hv : seeB D q loose Xt ob w r = _ := hv
    unfold seeB at hv
    simp only [Prod.mk.injEq] at hv
    obtain ⟨v1, v2, v3, v4, v5, v6, v7, v8, v9⟩ := hv
    refine ⟨r, hr, ?_, v2, v3, v4, v5, Array.eq_empty_of_size_eq_zero v6, v7, ?_, ?_⟩
    · rw [v1, ← denQ_eq, ← tabQ_eq, table_eq_tree]
    · rw [seenQ_eq]
      exact v8
    · rw [← ho]
      exact v9) hz
  exact ⟨600, _, S.abs, hf, ⟨hS, boot_ns _, rfl, hg, kS.life, kS.os, kS.fr, g1, g2, g3⟩⟩
/-- a row whose top has the display in its midst -/
theorem head_big {r : OpenRow} {D : Plan} {q : Program} {loose : List Str} {H : Hook} {ob : SharedT → H.α} {d : DefRec} {kwd : List (Str × Expr)} (hD : D.p = r.prog) (O : D.Ok) (ho : ∀ s : SharedT, ob s = H.obs s.abs) (e : opening D.p = plainProg D.p.main.scope.names) (f : ∀ s, fenceModules? D.p s = some s)
    (run : RunB D q loose (fun s => xlAt q [] s && recOk r.toRowW.records s) ob H.val) (hdef : defOf q r.name = some (d, kwd)) (hp : r.prog.theDef r.name = some (d.params, d.body, d.scope)) (hk : kwWritten? d.params.kwonlyargs d.params.kw_defaults = some kwd)
    (hwr : (!r.writes || r.records.isEmpty) = true) (k1 : r.wellSaid = true) (ok : (chainsOk q && opensWell r.prog && (frees r.toRowW && r.within.isEmpty)) = true) (hb : r.prog.bare) (hw : r.toRowW.promised)
    (call : WalkO q loose (XL q []) H.says r.toRowW d kwd fun f vs => PySem.call f vs) : r.Holds := by
  have T := tops_of O ho e f run
  rw [hD] at T
  exact holdsE T (fun s z => xl_of s (Bool.and_eq_true_iff.mp z).1) XL.keeps hdef hp hk (fun s z => recFacts_of (Bool.and_eq_true_iff.mp z).2) hwr k1 ok hb hw call
/-! ### the hook: functions, facts, and some objects outright -/
def obsX (fa : List He.Fa) (fn : List He.FnD) (gs : List (Str × Addr)) (m k n : Nat) (g : Addr → Option Obj) : He.Al × Bool × List (Option Obj) :=
  let K := He.frG g (List.range n)
  (He.obsE fa fn K, gs.all fun x => He.eqO (nsIn K mainGlobals x.1) (some (some (.ref x.2))), (List.range k).map fun i => K.lookup (m + i))
def hookX (fa : List He.Fa) (fn : List He.FnD) (gs : List (Str × Addr)) (m k n : Nat) (os : World → List Obj) : Hook where
  α := He.Al × Bool × List (Option Obj)
  obs := fun s => obsX fa fn gs m k n s.heap.get?
  val := fun w => (He.valE fn, true, (os w).map some)
  says := fun w h => ∃ K : Frag, K.In h ∧ He.SaysE fa fn K ∧ (∀ x ∈ gs, nsIn K mainGlobals x.1 = some (some (.ref x.2))) ∧ ∀ i o, (os w)[i]? = some o → K.lookup (m + i) = some o
  of := fun w s e => by
    have e1 := congrArg (fun z : He.Al × Bool × List (Option Obj) => z.1) e
    have e2 := congrArg (fun z : He.Al × Bool × List (Option Obj) => z.2.1) e
    have e3 : (List.range k).map (fun i => (He.frG s.heap.get? (List.range n)).lookup (m + i)) = (os w).map some := congrArg (fun z : He.Al × Bool × List (Option Obj) => z.2.2) e
    refine ⟨_, He.frG_in, e1, fun x hx => He.eqO_ok (List.all_eq_true.mp e2 x hx), fun i o h => ?_⟩
    have z : ((List.range k).map (fun i => (He.frG s.heap.get? (List.range n)).lookup (m + i)))[i]? = ((os w).map some)[i]? := by rw [e3]
    rw [List.getElem?_map, List.getElem?_map, h] at z
    cases q : (List.range k)[i]? with
    | none => rw [q] at z; exact nomatch z
    | some j =>
      rw [q] at z
      have ej : j = i := by
        have := (List.getElem?_eq_some_iff.mp q)
        obtain ⟨h1, h2⟩ := this
        rw [List.getElem_range] at h2
        exact h2.symm
      subst ej
      exact Option.some.inj z
  keeps := fun _ _ _ ⟨K, hK, c⟩ k => ⟨K, Frag.In.keeps hK k, c⟩
def obX (fa : List He.Fa) (fn : List He.FnD) (gs : List (Str × Addr)) (m k n : Nat) (s : SharedT) : He.Al × Bool × List (Option Obj) := obsX fa fn gs m k n (getT s)
theorem obX_eq (fa : List He.Fa) (fn : List He.FnD) (gs : List (Str × Addr)) (m k n : Nat) (os : World → List Obj) (s : SharedT) : obX fa fn gs m k n s = (hookX fa fn gs m k n os).obs s.abs := by
  have e : getT s = s.abs.heap.get? := funext (getT_eq s)
  show obsX fa fn gs m k n (getT s) = obsX fa fn gs m k n s.abs.heap.get?
  rw [e]
end Fw

end
set_option Elab.async false
set_option linter.all false
set_option maxRecDepth 100000
set_option maxHeartbeats 2000000
/-! the hook with any looks at the fragment (ck), and some objects outright by their addresses; the class Fell by such looks -/
noncomputable section
namespace Fw
open PySem PySem.W PySem.Calls PyProof.Rows HandSHeadRun
def obsY (fa : List He.Fa) (fn : List He.FnD) (ck : Frag → Bool) (as : List Addr) (n : Nat) (g : Addr → Option Obj) : He.Al × Bool × List (Option Obj) :=
  let K := He.frG g (List.range n)
  (He.obsE fa fn K, ck K, as.map fun a => K.lookup a)
def hookY (fa : List He.Fa) (fn : List He.FnD) (ck : Frag → Bool) (as : List Addr) (n : Nat) (os : World → List Obj) : Hook where
  α := He.Al × Bool × List (Option Obj)
  obs := fun s => obsY fa fn ck as n s.heap.get?
  val := fun w => (He.valE fn, true, (os w).map some)
  says := fun w h => ∃ K : Frag, K.In h ∧ He.SaysE fa fn K ∧ ck K = true ∧ ∀ (i : Nat) (a : Addr) (o : Obj), as[i]? = some a → (os w)[i]? = some o → K.lookup a = some o
  of := fun w s e => by
    have e1 := congrArg (fun z : He.Al × Bool × List (Option Obj) => z.1) e
    have e2 := congrArg (fun z : He.Al × Bool × List (Option Obj) => z.2.1) e
    have e3 : as.map (fun a => (He.frG s.heap.get? (List.range n)).lookup a) = (os w).map some := congrArg (fun z : He.Al × Bool × List (Option Obj) => z.2.2) e
    refine ⟨_, He.frG_in, e1, e2, fun i a o ha ho => ?_⟩
    have z : (as.map (fun a => (He.frG s.heap.get? (List.range n)).lookup a))[i]? = ((os w).map some)[i]? := by rw [e3]
    rw [List.getElem?_map, List.getElem?_map, ha, ho] at z
    exact Option.some.inj z
  keeps := fun _ _ _ ⟨K, hK, c⟩ k => ⟨K, Frag.In.keeps hK k, c⟩
def obY (fa : List He.Fa) (fn : List He.FnD) (ck : Frag → Bool) (as : List Addr) (n : Nat) (s : SharedT) : He.Al × Bool × List (Option Obj) := obsY fa fn ck as n (getT s)
theorem obY_eq (fa : List He.Fa) (fn : List He.FnD) (ck : Frag → Bool) (as : List Addr) (n : Nat) (os : World → List Obj) (s : SharedT) : obY fa fn ck as n s = (hookY fa fn ck as n os).obs s.abs := by
  have e : getT s = s.abs.heap.get? := funext (getT_eq s)
  show obsY fa fn ck as n (getT s) = obsY fa fn ck as n s.abs.heap.get?
  rw [e]
/-! ### the class Fell -/
def clsB (K : Frag) (C : Addr) : Bool := match K.lookup C with
  | some ⟨.type "type", _, .cls cd, sl⟩ => (match cd.mro, sl.toList with
    | .ref C' :: bm, [_, _, _, _, some (.builtin n), _] => decide (C' = C) && decide (n = "RuntimeError.__new__") && !cd.hasDel && cd.hasDict && decide (bm = PySem.FellX.rtTail)
    | _, _ => false)
  | _ => false
theorem clsB_ok {K : Frag} {C : Addr} (q : clsB K C = true) : ∃ nm qn N bs bm sn sub ab col dd k0 k1 k2 k3 k5, K.lookup C = some (excClassObj nm qn C N bs bm true sn sub ab col dd k0 k1 k2 k3 k5 "RuntimeError.__new__") ∧ bm = PySem.FellX.rtTail := by
  unfold clsB at q
  split at q
  · rename_i dd cd sl ho
    split at q
    · rename_i C' bm k0 k1 k2 k3 n k5 hm hs
      simp only [Bool.and_eq_true, decide_eq_true_eq, Bool.not_eq_true'] at q
      obtain ⟨⟨⟨⟨rfl, rfl⟩, hdel⟩, hdct⟩, ht⟩ := q
      obtain ⟨nm, bs, mro, ns, qn, hd, sn, sub, ab, col, del⟩ := cd
      dsimp only at hm hdel hdct
      subst hm hdel hdct
      have hsl : sl = #[k0, k1, k2, k3, some (.builtin "RuntimeError.__new__"), k5] := by
        obtain ⟨l⟩ := sl
        simp only at hs
        rw [hs]
      subst hsl
      exact ⟨nm, qn, ns, bs, bm, sn, sub, ab, col, dd, k0, k1, k2, k3, k5, ho, ht⟩
    · cases q
  · cases q
def kwB (K : Frag) (a : Addr) : Bool := match K.lookup a with
  | some ⟨_, _, .func fd, _⟩ => decide (fd.kwdefaults = .none)
  | _ => false
def fellB (K : Frag) : Bool :=
  let C := He.ga K "Fell"
  let I := He.ma K C "__init__"
  clsB K C && He.eqO (findIn K (.ref C) "__setattr__") (some (some (.builtin "object.__setattr__"))) && He.eqO (findIn K (.ref C) "__getattribute__") (some (some (.builtin "BaseException.__getattribute__"))) && He.eqO (findIn K (.ref C) "__getattr__") (some none) &&
  He.eqO (findIn K (.ref C) "word") (some none) && He.eqO (findIn K (.ref C) "__init__") (some (some (.ref I))) && decide (typeIn K (.ref I) = some (.type "function")) && keepIn K (.ref C) && decide (subIn K (.ref C) (.type "BaseException") = some true) && decide (typeIn K (.ref C) = some (.type "type")) &&
  hasDictIn K C && decide (subIn K (.ref C) (.ref C) = some true) && kwB K I && He.eqO (findIn K (.ref C) "__class__") (some (some (.builtin "object.__class__"))) && He.eqO (specialIn K (.builtin "object.__class__") "__get__") (some (some (.builtin "getset_descriptor.__get__"))) &&
  decide (takesIn K (.builtin "object.__class__") = some true) && decide (mroIn K C (.type "object") = some true) && decide (subIn K (.ref C) (.type "RuntimeError") = some true)
theorem fell_of {K : Frag} {h : Heap} {mg : Str → Option Value} (X : K.In h) (G : h.Ns mainGlobals mg) (g : (He.Fa.glo "Fell").ok K = true) (q : fellB K = true) {p1 p2 q1 q2 q3 q4 : Pos}
    (fn : ∃ oc od osl kV doc pm an cdv ct, K.lookup (He.ma K (He.ga K "Fell") "__init__") = some ⟨oc, od, .func (fnOf "__init__" "Fell.__init__" (PySem.FellX.iA p1 p2) (PySem.FellX.iB q1 q2 q3 q4) PySem.FellX.iS .none kV doc pm an cdv ct), osl⟩ ∧ codeIn K cdv "Fell.__init__" = true) :
    PySem.FellX.FellTxt K mg (He.ga K "Fell") (He.ma K (He.ga K "Fell") "__init__") ∧ L2.ErrC K (He.ga K "Fell") ∧ subIn K (.ref (He.ga K "Fell")) (.type "RuntimeError") = some true := by
  unfold fellB at q
  dsimp only at q
  simp only [Bool.and_eq_true, decide_eq_true_eq] at q
  obtain ⟨⟨⟨⟨⟨⟨⟨⟨⟨⟨⟨⟨⟨⟨⟨⟨⟨c1, c2⟩, c3⟩, c4⟩, c5⟩, c6⟩, c7⟩, c8⟩, c9⟩, c10⟩, c11⟩, c12⟩, c13⟩, c14⟩, c15⟩, c16⟩, c17⟩, c18⟩ := q
  obtain ⟨oc, od, osl, kV, doc, pm, an, cdv, ct, l, e⟩ := fn
  have ek : kV = .none := by
    unfold kwB at c13
    rw [l] at c13
    exact of_decide_eq_true c13
  subst ek
  refine ⟨⟨He.glo_ok X G g, clsB_ok c1, He.eqO_ok c2, He.eqO_ok c3, He.eqO_ok c4, He.eqO_ok c5, He.eqO_ok c6, c7, c8, c9, c10, c11, exm_ref c9 c11 c10 c12, ⟨oc, od, doc, pm, an, cdv, ct, osl, p1, p2, q1, q2, q3, q4, l, e⟩⟩,
    { ga := He.eqO_ok c3, gg := He.eqO_ok c4, exC := c9, hdC := c11, ac := He.eqO_ok c14, sg := He.eqO_ok c15, tk := c16, mo := c17 }, c18⟩
end Fw

end
set_option Elab.async false
set_option linter.all false
set_option maxRecDepth 100000
set_option maxHeartbeats 2000000
/-! the hook with any looks at the fragment (ck), empty tables left out, and the tables of the defs tf -/
noncomputable section
namespace Fw
open PySem PySem.W PySem.Calls PyProof.Rows HandSHeadRun
def obsZ (fa : List He.Fa) (fn : List He.FnD) (ck : Frag → Bool) (tf : List He.Defn) (n : Nat) (g : Addr → Option Obj) : He.Al × Bool :=
  let K := He.frT g (List.range n)
  (He.obsE fa fn K, ck K && He.tabsB g tf K)
structure SaysZ (fa : List He.Fa) (fn : List He.FnD) (ck : Frag → Bool) (tf : List He.Defn) (h : Heap) (K : Frag) : Prop where
  e : He.SaysE fa fn K
  ck : ck K = true
  hd : ∀ p ∈ tf, codeHdIn K (He.cT K p).1 (He.cT K p).2 = true
  out : ∀ p ∈ tf, K.lookup (He.cT K p).2 = none
  empty : ∀ p ∈ tf, h.get? (He.cT K p).2 = some { cls := .none, data := .fields #[] }
theorem saysZ_of {fa : List He.Fa} {fn : List He.FnD} {ck : Frag → Bool} {tf : List He.Defn} {n : Nat} {h : Heap} (e : obsZ fa fn ck tf n h.get? = (He.valE fn, true)) : SaysZ fa fn ck tf h (He.frT h.get? (List.range n)) := by
  have e1 : He.obsE fa fn (He.frT h.get? (List.range n)) = He.valE fn := congrArg (fun z : He.Al × Bool => z.1) e
  have e2 : (ck (He.frT h.get? (List.range n)) && He.tabsB h.get? tf (He.frT h.get? (List.range n))) = true := congrArg (fun z : He.Al × Bool => z.2) e
  obtain ⟨h1, h2⟩ := Bool.and_eq_true_iff.mp e2
  have key : ∀ p ∈ tf, codeHdIn (He.frT h.get? (List.range n)) (He.cT (He.frT h.get? (List.range n)) p).1 (He.cT (He.frT h.get? (List.range n)) p).2 = true ∧ ∃ o, h.get? (He.cT (He.frT h.get? (List.range n)) p).2 = some o ∧ He.emptyTab o = true := fun p hp => by
    obtain ⟨h3, h4⟩ := Bool.and_eq_true_iff.mp (List.all_eq_true.mp h2 p hp)
    refine ⟨h3, ?_⟩
    cases q : h.get? (He.cT (He.frT h.get? (List.range n)) p).2 with
    | none => rw [q] at h4; cases h4
    | some o => rw [q] at h4; exact ⟨o, rfl, h4⟩
  exact ⟨e1, h1, fun p hp => (key p hp).1, fun p hp => by
    obtain ⟨_, o, q, z⟩ := key p hp
    exact He.frT_none q z, fun p hp => by
    obtain ⟨_, o, q, z⟩ := key p hp
    rw [q, He.emptyTab_eq z]⟩
def hookZ (fa : List He.Fa) (fn : List He.FnD) (ck : Frag → Bool) (tf : List He.Defn) (n : Nat) : Hook where
  α := He.Al × Bool
  obs := fun s => obsZ fa fn ck tf n s.heap.get?
  val := fun w => (He.valE fn, true)
  says := fun w h => ∃ K : Frag, K.In h ∧ SaysZ fa fn ck tf h K
  of := fun w s e => ⟨_, He.frT_in, saysZ_of e⟩
  keeps := fun _ _ _ ⟨K, hK, c⟩ k => ⟨K, Frag.In.keeps hK k, ⟨c.e, c.ck, c.hd, c.out, fun p hp => k _ _ (c.empty p hp)⟩⟩
def obZ (fa : List He.Fa) (fn : List He.FnD) (ck : Frag → Bool) (tf : List He.Defn) (n : Nat) (s : SharedT) : He.Al × Bool := obsZ fa fn ck tf n (getT s)
theorem obZ_eq (fa : List He.Fa) (fn : List He.FnD) (ck : Frag → Bool) (tf : List He.Defn) (n : Nat) (s : SharedT) : obZ fa fn ck tf n s = (hookZ fa fn ck tf n).obs s.abs := by
  have e : getT s = s.abs.heap.get? := funext (getT_eq s)
  show obsZ fa fn ck tf n (getT s) = obsZ fa fn ck tf n s.abs.heap.get?
  rw [e]
end Fw

end
set_option Elab.async false
set_option linter.all false
set_option maxRecDepth 100000
set_option maxHeartbeats 2000000
/-! keyword-only defaults read off the fragment -/
noncomputable section
namespace Fw
open PySem PySem.Spec PySem.W PyProof.Rows L2
def kwO (K : Frag) (p : He.Defn) (x : Str) : Option Value := match K.lookup (He.fAd K p) with
  | some ⟨_, _, .func fd, _⟩ => (match fd.kwdefaults with
    | .ref D => (match nsIn K D x with
      | some (some u) => some u
      | _ => none)
    | _ => none)
  | _ => none
theorem kwO_ok {K : Frag} {p : He.Defn} {x : Str} {u : Value} {oc : Value} {od : Option Addr} {fd : FuncData} {osl : Array (Option Value)} (h : kwO K p x = some u) (l : K.lookup (He.fAd K p) = some ⟨oc, od, .func fd, osl⟩) : ∃ D : Addr, fd.kwdefaults = .ref D ∧ nsIn K D x = some (some u) := by
  unfold kwO at h
  rw [l] at h
  dsimp only at h
  split at h
  · rename_i D hD
    split at h
    · rename_i v hv
      cases h
      exact ⟨D, hD, hv⟩
    · cases h
  · cases h
/-- an empty tuple of the fragment -/
def emT (K : Frag) : Option Value → Bool
  | some (.ref e) => (match K.lookup e with
    | some ⟨.type c, _, .seq its _, _⟩ => decide (c = "tuple") && its.isEmpty
    | _ => false)
  | _ => false
theorem emT_ok {K : Frag} {v : Option Value} (h : emT K v = true) : ∃ e : Addr, v = some (.ref e) ∧ ∀ H, SqT K H e [] := by
  unfold emT at h
  split at h
  · rename_i e
    split at h
    · rename_i c od its n sl hl
      obtain ⟨h1, h2⟩ := Bool.and_eq_true_iff.mp h
      have h1 := of_decide_eq_true h1
      have h2 := Array.isEmpty_iff.mp h2
      subst h1 h2
      exact ⟨e, rfl, fun H => .inr ⟨_, #[], n, hl, rfl, rfl, by decide, .nil⟩⟩
    · cases h
  · cases h
/-- one keyword-only value behind n by place -/
theorem kb_one {K : Frag} {fd : FuncData} {ps : List Str} {z : Str} {n : Nat} (h : ∀ (us ws : List Value), us.length = n → ws.length = 1 → bindArgs fd ⟨us, [z].zip ws⟩ = pure (ps.zip (us ++ ws))) : KBn K fd ps n [z] (· ++ ·) (· ++ ·) :=
  ⟨fun s us ws _ l1 l2 => .of_eq (h us ws l1 l2), fun r1 r2 => r1.append r2⟩
theorem funD_of {K : Frag} {x qual : Str} {st : Stmt} {f : Addr} {oc : Value} {od an : Option Addr} {osl : Array (Option Value)} {kV doc pm cdv ct : Value} {p : He.Defn} {z : Str} {u : Value} {v : V} (e : He.fAd K p = f)
    (l : K.lookup f = some ⟨oc, od, .func (PySem.W.fnOf x qual (defArgs st) (defBody st) (defScope st) .none kV doc pm an cdv ct), osl⟩) (c : PySem.W.codeIn K cdv qual = true) (k : PySem.W.keepIn K (.ref f) = true)
    (h : kwO K p z = some u) (r : RelV v u) : FunD K x qual (defArgs st) (defBody st) (defScope st) [] [(z, v)] f (PySem.W.fnOf x qual (defArgs st) (defBody st) (defScope st) .none kV doc pm an cdv ct) := by
  subst e
  obtain ⟨D, e1, e2⟩ := kwO_ok h l
  exact ⟨⟨oc, od, .none, kV, doc, pm, an, cdv, ct, osl, rfl, l, c, .inl ⟨rfl, rfl⟩, .inr ⟨D, e1, fun q hq => by
    rw [List.mem_singleton.mp hq]
    exact ⟨u, e2, r⟩⟩⟩, k⟩
/-- isinstance may ask of the class x -/
def isiB (K : Frag) (x : Str) : Bool := decide (findIn K (.ref (He.ga K x)) "__class__" = some (some (.builtin "object.__class__"))) && decide (specialIn K (.builtin "object.__class__") "__get__" = some (some (.builtin "getset_descriptor.__get__"))) && decide (takesIn K (.builtin "object.__class__") = some true) && decide (mroIn K (He.ga K x) (.type "object") = some true)
/-- a tuple of n references in the fragment -/
def refs? : List Value → Bool
  | [] => true
  | .ref _ :: l => refs? l
  | _ :: _ => false
def refT (K : Frag) (a : Addr) (n : Nat) : Bool := match K.lookup a with
  | some ⟨.type c, _, .seq its _, _⟩ => decide (c = "tuple") && (decide (its.toList.length = n) && refs? its.toList)
  | _ => false
theorem refs_vals : ∀ {l : List Value}, refs? l = true → ∃ xs : List V, xs.length = l.length ∧ Vals xs l
  | [], _ => ⟨[], rfl, .nil⟩
  | v :: l, h => by
    cases v with
    | ref a =>
      obtain ⟨xs, h1, h2⟩ := refs_vals (l := l) h
      exact ⟨.ref a :: xs, by rw [List.length_cons, List.length_cons, h1], .cons rfl h2⟩
    | _ => cases h
theorem refT_ok {K : Frag} {a : Addr} {n : Nat} (h : refT K a n = true) (hn : n ≤ sizeLine) : ∃ xs : List V, xs.length = n ∧ ∀ H, SqT K H a xs := by
  unfold refT at h
  split at h
  · rename_i c od its m sl hl
    obtain ⟨h1, h2⟩ := Bool.and_eq_true_iff.mp h
    obtain ⟨h2, h3⟩ := Bool.and_eq_true_iff.mp h2
    have h1 := of_decide_eq_true h1
    have h2 := of_decide_eq_true h2
    subst h1
    obtain ⟨xs, e1, e2⟩ := refs_vals h3
    exact ⟨xs, by rw [e1, h2], fun H => .inr ⟨_, its, m, hl, rfl, rfl, by rw [← Array.length_toList, h2]; exact hn, e2⟩⟩
  · cases h
end Fw

end
set_option Elab.async false
set_option linter.all false
set_option maxRecDepth 100000
set_option maxHeartbeats 1000000
namespace Fd
open PySem PySem.Spec PyProof.Rows L2 RZ Fw LamX
/-! ### where a name stands -/
theorem look_at : ∀ {α : Type} {l : List (Str × α)} {x : Str} {v : α}, l.lookup x = some v → ∃ i : Nat, l[i]? = some (x, v)
  | _, [], x, v, h => nomatch h
  | _, (y, u) :: l, x, v, h => by
    rw [List.lookup_cons] at h
    by_cases e : (x == y) = true
    · rw [e] at h
      cases h
      exact ⟨0, by rw [eq_of_beq e]; rfl⟩
    · rw [Bool.eq_false_iff.mpr e] at h
      obtain ⟨i, q⟩ := look_at h
      exact ⟨i + 1, q⟩
theorem val_look {α : Type} {g : α → V} : ∀ {l : List (Str × α)} {x : Str}, valV (l.map fun q => ((Sum.inr q.1 : L2.Key), g q.2)) (Sum.inr x) = (l.lookup x).map g
  | [], x => rfl
  | (y, u) :: l, x => by
    rw [List.map_cons, List.lookup_cons]
    by_cases e : y = x
    · subst e
      rw [valV_pos rfl, beq_self_eq_true]
      rfl
    · rw [valV_neg (fun c => e (Sum.inr.inj c)), show (x == y) = false from beq_eq_false_iff_ne.mpr (Ne.symm e)]
      exact val_look (l := l)
theorem val_lookN {nm : Nms} {x : Str} : valV (nmK nm) (Sum.inr x) = (nm.lookup x).map V.int := val_look (g := V.int)
theorem val_lookR {H : Hp} : ∀ {rs : List Addr} {rw_ : Rws} {x : Str}, Paired (fun a (q : Str × List Int) => H a = some (.lst (q.2.map V.int))) rs rw_ → (rw_.lookup x = none → valV (rwK (rw_.map (·.1)) rs) (Sum.inr x) = none) ∧ ∀ row, rw_.lookup x = some row → ∃ (j : Nat) (r : Addr), rs[j]? = some r ∧ rw_[j]? = some (x, row) ∧ valV (rwK (rw_.map (·.1)) rs) (Sum.inr x) = some (.ref r)
  | _, _, x, .nil => ⟨(fun _ => rfl), fun row h => (nomatch h)⟩
  | r :: rs, (y, u) :: rw_, x, .cons h t => by
    obtain ⟨t1, t2⟩ := val_lookR (x := x) t
    show (List.lookup x ((y, u) :: rw_) = none → valV ((Sum.inr y, V.ref r) :: rwK (rw_.map (·.1)) rs) (Sum.inr x) = none) ∧ ∀ row, List.lookup x ((y, u) :: rw_) = some row → ∃ (j : Nat) (r' : Addr), (r :: rs)[j]? = some r' ∧ ((y, u) :: rw_)[j]? = some (x, row) ∧ valV ((Sum.inr y, V.ref r) :: rwK (rw_.map (·.1)) rs) (Sum.inr x) = some (.ref r')
    rw [List.lookup_cons]
    by_cases e : y = x
    · subst e
      rw [valV_pos rfl, beq_self_eq_true]
      refine ⟨(fun z => nomatch z), fun row z => ⟨0, r, rfl, ?_, rfl⟩⟩
      cases (Option.some.inj z)
      rfl
    · rw [valV_neg (fun c => e (Sum.inr.inj c)), show (x == y) = false from beq_eq_false_iff_ne.mpr (Ne.symm e)]
      refine ⟨t1, fun row z => ?_⟩
      obtain ⟨j, r', q1, q2, q3⟩ := t2 row z
      exact ⟨j + 1, r', q1, q2, q3⟩
theorem val_lookR1 {H : Hp} {rs : List Addr} {rw_ : Rws} {x : Str} (h : Paired (fun a (q : Str × List Int) => H a = some (.lst (q.2.map V.int))) rs rw_) : (valV (rwK (rw_.map (·.1)) rs) (Sum.inr x)).isSome = (rw_.lookup x).isSome := by
  obtain ⟨t1, t2⟩ := val_lookR (x := x) h
  cases e : rw_.lookup x with
  | none => rw [t1 e]; rfl
  | some row =>
    obtain ⟨j, r, _, _, q⟩ := t2 row e
    rw [q]; rfl
abbrev sNW : Stmt := inC 37 19
abbrev sRO : Stmt := inC 37 20
section
variable {P : Program} {w : World} {K : PySem.W.Frag} {mg : Str → Option Value} {base : Heap} {f CF fI : Addr} {fd : FuncData} {C CH : Addr}
def spNW (w : World) (K : PySem.W.Frag) (C CH CF : Addr) : Sp := fun vs H Q E => ∃ (p b : Addr) (A : GA) (G : Gs) (i : Nat) (o : One) (x : Str), vs = [.ref p, .ref b, .str x] ∧ GsF w K C CH H p G A ∧ OneT H b o ∧ G.ones[i]? = some o ∧
  (∀ v hd H', o.f.ns.lookup x = some v → A.hs[i]? = some hd → Same H H' → Q (.ref hd.dn) H') ∧ (∀ v H', o.f.ns.lookup x = none → G.nm.lookup x = some v → Same H H' → Q (.ref A.h0.dn) H') ∧ (∀ H', o.f.ns.lookup x = none → G.nm.lookup x = none → Same H H' → Fv.Falls CF E H' "none")
theorem scNW : FnScope ["self", "one", "name", "holding"] ["self", "one", "name"] (defScope sNW) := ⟨rfl, rfl, rfl, by decide +kernel, rfl, by decide +kernel, by decide +kernel⟩
theorem ok_nw {k : Nat} (T : PySem.FellX.FellTxt K mg CF fI) (F : Fun K "numbers_with" "Ground.numbers_with" sNW f fd) (c : GCls K C) (cH : HCls K CH) : FnOk P w K mg base (L2.CX P w) (k + 2) f fd ["self", "one", "name"] (spNW w K C CH CF) := by
  have sc := scNW
  refine F.okX sc (fun vs H Q E h => ?_) (fun cdv A outer s H vs Q E hr h => ?_)
  · obtain ⟨p, b, A, G, i, o, x, rfl, _⟩ := h
    rfl
  obtain ⟨p, b, AA, G, i, o, x, rfl, hp, hb, ei, q1, q2, q3⟩ := h
  refine ⟨_, (pss_cons (ps_for (passes_of rfl) rfl (pi_tup (pe_tup (pa_cons (Fw.pe_mget (hu20 hr) (pe_fld (pv 0) rfl) (pv 1) (fun _ _ => rfl)) (pa_cons (Fw.pe_mget (hu20 hr) (pe_fld (pv 0) rfl) pe_non (fun _ _ => rfl)) pa_nil)))) (pg_name (i := 3) sc.nd rfl (.inl rfl)) (pss_one (ps_if (pt_cmp (pc_din (hu_of hr) (pv 2) (pe_fld (pv 3) rfl))) (pss_one (ps_ret (pe_fld (pv 3) rfl))) pss_nil)))
      (pss_one (ps_raiseFell rfl T hr (takes_of rfl rfl rfl rfl) (by exact (pa_cons pe_str pa_nil))))), ?_⟩
  obtain ⟨⟨ps, n0, h1, h2, h3, h4, h5, h6, h7, h8, hn0⟩, ok, nd⟩ := hp
  obtain ⟨hd, ey, hy⟩ := paired_idx h7 ei
  have ey' : (AA.hs.map Hd.p)[i]? = some hd.p := by rw [List.getElem?_map, ey]; rfl
  refine ⟨_, rfl, p, C, AA.dx, _, _, rfl, h1, c.cl, c.nD, fldG_d _ _ _ _ _ _, _, rfl, AA.dH, _, some o.key, .ref hd.p, rfl, h6, .inr ⟨o.key, b, rfl, rfl, hb⟩, held_in ei ey', ?_⟩
  refine ⟨_, rfl, p, C, AA.dx, _, _, rfl, h1, c.cl, c.nD, fldG_d _ _ _ _ _ _, AA.dH, _, none, .ref AA.h0.p, rfl, h6, .inl ⟨rfl, rfl⟩, held_none, by show 2 ≤ sizeLine; decide, fun t nt => ?_⟩
  have st := same_upd (o := .tup [V.ref hd.p, .ref AA.h0.p]) nt
  have et := upd_same (H := H) (a := t) (o := .tup [V.ref hd.p, .ref AA.h0.p])
  generalize upd H t (.tup [V.ref hd.p, .ref AA.h0.p]) = H1 at *
  obtain ⟨⟨dx1, y1, y2, y3, y4⟩, _⟩ := hy
  obtain ⟨⟨dx0, z1, z2, z3, z4⟩, _⟩ := h8
  refine ⟨t, rfl, ⟨_, .inl (.inl et)⟩, for_it (walk_tup (xs := [V.ref hd.p, .ref AA.h0.p])) (fun j σ H' => H' = H1 ∧ (1 ≤ j → o.f.ns.lookup x = none) ∧ (2 ≤ j → G.nm.lookup x = none) ∧ ∃ v3, σ = [some (.ref p), some (.ref b), some (.str x), v3]) ⟨rfl, (fun h => by omega), (fun h => by omega), none, rfl⟩ (fun j σ H' _ h => by rw [h.1]; exact .inl (.inl et)) ?_ ?_⟩
  · rintro j v σ HA HB hj ⟨e1, n1, n2, v3, rfl⟩ ⟨e2, ev⟩
    rw [e2, e1]
    clear e1 e2
    have key : ∀ (hh : Hd) (dx : Addr) (nm : Nms) (rw_ : Rws) (D : Ends), v = .ref hh.p → H1 hh.p = some (.ins CH dx (fldH hh.dn hh.dr)) → H1 hh.dn = some (.dK (nmK nm)) → (∀ v, nm.lookup x = some v → D.rt (.ref hh.dn) H1) → (nm.lookup x = none → D.nx [some (.ref p), some (.ref b), some (.str x), some (.ref hh.p)] H1) →
        tIfS (tTest (tDIn (tVar 2) (tFld K (tVar 3) "numbers"))) (tRet (tFld K (tVar 3) "numbers")) tNext D [some (.ref p), some (.ref b), some (.str x), some (.ref hh.p)] H1 := fun hh dx nm rw_ D ev g1 g2 k1 k2 => by
      refine ⟨_, rfl, _, rfl, hh.p, CH, dx, _, _, rfl, g1, cH.cl, cH.nN, fldH_n _ _, hh.dn, _, rfl, .inl ⟨_, Sum.inr x, .inl g2, rfl, rfl⟩, _, rfl, ?_⟩
      rw [val_lookN]
      cases el : nm.lookup x with
      | none => exact ifFF (k2 el)
      | some v => exact iteT ⟨_, rfl, hh.p, CH, dx, _, _, rfl, g1, cH.cl, cH.nN, fldH_n _ _, k1 v el⟩
    match j, hj, ev with
    | 0, _, ev =>
      cases (Option.some.inj ev)
      refine key hd dx1 o.f.ns [] _ rfl (st _ _ y1) (st _ _ y2) ?_ ?_
      · exact fun v e => q1 v hd _ e ey st
      · exact fun e => ⟨rfl, fun _ => e, fun h => by omega, _, rfl⟩
    | 1, _, ev =>
      cases (Option.some.inj ev)
      have e0 := n1 (Nat.le_refl 1)
      refine key AA.h0 dx0 G.nm [] _ rfl (st _ _ z1) (st _ _ z2) ?_ ?_
      · exact fun v e => q2 v _ e0 e st
      · exact fun e => ⟨rfl, fun _ => e0, fun _ => e, _, rfl⟩
  rintro σ H' ⟨rfl, n1, n2, v3, rfl⟩
  exact ⟨_, rfl, fun d nd => q3 _ (n1 (by show 1 ≤ 2; decide)) (n2 (by show 2 ≤ 2; decide)) st d nd⟩
def spRO (w : World) (K : PySem.W.Frag) (C CH CF : Addr) : Sp := fun vs H Q E => ∃ (p b : Addr) (A : GA) (G : Gs) (i : Nat) (o : One) (x : Str), vs = [.ref p, .ref b, .str x] ∧ GsF w K C CH H p G A ∧ OneT H b o ∧ G.ones[i]? = some o ∧
  (∀ (row : List Int) (hd : Hd) (j : Nat) r H', o.f.rs.lookup x = some row → A.hs[i]? = some hd → hd.rs[j]? = some r → o.f.rs[j]? = some (x, row) → Same H H' → H' r = some (.lst (row.map V.int)) → Q (.ref r) H') ∧ (∀ (row : List Int) (j : Nat) r H', o.f.rs.lookup x = none → G.rw.lookup x = some row → A.h0.rs[j]? = some r → G.rw[j]? = some (x, row) → Same H H' → H' r = some (.lst (row.map V.int)) → Q (.ref r) H') ∧ (∀ H', o.f.rs.lookup x = none → G.rw.lookup x = none → Same H H' → Fv.Falls CF E H' "none")
theorem scRO : FnScope ["self", "one", "name", "holding"] ["self", "one", "name"] (defScope sRO) := ⟨rfl, rfl, rfl, by decide +kernel, rfl, by decide +kernel, by decide +kernel⟩
theorem ok_ro {k : Nat} (T : PySem.FellX.FellTxt K mg CF fI) (F : Fun K "row_of" "Ground.row_of" sRO f fd) (c : GCls K C) (cH : HCls K CH) : FnOk P w K mg base (L2.CX P w) (k + 2) f fd ["self", "one", "name"] (spRO w K C CH CF) := by
  have sc := scRO
  refine F.okX sc (fun vs H Q E h => ?_) (fun cdv A outer s H vs Q E hr h => ?_)
  · obtain ⟨p, b, A, G, i, o, x, rfl, _⟩ := h
    rfl
  obtain ⟨p, b, AA, G, i, o, x, rfl, hp, hb, ei, q1, q2, q3⟩ := h
  refine ⟨_, (pss_cons (ps_for (passes_of rfl) rfl (pi_tup (pe_tup (pa_cons (Fw.pe_mget (hu20 hr) (pe_fld (pv 0) rfl) (pv 1) (fun _ _ => rfl)) (pa_cons (Fw.pe_mget (hu20 hr) (pe_fld (pv 0) rfl) pe_non (fun _ _ => rfl)) pa_nil)))) (pg_name (i := 3) sc.nd rfl (.inl rfl)) (pss_one (ps_if (pt_cmp (pc_din (hu_of hr) (pv 2) (pe_fld (pv 3) rfl))) (pss_one (ps_ret (pe_dget (hu_of hr) (pe_fld (pv 3) rfl) (pv 2) (fun _ _ => rfl)))) pss_nil)))
      (pss_one (ps_raiseFell rfl T hr (takes_of rfl rfl rfl rfl) (by exact (pa_cons pe_str pa_nil))))), ?_⟩
  obtain ⟨⟨ps, n0, h1, h2, h3, h4, h5, h6, h7, h8, hn0⟩, ok, nd⟩ := hp
  obtain ⟨hd, ey, hy⟩ := paired_idx h7 ei
  have ey' : (AA.hs.map Hd.p)[i]? = some hd.p := by rw [List.getElem?_map, ey]; rfl
  refine ⟨_, rfl, p, C, AA.dx, _, _, rfl, h1, c.cl, c.nD, fldG_d _ _ _ _ _ _, _, rfl, AA.dH, _, some o.key, .ref hd.p, rfl, h6, .inr ⟨o.key, b, rfl, rfl, hb⟩, held_in ei ey', ?_⟩
  refine ⟨_, rfl, p, C, AA.dx, _, _, rfl, h1, c.cl, c.nD, fldG_d _ _ _ _ _ _, AA.dH, _, none, .ref AA.h0.p, rfl, h6, .inl ⟨rfl, rfl⟩, held_none, by show 2 ≤ sizeLine; decide, fun t nt => ?_⟩
  have st := same_upd (o := .tup [V.ref hd.p, .ref AA.h0.p]) nt
  have et := upd_same (H := H) (a := t) (o := .tup [V.ref hd.p, .ref AA.h0.p])
  generalize upd H t (.tup [V.ref hd.p, .ref AA.h0.p]) = H1 at *
  obtain ⟨⟨dx1, y1, y2, y3, y4⟩, _⟩ := hy
  obtain ⟨⟨dx0, z1, z2, z3, z4⟩, _⟩ := h8
  refine ⟨t, rfl, ⟨_, .inl (.inl et)⟩, for_it (walk_tup (xs := [V.ref hd.p, .ref AA.h0.p])) (fun j σ H' => H' = H1 ∧ (1 ≤ j → o.f.rs.lookup x = none) ∧ (2 ≤ j → G.rw.lookup x = none) ∧ ∃ v3, σ = [some (.ref p), some (.ref b), some (.str x), v3]) ⟨rfl, (fun h => by omega), (fun h => by omega), none, rfl⟩ (fun j σ H' _ h => by rw [h.1]; exact .inl (.inl et)) ?_ ?_⟩
  · rintro j v σ HA HB hj ⟨e1, n1, n2, v3, rfl⟩ ⟨e2, ev⟩
    rw [e2, e1]
    clear e1 e2
    have key : ∀ (hh : Hd) (dx : Addr) (rw_ : Rws) (D : Ends), v = .ref hh.p → H1 hh.p = some (.ins CH dx (fldH hh.dn hh.dr)) → H1 hh.dr = some (.dK (rwK (rw_.map (·.1)) hh.rs)) → Paired (fun a (q : Str × List Int) => H1 a = some (.lst (q.2.map V.int))) hh.rs rw_ → (∀ (row : List Int) (j : Nat) r, rw_.lookup x = some row → hh.rs[j]? = some r → rw_[j]? = some (x, row) → H1 r = some (.lst (row.map V.int)) → D.rt (.ref r) H1) → (rw_.lookup x = none → D.nx [some (.ref p), some (.ref b), some (.str x), some (.ref hh.p)] H1) →
        tIfS (tTest (tDIn (tVar 2) (tFld K (tVar 3) "rows"))) (tRet (tDGet (tFld K (tVar 3) "rows") (tVar 2))) tNext D [some (.ref p), some (.ref b), some (.str x), some (.ref hh.p)] H1 := fun hh dx rw_ D ev g1 g2 g3 k1 k2 => by
      refine ⟨_, rfl, _, rfl, hh.p, CH, dx, _, _, rfl, g1, cH.cl, cH.nR, fldH_r _ _, hh.dr, _, rfl, .inl ⟨_, Sum.inr x, .inl g2, rfl, rfl⟩, _, rfl, ?_⟩
      rw [val_lookR1 g3]
      obtain ⟨t1, t2⟩ := val_lookR (x := x) g3
      cases el : rw_.lookup x with
      | none => exact ifFF (k2 el)
      | some row =>
        obtain ⟨j', r, er, ej, evl⟩ := t2 row el
        have hr := paired_get g3 er ej
        exact iteT ⟨_, rfl, hh.p, CH, dx, _, _, rfl, g1, cH.cl, cH.nR, fldH_r _ _, _, rfl, hh.dr, .ref r, rfl, .inl ⟨_, Sum.inr x, .inl g2, rfl, evl.symm⟩, k1 row j' r el er ej hr⟩
    match j, hj, ev with
    | 0, _, ev =>
      cases (Option.some.inj ev)
      refine key hd dx1 o.f.rs _ rfl (st _ _ y1) (st _ _ y3) (L2.Paired.mapP y4 fun a q e => st _ _ e) ?_ ?_
      · exact fun row j r e er ej hr => q1 row hd j r _ e ey er ej st hr
      · exact fun e => ⟨rfl, fun _ => e, fun h => by omega, _, rfl⟩
    | 1, _, ev =>
      cases (Option.some.inj ev)
      have e0 := n1 (Nat.le_refl 1)
      refine key AA.h0 dx0 G.rw _ rfl (st _ _ z1) (st _ _ z3) (L2.Paired.mapP z4 fun a q e => st _ _ e) ?_ ?_
      · exact fun row j r e er ej hr => q2 row j r _ e0 e er ej st hr
      · exact fun e => ⟨rfl, fun _ => e0, fun _ => e, _, rfl⟩
  rintro σ H' ⟨rfl, n1, n2, v3, rfl⟩
  exact ⟨_, rfl, fun d nd => q3 _ (n1 (by show 1 ≤ 2; decide)) (n2 (by show 2 ≤ 2; decide)) st d nd⟩
end
end Fd

set_option Elab.async false
set_option linter.all false
set_option maxRecDepth 100000
set_option maxHeartbeats 1000000
namespace Fd
open PySem PySem.Spec PyProof.Rows L2 RZ Fw LamX
/-! ### deeds of names and lists -/
/-- the tables that deeds' words are looked up in -/
structure DoT (P : Program) (K : PySem.W.Frag) (w : World) (mg : Str → Option Value) (base : Heap) (CF nD lD hD : Addr) (eN eL eS : Array DictEntry) (n1 n2 n3 k0 : Nat) : Prop where
  mN : mg "NAME_DEEDS" = some (.ref nD)
  mL : mg "LIST_DEEDS" = some (.ref lD)
  mS : mg "SHOWN_BY" = some (.ref hD)
  dN : KDict K w nD eN n1
  dL : KDict K w lD eL n2
  dS : KDict K w hD eS n3
  zN : ∀ z ∈ (["move", "turn", "say", "place", "put", "drop", "write", "show", "hide"] : List Str), PySem.W.nsIn K nD z = some none
  zL : ∀ z ∈ (["move", "turn", "say", "place", "set", "add", "show", "hide"] : List Str), PySem.W.nsIn K lD z = some none
  zS : ∀ z ∈ (["turn", "place", "move"] : List Str), PySem.W.nsIn K hD z = some none
  s1 : KDct K w hD "show" (.bl true)
  s2 : KDct K w hD "hide" (.bl false)
  kS : ∃ f, KDct K w nD "set" (.ref f) ∧ Fv.HeldX P w K mg base k0 f spSetN
  kA : ∃ f, KDct K w nD "add" (.ref f) ∧ Fv.HeldX P w K mg base k0 f (spAddN CF)
  kP : ∃ f, KDct K w lD "put" (.ref f) ∧ Fv.HeldX P w K mg base k0 f (spPutV K CF)
  kD : ∃ f, KDct K w lD "drop" (.ref f) ∧ Fv.HeldX P w K mg base k0 f (spDropV K CF)
  kW : ∃ f, KDct K w lD "write" (.ref f) ∧ Fv.HeldX P w K mg base k0 f (spWriteV K CF)
/-- what becomes of a name's value -/
def actN (z : Str) (old v : Int) : Except Str Int := if z = "set" then .ok v else if Fv.inB (old + v) = true then .ok (old + v) else .error "far"
/-- what becomes of a list -/
def actR (z : Str) (row : List Int) (v : Int) (ws : List Int) : Except Str (List Int) :=
  if z = "put" then (if row.length < 8 then .ok (row ++ [v]) else .error "full")
  else if 0 ≤ v ∧ v < row.length then (if z = "drop" then .ok (row.eraseIdx v.toNat) else .ok (row.set v.toNat (ws.headD 0))) else .error "none"
def heldN (G : Gs) (i : Nat) (o : One) (z x : Str) (v : Int) : Except Str Gs := match o.f.ns.lookup x with
  | some old => (actN z old v).map fun u => G.put i (o.ns_ (setN o.f.ns x u))
  | none => match G.nm.lookup x with
    | some old => (actN z old v).map fun u => G.nm_ (setN G.nm x u)
    | none => .error "none"
def heldR (G : Gs) (i : Nat) (o : One) (z x : Str) (v : Int) (ws : List Int) : Except Str Gs := match o.f.rs.lookup x with
  | some row => (actR z row v ws).map fun u => G.put i (o.rs_ (setR o.f.rs x u))
  | none => match G.rw.lookup x with
    | some row => (actR z row v ws).map fun u => G.rw_ (setR G.rw x u)
    | none => .error "none"
def heldG (G : Gs) (i : Nat) (o : One) (z x : Str) (v : Int) (ws : List Int) : Except Str Gs := if z ∈ (["set", "add"] : List Str) then heldN G i o z x v else heldR G i o z x v ws
/-- a word of names or of lists, and so many values -/
def ArN (z : Str) (ws : List Int) : Prop := z ∈ (["set", "add"] : List Str) ∨ z ∈ (["put", "drop"] : List Str) ∨ (z = "write" ∧ ∃ u vs, ws = u :: vs)
abbrev sCH : Stmt := inC 37 18
section
variable {P : Program} {w : World} {K : PySem.W.Frag} {mg : Str → Option Value} {base : Heap} {f CF fI : Addr} {fd : FuncData} {C CH : Addr}
def spCH (w : World) (K : PySem.W.Frag) (C CH CF : Addr) : Sp := fun vs H Q E => ∃ (p b vl : Addr) (A : GA) (G : Gs) (i : Nat) (o : One) (z x : Str) (v : Int) (ws : List Int), vs = [.ref p, .ref b, .str z, .str x, .ref vl] ∧ GsF w K C CH H p G A ∧ OneT H b o ∧ G.ones[i]? = some o ∧ SqL K H vl ((v :: ws).map V.int) ∧ ArN z ws ∧
  (∀ G' H', heldG G i o z x v ws = .ok G' → Go w K C CH H p A G' A H' → Q .non H') ∧ (∀ e H', heldG G i o z x v ws = .error e → Same H H' → Fv.Falls CF E H' e)
theorem look_len {G : Gs} {i : Nat} {o : One} (ok : G.Ok) (ei : G.ones[i]? = some o) : Hok o.f.ns o.f.rs := ok.fh o (List.mem_of_getElem? ei)
theorem actR_len {z : Str} {row : List Int} {v : Int} {ws : List Int} {r : List Int} (h : actR z row v ws = .ok r) (l : row.length ≤ 100) : r.length ≤ 100 := by
  unfold actR at h
  split at h
  · split at h
    · cases h
      rw [List.length_append]
      show row.length + 1 ≤ 100
      omega
    · cases h
  · split at h
    · split at h
      · cases h
        exact Nat.le_trans (List.length_eraseIdx_le ..) l
      · cases h
        rw [List.length_set]; exact l
    · cases h
theorem scCH : FnScope ["self", "one", "word", "name", "values", "action"] ["self", "one", "word", "name", "values"] (defScope sCH) := ⟨rfl, rfl, rfl, by decide +kernel, rfl, by decide +kernel, by decide +kernel⟩
theorem ok_ch {k : Nat} {nD lD hD : Addr} {eN eL eS : Array DictEntry} {n1 n2 n3 : Nat} {fN fR : Addr} {fdN fdR : FuncData} {psN psR : List Str} (F : Fun K "change_held" "Ground.change_held" sCH f fd) (c_G : Cls K C) (T : DoT P K w mg base CF nD lD hD eN eL eS n1 n2 n3 k)
    (M_numbers_with : Meth K C "numbers_with" fN) (G_numbers_with : FnOk P w K mg base (L2.CX P w) k fN fdN psN (spNW w K C CH CF)) (b_numbers_with : Binds K fdN psN [])
    (M_row_of : Meth K C "row_of" fR) (G_row_of : FnOk P w K mg base (L2.CX P w) k fR fdR psR (spRO w K C CH CF)) (b_row_of : Binds K fdR psR []) : FnOk P w K mg base (L2.CX P w) (k + 1) f fd ["self", "one", "word", "name", "values"] (spCH w K C CH CF) := by
  have sc := scCH
  have d_numbers_with : Vals [] [] := .nil
  have d_row_of : Vals [] [] := .nil
  refine F.okX sc (fun vs H Q E h => ?_) (fun cdv A outer s H vs Q E hr h => ?_)
  · obtain ⟨p, b, vl, A, G, i, o, z, x, v, ws, rfl, _⟩ := h
    rfl
  obtain ⟨p, b, vl, AA, G, i, o, z, x, v, ws, rfl, hp, hb, ei, hv, ar, q1, q2⟩ := h
  refine ⟨_, (pss_one (ps_if (pt_cmpR (op_in_kd T.dN) (pv 2) (pe_glob (v := .ref nD) (by rfl) T.mN rfl) (by rfl)) (pss_cons (ps_set (i := 5) sc.nd rfl (.inl rfl) (pe_ix ix_kdict (pe_glob (v := .ref nD) (by rfl) T.mN rfl) (pv 2) (fun _ _ => rfl)))
      (pss_one (ps_expr (Fv.pe_callX (k := k) (i := 5) (hr.mono (by omega)) rfl (.inl rfl) (fun σ => passAt (takes_of rfl rfl rfl rfl) σ) (by exact (pa_cons (Fw.pe_methSD (pv 0) c_G M_numbers_with G_numbers_with (hr.mono (by omega)) b_numbers_with d_numbers_with (fun σ => passAt (takes_of rfl rfl rfl rfl) σ) (pa_cons (pv 1) (pa_cons (pv 3) pa_nil))) (pa_cons (pv 3) (pa_cons (pe_ix ix_list (pv 4) pe_int (fun _ _ => rfl)) pa_nil)))))))) (pss_cons (ps_set (i := 5) sc.nd rfl (.inl rfl) (pe_ix ix_kdict (pe_glob (v := .ref lD) (by rfl) T.mL rfl) (pv 2) (fun _ _ => rfl)))
      (pss_one (ps_expr (Fv.pe_callX (k := k) (i := 5) (hr.mono (by omega)) rfl (.inl rfl) (fun σ => passAt (takes_of rfl rfl rfl rfl) σ) (by exact (pa_cons (Fw.pe_methSD (pv 0) c_G M_row_of G_row_of (hr.mono (by omega)) b_row_of d_row_of (fun σ => passAt (takes_of rfl rfl rfl rfl) σ) (pa_cons (pv 1) (pa_cons (pv 3) pa_nil))) (pa_cons (pv 4) pa_nil))))))))), ?_⟩
  obtain ⟨gdx, ga, gb, gc, gd, e0⟩ := hp.at.get
  have hob := hp.ob
  have ok := hp.ok
  have hko := look_len ok ei
  by_cases hz : z ∈ (["set", "add"] : List Str)
  · have ez : ∃ u, PySem.W.nsIn K nD z = some (some u) := by
      rcases List.mem_cons.mp hz with rfl | hz
      · obtain ⟨f, ⟨es', n', u', hl', hk', hu', hr'⟩, _⟩ := T.kS
        exact ⟨u', hu'⟩
      · rw [List.mem_singleton.mp hz]
        obtain ⟨f, ⟨es', n', u', hl', hk', hu', hr'⟩, _⟩ := T.kA
        exact ⟨u', hu'⟩
    obtain ⟨u', hu'⟩ := ez
    have eh : heldG G i o z x v ws = heldN G i o z x v := if_pos hz
    rw [eh] at q1 q2
    refine ⟨_, rfl, z, some u', rfl, rfl, hu', _, rfl, iteT ?_⟩
    -- what the action does, where it is told the names' dict
    have act : ∃ fa sp, KDct K w nD z (.ref fa) ∧ Fv.HeldX P w K mg base k fa sp ∧ ∀ (H' : Hp) (d : Addr) (nm : Nms) (j : Nat) (old : Int), H' d = some (.dK (nmK nm)) → nm[j]? = some (x, old) → (nm.map (·.1)).Nodup → nm.length ≤ 100 →
        (∀ u, actN z old v = .ok u → Q .non (upd H' d (.dK (nmK (setN nm x u))))) → (∀ e, actN z old v = .error e → Fv.Falls CF E H' e) → sp [.ref d, .str x, .int v] H' (fun _ H'' => Q .non H'') E := by
      rcases List.mem_cons.mp hz with rfl | hz
      · obtain ⟨fa, k1, k2⟩ := T.kS
        exact ⟨fa, _, k1, k2, fun H' d nm j old g1 g2 g3 g4 k3 k4 => ⟨d, nm, j, x, old, v, rfl, g1, g2, g4, k3 v (if_pos rfl)⟩⟩
      · obtain ⟨fa, k1, k2⟩ := T.kA
        have hz := List.mem_singleton.mp hz
        subst hz
        refine ⟨fa, _, k1, k2, fun H' d nm j old g1 g2 g3 g4 k3 k4 => ⟨d, nm, j, x, old, v, rfl, g1, g2, g3, g4, fun c => k3 _ ?_, fun c => k4 _ ?_⟩⟩
        · unfold actN
          rw [if_neg (by decide +kernel), if_pos c]
        · unfold actN
          rw [if_neg (by decide +kernel), if_neg (by rw [c]; exact Bool.false_ne_true)]
    obtain ⟨fa, sp, kd, hx, act⟩ := act
    refine ⟨_, rfl, nD, z, .ref fa, rfl, rfl, kd, ?_⟩
    refine ⟨fa, sp, rfl, hx, _, rfl, p, gdx, _, rfl, e0, by kernel_rfl, _, rfl, _, rfl, p, b, AA, G, i, o, x, rfl, hp, hb, ei, fun old hd H1 el eh s1 => ?_, fun old H1 en el s1 => ?_, fun H1 en em s1 => ?_⟩
    · obtain ⟨j, ej⟩ := look_at el
      obtain ⟨ps, n, h1, h2, h3, h4, h5, h6, h7, h8, h9⟩ := (hp.same s1).ob
      have hh := paired_get h7 eh ei
      obtain ⟨⟨dx1, y1, y2, y3, y4⟩, _⟩ := hh
      refine ⟨_, rfl, _, rfl, vl, _, 0, .int v, rfl, rfl, s1.seq hv, atI_nat (j := 0) rfl, ?_⟩
      refine act H1 hd.dn _ j old y2 ej hko.n1 hko.l1 (fun u hu => q1 _ _ ?_ (((hp.same s1).nmI ei eh x u).pre s1)) fun e he => q2 _ _ ?_ s1
      · unfold heldN
        rw [el]
        show (actN z old v).map _ = _
        rw [hu]
        rfl
      · unfold heldN
        rw [el]
        show (actN z old v).map _ = _
        rw [he]
        rfl
    · obtain ⟨j, ej⟩ := look_at el
      obtain ⟨ps, n, h1, h2, h3, h4, h5, h6, h7, h8, h9⟩ := (hp.same s1).ob
      obtain ⟨⟨dx1, y1, y2, y3, y4⟩, _⟩ := h8
      refine ⟨_, rfl, _, rfl, vl, _, 0, .int v, rfl, rfl, s1.seq hv, atI_nat (j := 0) rfl, ?_⟩
      refine act H1 AA.h0.dn _ j old y2 ej ok.h.n1 ok.h.l1 (fun u hu => q1 _ _ ?_ (((hp.same s1).nm0 x u).pre s1)) fun e he => q2 _ _ ?_ s1
      · unfold heldN
        rw [en, el]
        show (actN z old v).map _ = _
        rw [hu]
        rfl
      · unfold heldN
        rw [en, el]
        show (actN z old v).map _ = _
        rw [he]
        rfl
    · refine q2 _ _ ?_ s1
      unfold heldN
      rw [en, em]
  · have hz3 : z ∈ (["put", "drop", "write"] : List Str) := by
      rcases ar with h | h | ⟨rfl, _⟩
      · exact absurd h hz
      · rcases List.mem_cons.mp h with rfl | h
        · exact List.mem_cons_self ..
        · rw [List.mem_singleton.mp h]; exact List.mem_cons_of_mem _ (List.mem_cons_self ..)
      · exact List.mem_cons_of_mem _ (List.mem_cons_of_mem _ (List.mem_cons_self ..))
    have hzn := T.zN z (by simp only [List.mem_cons, List.mem_nil_iff, or_false] at hz3 ⊢; rcases hz3 with h | h | h <;> simp [h])
    have eh : heldG G i o z x v ws = heldR G i o z x v ws := if_neg hz
    rw [eh] at q1 q2
    refine ⟨_, rfl, z, none, rfl, rfl, hzn, _, rfl, ifFF ?_⟩
    have act : ∃ fa sp, KDct K w lD z (.ref fa) ∧ Fv.HeldX P w K mg base k fa sp ∧ ∀ (H' : Hp) (r : Addr) (row : List Int), H' r = some (.lst (row.map V.int)) → SqL K H' vl ((v :: ws).map V.int) → row.length ≤ 100 →
        (∀ u, actR z row v ws = .ok u → Q .non (upd H' r (.lst (u.map V.int)))) → (∀ e, actR z row v ws = .error e → Fv.Falls CF E H' e) → sp [.ref r, .ref vl] H' (fun _ H'' => Q .non H'') E := by
      rcases ar with h | h | ⟨rfl, u0, vs0, rfl⟩
      · exact absurd h hz
      · rcases List.mem_cons.mp h with rfl | h
        · obtain ⟨fa, k1, k2⟩ := T.kP
          refine ⟨fa, _, k1, k2, fun H' r row g1 g2 g3 k3 k4 => ⟨r, vl, row, v, ws, rfl, g1, g2, g3, fun c => k3 _ ?_, fun c => k4 _ ?_⟩⟩
          · unfold actR
            rw [if_pos rfl, if_pos c]
          · unfold actR
            rw [if_pos rfl, if_neg c]
        · have h := List.mem_singleton.mp h
          subst h
          obtain ⟨fa, k1, k2⟩ := T.kD
          refine ⟨fa, _, k1, k2, fun H' r row g1 g2 g3 k3 k4 => ⟨r, vl, row, v, ws, rfl, g1, g2, g3, fun c => k3 _ ?_, fun c => k4 _ ?_⟩⟩
          · unfold actR
            rw [if_neg (by decide +kernel), if_pos c, if_pos rfl]
          · unfold actR
            rw [if_neg (by decide +kernel), if_neg c]
      · obtain ⟨fa, k1, k2⟩ := T.kW
        refine ⟨fa, _, k1, k2, fun H' r row g1 g2 g3 k3 k4 => ⟨r, vl, row, v, u0, vs0, rfl, g1, g2, g3, fun c => k3 _ ?_, fun c => k4 _ ?_⟩⟩
        · unfold actR
          rw [if_neg (by decide +kernel), if_pos c, if_neg (by decide +kernel)]
          rfl
        · unfold actR
          rw [if_neg (by decide +kernel), if_neg c]
    obtain ⟨fa, sp, kd, hx, act⟩ := act
    refine ⟨_, rfl, lD, z, .ref fa, rfl, rfl, kd, ?_⟩
    refine ⟨fa, sp, rfl, hx, _, rfl, p, gdx, _, rfl, e0, by kernel_rfl, _, rfl, _, rfl, p, b, AA, G, i, o, x, rfl, hp, hb, ei, fun row hd j r H1 el eh er ej s1 hr1 => ?_, fun row j r H1 en el er ej s1 hr1 => ?_, fun H1 en em s1 => ?_⟩
    · have lr := hko.l3 _ (List.mem_of_getElem? ej)
      refine ⟨_, rfl, act H1 r row hr1 (s1.seq hv) lr (fun u hu => q1 _ _ ?_ (((hp.same s1).rwI ei eh er ej (actR_len hu lr)).pre s1)) fun e he => q2 _ _ ?_ s1⟩
      · unfold heldR
        rw [el]
        show (actR z row v ws).map _ = _
        rw [hu]
        rfl
      · unfold heldR
        rw [el]
        show (actR z row v ws).map _ = _
        rw [he]
        rfl
    · have lr := ok.h.l3 _ (List.mem_of_getElem? ej)
      refine ⟨_, rfl, act H1 r row hr1 (s1.seq hv) lr (fun u hu => q1 _ _ ?_ (((hp.same s1).rw0 er ej (actR_len hu lr)).pre s1)) fun e he => q2 _ _ ?_ s1⟩
      · unfold heldR
        rw [en, el]
        show (actR z row v ws).map _ = _
        rw [hu]
        rfl
      · unfold heldR
        rw [en, el]
        show (actR z row v ws).map _ = _
        rw [he]
        rfl
    · refine q2 _ _ ?_ s1
      unfold heldR
      rw [en, em]
end
end Fd

set_option Elab.async false
set_option linter.all false
set_option maxRecDepth 100000
set_option maxHeartbeats 1000000
namespace Fd
open PySem PySem.Spec PyProof.Rows L2 RZ Fw LamX
/-! ### looks that are numbers; spots behind deeds -/
abbrev sTurn : Stmt := top 32
abbrev sMv : Stmt := top 31
abbrev sPlc : Stmt := top 33
abbrev sNear : Stmt := top 36
section
variable {P : Program} {w : World} {K : PySem.W.Frag} {mg : Str → Option Value} {base : Heap} {f : Addr} {fd : FuncData} {C CH : Addr}
def spNr : Sp := fun vs H Q _ => ∃ (i m : Int), vs = [.int i, .int m] ∧ Q (.int (max 0 (min i (m - 1)))) H
theorem scNear : FnScope ["place", "many"] ["place", "many"] (defScope sNear) := ⟨rfl, rfl, rfl, by decide +kernel, rfl, by decide +kernel, by decide +kernel⟩
theorem ok_near {k : Nat} (F : Fun K "nearest" "nearest" sNear f fd) (m_max : mg "max" = none) (m_min : mg "min" = none) : FnOk P w K mg base CX0 (k + 1) f fd ["place", "many"] spNr := by
  have sc := scNear
  refine F.ok sc (fun vs H Q E h => ?_) (fun cdv A outer s H vs Q E hr h => ?_)
  · obtain ⟨i, m, rfl, _⟩ := h
    rfl
  obtain ⟨i, m, rfl, q⟩ := h
  refine ⟨_, (pss_one (ps_ret (pe_callB (call_max2 rfl) (by rfl) m_max (by decide +kernel) (pa_cons pe_int (pa_cons (pe_callB (call_min2 rfl) (by rfl) m_min (by decide +kernel) (pa_cons (pv 0) (pa_cons (pe_op op_sub (pv 1) pe_int) pa_nil))) pa_nil))))), ?_⟩
  refine ⟨_, rfl, _, rfl, _, _, rfl, rfl, _, _, rfl, _, _, rfl, ?_⟩
  have e : (if (if m - 1 < i then m - 1 else i) > 0 then (if m - 1 < i then m - 1 else i) else 0) = max 0 (min i (m - 1)) := by
    split <;> split <;> omega
  rw [e]
  exact q
def spTn (K : PySem.W.Frag) : Sp := fun vs H Q _ => ∃ (a vl : Addr) (x y z i : Int), vs = [.ref a, .ref vl] ∧ SqT K H a [.int x, .int y, .int z] ∧ SqL K H vl [.int i] ∧ ∀ t, H t = none → Q (.ref t) (upd H t (.tup [.int x, .int y, .int ((z + i) % 4)]))
theorem scTurn : FnScope ["spot", "values", "x", "y", "way"] ["spot", "values"] (defScope sTurn) := ⟨rfl, rfl, rfl, by decide +kernel, rfl, by decide +kernel, by decide +kernel⟩
theorem ok_turn {k : Nat} {sS : Addr} {xS : List V} (F : Fun K "turned" "turned" sTurn f fd) (m_len : mg "len" = none) (m_STEPS : mg "STEPS" = some (.ref sS)) (hS : ∀ H, SqT K H sS xS) (lS : xS.length = 4) : FnOk P w K mg base CX0 (k + 1) f fd ["spot", "values"] (spTn K) := by
  have sc := scTurn
  refine F.ok sc (fun vs H Q E h => ?_) (fun cdv A outer s H vs Q E hr h => ?_)
  · obtain ⟨a, vl, x, y, z, i, rfl, _⟩ := h
    rfl
  obtain ⟨a, vl, x, y, z, i, rfl, ha, hv, q⟩ := h
  refine ⟨_, (pss_cons (ps_asg (pv 0) (pg_or (pg_tup (by rfl) (pgs_cons (pg_name (i := 2) sc.nd rfl (.inl rfl)) (pgs_cons (pg_name (i := 3) sc.nd rfl (.inl rfl)) (pgs_cons (pg_name (i := 4) sc.nd rfl (.inl rfl)) pgs_nil)))) (pg_lst (by rfl) (pgs_cons (pg_name (i := 2) sc.nd rfl (.inl rfl)) (pgs_cons (pg_name (i := 3) sc.nd rfl (.inl rfl)) (pgs_cons (pg_name (i := 4) sc.nd rfl (.inl rfl)) pgs_nil))))))
      (pss_one (ps_ret (pe_tup (pa_cons (pv 2) (pa_cons (pv 3) (pa_cons (pe_op op_mod (pe_op op_add (pv 4) (pe_ix ix_list (pv 1) pe_int (fun _ _ => rfl))) (pe_callB call_len_seq (by rfl) m_len (by decide +kernel) (pa_cons (pe_glob (v := .ref sS) (by rfl) m_STEPS rfl) pa_nil))) pa_nil))))))), ?_⟩
  refine ⟨_, rfl, sq_or (.inr ha) rfl ⟨_, _, rfl, _, _, rfl, _, _, rfl, rfl, ?_⟩⟩
  refine ⟨_, rfl, _, rfl, _, rfl, _, rfl, vl, _, 0, .int i, rfl, rfl, hv, rfl, _, _, rfl, rfl, sS, xS, rfl, .inr (hS _), ?_⟩
  rw [lS]
  exact ⟨_, _, rfl, rfl, (show (0 : Int) < 4 by decide), by show 3 ≤ sizeLine; decide, fun t nt => q t nt⟩
/-- the table of steps: how x and y grow, for each way -/
def stp : List (Int × Int) := [(1, 0), (0, 1), (-1, 0), (0, -1)]
theorem stp_b {z : Nat} {q : Int × Int} (h : stp[z]? = some q) : (-2 ^ 64 < q.1 ∧ q.1 < 2 ^ 64) ∧ (-2 ^ 64 < q.2 ∧ q.2 < 2 ^ 64) := by
  have := List.mem_of_getElem? h
  simp only [stp, List.mem_cons, List.not_mem_nil, or_false] at this
  rcases this with rfl | rfl | rfl | rfl <;> decide
structure StT (K : PySem.W.Frag) (sS : Addr) : Prop where
  ex : ∃ ts : List Addr, (∀ H, SqT K H sS (ts.map V.ref)) ∧ ∀ H, Paired (fun t (q : Int × Int) => SqT K H t [.int q.1, .int q.2]) ts stp
def spMv (K : PySem.W.Frag) : Sp := fun vs H Q _ => ∃ (a vl : Addr) (x y : Int) (z : Nat) (i : Int) (q : Int × Int), vs = [.ref a, .ref vl] ∧ SqT K H a [.int x, .int y, .int z] ∧ SqL K H vl [.int i] ∧ stp[z]? = some q ∧ ∀ t, H t = none → Q (.ref t) (upd H t (.tup [.int (x + q.1 * i), .int (y + q.2 * i), .int z]))
theorem scMv : FnScope ["spot", "values", "x", "y", "way", "by_x", "by_y"] ["spot", "values"] (defScope sMv) := ⟨rfl, rfl, rfl, by decide +kernel, rfl, by decide +kernel, by decide +kernel⟩
theorem ok_mv {k : Nat} {sS : Addr} (F : Fun K "moved" "moved" sMv f fd) (m_STEPS : mg "STEPS" = some (.ref sS)) (hS : StT K sS) : FnOk P w K mg base CX0 (k + 1) f fd ["spot", "values"] (spMv K) := by
  have sc := scMv
  refine F.ok sc (fun vs H Q E h => ?_) (fun cdv A outer s H vs Q E hr h => ?_)
  · obtain ⟨a, vl, x, y, z, i, q, rfl, _⟩ := h
    rfl
  obtain ⟨a, vl, x, y, z, i, b, rfl, ha, hv, eb, q⟩ := h
  obtain ⟨ts, t1, t2⟩ := hS.ex
  obtain ⟨t, et, ht⟩ := paired_idx (t2 H) eb
  refine ⟨_, (pss_cons (ps_asg (pv 0) (pg_or (pg_tup (by rfl) (pgs_cons (pg_name (i := 2) sc.nd rfl (.inl rfl)) (pgs_cons (pg_name (i := 3) sc.nd rfl (.inl rfl)) (pgs_cons (pg_name (i := 4) sc.nd rfl (.inl rfl)) pgs_nil)))) (pg_lst (by rfl) (pgs_cons (pg_name (i := 2) sc.nd rfl (.inl rfl)) (pgs_cons (pg_name (i := 3) sc.nd rfl (.inl rfl)) (pgs_cons (pg_name (i := 4) sc.nd rfl (.inl rfl)) pgs_nil))))))
      (pss_cons (ps_asg (pe_ix ix_tup (pe_glob (v := .ref sS) (by rfl) m_STEPS rfl) (pv 4) (fun _ _ => rfl)) (pg_or (pg_tup (by rfl) (pgs_cons (pg_name (i := 5) sc.nd rfl (.inl rfl)) (pgs_cons (pg_name (i := 6) sc.nd rfl (.inl rfl)) pgs_nil))) (pg_lst (by rfl) (pgs_cons (pg_name (i := 5) sc.nd rfl (.inl rfl)) (pgs_cons (pg_name (i := 6) sc.nd rfl (.inl rfl)) pgs_nil)))))
      (pss_one (ps_ret (pe_tup (pa_cons (pe_op op_add (pv 2) (pe_op op_mul (pv 5) (pe_ix ix_list (pv 1) pe_int (fun _ _ => rfl)))) (pa_cons (pe_op op_add (pv 3) (pe_op op_mul (pv 6) (pe_ix ix_list (pv 1) pe_int (fun _ _ => rfl)))) (pa_cons (pv 4) pa_nil)))))))), ?_⟩
  refine ⟨_, rfl, sq_or (.inr ha) rfl ⟨_, _, rfl, _, _, rfl, _, _, rfl, rfl, ?_⟩⟩
  refine ⟨_, rfl, sS, _, z, .ref t, rfl, rfl, t1 H, atI_nat (by rw [List.getElem?_map, et]; rfl), ?_⟩
  refine sq_or (.inr ht) rfl ⟨_, _, rfl, _, _, rfl, rfl, ?_⟩
  refine ⟨_, rfl, _, rfl, _, rfl, vl, _, 0, .int i, rfl, rfl, hv, rfl, _, _, rfl, rfl, .inl (stp_b eb).1, _, _, rfl, rfl, ?_⟩
  refine ⟨_, rfl, _, rfl, _, rfl, vl, _, 0, .int i, rfl, rfl, hv, rfl, _, _, rfl, rfl, .inl (stp_b eb).2, _, _, rfl, rfl, ?_⟩
  exact ⟨_, rfl, by show 3 ≤ sizeLine; decide, fun t nt => q t nt⟩
def spPc (K : PySem.W.Frag) : Sp := fun vs H Q _ => ∃ (a vl : Addr) (x y z i j : Int), vs = [.ref a, .ref vl] ∧ SqT K H a [.int x, .int y, .int z] ∧ SqL K H vl [.int i, .int j] ∧ ∀ t, H t = none → Q (.ref t) (upd H t (.tup [.int i, .int j, .int z]))
theorem scPlc : FnScope ["spot", "values"] ["spot", "values"] (defScope sPlc) := ⟨rfl, rfl, rfl, by decide +kernel, rfl, by decide +kernel, by decide +kernel⟩
theorem ok_plc {k : Nat} (F : Fun K "placed" "placed" sPlc f fd) : FnOk P w K mg base CX0 (k + 1) f fd ["spot", "values"] (spPc K) := by
  have sc := scPlc
  refine F.ok sc (fun vs H Q E h => ?_) (fun cdv A outer s H vs Q E hr h => ?_)
  · obtain ⟨a, vl, x, y, z, i, j, rfl, _⟩ := h
    rfl
  obtain ⟨a, vl, x, y, z, i, j, rfl, ha, hv, q⟩ := h
  refine ⟨_, (pss_one (ps_ret (pe_tup (pa_cons (pe_ix ix_list (pv 1) pe_int (fun _ _ => rfl)) (pa_cons (pe_ix ix_list (pv 1) pe_int (fun _ _ => rfl)) (pa_cons (pe_ix ix_tup (pv 0) pe_int (fun _ _ => rfl)) pa_nil)))))), ?_⟩
  refine ⟨_, rfl, vl, _, 0, .int i, rfl, rfl, hv, rfl, _, rfl, vl, _, 1, .int j, rfl, rfl, hv, rfl, _, rfl, a, _, 2, .int z, rfl, rfl, ha, rfl, by show 3 ≤ sizeLine; decide, fun t nt => q t nt⟩
end
end Fd

set_option Elab.async false
set_option linter.all false
set_option maxRecDepth 100000
set_option maxHeartbeats 1000000
namespace Fd
open PySem PySem.Spec PyProof.Rows L2 RZ Fw LamX
def tCallH (P : Program) (w : World) (K : PySem.W.Frag) (mg : Str → Option Value) (base : Heap) (k i : Nat) (t : TA) : TE := fun σ H Q => ∃ f sp, σ[i]? = some (some (.ref f)) ∧ Held P w K mg base k f sp ∧ t σ H fun vs H1 => sp vs H1 Q (fun _ _ _ => False)
theorem pe_callH {X : Cx} {k i : Nat} {x : Str} {p pos : Pos} {e : Expr} {es : List Expr} {t : TA} (hr : Room k X.A) (hN : X.N[i]? = some x) (hv : Vis X.env.scope x) (ha : PA X (e :: es) t)
    (hdb : (x == ("__debug__" : Str)) = false := by decide) (hcd : (x == ("__classdict__" : Str)) = false := by decide)
    (he : starEach (e :: es) X.env = (false, eval e X.env) :: starEach es X.env := by rfl) (hpl : (backTo pos (starEach es X.env)).any (·.1) = false := by rfl) : PE X (.Call (.Name x p) (e :: es) [] pos) (tCallH X.prog X.w X.K X.mg X.base k i t) := by
  refine ⟨fun pins s σ H Q I h => ?_⟩
  obtain ⟨f, sp, hs, ⟨⟨fd, ps, F, hk, hb⟩⟩, ht⟩ := h
  refine (pe_callL (i := i) (f := f) (sp := sp) (dvs := []) (E := fun _ _ _ => False) F hr hN hv hk hb .nil (fun _ _ _ _ _ _ _ z => z.elim) ha hdb hcd he hpl).run pins s σ H Q I ⟨hs, ?_⟩
  have e0 : (fun (vs : List V) (H1 : Hp) => sp (vs ++ []) H1 Q (fun _ _ _ => False)) = fun vs H1 => sp vs H1 Q (fun _ _ _ => False) := by
    funext vs H1
    rw [List.append_nil]
  show t σ H (fun vs H1 => sp (vs ++ []) H1 Q (fun _ _ _ => False))
  rw [e0]
  exact ht
/-! ### one one is written -/
theorem putK_at {κ : Type} [DecidableEq κ] {l : List (κ × V)} {i : Nat} {k : κ} {v0 v : V} (nd : (l.map (·.1)).Nodup) (e : l[i]? = some (k, v0)) : putK l k v = l.set i (k, v) := by
  have hany : (l.any fun kv => decide (kv.1 = k)) = true := List.any_eq_true.mpr ⟨_, List.mem_of_getElem? e, decide_eq_true rfl⟩
  unfold putK
  rw [if_pos hany]
  refine List.ext_getElem? fun j => ?_
  rw [List.getElem?_map, List.getElem?_set]
  by_cases h : i = j
  · subst h
    rw [if_pos rfl, if_pos (List.getElem?_eq_some_iff.mp e).1, e]
    exact congrArg some (if_pos rfl)
  · rw [if_neg h]
    cases ej : l[j]? with
    | none => rfl
    | some q =>
      refine congrArg some (if_neg fun c => h ?_)
      refine (List.getElem?_inj (by rw [List.length_map]; exact (List.getElem?_eq_some_iff.mp e).1) nd).mp ?_
      rw [List.getElem?_map, List.getElem?_map, e, ej]
      exact congrArg some c.symm
theorem zip_setR {α β : Type} : ∀ {l : List α} {m : List β} {i : Nat} {a : α} {b : β}, l[i]? = some a → l.zip (m.set i b) = (l.zip m).set i (a, b)
  | [], m, _, _, _, e => by simp at e
  | _ :: _, [], i, _, _, _ => by cases i <;> rfl
  | x :: l, y :: m, 0, a, b, e => by cases (Option.some.inj e); rfl
  | x :: l, y :: m, i + 1, a, b, e => by
    rw [List.set_cons_succ, List.zip_cons_cons, List.zip_cons_cons, List.set_cons_succ, zip_setR (l := l) (m := m) (i := i) e]
theorem dkO_put {os : List One} {vs : List V} {i : Nat} {o o' : One} {v0 v : V} (hl : os.length = vs.length) (nd : (os.map One.key).Nodup) (e : os[i]? = some o) (hk : o'.key = o.key) (ev : vs[i]? = some v0) : putK (dkO os vs) o.key v = dkO (os.set i o') (vs.set i v) := by
  rw [putK_at (dkO_nd hl nd) (dkO_at e ev), dkO_zip, dkO_zip, map_set_same e hk, zip_setR (a := o.key) (by rw [List.getElem?_map, e]; rfl)]
theorem paired_set {α β : Type} {F : α → β → Prop} : ∀ {l : List α} {m : List β} {i : Nat} {a : α} {b : β}, Paired F l m → F a b → Paired F (l.set i a) (m.set i b)
  | _, _, _, _, _, .nil, _ => .nil
  | _, _, 0, _, _, .cons _ t, h => .cons h t
  | _, _, i + 1, _, _, .cons r t, h => .cons r (paired_set (i := i) t h)
theorem paired_setR {α β : Type} {F : α → β → Prop} : ∀ {l : List α} {m : List β} {i : Nat} {b b' : β}, Paired F l m → m[i]? = some b → (∀ a, F a b → F a b') → Paired F l (m.set i b')
  | _, _, _, _, _, .nil, _, _ => .nil
  | _, _, 0, _, _, .cons r t, e, h => by cases (Option.some.inj e); exact .cons (h _ r) t
  | _, _, i + 1, _, _, .cons r t, e, h => .cons r (paired_setR (i := i) t e h)
theorem ok_put {G : Gs} {i : Nat} {o o' : One} (ok : G.Ok) (e : G.ones[i]? = some o) (hk : o'.key = o.key) (hn : o'.f.ns = o.f.ns) (hr : o'.f.rs = o.f.rs) : (G.put i o').Ok := by
  have hm : ∀ {x}, x ∈ G.ones.set i o' → x ∈ G.ones ∨ x = o' := fun h => List.mem_or_eq_of_mem_set h
  have ho := List.mem_of_getElem? e
  refine ⟨ok.h, fun x hx => ?_, ?_, fun x hx => ?_, ?_, ok.on, ok.ol, ok.os⟩
  · rcases hm hx with h | rfl
    · exact ok.fh x h
    · rw [hn, hr]; exact ok.fh o ho
  · show ((G.ones.set i o').map One.key).Nodup
    rw [map_set_same e hk]
    exact ok.nd
  · rcases hm hx with h | rfl
    · exact ok.st x h
    · rw [(key_inj hk).1]; exact ok.st o ho
  · show (G.ones.set i o').length ≤ 100
    rw [List.length_set]
    exact ok.ln
section
variable {w : World} {K : PySem.W.Frag} {C CH : Addr} {H : Hp} {p : Addr} {G : Gs} {A : GA} {i : Nat} {o o' : One}
/-- its spot is written -/
theorem GsF.place (h : GsF w K C CH H p G A) (e : G.ones[i]? = some o) {t : Addr} (ht : SqT K H t [.int o'.f.x, .int o'.f.y, .int o'.f.w]) (hk : o'.key = o.key) (hn : o'.f.ns = o.f.ns) (hr : o'.f.rs = o.f.rs) (hs : o'.sh = o.sh) :
    ∃ kv, H A.dP = some (.dT kv) ∧ kv.length < sizeLine ∧ Go w K C CH H p A (G.put i o') A (upd H A.dP (.dT (putK kv o.key (.ref t)))) := by
  have N := nes h.nd
  have W := h.own
  obtain ⟨m1, m2, m3, m4, m5, m6, m7⟩ := mem_fp (p := p) (A := A)
  obtain ⟨u0, e0, w0⟩ := W _ m3
  obtain ⟨⟨ps, n, h1, h2, h3, h4, h5, h6, h7, h8, h9⟩, ok, nd⟩ := h
  have lps : G.ones.length = (ps.map V.ref).length := by rw [List.length_map]; exact (paired_len h4).symm
  obtain ⟨a, ea, ha⟩ := paired_idx h4 e
  have kP : putK (dkO G.ones (ps.map V.ref)) o.key (.ref t) = dkO (G.ones.set i o') ((ps.set i t).map V.ref) := by
    rw [dkO_put lps ok.nd e hk (by rw [List.getElem?_map, ea]; rfl), List.map_set]
  have kp := own_kp (o := .dT (putK (dkO G.ones (ps.map V.ref)) o.key (.ref t))) e0 w0
  have off : ∀ {b u}, b ≠ A.dP → H b = some u → upd H A.dP (.dT (putK (dkO G.ones (ps.map V.ref)) o.key (.ref t))) b = some u := fun n e => by rw [upd_ne n]; exact e
  refine ⟨_, h3, by rw [dkO_len lps]; exact Nat.lt_of_le_of_lt ok.ln (by decide), fun b u nb e => off (fun z => nb (by rw [z]; exact m3)) e, ⟨⟨ps.set i t, n, off N.pP h1, off N.FP h2, by rw [upd_same, kP]; rfl, paired_set (L2.Paired.mapP h4 fun a o e => sqT_kp kp e) (sqT_kp kp ht), ?_, ?_, ?_, h8.fr fun b hb u x => off (N.o0 _ hb).2.2.1 x, ?_⟩, ok_put ok e hk hn hr, nd⟩, fun b hb => .inl hb⟩
  · rw [off N.PS.symm h5]
    refine congrArg (fun l => some (HO.dT l)) ?_
    show dkO G.ones (shO G) = dkO (G.ones.set i o') ((G.ones.set i o').map fun o => .bl o.sh)
    rw [dkO_zip, dkO_zip, map_set_same e hk, map_set_same (g := fun o : One => V.bl o.sh) e (by show V.bl o'.sh = V.bl o.sh; rw [hs])]
    rfl
  · show MixD w _ A.dH (heldAll n (G.ones.set i o') _ _)
    rw [heldAll_key (map_set_same e hk)]
    exact h6.same (fun u e => off N.PH.symm e) kp.t
  · exact paired_setR (paired_memL h7 fun a ha o e => e.fr fun b hb u x => off (N.os _ ha _ hb).2.2.1 x) e fun a z => by rw [hn, hr]; exact z
  · show n ≤ (G.ones.set i o').length
    rw [List.length_set]
    exact h9
/-- it is shown, or hidden -/
theorem GsF.show_ (h : GsF w K C CH H p G A) (e : G.ones[i]? = some o) (b : Bool) :
    ∃ kv, H A.dS = some (.dT kv) ∧ kv.length < sizeLine ∧ Go w K C CH H p A (G.put i { o with sh := b }) A (upd H A.dS (.dT (putK kv o.key (.bl b)))) := by
  have N := nes h.nd
  have W := h.own
  obtain ⟨m1, m2, m3, m4, m5, m6, m7⟩ := mem_fp (p := p) (A := A)
  obtain ⟨u0, e0, w0⟩ := W _ m4
  obtain ⟨⟨ps, n, h1, h2, h3, h4, h5, h6, h7, h8, h9⟩, ok, nd⟩ := h
  have lsh : G.ones.length = (shO G).length := by unfold shO; rw [List.length_map]
  have hk : ({ o with sh := b } : One).key = o.key := rfl
  have kS : putK (dkO G.ones (shO G)) o.key (.bl b) = dkO (G.ones.set i { o with sh := b }) (shO (G.put i { o with sh := b })) := by
    rw [dkO_put lsh ok.nd e hk (by unfold shO; rw [List.getElem?_map, e]; rfl)]
    unfold shO Gs.put
    rw [List.map_set]
  have kp := own_kp (o := .dT (putK (dkO G.ones (shO G)) o.key (.bl b))) e0 w0
  have off : ∀ {c u}, c ≠ A.dS → H c = some u → upd H A.dS (.dT (putK (dkO G.ones (shO G)) o.key (.bl b))) c = some u := fun n e => by rw [upd_ne n]; exact e
  refine ⟨_, h5, by rw [dkO_len lsh]; exact Nat.lt_of_le_of_lt ok.ln (by decide), fun b u nb e => off (fun z => nb (by rw [z]; exact m4)) e, ⟨⟨ps, n, off N.pS h1, off N.FS h2, ?_, paired_setR (L2.Paired.mapP h4 fun a o e => sqT_kp kp e) e fun a z => z, by rw [upd_same, kS]; rfl, ?_, paired_setR (paired_memL h7 fun a ha o e => e.fr fun b hb u x => off (N.os _ ha _ hb).2.2.2.1 x) e fun a z => z, h8.fr fun b hb u x => off (N.o0 _ hb).2.2.2.1 x, ?_⟩, ok_put ok e hk rfl rfl, nd⟩, fun b hb => .inl hb⟩
  · rw [off N.PS h3]
    refine congrArg (fun l => some (HO.dT l)) ?_
    show dkO G.ones (ps.map V.ref) = dkO (G.ones.set i _) (ps.map V.ref)
    rw [dkO_zip, dkO_zip, map_set_same e hk]
  · show MixD w _ A.dH (heldAll n (G.ones.set i _) _ _)
    rw [heldAll_key (map_set_same e hk)]
    exact h6.same (fun u e => off N.SH.symm e) kp.t
  · show n ≤ (G.ones.set i _).length
    rw [List.length_set]
    exact h9
end
def near (i m : Int) : Int := max 0 (min i (m - 1))
/-- the deed z with the values is brings (x, y, w) to r -/
def Acts (z : Str) (is : List Int) (x y w : Int) (r : Int × Int × Int) : Prop := (z = "turn" ∧ ∃ i, is = [i] ∧ r = (x, y, (w + i) % 4)) ∨ (z = "place" ∧ ∃ i j, is = [i, j] ∧ r = (i, j, w)) ∨ (z = "move" ∧ ∃ (i : Int) (u : Nat) (q : Int × Int), is = [i] ∧ w = u ∧ stp[u]? = some q ∧ r = (x + q.1 * i, y + q.2 * i, w))
def One.at_ (o : One) (x y w : Int) : One := { o with f := { o.f with x := x, y := y, w := w } }
abbrev sCS : Stmt := inC 37 17
section
variable {P : Program} {w : World} {K : PySem.W.Frag} {mg : Str → Option Value} {base : Heap} {f : Addr} {fd : FuncData} {C CH : Addr}
def spCS (w : World) (K : PySem.W.Frag) (C CH : Addr) : Sp := fun vs H Q _ => ∃ (p b vl : Addr) (A : GA) (z : Str) (is : List Int) (G : Gs) (i : Nat) (o : One) (r : Int × Int × Int), vs = [.ref p, .ref b, .str z, .ref vl] ∧ GsF w K C CH H p G A ∧ OneT H b o ∧ G.ones[i]? = some o ∧ SqL K H vl (is.map V.int) ∧ Acts z is o.f.x o.f.y o.f.w r ∧
  ∀ H', Go w K C CH H p A (G.put i (o.at_ (near r.1 G.wide) (near r.2.1 G.high) r.2.2)) A H' → Q .non H'
theorem scCS : FnScope ["self", "one", "word", "values", "action", "x", "y", "way"] ["self", "one", "word", "values"] (defScope sCS) := ⟨rfl, rfl, rfl, by decide +kernel, rfl, by decide +kernel, by decide +kernel⟩
theorem ok_cs {k : Nat} {sD fT fP fM : Addr} (F : Fun K "change_spot" "Ground.change_spot" sCS f fd) (c : GCls K C) (m_SPOT_DEEDS : mg "SPOT_DEEDS" = some (.ref sD)) (kT : KDct K w sD "turn" (.ref fT)) (kP : KDct K w sD "place" (.ref fP)) (kM : KDct K w sD "move" (.ref fM)) (GM : Held P w K mg base k fM (spMv K)) (GT : Held P w K mg base k fT (spTn K)) (GP : Held P w K mg base k fP (spPc K)) (GN : FnG P w K mg base CX0 k "nearest" ["place", "many"] spNr) : FnOk P w K mg base CX0 (k + 1) f fd ["self", "one", "word", "values"] (spCS w K C CH) := by
  obtain ⟨_, _, G_nearest, m_nearest, k_nearest, b_nearest⟩ := GN
  have sc := scCS
  refine F.ok sc (fun vs H Q E h => ?_) (fun cdv A outer s H vs Q E hr h => ?_)
  · obtain ⟨p, b, vl, A, z, is, G, i, o, r, rfl, _⟩ := h
    rfl
  obtain ⟨p, b, vl, AA, z, is, G, i, o, r, rfl, hp, hb, ei, hv, ha, q⟩ := h
  refine ⟨_, (pss_cons (ps_set (i := 4) sc.nd rfl (.inl rfl) (pe_ix ix_kdict (pe_glob (v := .ref sD) (by rfl) m_SPOT_DEEDS rfl) (pv 2) (fun _ _ => rfl)))
      (pss_cons (ps_asg (pe_callH (k := k) (i := 4) (hr.mono (by omega)) rfl (.inl rfl) (by exact (pa_cons (pe_dget (hu_of hr) (pe_fld (pv 0) rfl) (pv 1) (fun _ _ => rfl)) (pa_cons (pv 3) pa_nil)))) (pg_or (pg_tup (by rfl) (pgs_cons (pg_name (i := 5) sc.nd rfl (.inl rfl)) (pgs_cons (pg_name (i := 6) sc.nd rfl (.inl rfl)) (pgs_cons (pg_name (i := 7) sc.nd rfl (.inl rfl)) pgs_nil)))) (pg_lst (by rfl) (pgs_cons (pg_name (i := 5) sc.nd rfl (.inl rfl)) (pgs_cons (pg_name (i := 6) sc.nd rfl (.inl rfl)) (pgs_cons (pg_name (i := 7) sc.nd rfl (.inl rfl)) pgs_nil))))))
      (pss_one (ps_dput (hu_of hr) (pe_fld (pv 0) rfl) (pv 1) (pe_tup (pa_cons (pe_call G_nearest (hr.mono (by omega)) (by rfl) m_nearest k_nearest b_nearest .nil pass0 (pa_cons (pv 5) (pa_cons (pe_fld (pv 0) rfl) pa_nil))) (pa_cons (pe_call G_nearest (hr.mono (by omega)) (by rfl) m_nearest k_nearest b_nearest .nil pass0 (pa_cons (pv 6) (pa_cons (pe_fld (pv 0) rfl) pa_nil))) (pa_cons (pv 7) pa_nil)))) rfl)))), ?_⟩
  obtain ⟨⟨ps, n0, h1, h2, h3, h4, h5, h6, h7, h8, hn0⟩, ok, nd⟩ := id hp
  have lps : G.ones.length = (ps.map V.ref).length := by rw [List.length_map]; exact (paired_len h4).symm
  obtain ⟨a, ea, hsp⟩ := paired_idx h4 ei
  have vP := (val_at (dkO_nd lps ok.nd) (dkO_at ei (by rw [List.getElem?_map, ea]; rfl))).symm
  have fin : ∀ (H2 : Hp) (t2 : Addr), Same H H2 → SqT K H2 t2 [.int (near r.1 G.wide), .int (near r.2.1 G.high), .int r.2.2] → ∃ kv, H2 AA.dP = some (.dT kv) ∧ kv.length < sizeLine ∧ Q .non (upd H2 AA.dP (.dT (putK kv o.key (.ref t2)))) := fun H2 t2 s2 ht2 => by
    obtain ⟨kv, g1, g2, g3⟩ := (hp.same s2).place (o' := o.at_ (near r.1 G.wide) (near r.2.1 G.high) r.2.2) ei ht2 rfl rfl rfl rfl
    exact ⟨kv, g1, g2, q _ (g3.pre s2)⟩
  rcases ha with ⟨rfl, i1, rfl, rfl⟩ | ⟨rfl, i1, j1, rfl, rfl⟩ | ⟨rfl, i1, u1, q1, rfl, ew, eq1, rfl⟩
  · refine ⟨_, rfl, sD, "turn", .ref fT, rfl, rfl, kT, ?_⟩
    refine ⟨fT, spTn K, rfl, GT, _, rfl, p, C, AA.dx, _, _, rfl, h1, c.cl, c.nP, fldG_p _ _ _ _ _ _, _, rfl, AA.dP, .ref a, rfl, .inr ⟨_, o.key, b, .inl h3, rfl, hb, vP⟩, _, rfl, a, vl, o.f.x, o.f.y, o.f.w, i1, rfl, hsp, hv, fun t nt => ?_⟩
    have s1 := same_upd (o := .tup [.int o.f.x, .int o.f.y, .int ((o.f.w + i1) % 4)]) nt
    have et := upd_same (H := H) (a := t) (o := .tup [.int o.f.x, .int o.f.y, .int ((o.f.w + i1) % 4)])
    generalize upd H t (.tup [.int o.f.x, .int o.f.y, .int ((o.f.w + i1) % 4)]) = H1 at *
    refine sq_or (.inr (.inl (.inl et))) rfl ⟨_, _, rfl, _, _, rfl, _, _, rfl, rfl, ?_⟩
    refine ⟨_, rfl, _, rfl, p, C, AA.dx, _, _, rfl, s1 _ _ h1, c.cl, c.nW, fldG_w _ _ _ _ _ _, _, _, rfl, ?_⟩
    refine ⟨_, rfl, _, rfl, p, C, AA.dx, _, _, rfl, s1 _ _ h1, c.cl, c.nH, fldG_h _ _ _ _ _ _, _, _, rfl, ?_⟩
    refine ⟨_, rfl, by show 3 ≤ sizeLine; decide, fun t2 nt2 => ?_⟩
    have s2 := same_upd (o := .tup [.int (near o.f.x G.wide), .int (near o.f.y G.high), .int ((o.f.w + i1) % 4)]) nt2
    have et2 := upd_same (H := H1) (a := t2) (o := .tup [.int (near o.f.x G.wide), .int (near o.f.y G.high), .int ((o.f.w + i1) % 4)])
    have fin := fin _ t2 (s1.trans s2) (.inl (.inl et2))
    obtain ⟨kv, f1, f2, f3⟩ := fin
    refine ⟨_, rfl, p, C, AA.dx, _, _, rfl, s2 _ _ (s1 _ _ h1), c.cl, c.nP, fldG_p _ _ _ _ _ _, _, rfl, AA.dP, _, rfl, DPut.t (k := o.key) f1 (s2 _ _ (s1 _ _ hb)) f2, f3⟩
  · refine ⟨_, rfl, sD, "place", .ref fP, rfl, rfl, kP, ?_⟩
    refine ⟨fP, spPc K, rfl, GP, _, rfl, p, C, AA.dx, _, _, rfl, h1, c.cl, c.nP, fldG_p _ _ _ _ _ _, _, rfl, AA.dP, .ref a, rfl, .inr ⟨_, o.key, b, .inl h3, rfl, hb, vP⟩, _, rfl, a, vl, o.f.x, o.f.y, o.f.w, i1, j1, rfl, hsp, hv, fun t nt => ?_⟩
    have s1 := same_upd (o := .tup [.int i1, .int j1, .int o.f.w]) nt
    have et := upd_same (H := H) (a := t) (o := .tup [.int i1, .int j1, .int o.f.w])
    generalize upd H t (.tup [.int i1, .int j1, .int o.f.w]) = H1 at *
    refine sq_or (.inr (.inl (.inl et))) rfl ⟨_, _, rfl, _, _, rfl, _, _, rfl, rfl, ?_⟩
    refine ⟨_, rfl, _, rfl, p, C, AA.dx, _, _, rfl, s1 _ _ h1, c.cl, c.nW, fldG_w _ _ _ _ _ _, _, _, rfl, ?_⟩
    refine ⟨_, rfl, _, rfl, p, C, AA.dx, _, _, rfl, s1 _ _ h1, c.cl, c.nH, fldG_h _ _ _ _ _ _, _, _, rfl, ?_⟩
    refine ⟨_, rfl, by show 3 ≤ sizeLine; decide, fun t2 nt2 => ?_⟩
    have s2 := same_upd (o := .tup [.int (near i1 G.wide), .int (near j1 G.high), .int o.f.w]) nt2
    have et2 := upd_same (H := H1) (a := t2) (o := .tup [.int (near i1 G.wide), .int (near j1 G.high), .int o.f.w])
    have fin := fin _ t2 (s1.trans s2) (.inl (.inl et2))
    obtain ⟨kv, f1, f2, f3⟩ := fin
    refine ⟨_, rfl, p, C, AA.dx, _, _, rfl, s2 _ _ (s1 _ _ h1), c.cl, c.nP, fldG_p _ _ _ _ _ _, _, rfl, AA.dP, _, rfl, DPut.t (k := o.key) f1 (s2 _ _ (s1 _ _ hb)) f2, f3⟩
  · refine ⟨_, rfl, sD, "move", .ref fM, rfl, rfl, kM, ?_⟩
    refine ⟨fM, spMv K, rfl, GM, _, rfl, p, C, AA.dx, _, _, rfl, h1, c.cl, c.nP, fldG_p _ _ _ _ _ _, _, rfl, AA.dP, .ref a, rfl, .inr ⟨_, o.key, b, .inl h3, rfl, hb, vP⟩, _, rfl, a, vl, o.f.x, o.f.y, u1, i1, q1, rfl, by rw [← ew]; exact hsp, hv, eq1, fun t nt => ?_⟩
    rw [← ew] at *
    have s1 := same_upd (o := .tup [.int (o.f.x + q1.1 * i1), .int (o.f.y + q1.2 * i1), .int o.f.w]) nt
    have et := upd_same (H := H) (a := t) (o := .tup [.int (o.f.x + q1.1 * i1), .int (o.f.y + q1.2 * i1), .int o.f.w])
    generalize upd H t (.tup [.int (o.f.x + q1.1 * i1), .int (o.f.y + q1.2 * i1), .int o.f.w]) = H1 at *
    refine sq_or (.inr (.inl (.inl et))) rfl ⟨_, _, rfl, _, _, rfl, _, _, rfl, rfl, ?_⟩
    refine ⟨_, rfl, _, rfl, p, C, AA.dx, _, _, rfl, s1 _ _ h1, c.cl, c.nW, fldG_w _ _ _ _ _ _, _, _, rfl, ?_⟩
    refine ⟨_, rfl, _, rfl, p, C, AA.dx, _, _, rfl, s1 _ _ h1, c.cl, c.nH, fldG_h _ _ _ _ _ _, _, _, rfl, ?_⟩
    refine ⟨_, rfl, by show 3 ≤ sizeLine; decide, fun t2 nt2 => ?_⟩
    have s2 := same_upd (o := .tup [.int (near (o.f.x + q1.1 * i1) G.wide), .int (near (o.f.y + q1.2 * i1) G.high), .int o.f.w]) nt2
    have et2 := upd_same (H := H1) (a := t2) (o := .tup [.int (near (o.f.x + q1.1 * i1) G.wide), .int (near (o.f.y + q1.2 * i1) G.high), .int o.f.w])
    have fin := fin _ t2 (s1.trans s2) (.inl (.inl et2))
    obtain ⟨kv, f1, f2, f3⟩ := fin
    refine ⟨_, rfl, p, C, AA.dx, _, _, rfl, s2 _ _ (s1 _ _ h1), c.cl, c.nP, fldG_p _ _ _ _ _ _, _, rfl, AA.dP, _, rfl, DPut.t (k := o.key) f1 (s2 _ _ (s1 _ _ hb)) f2, f3⟩
end
end Fd

set_option Elab.async false
set_option linter.all false
set_option maxRecDepth 100000
set_option maxHeartbeats 1000000
namespace Fd
open PySem PySem.Spec PyProof.Rows L2 RZ Fw LamX
/-! ### a copy's end -/
def Gs.cut (G : Gs) (i : Nat) : Gs := { G with ones := G.ones.eraseIdx i }
def GA.cut (A : GA) (i : Nat) : GA := { A with hs := A.hs.eraseIdx i }
theorem eraseIdx_map' {α β : Type} {g : α → β} : ∀ {l : List α} {i : Nat}, (l.eraseIdx i).map g = (l.map g).eraseIdx i
  | [], _ => rfl
  | _ :: _, 0 => rfl
  | x :: l, i + 1 => by rw [List.eraseIdx_cons_succ, List.map_cons, List.map_cons, List.eraseIdx_cons_succ, eraseIdx_map' (l := l)]
theorem zip_erase {α β : Type} : ∀ {l : List α} {m : List β} {i : Nat}, (l.zip m).eraseIdx i = (l.eraseIdx i).zip (m.eraseIdx i)
  | [], m, i => by cases m <;> simp
  | x :: l, [], i => by cases i <;> simp
  | x :: l, y :: m, 0 => rfl
  | x :: l, y :: m, i + 1 => by rw [List.zip_cons_cons, List.eraseIdx_cons_succ, List.eraseIdx_cons_succ, List.eraseIdx_cons_succ, List.zip_cons_cons, zip_erase (l := l)]
theorem dkO_erase {os : List One} {vs : List V} {i : Nat} : (dkO os vs).eraseIdx i = dkO (os.eraseIdx i) (vs.eraseIdx i) := by
  rw [dkO_zip, dkO_zip, zip_erase, eraseIdx_map']
theorem dropK_at {κ : Type} [DecidableEq κ] : ∀ {l : List (κ × V)} {i : Nat} {k : κ} {v : V}, (l.map (·.1)).Nodup → l[i]? = some (k, v) → dropK l k = l.eraseIdx i
  | [], _, _, _, _, e => by simp at e
  | x :: l, 0, k, v, nd, e => by
    cases (Option.some.inj e)
    obtain ⟨n1, n2⟩ := List.nodup_cons.mp nd
    unfold dropK
    rw [List.filter_cons_of_neg (by simp)]
    refine List.filter_eq_self.mpr fun y hy => decide_eq_true fun c => n1 (List.mem_map.mpr ⟨y, hy, c⟩)
  | x :: l, i + 1, k, v, nd, e => by
    obtain ⟨n1, n2⟩ := List.nodup_cons.mp nd
    have ne : x.1 ≠ k := fun c => n1 (List.mem_map.mpr ⟨(k, v), List.mem_of_getElem? (l := l) (i := i) e, c.symm⟩)
    have ih := dropK_at (l := l) (i := i) n2 e
    unfold dropK at *
    rw [List.filter_cons_of_pos (by simp [ne]), ih]
    rfl
theorem paired_erase {α β : Type} {F : α → β → Prop} : ∀ {l : List α} {m : List β} {i : Nat}, Paired F l m → Paired F (l.eraseIdx i) (m.eraseIdx i)
  | _, _, _, .nil => .nil
  | _, _, 0, .cons _ t => t
  | _, _, i + 1, .cons r t => .cons r (paired_erase (i := i) t)
theorem take_erase_lt {α : Type} : ∀ {l : List α} {i n : Nat}, i < n → (l.eraseIdx i).take (n - 1) = (l.take n).eraseIdx i ∧ (l.eraseIdx i).drop (n - 1) = l.drop n
  | [], i, n, h => by simp
  | x :: l, 0, n + 1, h => by simp
  | x :: l, i + 1, n + 1, h => by
    obtain ⟨a, b⟩ := take_erase_lt (l := l) (i := i) (n := n) (by omega)
    cases n with
    | zero => omega
    | succ n =>
      rw [List.eraseIdx_cons_succ, show n + 1 + 1 - 1 = n + 1 from rfl, List.take_succ_cons, List.drop_succ_cons, List.take_succ_cons, List.eraseIdx_cons_succ, List.drop_succ_cons]
      exact ⟨congrArg _ a, b⟩
theorem take_erase_ge {α : Type} : ∀ {l : List α} {i n : Nat}, n ≤ i → (l.eraseIdx i).take n = l.take n ∧ (l.eraseIdx i).drop n = (l.drop n).eraseIdx (i - n)
  | [], i, n, h => by simp
  | x :: l, i, 0, h => by simp
  | x :: l, 0, n + 1, h => by omega
  | x :: l, i + 1, n + 1, h => by
    obtain ⟨a, b⟩ := take_erase_ge (l := l) (i := i) (n := n) (by omega)
    rw [List.eraseIdx_cons_succ, List.take_succ_cons, List.take_succ_cons, List.drop_succ_cons, List.drop_succ_cons, show i + 1 - (n + 1) = i - n from by omega]
    exact ⟨congrArg _ a, b⟩
/-- where a one's entry of held stands, and what is left behind it -/
theorem held_cut {n : Nat} {os : List One} {hs : List Addr} {h0 : Addr} {i : Nat} {o : One} {a : Addr} (e1 : os[i]? = some o) (e2 : hs[i]? = some a) (hn : n ≤ os.length) (hl : hs.length = os.length) :
    ∃ j n', (heldAll n os hs h0)[j]? = some (some o.key, .ref a) ∧ (heldAll n os hs h0).eraseIdx j = heldAll n' (os.eraseIdx i) (hs.eraseIdx i) h0 ∧ n' ≤ (os.eraseIdx i).length := by
  have hi := (List.getElem?_eq_some_iff.mp e1).1
  have lE : (os.eraseIdx i).length = os.length - 1 := by rw [List.length_eraseIdx, if_pos hi]
  have at_ : ∀ {os' : List One} {hs' : List Addr} {i' : Nat}, os'[i']? = some o → hs'[i']? = some a → ((dkO os' (hs'.map V.ref)).map fun p => ((some p.1 : MKey), p.2))[i']? = some (some o.key, .ref a) := fun {os' hs' i'} g1 g2 => by
    rw [List.getElem?_map, dkO_at g1 (by rw [List.getElem?_map, g2]; rfl)]
    rfl
  by_cases h : i < n
  · refine ⟨i, n - 1, ?_, ?_, by omega⟩
    · unfold heldAll
      rw [List.getElem?_append_left]
      · exact at_ (by rw [List.getElem?_take, if_pos h]; exact e1) (by rw [List.getElem?_take, if_pos h]; exact e2)
      · rw [List.length_map, dkO_len (by rw [List.length_take, List.length_map, List.length_take]; omega), List.length_take]
        omega
    · unfold heldAll
      rw [List.eraseIdx_append_of_lt_length (by rw [List.length_map, dkO_len (by rw [List.length_take, List.length_map, List.length_take]; omega), List.length_take]; omega), ← eraseIdx_map', dkO_erase, ← eraseIdx_map', (take_erase_lt (l := os) h).1, (take_erase_lt (l := os) h).2, (take_erase_lt (l := hs) h).1, (take_erase_lt (l := hs) h).2]
  · have h' : n ≤ i := by omega
    have l1 : ((dkO (os.take n) ((hs.take n).map V.ref)).map fun p => ((some p.1 : MKey), p.2)).length = n := by
      rw [List.length_map, dkO_len (by rw [List.length_take, List.length_map, List.length_take]; omega), List.length_take]
      omega
    refine ⟨i + 1, n, ?_, ?_, by omega⟩
    · unfold heldAll
      rw [List.getElem?_append_right (by rw [l1]; omega), l1, show i + 1 - n = (i - n) + 1 from by omega, List.getElem?_cons_succ]
      exact at_ (by rw [List.getElem?_drop, Nat.add_sub_cancel' h']; exact e1) (by rw [List.getElem?_drop, Nat.add_sub_cancel' h']; exact e2)
    · unfold heldAll
      rw [List.eraseIdx_append_of_length_le (by rw [l1]; omega), l1, show i + 1 - n = (i - n) + 1 from by omega, List.eraseIdx_cons_succ, ← eraseIdx_map', dkO_erase, ← eraseIdx_map', (take_erase_ge (l := os) h').1, (take_erase_ge (l := os) h').2, (take_erase_ge (l := hs) h').1, (take_erase_ge (l := hs) h').2]
theorem erase_mem {α : Type} {l : List α} {i : Nat} {x : α} (h : x ∈ l.eraseIdx i) : x ∈ l := (List.eraseIdx_sublist l i).mem h
theorem ok_cut {G : Gs} {i : Nat} (ok : G.Ok) : (G.cut i).Ok := by
  refine ⟨ok.h, fun o ho => ok.fh o (erase_mem ho), ?_, fun o ho => ok.st o (erase_mem ho), Nat.le_trans (List.length_eraseIdx_le ..) ok.ln, ok.on, ok.ol, ok.os⟩
  exact ((List.eraseIdx_sublist G.ones i).map _).nodup ok.nd
theorem flat_sub {α : Type} {f : α → List Addr} : ∀ {l : List α} {i : Nat}, ((l.eraseIdx i).flatMap f).Sublist (l.flatMap f)
  | [], _ => List.Sublist.refl _
  | x :: l, 0 => by rw [List.eraseIdx_cons_zero, List.flatMap_cons]; exact List.sublist_append_right ..
  | x :: l, i + 1 => by rw [List.eraseIdx_cons_succ, List.flatMap_cons, List.flatMap_cons]; exact List.Sublist.append (List.Sublist.refl _) flat_sub
theorem fp_cut {p : Addr} {A : GA} {i : Nat} : ((A.cut i).fp p).Sublist (A.fp p) :=
  ((((List.Sublist.append (List.Sublist.refl A.h0.fp) (flat_sub (l := A.hs) (i := i))).cons_cons A.dH).cons_cons A.dS).cons_cons A.dP).cons_cons A.dF |>.cons_cons p
abbrev sEn : Stmt := inC 37 15
section
variable {P : Program} {w : World} {K : PySem.W.Frag} {mg : Str → Option Value} {base : Heap} {f : Addr} {fd : FuncData} {C CH : Addr}
def spEn (w : World) (K : PySem.W.Frag) (C CH : Addr) : Sp := fun vs H Q _ => ∃ (p b : Addr) (A : GA) (G : Gs) (i : Nat) (o : One), vs = [.ref p, .ref b] ∧ GsF w K C CH H p G A ∧ OneV K H b o ∧ G.ones[i]? = some o ∧ ∀ H', Go w K C CH H p A (G.cut i) (A.cut i) H' → Q .non H'
theorem scEn : FnScope ["self", "one", "gone"] ["self", "one"] (defScope sEn) := ⟨rfl, rfl, rfl, by decide +kernel, rfl, by decide +kernel, by decide +kernel⟩
theorem ok_en {k : Nat} (F : Fun K "end" "Ground.end" sEn f fd) (c : GCls K C) (m_tuple : mg "tuple" = none) : FnOk P w K mg base CX0 (k + 1) f fd ["self", "one"] (spEn w K C CH) := by
  have sc := scEn
  refine F.ok sc (fun vs H Q E h => ?_) (fun cdv A outer s H vs Q E hr h => ?_)
  · obtain ⟨p, b, A, G, i, o, rfl, _⟩ := h
    rfl
  obtain ⟨p, b, AA, G, i, o, rfl, hp, hb, ei, q⟩ := h
  refine ⟨_, (pss_cons (ps_set (i := 2) sc.nd rfl (.inl rfl) (pe_callTy (show CallR _ (.type "tuple") (rTupO K) from call_tuple_of) (by rfl) m_tuple (by decide +kernel) (pa_cons (pv 1) pa_nil)))
      (pss_cons (Fw.ps_delT (hu_of hr) (pe_fld (pv 0) rfl) (pv 2))
      (pss_cons (Fw.ps_delT (hu_of hr) (pe_fld (pv 0) rfl) (pv 2))
      (pss_one (Fw.ps_mdel (hu20 hr) (pe_fld (pv 0) rfl) (pv 2)))))), ?_⟩
  refine ⟨_, rfl, ?_⟩
  unfold tNil
  refine key_or hb fun t H0 s0 _ ht => ?_
  replace q := fun H' g => q H' (Go.pre s0 g)
  replace hp := hp.same s0
  have N := nes hp.nd
  obtain ⟨mp1, mp2, mp3, mp4, mp5, mp6, mp7⟩ := mem_fp (p := p) (A := AA)
  obtain ⟨⟨ps, n0, h1, h2, h3, h4, h5, h6, h7, h8, hn0⟩, ok, nd⟩ := hp
  have lps : G.ones.length = (ps.map V.ref).length := by rw [List.length_map]; exact (paired_len h4).symm
  have lsh : G.ones.length = (shO G).length := by unfold shO; rw [List.length_map]
  have lhs := paired_len h7
  obtain ⟨a, ea, ha⟩ := paired_idx h4 ei
  obtain ⟨hd, eh, hh⟩ := paired_idx h7 ei
  have aP := dkO_at (os := G.ones) (vs := ps.map V.ref) ei (by rw [List.getElem?_map, ea]; rfl)
  have aS := dkO_at (os := G.ones) (vs := shO G) (v := .bl o.sh) ei (by unfold shO; rw [List.getElem?_map, ei]; rfl)
  have kP : dropK (dkO G.ones (ps.map V.ref)) o.key = dkO (G.ones.eraseIdx i) ((ps.eraseIdx i).map V.ref) := by
    rw [dropK_at (dkO_nd lps ok.nd) aP, dkO_erase, eraseIdx_map']
  have kS : dropK (dkO G.ones (shO G)) o.key = dkO (G.ones.eraseIdx i) (shO (G.cut i)) := by
    rw [dropK_at (dkO_nd lsh ok.nd) aS, dkO_erase]
    unfold shO Gs.cut
    rw [eraseIdx_map']
  have vP := val_at (dkO_nd lps ok.nd) aP
  have vS := val_at (dkO_nd lsh ok.nd) aS
  obtain ⟨j, n', ej, er, hn'⟩ := held_cut (h0 := AA.h0.p) (hs := AA.hs.map Hd.p) ei (by rw [List.getElem?_map, eh]; rfl) hn0 (by rw [List.length_map]; exact lhs)
  -- places
  refine ⟨_, rfl, p, C, AA.dx, _, _, rfl, h1, c.cl, c.nP, fldG_p _ _ _ _ _ _, _, rfl, AA.dP, t, _, o.key, _, rfl, rfl, h3, ht, vP, ?_⟩
  rw [kP]
  have f1 : ∀ {b u}, b ≠ AA.dP → H0 b = some u → (upd H0 AA.dP (.dT (dkO (G.ones.eraseIdx i) ((ps.eraseIdx i).map V.ref)))) b = some u := fun n e => by rw [upd_ne n]; exact e
  have e1 : (upd H0 AA.dP (.dT (dkO (G.ones.eraseIdx i) ((ps.eraseIdx i).map V.ref)))) AA.dP = some (.dT (dkO (G.ones.eraseIdx i) ((ps.eraseIdx i).map V.ref))) := upd_same
  generalize upd H0 AA.dP (.dT (dkO (G.ones.eraseIdx i) ((ps.eraseIdx i).map V.ref))) = H1 at *
  have h5' := f1 N.PS.symm h5
  have ht1 := f1 (ne_of ht h3 nofun) ht
  -- shown
  refine ⟨_, rfl, p, C, AA.dx, _, _, rfl, f1 N.pP h1, c.cl, c.nS, fldG_s _ _ _ _ _ _, _, rfl, AA.dS, t, _, o.key, _, rfl, rfl, h5', ht1, vS, ?_⟩
  rw [kS]
  have f2 : ∀ {b u}, b ≠ AA.dP → b ≠ AA.dS → H0 b = some u → (upd H1 AA.dS (.dT (dkO (G.ones.eraseIdx i) (shO (G.cut i))))) b = some u := fun n m e => by rw [upd_ne m]; exact f1 n e
  have e12 : (upd H1 AA.dS (.dT (dkO (G.ones.eraseIdx i) (shO (G.cut i))))) AA.dP = some (.dT (dkO (G.ones.eraseIdx i) ((ps.eraseIdx i).map V.ref))) := by rw [upd_ne N.PS]; exact e1
  have e2 : (upd H1 AA.dS (.dT (dkO (G.ones.eraseIdx i) (shO (G.cut i))))) AA.dS = some (.dT (dkO (G.ones.eraseIdx i) (shO (G.cut i)))) := upd_same
  generalize upd H1 AA.dS (.dT (dkO (G.ones.eraseIdx i) (shO (G.cut i)))) = H2 at *
  have h62 : MixD w H2 AA.dH (heldAll n0 G.ones (AA.hs.map Hd.p) AA.h0.p) := h6.same (fun u e => f2 N.PH.symm N.SH.symm e) fun b xs e => f2 (ne_of e h3 nofun) (ne_of e h5 nofun) e
  have ht2 := f2 (ne_of ht h3 nofun) (ne_of ht h5 nofun) ht
  -- held
  refine ⟨_, rfl, p, C, AA.dx, _, _, rfl, f2 N.pP N.pS h1, c.cl, c.nD, fldG_d _ _ _ _ _ _, _, rfl, AA.dH, t, _, o.key, _, j, rfl, rfl, h62, ht2, ej, fun u hm => ?_⟩
  rw [er, ← eraseIdx_map'] at hm
  obtain ⟨xs6, e6, _⟩ := id h6
  have off : ∀ {b v}, b ≠ AA.dP → b ≠ AA.dS → b ≠ AA.dH → H0 b = some v → upd H2 AA.dH u b = some v := fun n1 n2 n3 e => by
    rw [upd_ne n3]
    exact f2 n1 n2 e
  have offT : ∀ {a xs}, SqT K H0 a xs → SqT K (upd H2 AA.dH u) a xs := fun {a xs} e => by
    rcases e with (e | ⟨o, e⟩) | e
    · exact .inl (.inl (off (ne_of e h3 nofun) (ne_of e h5 nofun) (ne_of e e6 (by unfold MixO; nofun)) e))
    · exact .inl (.inr ⟨o, off (ne_of e h3 nofun) (ne_of e h5 nofun) (ne_of e e6 (by unfold MixO; nofun)) e⟩)
    · exact .inr e
  refine q _ ⟨fun b v nb e => off (fun z => nb (by rw [z]; exact mp3)) (fun z => nb (by rw [z]; exact mp4)) (fun z => nb (by rw [z]; exact mp5)) e, ⟨⟨ps.eraseIdx i, n', off N.pP N.pS N.pH h1, off N.FP N.FS N.FH h2, by show upd H2 AA.dH u AA.dP = _; rw [upd_ne N.PH]; exact e12, paired_erase (L2.Paired.mapP h4 fun a o e => offT e), by show upd H2 AA.dH u AA.dS = _; rw [upd_ne N.SH]; exact e2, hm, paired_erase (paired_memL h7 fun a ha o e => e.fr fun b hb u x => ?_), h8.fr fun b hb u x => ?_, hn'⟩, ok_cut ok, fp_cut.nodup nd⟩, fun b hb => .inl (fp_cut.mem hb)⟩
  · obtain ⟨o1, o2, o3, o4, o5⟩ := N.os _ ha _ hb
    exact off o3 o4 o5 x
  · obtain ⟨o1, o2, o3, o4, o5⟩ := N.o0 _ hb
    exact off o3 o4 o5 x
end
end Fd

set_option Elab.async false
set_option linter.all false
set_option maxRecDepth 100000
set_option maxHeartbeats 1000000
namespace Fd
open PySem PySem.Spec PyProof.Rows L2 RZ Fw LamX
/-! ### any deed -/
theorem dp_list' {K : PySem.W.Frag} {H : Hp} {v : V} {ds : List PyData} (h : Dp K H v (.list ds)) : ∃ a xs, v = .ref a ∧ SqL K H a xs ∧ DpAll K H xs ds := by
  cases h with
  | lst q r => exact ⟨_, _, rfl, q, r⟩
theorem dp_tup' {K : PySem.W.Frag} {H : Hp} {v : V} {ds : List PyData} (h : Dp K H v (.tuple ds)) : ∃ a xs, v = .ref a ∧ SqT K H a xs ∧ DpAll K H xs ds := by
  cases h with
  | tup q r => exact ⟨_, _, rfl, q, r⟩
theorem dpInts {K : PySem.W.Frag} {H : Hp} : ∀ {xs : List V} {ms : List Int}, DpAll K H xs (ms.map .int) → xs = ms.map V.int
  | _, [], h => by cases h; rfl
  | _, m :: ms, h => by
    cases h with
    | cons a b =>
      cases a
      rw [dpInts b]
      rfl
theorem dpStrs {K : PySem.W.Frag} {H : Hp} : ∀ {xs : List V} {ms : List Str}, DpAll K H xs (ms.map .str) → xs = ms.map V.str
  | _, [], h => by cases h; rfl
  | _, m :: ms, h => by
    cases h with
    | cons a b =>
      cases a
      rw [dpStrs b]
      rfl
theorem prs_of {K : PySem.W.Frag} {H : Hp} : ∀ {xs : List V} {nm : Nms}, DpAll K H xs (nm.map prD) → Fv.Prs K H xs (nm.map fun p => (p.1, V.int p.2))
  | _, [], h => by cases h; exact .nil
  | _, q :: nm, h => by
    cases h with
    | cons a b =>
      obtain ⟨t, ys, rfl, ht, hy⟩ := dp_tup' a
      cases hy with
      | cons y1 y2 =>
        cases y2 with
        | cons y3 y4 =>
          cases y4
          cases y1
          cases y3
          exact .cons ⟨t, rfl, .inl ht⟩ (prs_of b)
theorem rows_of {K : PySem.W.Frag} {H : Hp} : ∀ {xs : List V} {rw_ : Rws}, DpAll K H xs (rw_.map rpD) → ∃ rs, Fv.Prs K H xs rs ∧ Fv.Rows K H rs rw_
  | _, [], h => by cases h; exact ⟨[], .nil, .nil⟩
  | _, q :: rw_, h => by
    cases h with
    | cons a b =>
      obtain ⟨rs, h1, h2⟩ := rows_of b
      obtain ⟨t, ys, rfl, ht, hy⟩ := dp_tup' a
      cases hy with
      | cons y1 y2 =>
        cases y2 with
        | cons y3 y4 =>
          cases y4
          cases y1
          obtain ⟨l, zs, rfl, hl, hz⟩ := dp_list' y3
          rw [dpInts hz] at hl
          exact ⟨(q.1, .ref l) :: rs, .cons ⟨t, rfl, .inl ht⟩ h1, .cons ⟨rfl, l, rfl, .inr hl⟩ h2⟩
/-- what the deed z with the values is makes of the one -/
def Deed (G : Gs) (z : Str) (is : List Int) (o o' : One) : Prop := (z = "show" ∧ is = [] ∧ o' = { o with sh := true }) ∨ (z = "hide" ∧ is = [] ∧ o' = { o with sh := false }) ∨ ∃ r, Acts z is o.f.x o.f.y o.f.w r ∧ o' = o.at_ (near r.1 G.wide) (near r.2.1 G.high) r.2.2
theorem sl_tail {K : PySem.W.Frag} {H : Hp} {a : Addr} {x : V} {xs : List V} {Q : VK} (h : SqT K H a (x :: xs)) (q : ∀ l, H l = none → Q (.ref l) (upd H l (.tup xs))) : rSlA K (.ref a) (some 1) none H Q := by
  refine ⟨a, _, rfl, h, fun e => ?_, fun _ l nl => ?_⟩
  · refine absurd e.1 ?_
    show ¬ HT.sIx (xs.length + 1) 0 (some ((1 : Nat) : Int)) = 0
    rw [HT.sIx_nat]
    omega
  · have := q l nl
    rwa [show cutV (x :: xs) (some 1) none = xs from cut_from (x :: xs) 1]
theorem ix_sq {K : PySem.W.Frag} {H : Hp} {a : Addr} {xs : List V} {j : Nat} {x : V} {Q : VK} (h : Sq K H a xs) (e : xs[j]? = some x) (q : Q x H) : rOr (rIxL K) (rIxT K) (.ref a) (.int (j : Nat)) H Q := by
  rcases h with h | h
  · exact .inl ⟨a, xs, j, x, rfl, rfl, h, atI_nat e, q⟩
  · exact .inr ⟨a, xs, j, x, rfl, rfl, h, atI_nat e, q⟩
theorem slr_or {X : Cx} {r r' : V → Option Int → Option Int → Hp → VK → Prop} (h : SlR X r) (h' : SlR X r') : SlR X (fun x lo hi H Q => r x lo hi H Q ∨ r' x lo hi H Q) := fun pins s σ H x v vl vu lo hi sl Q I rx hs p1 p2 q => q.elim (h pins s σ H x v vl vu lo hi sl Q I rx hs p1 p2) (h' pins s σ H x v vl vu lo hi sl Q I rx hs p1 p2)
/-- a tail of a list or a tuple is new -/
theorem sl_tailS {K : PySem.W.Frag} {H : Hp} {a : Addr} {x : V} {xs : List V} {Q : VK} (h : Sq K H a (x :: xs)) (q : ∀ l H', Same H H' → Sq K H' l xs → Q (.ref l) H') : rSlL K (.ref a) (some 1) none H Q ∨ rSlA K (.ref a) (some 1) none H Q := by
  rcases h with h | h
  · refine .inl ⟨a, _, rfl, h, fun l nl => ?_⟩
    rw [show cutV (x :: xs) (some 1) none = xs from cut_from (x :: xs) 1]
    exact q l _ (same_upd nl) (.inl (SqL.of upd_same))
  · exact .inr (sl_tail h fun l nl => q l _ (same_upd nl) (.inr (.inl (.inl upd_same))))

/-- by what a one's looks read -/
def eyG (G : Gs) (g : One) (pm : Nms) : Fv.Ey := ⟨pm ++ (g.f.ns ++ G.nm), g.f.rs ++ G.rw, [g.f.x, g.f.y, g.f.w, g.no], metO G g⟩
/-- the values of looks, one behind the other -/
def vals (E : Fv.Ey) : List Fv.Lk → Except Str (List Int)
  | [] => .ok []
  | L :: r => match Fv.val E L with
    | .error e => .error e
    | .ok v => match vals E r with
      | .error e => .error e
      | .ok vs => .ok (v :: vs)
theorem vals_err {E : Fv.Ey} : ∀ {Ls : List Fv.Lk} {i : Nat} {L : Fv.Lk} {e : Str}, (∀ M ∈ Ls.take i, ∃ v, Fv.val E M = .ok v) → Ls[i]? = some L → Fv.val E L = .error e → vals E Ls = .error e
  | [], i, _, _, _, h, _ => by simp at h
  | M :: r, 0, L, e, _, h, he => by
    cases (Option.some.inj h)
    unfold vals
    rw [he]
  | M :: r, i + 1, L, e, hk, h, he => by
    obtain ⟨v, hv⟩ := hk M (by rw [List.take_succ_cons]; exact List.mem_cons_self ..)
    have ih := vals_err (Ls := r) (i := i) (fun N hN => hk N (by rw [List.take_succ_cons]; exact List.mem_cons_of_mem _ hN)) h he
    unfold vals
    rw [hv, ih]
theorem vals_snoc {E : Fv.Ey} : ∀ {Ls : List Fv.Lk} {L : Fv.Lk} {vs : List Int} {v : Int}, vals E Ls = .ok vs → Fv.val E L = .ok v → vals E (Ls ++ [L]) = .ok (vs ++ [v])
  | [], L, vs, v, h, hv => by
    cases h
    show (match Fv.val E L with | .error e => _ | .ok v => _) = _
    rw [hv]
    rfl
  | M :: r, L, vs, v, h, hv => by
    unfold vals at h
    cases hM : Fv.val E M with
    | error e => rw [hM] at h; cases h
    | ok u =>
      rw [hM] at h
      cases hr : vals E r with
      | error e => rw [hr] at h; cases h
      | ok us =>
        rw [hr] at h
        cases h
        have ih := vals_snoc (Ls := r) hr hv
        show (match Fv.val E M with | .error e => _ | .ok v => match vals E (r ++ [L]) with | .error e => _ | .ok vs => _) = _
        rw [hM, ih]
        rfl
theorem eyes_of {K : PySem.W.Frag} {H : Hp} {v : V} {G : Gs} {g : One} {pm : Nms} (h : Dp K H v (eyesD G g pm)) : ∃ e, v = .ref e ∧ Fv.Eyes K H e (eyG G g pm) := by
  obtain ⟨e, xs, rfl, he, hx⟩ := dp_tup' h
  cases hx with
  | cons a1 hx =>
    cases hx with
    | cons a2 hx =>
      cases hx with
      | cons a3 hx =>
        cases hx with
        | cons a4 hx =>
          cases hx
          obtain ⟨n, ns, rfl, hn, pn⟩ := dp_list' a1
          obtain ⟨l, ls, rfl, hl, pl⟩ := dp_list' a2
          obtain ⟨s, ss, rfl, hs, ps⟩ := dp_tup' a3
          obtain ⟨m, ms, rfl, hm, pm'⟩ := dp_list' a4
          obtain ⟨rs, r1, r2⟩ := rows_of pl
          rw [dpInts (ms := [g.f.x, g.f.y, g.f.w, g.no]) ps] at hs
          rw [dpStrs pm'] at hm
          exact ⟨e, rfl, n, l, s, m, .inl he, ⟨ns, .inr hn, prs_of pn⟩, ⟨ls, rs, .inr hl, r1, r2⟩, .inl hs, rfl, .inr hm⟩
/-- what is behind the first few of a list or a tuple -/
theorem sl_tailN {K : PySem.W.Frag} {H : Hp} {a : Addr} {x : V} {pre xs : List V} {m : Nat} {Q : VK} (h : Sq K H a (x :: (pre ++ xs))) (e : m = pre.length + 1) (q : ∀ l H', Same H H' → Sq K H' l xs → Q (.ref l) H') : rSlL K (.ref a) (some (m : Int)) none H Q ∨ rSlA K (.ref a) (some (m : Int)) none H Q := by
  subst e
  have ec : cutV (x :: (pre ++ xs)) (some ((pre.length + 1 : Nat) : Int)) none = xs := (cut_from (x :: (pre ++ xs)) (pre.length + 1)).trans (by rw [List.drop_succ_cons, List.drop_left])
  rcases h with h | h
  · refine .inl ⟨a, _, rfl, h, fun l nl => ?_⟩
    rw [ec]
    exact q l _ (same_upd nl) (.inl (SqL.of upd_same))
  · refine .inr ⟨a, _, rfl, h, fun e => ?_, fun _ l nl => ?_⟩
    · refine absurd e.1 ?_
      show ¬ HT.sIx ((pre ++ xs).length + 1) 0 (some ((pre.length + 1 : Nat) : Int)) = 0
      rw [HT.sIx_nat, List.length_append]
      omega
    · rw [ec]
      exact q l _ (same_upd nl) (.inr (.inl (.inl upd_same)))
theorem yesI {σ : L2.St} {H : Hp} {Q : Bool → Hp → Prop} (h : Q true H) : tYes σ H Q := h
def Kind3 (z : Str) (pre : List V) : Prop := (z = "say" ∧ pre = []) ∨ (z ∈ (["show", "hide", "turn", "place", "move"] : List Str) ∧ pre = []) ∨ (z ∈ (["set", "add"] : List Str) ∧ ∃ x : Str, pre = [.str x]) ∨ (z ∈ (["put", "drop", "write"] : List Str) ∧ ∃ x : Str, pre = [.str x])
theorem lk_same {K : PySem.W.Frag} {H H' : Hp} {v : V} {L : Fv.Lk} (h : Fv.LkAt K H v L) (s : Same H H') : Fv.LkAt K H' v L := h.same s
abbrev sDo : Stmt := inC 37 16
section
variable {P : Program} {w : World} {K : PySem.W.Frag} {mg : Str → Option Value} {base : Heap} {f : Addr} {fd : FuncData} {C CH CF : Addr}
def spDo (w : World) (K : PySem.W.Frag) (C CH CF : Addr) : Sp := fun vs H Q E => ∃ (p b d : Addr) (e : V) (A : GA) (z : Str) (pre looks : List V) (Ls : List Fv.Lk) (G : Gs) (i : Nat) (o : One) (pm : Nms), vs = [.ref p, .ref b, .ref d, e] ∧ GsF w K C CH H p G A ∧ OneV K H b o ∧ G.ones[i]? = some o ∧ Sq K H d (.str z :: (pre ++ looks)) ∧ Kind3 z pre ∧
  Paired (Fv.LkAt K H) looks Ls ∧ looks.length ≤ 100 ∧ (∀ L ∈ Ls, L.deep ≤ 6) ∧ Pn K H e pm ∧ pm.length ≤ 100 ∧
  (∀ x, vals (eyG G o pm) Ls = .error x → ∀ H', Same H H' → Fv.Falls CF E H' x) ∧
  (∀ is, vals (eyG G o pm) Ls = .ok is → (z = "say" ∧ ∃ v ws, is = v :: ws ∧ ∀ H', Same H H' → Q (.int v) H') ∨
    (∃ (x : Str) (v : Int) (ws : List Int), pre = [.str x] ∧ is = v :: ws ∧ ArN z ws ∧ (∀ G' H', heldG G i o z x v ws = .ok G' → Go w K C CH H p A G' A H' → Q .non H') ∧ (∀ e H', heldG G i o z x v ws = .error e → Same H H' → Fv.Falls CF E H' e)) ∨
    (z ∈ (["show", "hide", "turn", "place", "move"] : List Str) ∧ ∃ o', Deed G z is o o' ∧ ∀ H', Go w K C CH H p A (G.put i o') A H' → Q .non H'))
theorem scDo : FnScope ["self", "one", "deed", "params", "word", "named", "looks", "eyes", "values", "look"] ["self", "one", "deed", "params"] (defScope sDo) := ⟨rfl, rfl, rfl, by decide +kernel, rfl, by decide +kernel, by decide +kernel⟩
theorem ok_do {k kH : Nat} {nD lD hD0 : Addr} {eN eL eS : Array DictEntry} {n1 n2 n3 k0 : Nat} {fE fC fS : Addr} {fdE fdC fdS : FuncData} {psE psC psS : List Str} (F : Fun K "do" "Ground.do" sDo f fd) (c : GCls K C) (c_G : Cls K C) (hk : kH ≤ k) (m_tuple : mg "tuple" = none) (T : DoT P K w mg base CF nD lD hD0 eN eL eS n1 n2 n3 k0)
    (M_eyes : Meth K C "eyes" fE) (G_eyes : FnOk P w K mg base CX0 kH fE fdE psE (spGE w K C CH)) (b_eyes_kw : KBn K fdE psE 2 ["params"] (· ++ ·) (· ++ ·))
    (M_change_spot : Meth K C "change_spot" fC) (G_change_spot : FnOk P w K mg base CX0 kH fC fdC psC (spCS w K C CH)) (b_change_spot : Binds K fdC psC [])
    (M_change_held : Meth K C "change_held" fS) (G_change_held : FnOk P w K mg base (L2.CX P w) kH fS fdS psS (spCH w K C CH CF)) (b_change_held : Binds K fdS psS [])
    (GV : FnG P w K mg base (L2.CX P w) kH "value_of" ["look", "eyes"] (Fv.spVal K CF 6)) : FnOk P w K mg base (L2.CX P w) (k + 1) f fd ["self", "one", "deed", "params"] (spDo w K C CH CF) := by
  obtain ⟨_, _, G_value_of, m_value_of, k_value_of, b_value_of⟩ := GV
  have d_change_spot : Vals [] [] := .nil
  have d_change_held : Vals [] [] := .nil
  have sc := scDo
  refine F.okX sc (fun vs H Q E h => ?_) (fun cdv A outer s H vs Q E hr h => ?_)
  · obtain ⟨p, b, d, e, A, z, pre, looks, Ls, G, i, o, pm, rfl, _⟩ := h
    rfl
  obtain ⟨p, b, d, e, AA, z, pre, looks, Ls, G, i, o, pm, rfl, hp, hb, ei, hd, hk', hl, ll, h6, hx, lx, qF, qO⟩ := h
  refine ⟨_, (pss_cons (ps_set (i := 4) sc.nd rfl (.inl rfl) (pe_ix (ixr_or (show IxR _ (rIxL K) from ix_list) (show IxR _ (rIxT K) from ix_tup)) (pv 2) pe_int (fun _ _ => rfl)))
      (pss_cons (ps_set (i := 5) sc.nd rfl (.inl rfl) (pe_or (pe_cmpR (op_in_kd T.dN) (pv 4) (pe_glob (v := .ref nD) (by rfl) T.mN rfl) (by rfl)) (pe_one (pe_cmpR (op_in_kd T.dL) (pv 4) (pe_glob (v := .ref lD) (by rfl) T.mL rfl) (by rfl)))))
      (pss_cons (ps_set (i := 6) sc.nd rfl (.inl rfl) (pe_ifExp (pt_val (pv 5)) (pe_slice (slr_or (show SlR _ (rSlL K) from sl_list) (show SlR _ (rSlA K) from sl_tupA)) (pv 2) (po_some pe_int) po_none) (pe_slice (slr_or (show SlR _ (rSlL K) from sl_list) (show SlR _ (rSlA K) from sl_tupA)) (pv 2) (po_some pe_int) po_none)))
      (pss_cons (ps_set (i := 7) sc.nd rfl (.inr rfl) (Fw.pe_methK (pv 0) c_G M_eyes G_eyes (hr.mono (by omega)) b_eyes_kw pass0 (pa_cons (pv 1) pa_nil) (pk_cons (pv 3) pk_nil)))
      (pss_cons (ps_setLcX (i := 8) (own := [("look", 9)]) rfl rfl (takes_of rfl rfl rfl rfl) (by rfl) sc.nd rfl rfl (sw_true rfl rfl rfl (by decide +kernel)) (pi_or (pi_list (pv 6)) (pi_tup (pv 6))) (blkOk_by (own := [("look", 9)]) (N := ["self", "one", "deed", "params", "word", "named", "looks", "eyes", "values", "look"]) (sc := defScope sDo) (by decide +kernel)) (fun _ _ _ _ _ => (pg_name (i := 9) sc.nd rfl (.inl rfl))) (fun _ _ _ _ _ ξ px => (pe_callS G_value_of (hr.mono (by omega)) (by rfl) m_value_of k_value_of b_value_of (fun σ => px σ) (pa_cons (pv 9) (pa_cons (pv 7) pa_nil)))))
      (pss_cons (ps_if (pt_cmpR op_eq (pv 4) pe_str (nomark _)) (pss_one (ps_ret (pe_ix ix_list (pv 8) pe_int (fun _ _ => rfl)))) pss_nil)
      (pss_cons (ps_if (pt_val (pv 5)) (pss_one (ps_expr (Fw.pe_methSD (pv 0) c_G M_change_held G_change_held (hr.mono (by omega)) b_change_held d_change_held (fun σ => passAt (takes_of rfl rfl rfl rfl) σ) (pa_cons (pe_callTy (show CallR _ (.type "tuple") (rTupO K) from call_tuple_of) (by rfl) m_tuple (by decide +kernel) (pa_cons (pv 1) pa_nil)) (pa_cons (pv 4) (pa_cons (pe_ix (ixr_or (show IxR _ (rIxL K) from ix_list) (show IxR _ (rIxT K) from ix_tup)) (pv 2) pe_int (fun _ _ => rfl)) (pa_cons (pv 8) pa_nil))))))) (pss_one (ps_if (pt_cmpR (op_in_kd T.dS) (pv 4) (pe_glob (v := .ref hD0) (by rfl) T.mS rfl) (by rfl)) (pss_one (ps_dput (hu_of hr) (pe_fld (pv 0) rfl) (pe_callTy (show CallR _ (.type "tuple") (rTupO K) from call_tuple_of) (by rfl) m_tuple (by decide +kernel) (pa_cons (pv 1) pa_nil)) (pe_ix ix_kdict (pe_glob (v := .ref hD0) (by rfl) T.mS rfl) (pv 4) (fun _ _ => rfl)) rfl)) (pss_one (ps_expr (pe_meth (pv 0) c_G M_change_spot G_change_spot (hr.mono (by omega)) b_change_spot d_change_spot pass0 (pa_cons (pe_callTy (show CallR _ (.type "tuple") (rTupO K) from call_tuple_of) (by rfl) m_tuple (by decide +kernel) (pa_cons (pv 1) pa_nil)) (pa_cons (pv 4) (pa_cons (pv 8) pa_nil)))))))))
      (pss_one (ps_ret pe_non))))))))), ?_⟩
  refine ⟨_, rfl, ix_sq hd (j := 0) rfl ?_⟩
  have lLs := paired_len hl
  obtain ⟨gdx, ga, gb, gc, gd, e0⟩ := hp.at.get
  have hg := List.mem_of_getElem? ei
  rcases hk' with ⟨rfl, rfl⟩ | ⟨hz, rfl⟩ | ⟨hz, y, rfl⟩ | ⟨hz, y, rfl⟩
  case' inl =>
    refine ⟨_, rfl, _, none, rfl, rfl, T.zN _ (by simp), _, rfl, ifFF ⟨_, rfl, _, none, rfl, rfl, T.zL _ (by simp), ?_⟩⟩
    refine ⟨_, rfl, _, rfl, ifFF ⟨_, rfl, _, rfl, ?_⟩⟩
    unfold tNoPart
    refine sl_tailN (m := 1) hd rfl fun l H1 s1 el => ?_
  case' inr.inl =>
    have z1 : z ∈ (["move", "turn", "say", "place", "put", "drop", "write", "show", "hide"] : List Str) := by simp only [List.mem_cons, List.mem_nil_iff, or_false] at hz ⊢; rcases hz with h | h | h | h | h <;> simp [h]
    have z2 : z ∈ (["move", "turn", "say", "place", "set", "add", "show", "hide"] : List Str) := by simp only [List.mem_cons, List.mem_nil_iff, or_false] at hz ⊢; rcases hz with h | h | h | h | h <;> simp [h]
    refine ⟨_, rfl, z, none, rfl, rfl, T.zN z z1, _, rfl, ifFF ⟨_, rfl, z, none, rfl, rfl, T.zL z z2, ?_⟩⟩
    refine ⟨_, rfl, _, rfl, ifFF ⟨_, rfl, _, rfl, ?_⟩⟩
    unfold tNoPart
    refine sl_tailN (m := 1) hd rfl fun l H1 s1 el => ?_
  case' inr.inr.inl =>
    obtain ⟨u', hu'⟩ : ∃ u, PySem.W.nsIn K nD z = some (some u) := by
      rcases List.mem_cons.mp hz with rfl | hz
      · obtain ⟨f, ⟨es', n', u', hl', hk', hu', hr'⟩, _⟩ := T.kS
        exact ⟨u', hu'⟩
      · rw [List.mem_singleton.mp hz]
        obtain ⟨f, ⟨es', n', u', hl', hk', hu', hr'⟩, _⟩ := T.kA
        exact ⟨u', hu'⟩
    refine ⟨_, rfl, z, some u', rfl, rfl, hu', _, rfl, iteT ?_⟩
    refine ⟨_, rfl, _, rfl, iteT ⟨_, rfl, _, rfl, ?_⟩⟩
    unfold tNoPart
    refine sl_tailN (m := 2) hd rfl fun l H1 s1 el => ?_
  case' inr.inr.inr =>
    obtain ⟨u', hu'⟩ : ∃ u, PySem.W.nsIn K lD z = some (some u) := by
      simp only [List.mem_cons, List.mem_nil_iff, or_false] at hz
      rcases hz with rfl | rfl | rfl
      · obtain ⟨f, ⟨es', n', u', hl', hk', hu', hr'⟩, _⟩ := T.kP
        exact ⟨u', hu'⟩
      · obtain ⟨f, ⟨es', n', u', hl', hk', hu', hr'⟩, _⟩ := T.kD
        exact ⟨u', hu'⟩
      · obtain ⟨f, ⟨es', n', u', hl', hk', hu', hr'⟩, _⟩ := T.kW
        exact ⟨u', hu'⟩
    have z1 : z ∈ (["move", "turn", "say", "place", "put", "drop", "write", "show", "hide"] : List Str) := by simp only [List.mem_cons, List.mem_nil_iff, or_false] at hz ⊢; rcases hz with h | h | h <;> simp [h]
    refine ⟨_, rfl, z, none, rfl, rfl, T.zN z z1, _, rfl, ifFF ⟨_, rfl, z, some u', rfl, rfl, hu', ?_⟩⟩
    refine ⟨_, rfl, _, rfl, iteT ⟨_, rfl, _, rfl, ?_⟩⟩
    unfold tNoPart
    refine sl_tailN (m := 2) hd rfl fun l H1 s1 el => ?_
  all_goals
    refine ⟨_, rfl, p, gdx, _, rfl, s1 _ _ e0, by kernel_rfl, _, rfl, _, rfl, rfl, rfl, p, b, e, G, o, pm, rfl, hp.at.same s1, hb.same s1, hg, hx.same s1, lx, fun ev H2 as s2 t2 _ => ?_⟩
    obtain ⟨ea, rfl, hE⟩ := eyes_of (tr_dp _ _ _ t2)
    have S2 := s1.trans s2
    have e2 := el.same s2
    refine sq_it rfl e2 fun J wJ D nD => lc_it wJ (fun j H' => Same H2 H' ∧ ∃ vs : List Int, vs.length = j ∧ vals (eyG G o pm) (Ls.take j) = .ok vs ∧ (∀ M ∈ Ls.take j, ∃ v, Fv.val (eyG G o pm) M = .ok v) ∧ H' D = some (.lst (vs.map V.int))) ⟨same_upd nD, [], rfl, rfl, (fun M hM => by rw [List.take_zero] at hM; cases hM), upd_same⟩ (fun _ _ _ h => h.1) ?_ ?_
  case refine_2.inl.refine_1 | refine_2.inr.inl.refine_1 | refine_2.inr.inr.inl.refine_1 | refine_2.inr.inr.inr.refine_1 =>
    rintro j x _ HB hj ⟨sm, vs, lv, hvs, hok, hD⟩ ⟨rfl, ex⟩
    obtain ⟨L, eL, hL⟩ := paired_at hl ex
    have mL := List.mem_of_getElem? eL
    refine ⟨rfl, yesI (iteT ⟨_, rfl, _, rfl, x, ea, L, _, rfl, hL.same (S2.trans sm), h6 L mL, hE.same sm, ?_⟩)⟩
    cases hv : Fv.val (eyG G o pm) L with
    | error y => exact qF y (vals_err hok eL hv) HB (S2.trans sm)
    | ok n =>
      have tk : Ls.take (j + 1) = Ls.take j ++ [L] := by rw [List.take_succ, eL]; rfl
      refine ⟨_, hD, by rw [List.length_map, lv]; exact small1000 (by omega), Fd.Same.putN sm nD, vs ++ [n], by rw [List.length_append, lv]; rfl, ?_, fun M hM => ?_, ?_⟩
      · rw [tk]
        exact vals_snoc hvs hv
      · rw [tk] at hM
        rcases List.mem_append.mp hM with z | z
        · exact hok M z
        · cases (List.mem_singleton.mp z); exact ⟨n, hv⟩
      · rw [upd_same, List.map_append]
        rfl
  all_goals
    rintro HB ⟨sm, is, lv, hvs, hok, hD⟩
    rw [lLs, List.take_length] at hvs
    have S3 := S2.trans sm
    have hp3 := hp.same S3
    have hb3 := hb.same S3
    have e3 := S3 _ _ e0
  case refine_2.inl.refine_2 =>
    rcases qO is hvs with ⟨_, v, ws, rfl, q⟩ | ⟨x, v, ws, h, _⟩ | ⟨h, _⟩
    · exact ⟨_, rfl, rfl, _, rfl, iteT ⟨_, rfl, D, _, 0, _, rfl, rfl, SqL.of hD, atI_nat (j := 0) rfl, q _ S3⟩⟩
    · cases h
    · exact absurd h (by decide +kernel)
  case refine_2.inr.inl.refine_2 =>
    have hsay : decide (V.str z = V.str "say") = false := by
      simp only [List.mem_cons, List.mem_nil_iff, or_false] at hz
      rcases hz with rfl | rfl | rfl | rfl | rfl <;> decide +kernel
    rcases qO is hvs with ⟨rfl, _⟩ | ⟨x, v, ws, h, _⟩ | ⟨_, o', hde, q⟩
    · exact absurd hz (by decide +kernel)
    · cases h
    refine ⟨_, rfl, rfl, _, rfl, ?_⟩
    rw [hsay]
    refine ifFF ⟨_, rfl, _, rfl, ifFF ?_⟩
    obtain ⟨⟨ps, n0, h1, h2, h3, h4, h5, h6', h7, h8, hn0⟩, ok, nd⟩ := id hp3
    have hsh : (∃ bb : Bool, KDct K w hD0 z (.bl bb) ∧ o' = { o with sh := bb }) ∨ ∃ r, Acts z is o.f.x o.f.y o.f.w r ∧ o' = o.at_ (near r.1 G.wide) (near r.2.1 G.high) r.2.2 := by
      rcases hde with ⟨rfl, rfl, eo⟩ | ⟨rfl, rfl, eo⟩ | h
      · exact .inl ⟨true, T.s1, eo⟩
      · exact .inl ⟨false, T.s2, eo⟩
      · exact .inr h
    rcases hsh with ⟨bb, kd, rfl⟩ | ⟨r, hr2, rfl⟩
    · obtain ⟨es', n', u', hl', hk', hu', hr'⟩ := id kd
      refine ⟨_, rfl, z, some u', rfl, rfl, hu', _, rfl, iteT ?_⟩
      refine ⟨_, rfl, hD0, z, .bl bb, rfl, rfl, kd, _, rfl, p, C, AA.dx, _, _, rfl, h1, c.cl, c.nS, fldG_s _ _ _ _ _ _, _, rfl, ?_⟩
      unfold tNil
      refine key_or hb3 fun bk H5 s5 _ hbk => ?_
      obtain ⟨kv, g1, g2, g3⟩ := (hp3.same s5).show_ ei bb
      exact ⟨AA.dS, _, rfl, DPut.t (k := o.key) g1 hbk g2, q _ (g3.pre (S3.trans s5))⟩
    · have hz2 : z ∈ (["turn", "place", "move"] : List Str) := by
        rcases hr2 with ⟨rfl, _⟩ | ⟨rfl, _⟩ | ⟨rfl, _⟩ <;> simp
      refine ⟨_, rfl, z, none, rfl, rfl, T.zS z hz2, _, rfl, ifFF ?_⟩
      refine ⟨_, rfl, p, AA.dx, _, rfl, h1, by kernel_rfl, ?_⟩
      refine ⟨_, rfl, ?_⟩
      unfold tNil
      refine key_or hb3 fun bk H5 s5 _ hbk => ?_
      exact ⟨_, rfl, _, rfl, p, bk, D, AA, z, is, G, i, o, r, rfl, hp3.same s5, hbk, ei, SqL.of (s5 _ _ hD), hr2, fun H6 go => q _ (go.pre (S3.trans s5))⟩
  case refine_2.inr.inr.inl.refine_2 | refine_2.inr.inr.inr.refine_2 =>
    have hsay : decide (V.str z = V.str "say") = false := by
      simp only [List.mem_cons, List.mem_nil_iff, or_false] at hz
      rcases hz with rfl | rfl | rfl <;> decide +kernel
    rcases qO is hvs with ⟨rfl, _⟩ | ⟨x, v, ws, ex, rfl, ar, q1, q2⟩ | ⟨h, _⟩
    · exact absurd hz (by decide +kernel)
    case inr.inr =>
      exfalso
      simp only [List.mem_cons, List.mem_nil_iff, or_false] at hz h
      rcases hz with rfl | rfl | rfl <;> revert h <;> decide +kernel
    cases ex
    refine ⟨_, rfl, rfl, _, rfl, ?_⟩
    rw [hsay]
    refine ifFF ⟨_, rfl, _, rfl, iteT ?_⟩
    refine ⟨_, rfl, p, gdx, _, rfl, e3, by kernel_rfl, ?_⟩
    refine ⟨_, rfl, ?_⟩
    unfold tNil
    refine key_or hb3 fun bk H5 s5 _ hbk => ?_
    refine ⟨_, rfl, _, rfl, ix_sq (hd.same (S3.trans s5)) (j := 1) rfl ?_⟩
    exact ⟨_, rfl, p, bk, D, AA, G, i, o, z, y, v, ws, rfl, hp3.same s5, hbk, ei, SqL.of (s5 _ _ hD), ar, fun G' H' eh go => q1 G' H' eh (go.pre (S3.trans s5)), fun e' H' eh s6 => q2 e' H' eh ((S3.trans s5).trans s6)⟩
end
end Fd

set_option Elab.async false
set_option linter.all false
set_option maxRecDepth 100000
set_option maxHeartbeats 1000000
namespace Fd
open PySem PySem.Spec PyProof.Rows L2 RZ Fw LamX
/-! ### a deed that is done, a deed that falls -/
theorem FnOk.calm {P : Program} {w : World} {K : PySem.W.Frag} {mg : Str → Option Value} {base : Heap} {f : Addr} {fd : FuncData} {k : Nat} {ps : List Str} {sp sp0 : Sp} (F : FnOk P w K mg base (L2.CX P w) k f fd ps sp) (h : ∀ vs H Q E, sp0 vs H Q E → sp vs H Q (fun _ _ _ => False)) : FnOk P w K mg base CX0 k f fd ps sp0 := by
  refine ⟨fun vs H Q E g => F.1 vs H Q _ (h vs H Q E g), fun A outer s H args us vs Q E a b c d g => ?_⟩
  refine codeAny_mono (F.2 A outer s H args us vs Q (fun _ _ _ => False) a b c d (h vs H Q E g)) fun r s' hr => ?_
  cases r with
  | ok fl => cases fl <;> exact hr
  | error e =>
    obtain ⟨_, _, _, _, _, _, _, _, _, _, _, _, z⟩ := (show L2.CX P w outer H s (fun _ _ _ => False) e s' from hr)
    exact z.elim
theorem Go.trans {w : World} {K : PySem.W.Frag} {C CH : Addr} {H H1 H2 : Hp} {p : Addr} {G1 G2 : Gs} {A A1 A2 : GA} (g : Go w K C CH H p A G1 A1 H1) (h : Go w K C CH H1 p A1 G2 A2 H2) : Go w K C CH H p A G2 A2 H2 := by
  refine ⟨fun b o n e => ?_, h.gs, fun b hb => ?_⟩
  · have e1 := g.but b o n e
    refine h.but b o (fun c => ?_) e1
    rcases g.new b c with c | c
    · exact n c
    · rw [e] at c; cases c
  · rcases h.new b hb with c | c
    · exact g.new b c
    · by_cases hA : b ∈ A.fp p
      · exact .inl hA
      · refine .inr ?_
        cases e : H b with
        | none => rfl
        | some u => rw [g.but b u hA e] at c; cases c
theorem GsF.ins {w : World} {K : PySem.W.Frag} {C CH : Addr} {H : Hp} {p : Addr} {G : Gs} {A : GA} (h : GsF w K C CH H p G A) : H p = some (.ins C A.dx (fldG G.wide G.high A.dF A.dP A.dS A.dH)) := by
  obtain ⟨⟨ps, n, h1, _⟩, _, _⟩ := h
  exact h1
/-- what a deed tells, and what it makes of the ground -/
inductive DoR (G : Gs) (i : Nat) (o : One) : Str → List V → List Int → V → Gs → Prop
  | say (v : Int) (ws : List Int) : DoR G i o "say" [] (v :: ws) (.int v) G
  | held {z x : Str} {v : Int} {ws : List Int} {G' : Gs} (a : ArN z ws) (h : heldG G i o z x v ws = .ok G') : DoR G i o z [.str x] (v :: ws) .non G'
  | spot {z : Str} {is : List Int} {o' : One} (hz : z ∈ (["show", "hide", "turn", "place", "move"] : List Str)) (h : Deed G z is o o') : DoR G i o z [] is .non (G.put i o')
theorem DoR.kind {G : Gs} {i : Nat} {o : One} {z : Str} {pre : List V} {is : List Int} {v : V} {G' : Gs} (h : DoR G i o z pre is v G') : Kind3 z pre := by
  cases h with
  | say v ws => exact .inl ⟨rfl, rfl⟩
  | held a h =>
    rcases a with a | a | ⟨rfl, _⟩
    · exact .inr (.inr (.inl ⟨a, _, rfl⟩))
    · refine .inr (.inr (.inr ⟨?_, _, rfl⟩))
      rcases List.mem_cons.mp a with rfl | a
      · exact List.mem_cons_self ..
      · rw [List.mem_singleton.mp a]; exact List.mem_cons_of_mem _ (List.mem_cons_self ..)
    · exact .inr (.inr (.inr ⟨List.mem_cons_of_mem _ (List.mem_cons_of_mem _ (List.mem_cons_self ..)), _, rfl⟩))
  | spot hz h => exact .inr (.inl ⟨hz, rfl⟩)
def spDoC (w : World) (K : PySem.W.Frag) (C CH : Addr) : Sp := fun vs H Q _ => ∃ (p b d : Addr) (e : V) (A : GA) (z : Str) (pre looks : List V) (Ls : List Fv.Lk) (G : Gs) (i : Nat) (o : One) (pm : Nms) (is : List Int) (v : V) (G' : Gs), vs = [.ref p, .ref b, .ref d, e] ∧ GsF w K C CH H p G A ∧ OneV K H b o ∧ G.ones[i]? = some o ∧ Sq K H d (.str z :: (pre ++ looks)) ∧
  Paired (Fv.LkAt K H) looks Ls ∧ looks.length ≤ 100 ∧ (∀ L ∈ Ls, L.deep ≤ 6) ∧ Pn K H e pm ∧ pm.length ≤ 100 ∧ vals (eyG G o pm) Ls = .ok is ∧ DoR G i o z pre is v G' ∧ ∀ H', Go w K C CH H p A G' A H' → Q v H'
theorem do_calm {w : World} {K : PySem.W.Frag} {C CH CF : Addr} : ∀ vs H Q E, spDoC w K C CH vs H Q E → spDo w K C CH CF vs H Q (fun _ _ _ => False) := fun vs H Q E ⟨p, b, d, e, A, z, pre, looks, Ls, G, i, o, pm, is, v, G', h1, h2, h3, h4, h5, h6, h7, h8, h9, h10, hv, hr, q⟩ => by
  refine ⟨p, b, d, e, A, z, pre, looks, Ls, G, i, o, pm, h1, h2, h3, h4, h5, hr.kind, h6, h7, h8, h9, h10, (fun x hx => by rw [hv] at hx; cases hx), fun is' his => ?_⟩
  rw [hv] at his
  cases his
  cases hr with
  | say v ws => exact .inl ⟨rfl, v, ws, rfl, fun H' s => q H' (Go.keep h2 s)⟩
  | held a h => exact .inr (.inl ⟨_, _, _, rfl, rfl, a, (fun G'' H' e g => q H' (by rw [h] at e; cases e; exact g)), fun e' H' e s => by rw [h] at e; cases e⟩)
  | spot hz h => exact .inr (.inr ⟨hz, _, h, fun H' g => q H' g⟩)
section
variable {P : Program} {w : World} {K : PySem.W.Frag} {mg : Str → Option Value} {base : Heap} {f C CH CF fI : Addr} {fd : FuncData}
def spFe (w : World) (K : PySem.W.Frag) (C CH : Addr) : Sp := fun vs H Q _ => ∃ (p b d : Addr) (A : GA) (z x : Str) (looks : List V) (Ls : List Fv.Lk) (G : Gs) (i : Nat) (o : One) (v : Int) (ws : List Int) (y : Str), vs = [.ref p, .ref b, .ref d] ∧ GsF w K C CH H p G A ∧ OneV K H b o ∧ G.ones[i]? = some o ∧ Sq K H d (.str z :: ([.str x] ++ looks)) ∧
  Paired (Fv.LkAt K H) looks Ls ∧ looks.length ≤ 100 ∧ (∀ L ∈ Ls, L.deep ≤ 6) ∧ vals (eyG G o []) Ls = .ok (v :: ws) ∧ ArN z ws ∧ heldG G i o z x v ws = .error y ∧ ∀ H', Same H H' → Q (.str y) H'
abbrev sFe : Stmt := top 43
theorem scFe : FnScope ["_law_ground", "_law_who", "_law_deed", "_law_caught", "error"] ["_law_ground", "_law_who", "_law_deed"] (defScope sFe) := ⟨rfl, rfl, rfl, by decide +kernel, rfl, by decide +kernel, by decide +kernel⟩
theorem ok_fe {k : Nat} {fu e0 : Addr} {fud : FuncData} {ds : List Value} (T : PySem.FellX.FellTxt K mg CF fI) (EC : ErrC K CF) (c_G : Cls K C) (F : Fun K "_law_fell" "_law_fell" sFe f fd) (M_do : Meth K C "do" fu) (G_do : FnOk P w K mg base (L2.CX P w) k fu fud ["self", "one", "deed", "params"] (spDo w K C CH CF))
    (b_do : Binds K fud ["self", "one", "deed", "params"] ds) (d_do : Vals [.ref e0] ds) (he0 : ∀ H, SqT K H e0 []) : FnOk P w K mg base CX0 (k + 1) f fd ["_law_ground", "_law_who", "_law_deed"] (spFe w K C CH) := by
  have sc := scFe
  refine F.ok sc (fun vs H Q E h => ?_) (fun cdv A outer s H vs Q E hr h => ?_)
  · obtain ⟨p, b, d, A, z, x, looks, Ls, G, i, o, v, ws, y, rfl, _⟩ := h
    rfl
  obtain ⟨p, b, d, AA, z, x, looks, Ls, G, i, o, v, ws, y, rfl, hp, hb, ei, hd, hl, ll, h6, hv, ar, hy, q⟩ := h
  refine ⟨_, (pss_cons (ps_set (i := 3) sc.nd rfl (.inl rfl) pe_non)
      (pss_cons (ps_try_keep (i := 4) (tb := fun W => tDrop (Fw.tMethSD C "do" (spDo w K C CH CF) [.ref e0] (WE W) (tVar 0) (tCons (tVar 1) (tCons (tVar 2) tNil)))) (ts := fun a cls d => tAsg (tVar 4) (gName 3)) (Wout := fun _ _ _ _ => False) rfl rfl sc.nd rfl rfl ⟨rfl, by decide, .inl T.gC⟩ L2.takes0 (fun W pn xe tk _ => by exact (pss_one (ps_expr (Fw.pe_methSD (pv 0) c_G M_do G_do (hr.mono (by omega)) b_do d_do (fun σ => passAt tk σ) (pa_cons (pv 1) (pa_cons (pv 2) pa_nil)))))) (fun a oe cls d pn hz hf => pss_one (ps_set (i := 3) sc.nd rfl (.inl rfl) (by exact (pv 4)))))
      (pss_one (ps_ret (pe_ifExp (pt_cmpR op_isN (pv 3) pe_non (nomark _)) pe_non (pe_errF EC T.noN (pv 3))))))), ?_⟩
  have hk : Kind3 z [.str x] := by
    rcases ar with a | a | ⟨rfl, _⟩
    · exact .inr (.inr (.inl ⟨a, _, rfl⟩))
    · refine .inr (.inr (.inr ⟨?_, _, rfl⟩))
      rcases List.mem_cons.mp a with rfl | a
      · exact List.mem_cons_self ..
      · rw [List.mem_singleton.mp a]; exact List.mem_cons_of_mem _ (List.mem_cons_self ..)
    · exact .inr (.inr (.inr ⟨List.mem_cons_of_mem _ (List.mem_cons_of_mem _ (List.mem_cons_self ..)), _, rfl⟩))
  refine ⟨_, rfl, p, AA.dx, _, rfl, hp.ins, by kernel_rfl, _, rfl, _, rfl, ?_⟩
  refine ⟨p, b, d, .ref e0, AA, z, [.str x], looks, Ls, G, i, o, [], rfl, hp, hb, ei, hd, hk, hl, ll, h6, ⟨e0, [], rfl, .inr (he0 _), .nil⟩, by decide, (fun x' hx => by rw [hv] at hx; cases hx), fun is his => .inr (.inl ?_)⟩
  rw [hv] at his
  cases his
  refine ⟨x, v, ws, rfl, rfl, ar, (fun G' H' e _ => by rw [hy] at e; cases e), fun y' H2 e s2 d' nd => ?_⟩
  rw [hy] at e
  cases e
  refine ⟨true, T.te, (by intro z; cases z), fun _ a na => ⟨_, rfl, fun na' => ?_⟩⟩
  have s3 : Same H2 (upd H2 d' (.xd [(("word" : Str), .str y)])) := same_upd nd
  have hd' := upd_same (H := H2) (a := d') (o := .xd [(("word" : Str), .str y)])
  have s4 := same_upd (o := ErrO (.ref CF) (some d') a) na
  refine ⟨_, rfl, rfl, _, rfl, iteF ⟨_, rfl, a, d', _, _, rfl, upd_same, s4 _ _ hd', rfl, ?_⟩⟩
  exact q _ (s2.trans (s3.trans s4))
end
end Fd

set_option Elab.async false
set_option linter.all false
set_option maxRecDepth 100000
set_option maxHeartbeats 1000000
namespace Fd
open PySem PySem.Spec PyProof.Rows L2 RZ Fw LamX
/-! ### the law's ground, as it stands behind each deed -/
def one_ (z : Str) (x y w : Int) (ns : Nms) (k : Int) (sh : Bool) : One := ⟨⟨z, x, y, w, ns, []⟩, k, sh⟩
def grd (a b : Str) (nm : Nms) (rw : Rws) (os : List One) : Gs := ⟨5, 3, nm, rw, [a, b], os⟩
/-- the words of the law -/
structure Wd (a b n r : Str) (m : Int) : Prop where
  ab : a ≠ b
  sa : Asc 8 a
  sb : Asc 8 b
  sn : Asc 8 n
  sr : Asc 8 r
  m0 : 0 ≤ m
  m1 : m < 100
/-- the spots of the first figure, one behind the other -/
def spots : List (Int × Int × Int) := [(1, 1, 0), (4, 1, 0), (4, 1, 1), (4, 2, 1), (4, 2, 3), (4, 2, 3), (4, 2, 2), (2, 2, 2)]
def deeds : List (Str × Int) := [("move", 3), ("turn", 1), ("move", 9), ("turn", -2), ("move", -1), ("turn", 7), ("move", 2)]
theorem mv_ok : ∀ (i : Nat) (q : Str × Int) (s : Int × Int × Int), deeds[i]? = some q → spots[i]? = some s → ∃ s' r, spots[i + 1]? = some s' ∧ Acts q.1 [q.2] s.1 s.2.1 s.2.2 r ∧ (near r.1 5, near r.2.1 3, r.2.2) = s' ∧ q.1 ∈ (["show", "hide", "turn", "place", "move"] : List Str) ∧ Fv.inB q.2 = true
  | 0, q, s, e, f => by cases e; cases f; exact ⟨_, _, rfl, .inr (.inr ⟨rfl, 3, 0, (1, 0), rfl, rfl, rfl, rfl⟩), by decide, by decide +kernel, by decide⟩
  | 1, q, s, e, f => by cases e; cases f; exact ⟨_, _, rfl, .inl ⟨rfl, 1, rfl, rfl⟩, by decide, by decide +kernel, by decide⟩
  | 2, q, s, e, f => by cases e; cases f; exact ⟨_, _, rfl, .inr (.inr ⟨rfl, 9, 1, (0, 1), rfl, rfl, rfl, rfl⟩), by decide, by decide +kernel, by decide⟩
  | 3, q, s, e, f => by cases e; cases f; exact ⟨_, _, rfl, .inl ⟨rfl, -2, rfl, rfl⟩, by decide, by decide +kernel, by decide⟩
  | 4, q, s, e, f => by cases e; cases f; exact ⟨_, _, rfl, .inr (.inr ⟨rfl, -1, 3, (0, -1), rfl, rfl, rfl, rfl⟩), by decide, by decide +kernel, by decide⟩
  | 5, q, s, e, f => by cases e; cases f; exact ⟨_, _, rfl, .inl ⟨rfl, 7, rfl, rfl⟩, by decide, by decide +kernel, by decide⟩
  | 6, q, s, e, f => by cases e; cases f; exact ⟨_, _, rfl, .inr (.inr ⟨rfl, 2, 2, (-1, 0), rfl, rfl, rfl, rfl⟩), by decide, by decide +kernel, by decide⟩
  | i + 7, q, s, e, f => by simp [deeds] at e
theorem val_num {E : Fv.Ey} {i : Int} (h : Fv.inB i = true) : Fv.val E (.num i) = .ok i := if_pos h
theorem vals_num {E : Fv.Ey} {i : Int} (h : Fv.inB i = true) : vals E [.num i] = .ok [i] := by
  unfold vals
  rw [val_num h]
  rfl
theorem vals_num2 {E : Fv.Ey} {i j : Int} (h : Fv.inB i = true) (g : Fv.inB j = true) : vals E [.num i, .num j] = .ok [i, j] := by
  unfold vals
  rw [val_num h, vals_num g]
theorem free_is {G : Gs} {o : One} {n k : Nat} (h : IsFree G o n) (h1 : 1 ≤ k) (lo : ∀ m : Nat, 1 ≤ m → m < k → ({ o with no := (m : Int) } : One).key ∈ G.ones.map One.key) (hk : ({ o with no := (k : Int) } : One).key ∉ G.ones.map One.key) : n = k := by
  rcases Nat.lt_trichotomy n k with l | l | l
  · exact absurd (lo n h.pos l) h.new
  · exact l
  · exact absurd (h.low k h1 l) hk
section
variable {a b n r : Str} {m : Int}
theorem look_self {α : Type} {x : Str} {v : α} {l : List (Str × α)} : ((x, v) :: l).lookup x = some v := by
  rw [List.lookup_cons, beq_self_eq_true]
theorem held_nm0 {z : Str} {v u old : Int} {ws : List Int} {G : Gs} {i : Nat} {o : One} {nm : Nms} (hz : z ∈ (["set", "add"] : List Str)) (h0 : o.f.ns = []) (hn : G.nm = (n, old) :: nm) (ha : actN z old v = .ok u) : heldG G i o z n v ws = .ok (G.nm_ (setN G.nm n u)) := by
  unfold heldG
  rw [if_pos hz]
  unfold heldN
  rw [h0]
  show (match G.nm.lookup n with | some old => _ | none => _) = _
  rw [hn, look_self]
  show (actN z old v).map _ = _
  rw [ha]
  rfl
theorem held_nmI {z : Str} {v u old : Int} {ws : List Int} {G : Gs} {i : Nat} {o : One} {nm : Nms} (hz : z ∈ (["set", "add"] : List Str)) (hn : o.f.ns = (n, old) :: nm) (ha : actN z old v = .ok u) : heldG G i o z n v ws = .ok (G.put i (o.ns_ (setN o.f.ns n u))) := by
  unfold heldG
  rw [if_pos hz]
  unfold heldN
  rw [hn, look_self]
  show (actN z old v).map _ = _
  rw [ha]
  rfl
theorem held_rw0 {z : Str} {v : Int} {u row : List Int} {ws : List Int} {G : Gs} {i : Nat} {o : One} {rw_ : Rws} (hz : z ∉ (["set", "add"] : List Str)) (h0 : o.f.rs = []) (hn : G.rw = (r, row) :: rw_) (ha : actR z row v ws = .ok u) : heldG G i o z r v ws = .ok (G.rw_ (setR G.rw r u)) := by
  unfold heldG
  rw [if_neg hz]
  unfold heldR
  rw [h0]
  show (match G.rw.lookup r with | some old => _ | none => _) = _
  rw [hn, look_self]
  show (actR z row v ws).map _ = _
  rw [ha]
  rfl
theorem fell_nm0 {z y : Str} {v old : Int} {ws : List Int} {G : Gs} {i : Nat} {o : One} {nm : Nms} (hz : z ∈ (["set", "add"] : List Str)) (h0 : o.f.ns = []) (hn : G.nm = (n, old) :: nm) (ha : actN z old v = .error y) : heldG G i o z n v ws = .error y := by
  unfold heldG
  rw [if_pos hz]
  unfold heldN
  rw [h0]
  show (match G.nm.lookup n with | some old => _ | none => _) = _
  rw [hn, look_self]
  show (actN z old v).map _ = _
  rw [ha]
  rfl
theorem fell_rw0 {z y : Str} {v : Int} {row : List Int} {ws : List Int} {G : Gs} {i : Nat} {o : One} {rw_ : Rws} (hz : z ∉ (["set", "add"] : List Str)) (h0 : o.f.rs = []) (hn : G.rw = (r, row) :: rw_) (ha : actR z row v ws = .error y) : heldG G i o z r v ws = .error y := by
  unfold heldG
  rw [if_neg hz]
  unfold heldR
  rw [h0]
  show (match G.rw.lookup r with | some old => _ | none => _) = _
  rw [hn, look_self]
  show (actR z row v ws).map _ = _
  rw [ha]
  rfl
theorem setN1 {x : Str} {v u : Int} : setN [(x, v)] x u = [(x, u)] := by
  unfold setN
  rw [List.map_cons, if_pos rfl]
  rfl
theorem setR1 {x : Str} {v u : List Int} : setR [(x, v)] x u = [(x, u)] := by
  unfold setR
  rw [List.map_cons, if_pos rfl]
  rfl
/-- a name's look -/
theorem val_name {E : Fv.Ey} {x : Str} {v : Int} {l : Nms} (h : E.names = (x, v) :: l) (hv : Fv.inB v = true) : Fv.val E (.name x) = .ok v := by
  show Fv.far (Fv.some_of (E.names.lookup x) .ok) = _
  rw [h, look_self]
  exact if_pos hv
theorem val_many {E : Fv.Ey} {x : Str} {v : List Int} {l : Rws} (h : E.lists = (x, v) :: l) (hv : Fv.inB v.length = true) : Fv.val E (.many x) = .ok v.length := by
  show Fv.far (Fv.some_of (E.lists.lookup x) fun l => .ok l.length) = _
  rw [h, look_self]
  exact if_pos hv
theorem val_bin {E : Fv.Ey} {o : Fv.BOp} {L M : Fv.Lk} {x y z : Int} (h1 : Fv.val E L = .ok x) (h2 : Fv.val E M = .ok y) (h3 : o.run x y = .ok z) (hz : Fv.inB z = true) : Fv.val E (.bin o L M) = .ok z := by
  show Fv.far (Fv.then_ (Fv.val E L) fun i => Fv.then_ (Fv.val E M) fun j => o.run i j) = _
  rw [h1]
  show Fv.far (Fv.then_ (Fv.val E M) fun j => o.run x j) = _
  rw [h2]
  show Fv.far (o.run x y) = _
  rw [h3]
  exact if_pos hz
theorem vals_one {E : Fv.Ey} {L : Fv.Lk} {x : Int} (h : Fv.val E L = .ok x) : vals E [L] = .ok [x] := by
  unfold vals
  rw [h]
  rfl
theorem vals_two {E : Fv.Ey} {L M : Fv.Lk} {x y : Int} (h : Fv.val E L = .ok x) (g : Fv.val E M = .ok y) : vals E [L, M] = .ok [x, y] := by
  unfold vals
  rw [h, vals_one g]
theorem inB_of {i : Int} (h1 : -1000000 ≤ i) (h2 : i ≤ 1000000) : Fv.inB i = true := by
  unfold Fv.inB
  rw [decide_eq_true h1, decide_eq_true h2]
  rfl
/-! who is met -/
theorem met_not {G : Gs} {o : One} (h : o.sh = false) : metO G o = [] := by
  unfold metO
  rw [h]
  rfl
theorem met1 (w : Wd a b n r m) {nm : Nms} {rw_ : Rws} {ns : Nms} : metO (grd a b nm rw_ [one_ a 2 2 2 [] 0 true, one_ b 0 0 0 ns 0 true]) (one_ a 2 2 2 [] 0 true) = [] ∧ metO (grd a b nm rw_ [one_ a 2 2 2 [] 0 true, one_ b 0 0 0 ns 0 true]) (one_ b 0 0 0 ns 0 true) = [] := by
  have ab := w.ab
  have ba := Ne.symm ab
  constructor <;> simp [metO, grd, one_, othB, atB, One.key, ab, ba]
theorem met2 (w : Wd a b n r m) {nm : Nms} {rw_ : Rws} {ns : Nms} : metO (grd a b nm rw_ [one_ a 2 2 2 [] 0 true, one_ b 2 2 0 ns 0 true]) (one_ a 2 2 2 [] 0 true) = [b] ∧ metO (grd a b nm rw_ [one_ a 2 2 2 [] 0 true, one_ b 2 2 0 ns 0 true]) (one_ b 2 2 0 ns 0 true) = [a] := by
  have ab := w.ab
  have ba := Ne.symm ab
  constructor <;> simp [metO, grd, one_, othB, atB, One.key, ab, ba]
theorem met3 (w : Wd a b n r m) {nm : Nms} {rw_ : Rws} {ns : Nms} : metO (grd a b nm rw_ [one_ a 2 2 2 [] 0 true, one_ b 2 2 0 ns 0 false]) (one_ a 2 2 2 [] 0 true) = [] := by
  have ab := w.ab
  have ba := Ne.symm ab
  simp [metO, grd, one_, othB, atB, One.key, ab, ba]
/-- the ones behind the copies -/
def os6 (a b n : Str) (s : Bool) : List One := [one_ a 2 2 2 [] 0 true, one_ b 2 2 0 [(n, -7)] 0 false, one_ b 2 2 0 [(n, 99)] 1 false, one_ a 2 2 2 [] 1 true, one_ b 2 2 0 [(n, -7)] 3 s, one_ b 2 2 0 [(n, 99)] 2 false]
theorem met4 (w : Wd a b n r m) {nm : Nms} {rw_ : Rws} : metO (grd a b nm rw_ (os6 a b n true)) (one_ a 2 2 2 [] 0 true) = [a, b] ∧ metO (grd a b nm rw_ (os6 a b n true)) (one_ b 2 2 0 [(n, -7)] 3 true) = [a] := by
  have ab := w.ab
  have ba := Ne.symm ab
  constructor <;> simp [metO, grd, one_, os6, othB, atB, One.key, ab, ba]
/-! the ones in their order -/
theorem perm_sorted {α : Type} {le : α → α → Bool} : ∀ {l m : List α}, (∀ x ∈ l, ∀ y ∈ l, le x y = true → le y x = true → x = y) → l.Perm m → l.Pairwise (fun x y => le x y = true) → m.Pairwise (fun x y => le x y = true) → l = m
  | [], m, _, p, _, _ => (List.Perm.nil_eq p)
  | x :: l, [], _, p, _, _ => absurd p.length_eq (by simp)
  | x :: l, y :: m, anti, p, h1, h2 => by
    obtain ⟨a1, a2⟩ := List.pairwise_cons.mp h1
    obtain ⟨b1, b2⟩ := List.pairwise_cons.mp h2
    have e : x = y := by
      have hy : y ∈ x :: l := p.mem_iff.mpr (List.mem_cons_self ..)
      have hx : x ∈ y :: m := p.mem_iff.mp (List.mem_cons_self ..)
      rcases List.mem_cons.mp hy with e | hy'
      · exact e.symm
      · rcases List.mem_cons.mp hx with e | hx'
        · exact e
        · exact anti x (List.mem_cons_self ..) y hy (a1 y hy') (b1 x hx')
    subst e
    rw [perm_sorted (fun u hu v hv => anti u (List.mem_cons_of_mem _ hu) v (List.mem_cons_of_mem _ hv)) (List.Perm.cons_inv p) a2 b2]
theorem leO_trans {G : Gs} (x y z : One) : leO G x y = true → leO G y z = true → leO G x z = true := fun h1 h2 => by
  have h1 := of_decide_eq_true h1
  have h2 := of_decide_eq_true h2
  exact decide_eq_true (by omega)
theorem leO_total {G : Gs} (x y : One) : (leO G x y || leO G y x) = true := by
  by_cases h : leO G x y = true
  · rw [h]; rfl
  · have h : ¬ (rkO G x < rkO G y ∨ rkO G x = rkO G y ∧ x.no ≤ y.no) := fun c => h (decide_eq_true c)
    rw [show leO G y x = true from decide_eq_true (by omega), Bool.or_true]
theorem leO_anti {G : Gs} (nd : (G.ones.map One.key).Nodup) (hin : G.In) : ∀ x ∈ G.ones, ∀ y ∈ G.ones, leO G x y = true → leO G y x = true → x = y := fun x hx y hy h1 h2 => by
  have h1 := of_decide_eq_true h1
  have h2 := of_decide_eq_true h2
  have er : rkO G x = rkO G y := by omega
  have en : x.no = y.no := by omega
  have hx' := hin x hx
  have hy' := hin y hy
  unfold rkO at er
  have er : G.ord.idxOf x.f.nm = G.ord.idxOf y.f.nm := by omega
  have e1 : x.f.nm = y.f.nm := by
    have a := List.getElem_idxOf (List.idxOf_lt_length_of_mem hx')
    have b := List.getElem_idxOf (List.idxOf_lt_length_of_mem hy')
    have c : G.ord[G.ord.idxOf x.f.nm]? = G.ord[G.ord.idxOf y.f.nm]? := by rw [er]
    rw [List.getElem?_eq_getElem (List.idxOf_lt_length_of_mem hx'), List.getElem?_eq_getElem (List.idxOf_lt_length_of_mem hy'), a, b] at c
    exact Option.some.inj c
  have ek : x.key = y.key := by unfold One.key; rw [e1, en]
  obtain ⟨i, ei⟩ := List.mem_iff_getElem?.mp hx
  obtain ⟨j, ej⟩ := List.mem_iff_getElem?.mp hy
  have : i = j := (List.getElem?_inj (by rw [List.length_map]; exact (List.getElem?_eq_some_iff.mp ei).1) nd).mp (by rw [List.getElem?_map, List.getElem?_map, ei, ej]; exact congrArg some ek)
  subst this
  rw [ei] at ej
  exact Option.some.inj ej
/-- the ones in order are these -/
theorem srt_is {G : Gs} {l : List One} (nd : (G.ones.map One.key).Nodup) (hin : G.In) (p : l.Perm G.ones) (h : l.Pairwise fun x y => leO G x y = true) : G.srt = l :=
  (perm_sorted (fun x hx y hy => leO_anti nd hin x (p.mem_iff.mp hx) y (p.mem_iff.mp hy)) (p.trans (List.mergeSort_perm G.ones (leO G)).symm) h (List.pairwise_mergeSort (fun x y z => leO_trans x y z) (fun x y => leO_total x y) G.ones)).symm
theorem perm6 {α : Type} {x0 x1 x2 x3 x4 x5 : α} : [x0, x3, x1, x2, x5, x4].Perm [x0, x1, x2, x3, x4, x5] :=
  .cons _ ((List.Perm.swap x1 x3 _).trans (.cons _ ((List.Perm.swap x2 x3 _).trans (.cons _ (.cons _ (List.Perm.swap x4 x5 _))))))
theorem srt6 (w : Wd a b n r m) {nm : Nms} {rw_ : Rws} (nd : ((os6 a b n false).map One.key).Nodup) : (grd a b nm rw_ (os6 a b n false)).srt.map oneP = [.tuple [.str a, .int 0], .tuple [.str a, .int 1], .tuple [.str b, .int 0], .tuple [.str b, .int 1], .tuple [.str b, .int 2], .tuple [.str b, .int 3]] := by
  have ab := w.ab
  have ba := Ne.symm ab
  rw [srt_is (G := grd a b nm rw_ (os6 a b n false)) (l := [one_ a 2 2 2 [] 0 true, one_ a 2 2 2 [] 1 true, one_ b 2 2 0 [(n, -7)] 0 false, one_ b 2 2 0 [(n, 99)] 1 false, one_ b 2 2 0 [(n, 99)] 2 false, one_ b 2 2 0 [(n, -7)] 3 false]) nd ?_ ?_ ?_]
  · rfl
  · intro o ho
    simp only [grd, os6, one_, List.mem_cons, List.not_mem_nil, or_false] at ho ⊢
    rcases ho with rfl | rfl | rfl | rfl | rfl | rfl <;> simp
  · show List.Perm _ (os6 a b n false)
    exact perm6
  · have ra : ∀ (x y w : Int) (ns : Nms) (k : Int) (sh : Bool), rkO (grd a b nm rw_ (os6 a b n false)) (one_ a x y w ns k sh) = 0 := fun x y w ns k sh => by
      show ((List.idxOf a [a, b] : Nat) : Int) = 0
      simp
    have rb : ∀ (x y w : Int) (ns : Nms) (k : Int) (sh : Bool), rkO (grd a b nm rw_ (os6 a b n false)) (one_ b x y w ns k sh) = 1 := fun x y w ns k sh => by
      show ((List.idxOf b [a, b] : Nat) : Int) = 1
      simp [List.idxOf_cons, show (a == b) = false from beq_eq_false_iff_ne.mpr ab]
    simp only [List.pairwise_cons, List.mem_cons, List.not_mem_nil, or_false, forall_eq_or_imp, forall_eq, leO, ra, rb]
    simp [one_]
end
end Fd

set_option Elab.async false
set_option linter.all false
set_option maxRecDepth 100000
set_option maxHeartbeats 1000000
namespace Fd
open PySem PySem.Spec PyProof.Rows L2 RZ Fw LamX
/-! ### what a ground tells, as data -/
/-- laid, and at most n deep -/
structure Sh (n : Nat) (d : PyData) : Prop where
  l : d.canLay0 = true
  d : d.depth ≤ n
theorem Sh.le {m n : Nat} {d : PyData} (h : Sh m d) (hn : m ≤ n) : Sh n d := ⟨h.l, Nat.le_trans h.d hn⟩
theorem shA {n : Nat} : ∀ {ds : List PyData}, (∀ d ∈ ds, Sh n d) → PyData.canLayAll0 ds = true ∧ PyData.depthAll ds ≤ n
  | [], _ => ⟨rfl, Nat.zero_le _⟩
  | d :: ds, h => by
    obtain ⟨i1, i2⟩ := shA (ds := ds) fun d hd => h d (List.mem_cons_of_mem _ hd)
    have hd := h d (List.mem_cons_self ..)
    refine ⟨?_, ?_⟩
    · show (d.canLay0 && PyData.canLayAll0 ds) = true
      rw [hd.l, i1]
      rfl
    · show max d.depth (PyData.depthAll ds) ≤ n
      have := hd.d
      omega
theorem Sh.list {n : Nat} {ds : List PyData} (h : ∀ d ∈ ds, Sh n d) : Sh (n + 1) (.list ds) := ⟨(shA h).1, Nat.succ_le_succ (shA h).2⟩
theorem Sh.tuple {n : Nat} {ds : List PyData} (h : ∀ d ∈ ds, Sh n d) : Sh (n + 1) (.tuple ds) := ⟨(shA h).1, Nat.succ_le_succ (shA h).2⟩
theorem Sh.int {n : Nat} (i : Int) : Sh n (.int i) := ⟨rfl, Nat.zero_le _⟩
theorem Sh.bool {n : Nat} (i : Bool) : Sh n (.bool i) := ⟨rfl, Nat.zero_le _⟩
theorem Sh.str {n m : Nat} {z : Str} (h : Asc m z) : Sh n (.str z) := ⟨asc_ok h, Nat.zero_le _⟩
theorem Sh.shaped {n : Nat} {d : PyData} (h : Sh n d) (hn : n ≤ 64) : SeqAt.shaped d = true := by
  unfold SeqAt.shaped
  rw [h.l, decide_eq_true (Nat.le_trans h.d hn)]
  rfl
theorem mem_map2 {α : Type} {g : α → PyData} {l : List α} {p : PyData → Prop} (h : ∀ x ∈ l, p (g x)) : ∀ d ∈ l.map g, p d := fun d hd => by
  obtain ⟨x, hx, rfl⟩ := List.mem_map.mp hd
  exact h x hx
theorem mem_c {p : PyData → Prop} {d : PyData} {ds : List PyData} (h : p d) (t : ∀ e ∈ ds, p e) : ∀ e ∈ d :: ds, p e := fun e he => (List.mem_cons.mp he).elim (fun z => z ▸ h) (t e)
theorem mem_0 {p : PyData → Prop} : ∀ e ∈ ([] : List PyData), p e := fun e he => by cases he
theorem sh_nm {nm : Nms} (h : ∀ q ∈ nm, Asc 8 q.1) : Sh 2 (nmD nm) := .list (mem_map2 fun q hq => .tuple (mem_c (.str (h q hq)) (mem_c (.int _) mem_0)))
theorem sh_rw {rw : Rws} (h : ∀ q ∈ rw, Asc 8 q.1) : Sh 3 (rwD rw) := .list (mem_map2 fun q hq => .tuple (mem_c (.str (h q hq)) (mem_c (.list (mem_map2 fun i _ => .int i)) mem_0)))
theorem okd_int {n : Nat} (i : Int) : OkD (n + 1) (.int i) := trivial
theorem okd_str {n : Nat} (z : Str) : OkD (n + 1) (.str z) := trivial
theorem okd_list {n : Nat} {ds : List PyData} (l : ds.length ≤ 1000) (h : ∀ d ∈ ds, OkD n d) : OkD (n + 1) (.list ds) := ⟨l, h⟩
theorem okd_tup {n : Nat} {ds : List PyData} (l : ds.length ≤ 1000) (h : ∀ d ∈ ds, OkD n d) : OkD (n + 1) (.tuple ds) := ⟨l, h⟩
theorem okd_nm {n : Nat} {nm : Nms} (l : nm.length ≤ 1000) : OkD (n + 3) (nmD nm) := okd_list (by rw [List.length_map]; exact l) (mem_map2 fun q _ => okd_tup (by show 2 ≤ 1000; decide) (mem_c (okd_str _) (mem_c (okd_int _) mem_0)))
theorem okd_rw {n : Nat} {rw : Rws} (l : rw.length ≤ 1000) (h : ∀ q ∈ rw, q.2.length ≤ 1000) : OkD (n + 4) (rwD rw) := okd_list (by rw [List.length_map]; exact l) (mem_map2 fun q hq => okd_tup (by show 2 ≤ 1000; decide) (mem_c (okd_str _) (mem_c (okd_list (by rw [List.length_map]; exact h q hq) (mem_map2 fun _ _ => okd_int _)) mem_0)))
theorem okd_bool {n : Nat} (z : Bool) : OkD (n + 1) (.bool z) := trivial
theorem okd_spot {n : Nat} (x y z : Int) : OkD (n + 2) (.tuple [.int x, .int y, .int z]) := okd_tup (by show 3 ≤ 1000; decide) (mem_c (okd_int _) (mem_c (okd_int _) (mem_c (okd_int _) mem_0)))
end Fd

set_option Elab.async false
set_option linter.all false
set_option maxRecDepth 100000
set_option maxHeartbeats 2000000
namespace Fd
open PySem PySem.Spec PyProof.Rows L2 RZ Fw LamX
section
variable {P : Program} {w : World} {K : PySem.W.Frag} {mg : Str → Option Value} {base : Heap} {f C CH : Addr} {fd : FuncData}
/-- do, where nothing falls; its params are left out -/
def MthD (P : Program) (w : World) (K : PySem.W.Frag) (mg : Str → Option Value) (base : Heap) (C CH : Addr) (k : Nat) : Prop :=
  ∃ f fd ds e, Meth K C "do" f ∧ FnOk P w K mg base CX0 k f fd ["self", "one", "deed", "params"] (spDoC w K C CH) ∧ Binds K fd ["self", "one", "deed", "params"] ds ∧ Vals [.ref e] ds ∧ ∀ H, SqT K H e []
abbrev sMr : Stmt := top 44
def spMr (w : World) (K : PySem.W.Frag) (C CH : Addr) : Sp := fun vs H Q _ => ∃ (p : Addr) (A : GA) (a b n r : Str) (m : Int), vs = [.ref p, .str a, .str b] ∧ GsF w K C CH H p (grd a b [(n, m)] [(r, [m, 2, 3, 4, 5, 6, 7])] [one_ a 1 1 0 [] 0 true, one_ b 0 0 0 [(n, 5)] 0 true]) A ∧ Wd a b n r m ∧
  ∀ H', Go w K C CH H p A (grd a b [(n, m)] [(r, [m, 2, 3, 4, 5, 6, 7])] [one_ a 2 2 2 [] 0 true, one_ b 2 2 0 [(n, 5)] 0 false]) A H' → Q (.bl true) H'
theorem scMr : FnScope ["_law_ground", "_law_a", "_law_b", "_law_done", "_law_due", "_law_deed", "_law_spot"] ["_law_ground", "_law_a", "_law_b"] (defScope sMr) := ⟨rfl, rfl, rfl, by decide +kernel, rfl, by decide +kernel, by decide +kernel⟩
theorem ok_mr {k kH : Nat} (F : Fun K "_law_moves_right" "_law_moves_right" sMr f fd) (c_G : Cls K C) (hk : kH ≤ k) (GD : MthD P w K mg base C CH kH) (GS : MthG P w K mg base C kH "spot" ["self", "one"] (spGS w K C CH)) (GW : MthG P w K mg base C kH "is_shown" ["self", "one"] (spGW w K C CH)) (GM : MthG P w K mg base C kH "met" ["self", "one"] (spGM w K C CH)) (GSa : FnG P w K mg base CX0 kH "_law_same" ["_law_found", "_law_due"] (spSame K 9)) (m_zip : mg "zip" = none) : FnOk P w K mg base CX0 (k + 1) f fd ["_law_ground", "_law_a", "_law_b"] (spMr w K C CH) := by
  obtain ⟨_, _, _, e0, M_do, G_do, b_do, d_do, he0⟩ := GD
  obtain ⟨_, _, M_spot, G_spot, b_spot⟩ := GS
  obtain ⟨_, _, M_is_shown, G_is_shown, b_is_shown⟩ := GW
  obtain ⟨_, _, M_met, G_met, b_met⟩ := GM
  obtain ⟨_, _, G__law_same, m__law_same, k__law_same, b__law_same⟩ := GSa
  have d_spot : Vals [] [] := .nil
  have d_is_shown : Vals [] [] := .nil
  have d_met : Vals [] [] := .nil
  have sc := scMr
  refine F.ok sc (fun vs H Q E h => ?_) (fun cdv A outer s H vs Q E hr h => ?_)
  · obtain ⟨p, A, a, b, n, r, m, rfl, _⟩ := h
    rfl
  obtain ⟨p, A, a, b, n, r, m, rfl, hp, W, q⟩ := h
  refine ⟨_, (pss_cons (ps_par (i := 3) (j := 4) (by rfl) sc.nd rfl rfl (by decide) rfl rfl (pa_cons (pe_lst (pa_cons (pe_tup (pa_cons pe_str (pa_cons pe_int pa_nil))) (pa_cons (pe_tup (pa_cons pe_str (pa_cons pe_int pa_nil))) (pa_cons (pe_tup (pa_cons pe_str (pa_cons pe_int pa_nil))) (pa_cons (pe_tup (pa_cons pe_str (pa_cons (pe_un un_neg pe_int) pa_nil))) (pa_cons (pe_tup (pa_cons pe_str (pa_cons (pe_un un_neg pe_int) pa_nil))) (pa_cons (pe_tup (pa_cons pe_str (pa_cons pe_int pa_nil))) (pa_cons (pe_tup (pa_cons pe_str (pa_cons pe_int pa_nil))) pa_nil)))))))) (pa_cons (pe_lst pa_nil) pa_nil)) (by rfl))
      (pss_cons (ps_set (i := 4) sc.nd rfl (.inl rfl) (pe_lst (pa_cons (pe_tup (pa_cons pe_int (pa_cons pe_int (pa_cons pe_int pa_nil)))) (pa_cons (pe_tup (pa_cons pe_int (pa_cons pe_int (pa_cons pe_int pa_nil)))) (pa_cons (pe_tup (pa_cons pe_int (pa_cons pe_int (pa_cons pe_int pa_nil)))) (pa_cons (pe_tup (pa_cons pe_int (pa_cons pe_int (pa_cons pe_int pa_nil)))) (pa_cons (pe_tup (pa_cons pe_int (pa_cons pe_int (pa_cons pe_int pa_nil)))) (pa_cons (pe_tup (pa_cons pe_int (pa_cons pe_int (pa_cons pe_int pa_nil)))) (pa_cons (pe_tup (pa_cons pe_int (pa_cons pe_int (pa_cons pe_int pa_nil)))) pa_nil)))))))))
      (pss_cons (ps_for PassesOwn.never rfl (pi_zip (by rfl) m_zip (pa_cons (pv 3) (pa_cons (pv 4) pa_nil))) (pg_tup (by rfl) (pgs_cons (pg_name (i := 5) sc.nd rfl (.inl rfl)) (pgs_cons (pg_name (i := 6) sc.nd rfl (.inl rfl)) pgs_nil))) (pss_one (ps_if (PW.pt (pw_or (pt_cmpR op_notN (pe_meth (pv 0) c_G M_do G_do (hr.mono (by omega)) b_do d_do pass0 (pa_cons (pe_tup (pa_cons (pv 1) (pa_cons pe_int pa_nil))) (pa_cons (pv 5) pa_nil))) pe_non (nomark _)) (pw_or1 (pt_not (pt_val (pe_call G__law_same (hr.mono (by omega)) (by rfl) m__law_same k__law_same b__law_same .nil pass0 (pa_cons (pe_meth (pv 0) c_G M_spot G_spot (hr.mono (by omega)) b_spot d_spot pass0 (pa_cons (pe_tup (pa_cons (pv 1) (pa_cons pe_int pa_nil))) pa_nil)) (pa_cons (pv 6) pa_nil)))))))) (pss_one (ps_ret pe_bl)) pss_nil)))
      (pss_cons (ps_if (PW.pt (pw_or (pt_cmpR (op_neD hr.units) (pe_meth (pv 0) c_G M_met G_met (hr.mono (by omega)) b_met d_met pass0 (pa_cons (pe_tup (pa_cons (pv 1) (pa_cons pe_int pa_nil))) pa_nil)) (pe_lst pa_nil) (nomark _)) (pw_or1 (pt_cmpR (op_neD hr.units) (pe_meth (pv 0) c_G M_met G_met (hr.mono (by omega)) b_met d_met pass0 (pa_cons (pe_tup (pa_cons (pv 2) (pa_cons pe_int pa_nil))) pa_nil)) (pe_lst pa_nil) (nomark _))))) (pss_one (ps_ret pe_bl)) pss_nil)
      (pss_cons (ps_expr (pe_meth (pv 0) c_G M_do G_do (hr.mono (by omega)) b_do d_do pass0 (pa_cons (pe_tup (pa_cons (pv 2) (pa_cons pe_int pa_nil))) (pa_cons (pe_tup (pa_cons pe_str (pa_cons pe_int (pa_cons pe_int pa_nil)))) pa_nil))))
      (pss_cons (ps_if (pt_not (pt_val (pe_call G__law_same (hr.mono (by omega)) (by rfl) m__law_same k__law_same b__law_same .nil pass0 (pa_cons (pe_lst (pa_cons (pe_meth (pv 0) c_G M_spot G_spot (hr.mono (by omega)) b_spot d_spot pass0 (pa_cons (pe_tup (pa_cons (pv 2) (pa_cons pe_int pa_nil))) pa_nil)) (pa_cons (pe_meth (pv 0) c_G M_met G_met (hr.mono (by omega)) b_met d_met pass0 (pa_cons (pe_tup (pa_cons (pv 1) (pa_cons pe_int pa_nil))) pa_nil)) (pa_cons (pe_meth (pv 0) c_G M_met G_met (hr.mono (by omega)) b_met d_met pass0 (pa_cons (pe_tup (pa_cons (pv 2) (pa_cons pe_int pa_nil))) pa_nil)) pa_nil)))) (pa_cons (pe_lst (pa_cons (pe_tup (pa_cons pe_int (pa_cons pe_int (pa_cons pe_int pa_nil)))) (pa_cons (pe_lst (pa_cons (pv 2) pa_nil)) (pa_cons (pe_lst (pa_cons (pv 1) pa_nil)) pa_nil)))) pa_nil))))) (pss_one (ps_ret pe_bl)) pss_nil)
      (pss_cons (ps_expr (pe_meth (pv 0) c_G M_do G_do (hr.mono (by omega)) b_do d_do pass0 (pa_cons (pe_tup (pa_cons (pv 2) (pa_cons pe_int pa_nil))) (pa_cons (pe_tup (pa_cons pe_str pa_nil)) pa_nil))))
      (pss_one (ps_ret (pe_call G__law_same (hr.mono (by omega)) (by rfl) m__law_same k__law_same b__law_same .nil pass0 (pa_cons (pe_lst (pa_cons (pe_meth (pv 0) c_G M_met G_met (hr.mono (by omega)) b_met d_met pass0 (pa_cons (pe_tup (pa_cons (pv 1) (pa_cons pe_int pa_nil))) pa_nil)) (pa_cons (pe_meth (pv 0) c_G M_met G_met (hr.mono (by omega)) b_met d_met pass0 (pa_cons (pe_tup (pa_cons (pv 2) (pa_cons pe_int pa_nil))) pa_nil)) (pa_cons (pe_meth (pv 0) c_G M_is_shown G_is_shown (hr.mono (by omega)) b_is_shown d_is_shown pass0 (pa_cons (pe_tup (pa_cons (pv 2) (pa_cons pe_int pa_nil))) pa_nil)) pa_nil)))) (pa_cons (pe_lst (pa_cons (pe_lst pa_nil) (pa_cons (pe_lst pa_nil) (pa_cons pe_bl pa_nil)))) pa_nil)))))))))))), ?_⟩
  have go := Go.keep hp (Same.refl H)
  refine ⟨by show 2 ≤ sizeLine; decide, fun t1 n2 => ?_⟩
  have s5 := same_upd (o := .tup [V.str "move", .int 3]) n2
  have e3 := upd_same (H := H) (a := t1) (o := .tup [V.str "move", .int 3])
  generalize upd H t1 (.tup [V.str "move", .int 3]) = H4 at *
  replace go := go.post s5
  clear s5 n2
  refine ⟨by show 2 ≤ sizeLine; decide, fun t6 n7 => ?_⟩
  have s10 := same_upd (o := .tup [V.str "turn", .int 1]) n7
  have e8 := upd_same (H := H4) (a := t6) (o := .tup [V.str "turn", .int 1])
  generalize upd H4 t6 (.tup [V.str "turn", .int 1]) = H9 at *
  replace go := go.post s10
  replace e3 := s10 _ _ e3
  clear s10 n7
  refine ⟨by show 2 ≤ sizeLine; decide, fun t11 n12 => ?_⟩
  have s15 := same_upd (o := .tup [V.str "move", .int 9]) n12
  have e13 := upd_same (H := H9) (a := t11) (o := .tup [V.str "move", .int 9])
  generalize upd H9 t11 (.tup [V.str "move", .int 9]) = H14 at *
  replace go := go.post s15
  replace e3 := s15 _ _ e3
  replace e8 := s15 _ _ e8
  clear s15 n12
  refine ⟨_, rfl, by show 2 ≤ sizeLine; decide, fun t16 n17 => ?_⟩
  have s20 := same_upd (o := .tup [V.str "turn", .int (-2)]) n17
  have e18 := upd_same (H := H14) (a := t16) (o := .tup [V.str "turn", .int (-2)])
  generalize upd H14 t16 (.tup [V.str "turn", .int (-2)]) = H19 at *
  replace go := go.post s20
  replace e3 := s20 _ _ e3
  replace e8 := s20 _ _ e8
  replace e13 := s20 _ _ e13
  clear s20 n17
  refine ⟨_, rfl, by show 2 ≤ sizeLine; decide, fun t21 n22 => ?_⟩
  have s25 := same_upd (o := .tup [V.str "move", .int (-1)]) n22
  have e23 := upd_same (H := H19) (a := t21) (o := .tup [V.str "move", .int (-1)])
  generalize upd H19 t21 (.tup [V.str "move", .int (-1)]) = H24 at *
  replace go := go.post s25
  replace e3 := s25 _ _ e3
  replace e8 := s25 _ _ e8
  replace e13 := s25 _ _ e13
  replace e18 := s25 _ _ e18
  clear s25 n22
  refine ⟨by show 2 ≤ sizeLine; decide, fun t26 n27 => ?_⟩
  have s30 := same_upd (o := .tup [V.str "turn", .int 7]) n27
  have e28 := upd_same (H := H24) (a := t26) (o := .tup [V.str "turn", .int 7])
  generalize upd H24 t26 (.tup [V.str "turn", .int 7]) = H29 at *
  replace go := go.post s30
  replace e3 := s30 _ _ e3
  replace e8 := s30 _ _ e8
  replace e13 := s30 _ _ e13
  replace e18 := s30 _ _ e18
  replace e23 := s30 _ _ e23
  clear s30 n27
  refine ⟨by show 2 ≤ sizeLine; decide, fun t31 n32 => ?_⟩
  have s35 := same_upd (o := .tup [V.str "move", .int 2]) n32
  have e33 := upd_same (H := H29) (a := t31) (o := .tup [V.str "move", .int 2])
  generalize upd H29 t31 (.tup [V.str "move", .int 2]) = H34 at *
  replace go := go.post s35
  replace e3 := s35 _ _ e3
  replace e8 := s35 _ _ e8
  replace e13 := s35 _ _ e13
  replace e18 := s35 _ _ e18
  replace e23 := s35 _ _ e23
  replace e28 := s35 _ _ e28
  clear s35 n32
  refine ⟨by show 7 ≤ sizeLine; decide, fun t36 n37 => ?_⟩
  have s40 := same_upd (o := .lst [V.ref t1, .ref t6, .ref t11, .ref t16, .ref t21, .ref t26, .ref t31]) n37
  have e38 := upd_same (H := H34) (a := t36) (o := .lst [V.ref t1, .ref t6, .ref t11, .ref t16, .ref t21, .ref t26, .ref t31])
  have n_e38 := go.gs.new n37
  generalize upd H34 t36 (.lst [V.ref t1, .ref t6, .ref t11, .ref t16, .ref t21, .ref t26, .ref t31]) = H39 at *
  replace go := go.post s40
  replace e3 := s40 _ _ e3
  replace e8 := s40 _ _ e8
  replace e13 := s40 _ _ e13
  replace e18 := s40 _ _ e18
  replace e23 := s40 _ _ e23
  replace e28 := s40 _ _ e28
  replace e33 := s40 _ _ e33
  clear s40 n37
  refine ⟨by show 0 ≤ sizeLine; decide, fun t41 n42 => ?_⟩
  have s45 := same_upd (o := .lst []) n42
  have e43 := upd_same (H := H39) (a := t41) (o := .lst [])
  generalize upd H39 t41 (.lst []) = H44 at *
  replace go := go.post s45
  replace e3 := s45 _ _ e3
  replace e8 := s45 _ _ e8
  replace e13 := s45 _ _ e13
  replace e18 := s45 _ _ e18
  replace e23 := s45 _ _ e23
  replace e28 := s45 _ _ e28
  replace e33 := s45 _ _ e33
  replace e38 := s45 _ _ e38
  clear s45 n42
  refine ⟨_, _, rfl, ?_⟩
  refine ⟨by show 3 ≤ sizeLine; decide, fun t46 n47 => ?_⟩
  have s50 := same_upd (o := .tup [V.int 4, .int 1, .int 0]) n47
  have e48 := upd_same (H := H44) (a := t46) (o := .tup [V.int 4, .int 1, .int 0])
  generalize upd H44 t46 (.tup [V.int 4, .int 1, .int 0]) = H49 at *
  replace go := go.post s50
  replace e3 := s50 _ _ e3
  replace e8 := s50 _ _ e8
  replace e13 := s50 _ _ e13
  replace e18 := s50 _ _ e18
  replace e23 := s50 _ _ e23
  replace e28 := s50 _ _ e28
  replace e33 := s50 _ _ e33
  replace e38 := s50 _ _ e38
  clear s50 n47
  refine ⟨by show 3 ≤ sizeLine; decide, fun t51 n52 => ?_⟩
  have s55 := same_upd (o := .tup [V.int 4, .int 1, .int 1]) n52
  have e53 := upd_same (H := H49) (a := t51) (o := .tup [V.int 4, .int 1, .int 1])
  generalize upd H49 t51 (.tup [V.int 4, .int 1, .int 1]) = H54 at *
  replace go := go.post s55
  replace e3 := s55 _ _ e3
  replace e8 := s55 _ _ e8
  replace e13 := s55 _ _ e13
  replace e18 := s55 _ _ e18
  replace e23 := s55 _ _ e23
  replace e28 := s55 _ _ e28
  replace e33 := s55 _ _ e33
  replace e38 := s55 _ _ e38
  replace e48 := s55 _ _ e48
  clear s55 n52
  refine ⟨by show 3 ≤ sizeLine; decide, fun t56 n57 => ?_⟩
  have s60 := same_upd (o := .tup [V.int 4, .int 2, .int 1]) n57
  have e58 := upd_same (H := H54) (a := t56) (o := .tup [V.int 4, .int 2, .int 1])
  generalize upd H54 t56 (.tup [V.int 4, .int 2, .int 1]) = H59 at *
  replace go := go.post s60
  replace e3 := s60 _ _ e3
  replace e8 := s60 _ _ e8
  replace e13 := s60 _ _ e13
  replace e18 := s60 _ _ e18
  replace e23 := s60 _ _ e23
  replace e28 := s60 _ _ e28
  replace e33 := s60 _ _ e33
  replace e38 := s60 _ _ e38
  replace e48 := s60 _ _ e48
  replace e53 := s60 _ _ e53
  clear s60 n57
  refine ⟨by show 3 ≤ sizeLine; decide, fun t61 n62 => ?_⟩
  have s65 := same_upd (o := .tup [V.int 4, .int 2, .int 3]) n62
  have e63 := upd_same (H := H59) (a := t61) (o := .tup [V.int 4, .int 2, .int 3])
  generalize upd H59 t61 (.tup [V.int 4, .int 2, .int 3]) = H64 at *
  replace go := go.post s65
  replace e3 := s65 _ _ e3
  replace e8 := s65 _ _ e8
  replace e13 := s65 _ _ e13
  replace e18 := s65 _ _ e18
  replace e23 := s65 _ _ e23
  replace e28 := s65 _ _ e28
  replace e33 := s65 _ _ e33
  replace e38 := s65 _ _ e38
  replace e48 := s65 _ _ e48
  replace e53 := s65 _ _ e53
  replace e58 := s65 _ _ e58
  clear s65 n62
  refine ⟨by show 3 ≤ sizeLine; decide, fun t66 n67 => ?_⟩
  have s70 := same_upd (o := .tup [V.int 4, .int 2, .int 3]) n67
  have e68 := upd_same (H := H64) (a := t66) (o := .tup [V.int 4, .int 2, .int 3])
  generalize upd H64 t66 (.tup [V.int 4, .int 2, .int 3]) = H69 at *
  replace go := go.post s70
  replace e3 := s70 _ _ e3
  replace e8 := s70 _ _ e8
  replace e13 := s70 _ _ e13
  replace e18 := s70 _ _ e18
  replace e23 := s70 _ _ e23
  replace e28 := s70 _ _ e28
  replace e33 := s70 _ _ e33
  replace e38 := s70 _ _ e38
  replace e48 := s70 _ _ e48
  replace e53 := s70 _ _ e53
  replace e58 := s70 _ _ e58
  replace e63 := s70 _ _ e63
  clear s70 n67
  refine ⟨by show 3 ≤ sizeLine; decide, fun t71 n72 => ?_⟩
  have s75 := same_upd (o := .tup [V.int 4, .int 2, .int 2]) n72
  have e73 := upd_same (H := H69) (a := t71) (o := .tup [V.int 4, .int 2, .int 2])
  generalize upd H69 t71 (.tup [V.int 4, .int 2, .int 2]) = H74 at *
  replace go := go.post s75
  replace e3 := s75 _ _ e3
  replace e8 := s75 _ _ e8
  replace e13 := s75 _ _ e13
  replace e18 := s75 _ _ e18
  replace e23 := s75 _ _ e23
  replace e28 := s75 _ _ e28
  replace e33 := s75 _ _ e33
  replace e38 := s75 _ _ e38
  replace e48 := s75 _ _ e48
  replace e53 := s75 _ _ e53
  replace e58 := s75 _ _ e58
  replace e63 := s75 _ _ e63
  replace e68 := s75 _ _ e68
  clear s75 n72
  refine ⟨by show 3 ≤ sizeLine; decide, fun t76 n77 => ?_⟩
  have s80 := same_upd (o := .tup [V.int 2, .int 2, .int 2]) n77
  have e78 := upd_same (H := H74) (a := t76) (o := .tup [V.int 2, .int 2, .int 2])
  generalize upd H74 t76 (.tup [V.int 2, .int 2, .int 2]) = H79 at *
  replace go := go.post s80
  replace e3 := s80 _ _ e3
  replace e8 := s80 _ _ e8
  replace e13 := s80 _ _ e13
  replace e18 := s80 _ _ e18
  replace e23 := s80 _ _ e23
  replace e28 := s80 _ _ e28
  replace e33 := s80 _ _ e33
  replace e38 := s80 _ _ e38
  replace e48 := s80 _ _ e48
  replace e53 := s80 _ _ e53
  replace e58 := s80 _ _ e58
  replace e63 := s80 _ _ e63
  replace e68 := s80 _ _ e68
  replace e73 := s80 _ _ e73
  clear s80 n77
  refine ⟨by show 7 ≤ sizeLine; decide, fun t81 n82 => ?_⟩
  have s85 := same_upd (o := .lst [V.ref t46, .ref t51, .ref t56, .ref t61, .ref t66, .ref t71, .ref t76]) n82
  have e83 := upd_same (H := H79) (a := t81) (o := .lst [V.ref t46, .ref t51, .ref t56, .ref t61, .ref t66, .ref t71, .ref t76])
  have n_e83 := go.gs.new n82
  generalize upd H79 t81 (.lst [V.ref t46, .ref t51, .ref t56, .ref t61, .ref t66, .ref t71, .ref t76]) = H84 at *
  replace go := go.post s85
  replace e3 := s85 _ _ e3
  replace e8 := s85 _ _ e8
  replace e13 := s85 _ _ e13
  replace e18 := s85 _ _ e18
  replace e23 := s85 _ _ e23
  replace e28 := s85 _ _ e28
  replace e33 := s85 _ _ e33
  replace e38 := s85 _ _ e38
  replace e48 := s85 _ _ e48
  replace e53 := s85 _ _ e53
  replace e58 := s85 _ _ e58
  replace e63 := s85 _ _ e63
  replace e68 := s85 _ _ e68
  replace e73 := s85 _ _ e73
  replace e78 := s85 _ _ e78
  clear s85 n82
  have p1 : Paired (fun t (q : Str × Int) => H84 t = some (.tup [.str q.1, .int q.2])) [t1, t6, t11, t16, t21, t26, t31] deeds := .cons e3 (.cons e8 (.cons e13 (.cons e18 (.cons e23 (.cons e28 (.cons e33 (.nil)))))))
  have p2 : Paired (fun t (q : Int × Int × Int) => H84 t = some (.tup [.int q.1, .int q.2.1, .int q.2.2])) [t46, t51, t56, t61, t66, t71, t76] spots.tail := .cons e48 (.cons e53 (.cons e58 (.cons e63 (.cons e68 (.cons e73 (.cons e78 (.nil)))))))
  clear e3 e8 e13 e18 e23 e28 e33 e48 e53 e58 e63 e68 e73 e78
  have L1 : [V.ref t1, .ref t6, .ref t11, .ref t16, .ref t21, .ref t26, .ref t31] = ([t1, t6, t11, t16, t21, t26, t31] : List Addr).map V.ref := rfl
  have L2_ : [V.ref t46, .ref t51, .ref t56, .ref t61, .ref t66, .ref t71, .ref t76] = ([t46, t51, t56, t61, t66, t71, t76] : List Addr).map V.ref := rfl
  rw [L1] at e38
  rw [L2_] at e83
  generalize ([t1, t6, t11, t16, t21, t26, t31] : List Addr) = ts at *
  generalize ([t46, t51, t56, t61, t66, t71, t76] : List Addr) = us at *
  have lt : ts.length = 7 := paired_len p1
  have lu : us.length = 7 := paired_len p2
  clear L1 L2_
  have nl1 := n_e38
  have nl2 := n_e83
  show tSeq _ _ _ [some (.ref p), some (.str a), some (.str b), some (.ref t36), some (.ref t81), _, _] H84
  refine ⟨_, rfl, _, rfl, t36, t81, _, _, rfl, SqL.of e38, SqL.of e83, for_it (walk_zip (xs := ts.map V.ref) (ys := us.map V.ref) (n := 7) (by rw [List.length_map, List.length_map, lt, lu]; rfl)) (fun i σ H' => ∃ s, spots[i]? = some s ∧ Go w K C CH H p A (grd a b [(n, m)] [(r, [m, 2, 3, 4, 5, 6, 7])] [one_ a s.1 s.2.1 s.2.2 [] 0 true, one_ b 0 0 0 [(n, 5)] 0 true]) A H' ∧ H' t36 = some (.lst (ts.map V.ref)) ∧ H' t81 = some (.lst (us.map V.ref)) ∧ Paired (fun t (q : Str × Int) => H' t = some (.tup [.str q.1, .int q.2])) ts deeds ∧ Paired (fun t (q : Int × Int × Int) => H' t = some (.tup [.int q.1, .int q.2.1, .int q.2.2])) us spots.tail ∧ ∃ v5 v6, σ = [some (.ref p), some (.str a), some (.str b), some (.ref t36), some (.ref t81), v5, v6]) ⟨_, rfl, go, e38, e83, p1, p2, none, none, rfl⟩ (fun _ _ _ _ h => by
      obtain ⟨s, es, g, a1, a2, _⟩ := h
      exact ⟨SqL.of a1, SqL.of a2⟩) ?_ ?_⟩
  clear go p1 p2 e38 e83
  · rintro i x σ HA HB hi ⟨s, es, go, f1, f2, p1, p2, v5, v6, rfl⟩ ⟨T, x1, x2, rfl, nT, rfl, ex1, ex2⟩
    dsimp only at ex1 ex2
    rw [List.getElem?_map] at ex1 ex2
    obtain ⟨t, et, rfl⟩ := Option.map_eq_some_iff.mp ex1
    obtain ⟨u, eu, rfl⟩ := Option.map_eq_some_iff.mp ex2
    obtain ⟨q0, eq0, ht⟩ := paired_at p1 et
    obtain ⟨s1, es1, hu⟩ := paired_at p2 eu
    obtain ⟨s', r', es', hact, hnear, hin, hB⟩ := mv_ok i q0 s eq0 es
    have es1 : spots[i + 1]? = some s1 := by rw [← es1, List.getElem?_tail]
    rw [es1] at es'
    cases es'
    have sT := same_upd (o := .tup [V.ref t, .ref u]) nT
    have eT := upd_same (H := HA) (a := T) (o := .tup [V.ref t, .ref u])
    generalize upd HA T (.tup [V.ref t, .ref u]) = HC at *
    replace go := go.post sT
    replace f1 := sT _ _ f1
    replace f2 := sT _ _ f2
    replace p1 := L2.Paired.mapP p1 fun _ _ e => sT _ _ e
    replace p2 := L2.Paired.mapP p2 fun _ _ e => sT _ _ e
    replace ht := sT _ _ ht
    replace hu := sT _ _ hu
    have n_f1 : t36 ∉ A.fp p := nl1
    have n_f2 : t81 ∉ A.fp p := nl2
    refine ⟨T, _, rfl, .inl (.inl eT), rfl, _, _, rfl, _, _, rfl, rfl, ?_⟩
    show _
    refine ⟨_, rfl, p, A.dx, _, rfl, go.gs.ins, by kernel_rfl, _, rfl, by show 2 ≤ sizeLine; decide, fun t86 n87 => ?_⟩
    have s90 := same_upd (o := .tup [V.str a, .int 0]) n87
    have e88 := upd_same (H := HC) (a := t86) (o := .tup [V.str a, .int 0])
    generalize upd HC t86 (.tup [V.str a, .int 0]) = H89 at *
    replace go := go.post s90
    replace f1 := s90 _ _ f1
    replace f2 := s90 _ _ f2
    replace p1 := L2.Paired.mapP p1 fun _ _ e => s90 _ _ e
    replace p2 := L2.Paired.mapP p2 fun _ _ e => s90 _ _ e
    replace ht := s90 _ _ ht
    replace hu := s90 _ _ hu
    clear s90 n87
    refine ⟨_, rfl, p, t86, t, .ref e0, A, q0.1, [], [.int q0.2], [.num q0.2], _, 0, _, [], _, .non, _, rfl, go.gs, .inl e88, rfl, .inr (.inl (.inl ht)), (.cons (.num _) .nil), by show 1 ≤ 100; decide, (fun L hL => by rw [List.mem_singleton.mp hL]; show 1 ≤ 6; decide), ⟨e0, [], rfl, .inr (he0 _), .nil⟩, by decide, vals_num hB, .spot hin (.inr (.inr ⟨r', hact, rfl⟩)), fun H9 g => ?_⟩
    have eG : Gs.put (grd a b [(n, m)] [(r, [m, 2, 3, 4, 5, 6, 7])] [one_ a s.1 s.2.1 s.2.2 [] 0 true, one_ b 0 0 0 [(n, 5)] 0 true]) 0 (One.at_ (one_ a s.1 s.2.1 s.2.2 [] 0 true) (near r'.1 5) (near r'.2.1 3) r'.2.2) = grd a b [(n, m)] [(r, [m, 2, 3, 4, 5, 6, 7])] [one_ a s1.1 s1.2.1 s1.2.2 [] 0 true, one_ b 0 0 0 [(n, 5)] 0 true] := by
      rw [← hnear]
      rfl
    replace g : Go w K C CH H89 p A _ A H9 := eG ▸ g
    clear e88
    replace f1 := g.but _ _ n_f1 f1
    replace f2 := g.but _ _ n_f2 f2
    replace p1 := L2.Paired.mapP p1 fun _ _ e => (g.kp go.gs).t _ _ e
    replace p2 := L2.Paired.mapP p2 fun _ _ e => (g.kp go.gs).t _ _ e
    replace ht := (g.kp go.gs).t _ _ ht
    replace hu := (g.kp go.gs).t _ _ hu
    replace go := go.trans g
    clear g
    refine ⟨rfl, _, rfl, ?_⟩
    rw [decide_eq_true rfl]
    refine ifFF ?_
    refine ⟨_, rfl, p, A.dx, _, rfl, go.gs.ins, by kernel_rfl, _, rfl, by show 2 ≤ sizeLine; decide, fun t91 n92 => ?_⟩
    have s95 := same_upd (o := .tup [V.str a, .int 0]) n92
    have e93 := upd_same (H := H9) (a := t91) (o := .tup [V.str a, .int 0])
    generalize upd H9 t91 (.tup [V.str a, .int 0]) = H94 at *
    replace go := go.post s95
    replace f1 := s95 _ _ f1
    replace f2 := s95 _ _ f2
    replace p1 := L2.Paired.mapP p1 fun _ _ e => s95 _ _ e
    replace p2 := L2.Paired.mapP p2 fun _ _ e => s95 _ _ e
    replace ht := s95 _ _ ht
    replace hu := s95 _ _ hu
    clear s95 n92
    refine ⟨p, t91, _, one_ a s1.1 s1.2.1 s1.2.2 [] 0 true, rfl, go.gs.at, .inl e93, List.mem_cons_self .., fun sp H10 s10 hsp => ?_⟩
    clear e93
    replace go := go.post s10
    replace f1 := s10 _ _ f1
    replace f2 := s10 _ _ f2
    replace p1 := L2.Paired.mapP p1 fun _ _ e => s10 _ _ e
    replace p2 := L2.Paired.mapP p2 fun _ _ e => s10 _ _ e
    replace ht := s10 _ _ ht
    replace hu := s10 _ _ hu
    refine ⟨_, rfl, _, _, .tuple [.int s1.1, .int s1.2.1, .int s1.2.2], rfl, .tup hsp (dpAll_ints [s1.1, s1.2.1, s1.2.2]), .tup (.inl (.inl hu)) (dpAll_ints [s1.1, s1.2.1, s1.2.2]), okd_spot (n := 7) _ _ _, fun H11 s11 => ⟨true, rfl, ?_⟩⟩
    replace go := go.post s11
    replace f1 := s11 _ _ f1
    replace f2 := s11 _ _ f2
    replace p1 := L2.Paired.mapP p1 fun _ _ e => s11 _ _ e
    replace p2 := L2.Paired.mapP p2 fun _ _ e => s11 _ _ e
    replace ht := s11 _ _ ht
    replace hu := s11 _ _ hu
    exact iteF ⟨s1, es1, go, f1, f2, p1, p2, _, _, rfl⟩
  rintro σ HA ⟨s, es, go, f1, f2, p1, p2, v5, v6, rfl⟩
  cases (Option.some.inj es)
  clear f1 f2 p1 p2
  refine ⟨_, rfl, p, A.dx, _, rfl, go.gs.ins, by kernel_rfl, _, rfl, by show 2 ≤ sizeLine; decide, fun t96 n97 => ?_⟩
  have s100 := same_upd (o := .tup [V.str a, .int 0]) n97
  have e98 := upd_same (H := HA) (a := t96) (o := .tup [V.str a, .int 0])
  generalize upd HA t96 (.tup [V.str a, .int 0]) = H99 at *
  replace go := go.post s100
  clear s100 n97
  refine ⟨p, t96, _, one_ a 2 2 2 [] 0 true, rfl, go.gs.at, .inl e98, List.mem_cons_self .., fun v101 H102 as105 s103 d104 _ => ?_⟩
  rw [show metP _ (one_ a 2 2 2 [] 0 true) = .list [] from by unfold metP; rw [(met1 W).1]; rfl] at d104
  replace d104 := tr_dp _ _ _ d104
  clear e98
  replace go := go.post s103
  refine ⟨by show 0 ≤ sizeLine; decide, fun t106 n107 => ?_⟩
  have s110 := same_upd (o := .lst []) n107
  have e108 := upd_same (H := H102) (a := t106) (o := .lst [])
  have n_e108 := go.gs.new n107
  generalize upd H102 t106 (.lst []) = H109 at *
  replace go := go.post s110
  replace d104 := dp_same s110 _ _ d104
  clear s110 n107
  refine ⟨.list [], .list [], d104, .lst (SqL.of e108) .nil, Sh.shaped (Sh.list (n := 0) mem_0) (by decide), Sh.shaped (Sh.list (n := 0) mem_0) (by decide), _, rfl, ?_⟩
  rw [SeqAt.eqv_refl _ (Sh.l (Sh.list (n := 0) mem_0))]
  refine ifFF ?_
  clear d104 e108
  refine ⟨_, rfl, p, A.dx, _, rfl, go.gs.ins, by kernel_rfl, _, rfl, by show 2 ≤ sizeLine; decide, fun t111 n112 => ?_⟩
  have s115 := same_upd (o := .tup [V.str b, .int 0]) n112
  have e113 := upd_same (H := H109) (a := t111) (o := .tup [V.str b, .int 0])
  generalize upd H109 t111 (.tup [V.str b, .int 0]) = H114 at *
  replace go := go.post s115
  clear s115 n112
  refine ⟨p, t111, _, one_ b 0 0 0 [(n, 5)] 0 true, rfl, go.gs.at, .inl e113, List.mem_cons_of_mem _ (List.mem_cons_self ..), fun v116 H117 as120 s118 d119 _ => ?_⟩
  rw [show metP _ (one_ b 0 0 0 [(n, 5)] 0 true) = .list [] from by unfold metP; rw [(met1 W).2]; rfl] at d119
  replace d119 := tr_dp _ _ _ d119
  clear e113
  replace go := go.post s118
  refine ⟨by show 0 ≤ sizeLine; decide, fun t121 n122 => ?_⟩
  have s125 := same_upd (o := .lst []) n122
  have e123 := upd_same (H := H117) (a := t121) (o := .lst [])
  have n_e123 := go.gs.new n122
  generalize upd H117 t121 (.lst []) = H124 at *
  replace go := go.post s125
  replace d119 := dp_same s125 _ _ d119
  clear s125 n122
  refine ⟨.list [], .list [], d119, .lst (SqL.of e123) .nil, Sh.shaped (Sh.list (n := 0) mem_0) (by decide), Sh.shaped (Sh.list (n := 0) mem_0) (by decide), _, rfl, ?_⟩
  rw [SeqAt.eqv_refl _ (Sh.l (Sh.list (n := 0) mem_0))]
  refine ifFF ?_
  clear d119 e123
  refine ⟨_, rfl, p, A.dx, _, rfl, go.gs.ins, by kernel_rfl, _, rfl, by show 2 ≤ sizeLine; decide, fun t126 n127 => ?_⟩
  have s130 := same_upd (o := .tup [V.str b, .int 0]) n127
  have e128 := upd_same (H := H124) (a := t126) (o := .tup [V.str b, .int 0])
  generalize upd H124 t126 (.tup [V.str b, .int 0]) = H129 at *
  replace go := go.post s130
  clear s130 n127
  refine ⟨by show 3 ≤ sizeLine; decide, fun t131 n132 => ?_⟩
  have s135 := same_upd (o := .tup [V.str "place", .int 2, .int 77]) n132
  have e133 := upd_same (H := H129) (a := t131) (o := .tup [V.str "place", .int 2, .int 77])
  generalize upd H129 t131 (.tup [V.str "place", .int 2, .int 77]) = H134 at *
  replace go := go.post s135
  replace e128 := s135 _ _ e128
  clear s135 n132
  refine ⟨p, t126, t131, .ref e0, A, "place", [], [.int 2, .int 77], [.num 2, .num 77], _, 1, one_ b 0 0 0 [(n, 5)] 0 true, [], _, .non, _, rfl, go.gs, .inl e128, rfl, .inr (.inl (.inl e133)), .cons (.num _) (.cons (.num _) .nil), by show 2 ≤ 100; decide, (fun L hL => by
    rcases List.mem_cons.mp hL with rfl | hL
    · show 1 ≤ 6; decide
    · rw [List.mem_singleton.mp hL]; show 1 ≤ 6; decide), ⟨e0, [], rfl, .inr (he0 _), .nil⟩, by decide, vals_num2 (by decide) (by decide), .spot (by decide +kernel) (.inr (.inr ⟨_, .inr (.inl ⟨rfl, 2, 77, rfl, rfl⟩), rfl⟩)), fun H90 g => ?_⟩
  replace g : Go w K C CH H134 p A (grd a b [(n, m)] [(r, [m, 2, 3, 4, 5, 6, 7])] [one_ a 2 2 2 [] 0 true, one_ b 2 2 0 [(n, 5)] 0 true]) A H90 := g
  clear e128 e133
  replace go := go.trans g
  clear g
  refine ⟨_, rfl, p, A.dx, _, rfl, go.gs.ins, by kernel_rfl, _, rfl, by show 2 ≤ sizeLine; decide, fun t136 n137 => ?_⟩
  have s140 := same_upd (o := .tup [V.str b, .int 0]) n137
  have e138 := upd_same (H := H90) (a := t136) (o := .tup [V.str b, .int 0])
  generalize upd H90 t136 (.tup [V.str b, .int 0]) = H139 at *
  replace go := go.post s140
  clear s140 n137
  refine ⟨p, t136, _, one_ b 2 2 0 [(n, 5)] 0 true, rfl, go.gs.at, .inl e138, List.mem_cons_of_mem _ (List.mem_cons_self ..), fun v141 H142 s143 q144 => ?_⟩
  clear e138
  replace go := go.post s143
  refine ⟨_, rfl, p, A.dx, _, rfl, go.gs.ins, by kernel_rfl, _, rfl, by show 2 ≤ sizeLine; decide, fun t145 n146 => ?_⟩
  have s149 := same_upd (o := .tup [V.str a, .int 0]) n146
  have e147 := upd_same (H := H142) (a := t145) (o := .tup [V.str a, .int 0])
  generalize upd H142 t145 (.tup [V.str a, .int 0]) = H148 at *
  replace go := go.post s149
  replace q144 := seqT s149 q144
  clear s149 n146
  refine ⟨p, t145, _, one_ a 2 2 2 [] 0 true, rfl, go.gs.at, .inl e147, List.mem_cons_self .., fun v150 H151 as154 s152 d153 _ => ?_⟩
  rw [show metP _ (one_ a 2 2 2 [] 0 true) = .list [.str b] from by unfold metP; rw [(met2 W).1]; rfl] at d153
  replace d153 := tr_dp _ _ _ d153
  clear e147
  replace go := go.post s152
  replace q144 := seqT s152 q144
  refine ⟨_, rfl, p, A.dx, _, rfl, go.gs.ins, by kernel_rfl, _, rfl, by show 2 ≤ sizeLine; decide, fun t155 n156 => ?_⟩
  have s159 := same_upd (o := .tup [V.str b, .int 0]) n156
  have e157 := upd_same (H := H151) (a := t155) (o := .tup [V.str b, .int 0])
  generalize upd H151 t155 (.tup [V.str b, .int 0]) = H158 at *
  replace go := go.post s159
  replace q144 := seqT s159 q144
  replace d153 := dp_same s159 _ _ d153
  clear s159 n156
  refine ⟨p, t155, _, one_ b 2 2 0 [(n, 5)] 0 true, rfl, go.gs.at, .inl e157, List.mem_cons_of_mem _ (List.mem_cons_self ..), fun v160 H161 as164 s162 d163 _ => ?_⟩
  rw [show metP _ (one_ b 2 2 0 [(n, 5)] 0 true) = .list [.str a] from by unfold metP; rw [(met2 W).2]; rfl] at d163
  replace d163 := tr_dp _ _ _ d163
  clear e157
  replace go := go.post s162
  replace q144 := seqT s162 q144
  replace d153 := dp_same s162 _ _ d153
  refine ⟨by show 3 ≤ sizeLine; decide, fun t165 n166 => ?_⟩
  have s169 := same_upd (o := .lst [V.ref v141, v150, v160]) n166
  have e167 := upd_same (H := H161) (a := t165) (o := .lst [V.ref v141, v150, v160])
  have n_e167 := go.gs.new n166
  generalize upd H161 t165 (.lst [V.ref v141, v150, v160]) = H168 at *
  replace go := go.post s169
  replace q144 := seqT s169 q144
  replace d153 := dp_same s169 _ _ d153
  replace d163 := dp_same s169 _ _ d163
  clear s169 n166
  refine ⟨by show 3 ≤ sizeLine; decide, fun t170 n171 => ?_⟩
  have s174 := same_upd (o := .tup [V.int 2, .int 2, .int 0]) n171
  have e172 := upd_same (H := H168) (a := t170) (o := .tup [V.int 2, .int 2, .int 0])
  generalize upd H168 t170 (.tup [V.int 2, .int 2, .int 0]) = H173 at *
  replace go := go.post s174
  replace q144 := seqT s174 q144
  replace d153 := dp_same s174 _ _ d153
  replace d163 := dp_same s174 _ _ d163
  replace e167 := s174 _ _ e167
  clear s174 n171
  refine ⟨_, rfl, by show 1 ≤ sizeLine; decide, fun t175 n176 => ?_⟩
  have s179 := same_upd (o := .lst [V.str b]) n176
  have e177 := upd_same (H := H173) (a := t175) (o := .lst [V.str b])
  have n_e177 := go.gs.new n176
  generalize upd H173 t175 (.lst [V.str b]) = H178 at *
  replace go := go.post s179
  replace q144 := seqT s179 q144
  replace d153 := dp_same s179 _ _ d153
  replace d163 := dp_same s179 _ _ d163
  replace e167 := s179 _ _ e167
  replace e172 := s179 _ _ e172
  clear s179 n176
  refine ⟨_, rfl, by show 1 ≤ sizeLine; decide, fun t180 n181 => ?_⟩
  have s184 := same_upd (o := .lst [V.str a]) n181
  have e182 := upd_same (H := H178) (a := t180) (o := .lst [V.str a])
  have n_e182 := go.gs.new n181
  generalize upd H178 t180 (.lst [V.str a]) = H183 at *
  replace go := go.post s184
  replace q144 := seqT s184 q144
  replace d153 := dp_same s184 _ _ d153
  replace d163 := dp_same s184 _ _ d163
  replace e167 := s184 _ _ e167
  replace e172 := s184 _ _ e172
  replace e177 := s184 _ _ e177
  clear s184 n181
  refine ⟨by show 3 ≤ sizeLine; decide, fun t185 n186 => ?_⟩
  have s189 := same_upd (o := .lst [V.ref t170, .ref t175, .ref t180]) n186
  have e187 := upd_same (H := H183) (a := t185) (o := .lst [V.ref t170, .ref t175, .ref t180])
  have n_e187 := go.gs.new n186
  generalize upd H183 t185 (.lst [V.ref t170, .ref t175, .ref t180]) = H188 at *
  replace go := go.post s189
  replace q144 := seqT s189 q144
  replace d153 := dp_same s189 _ _ d153
  replace d163 := dp_same s189 _ _ d163
  replace e167 := s189 _ _ e167
  replace e172 := s189 _ _ e172
  replace e177 := s189 _ _ e177
  replace e182 := s189 _ _ e182
  clear s189 n186
  refine ⟨_, _, .list [.tuple [.int 2, .int 2, .int 0], .list [.str b], .list [.str a]], rfl, .lst (SqL.of e167) (.cons (.tup q144 (dpAll_ints [2, 2, 0])) (.cons d153 (.cons d163 .nil))), .lst (SqL.of e187) (.cons (.tup (.inl (.inl e172)) (dpAll_ints [2, 2, 0])) (.cons (.lst (SqL.of e177) (.cons (.str _) .nil)) (.cons (.lst (SqL.of e182) (.cons (.str _) .nil)) .nil))), okd_list (n := 8) (by show 3 ≤ 1000; decide) (mem_c (okd_spot (n := 6) _ _ _) (mem_c (okd_list (n := 7) (by show 1 ≤ 1000; decide) (mem_c (okd_str _) mem_0)) (mem_c (okd_list (n := 7) (by show 1 ≤ 1000; decide) (mem_c (okd_str _) mem_0)) mem_0))), fun H91 s91 => ⟨true, rfl, ?_⟩⟩
  clear e167 e172 e177 e182 e187 q144 d153 d163
  replace go := go.post s91
  refine iteF ?_
  refine ⟨_, rfl, p, A.dx, _, rfl, go.gs.ins, by kernel_rfl, _, rfl, by show 2 ≤ sizeLine; decide, fun t190 n191 => ?_⟩
  have s194 := same_upd (o := .tup [V.str b, .int 0]) n191
  have e192 := upd_same (H := H91) (a := t190) (o := .tup [V.str b, .int 0])
  generalize upd H91 t190 (.tup [V.str b, .int 0]) = H193 at *
  replace go := go.post s194
  clear s194 n191
  refine ⟨by show 1 ≤ sizeLine; decide, fun t195 n196 => ?_⟩
  have s199 := same_upd (o := .tup [V.str "hide"]) n196
  have e197 := upd_same (H := H193) (a := t195) (o := .tup [V.str "hide"])
  generalize upd H193 t195 (.tup [V.str "hide"]) = H198 at *
  replace go := go.post s199
  replace e192 := s199 _ _ e192
  clear s199 n196
  refine ⟨p, t190, t195, .ref e0, A, "hide", [], [], [], _, 1, one_ b 2 2 0 [(n, 5)] 0 true, [], [], .non, _, rfl, go.gs, .inl e192, rfl, .inr (.inl (.inl e197)), .nil, by show 0 ≤ 100; decide, (fun L hL => nomatch hL), ⟨e0, [], rfl, .inr (he0 _), .nil⟩, by decide, rfl, .spot (by decide +kernel) (.inr (.inl ⟨rfl, rfl, rfl⟩)), fun H92 g => ?_⟩
  replace g : Go w K C CH H198 p A (grd a b [(n, m)] [(r, [m, 2, 3, 4, 5, 6, 7])] [one_ a 2 2 2 [] 0 true, one_ b 2 2 0 [(n, 5)] 0 false]) A H92 := g
  clear e192 e197
  replace go := go.trans g
  clear g
  refine ⟨_, rfl, p, A.dx, _, rfl, go.gs.ins, by kernel_rfl, _, rfl, by show 2 ≤ sizeLine; decide, fun t200 n201 => ?_⟩
  have s204 := same_upd (o := .tup [V.str a, .int 0]) n201
  have e202 := upd_same (H := H92) (a := t200) (o := .tup [V.str a, .int 0])
  generalize upd H92 t200 (.tup [V.str a, .int 0]) = H203 at *
  replace go := go.post s204
  clear s204 n201
  refine ⟨p, t200, _, one_ a 2 2 2 [] 0 true, rfl, go.gs.at, .inl e202, List.mem_cons_self .., fun v205 H206 as209 s207 d208 _ => ?_⟩
  rw [show metP _ (one_ a 2 2 2 [] 0 true) = .list [] from by unfold metP; rw [met3 W]; rfl] at d208
  replace d208 := tr_dp _ _ _ d208
  clear e202
  replace go := go.post s207
  refine ⟨_, rfl, p, A.dx, _, rfl, go.gs.ins, by kernel_rfl, _, rfl, by show 2 ≤ sizeLine; decide, fun t210 n211 => ?_⟩
  have s214 := same_upd (o := .tup [V.str b, .int 0]) n211
  have e212 := upd_same (H := H206) (a := t210) (o := .tup [V.str b, .int 0])
  generalize upd H206 t210 (.tup [V.str b, .int 0]) = H213 at *
  replace go := go.post s214
  replace d208 := dp_same s214 _ _ d208
  clear s214 n211
  refine ⟨p, t210, _, one_ b 2 2 0 [(n, 5)] 0 false, rfl, go.gs.at, .inl e212, List.mem_cons_of_mem _ (List.mem_cons_self ..), fun v215 H216 as219 s217 d218 _ => ?_⟩
  rw [show metP _ (one_ b 2 2 0 [(n, 5)] 0 false) = .list [] from by unfold metP; rw [met_not rfl]; rfl] at d218
  replace d218 := tr_dp _ _ _ d218
  clear e212
  replace go := go.post s217
  replace d208 := dp_same s217 _ _ d208
  refine ⟨_, rfl, p, A.dx, _, rfl, go.gs.ins, by kernel_rfl, _, rfl, by show 2 ≤ sizeLine; decide, fun t220 n221 => ?_⟩
  have s224 := same_upd (o := .tup [V.str b, .int 0]) n221
  have e222 := upd_same (H := H216) (a := t220) (o := .tup [V.str b, .int 0])
  generalize upd H216 t220 (.tup [V.str b, .int 0]) = H223 at *
  replace go := go.post s224
  replace d208 := dp_same s224 _ _ d208
  replace d218 := dp_same s224 _ _ d218
  clear s224 n221
  refine ⟨p, t220, _, one_ b 2 2 0 [(n, 5)] 0 false, rfl, go.gs.at, .inl e222, List.mem_cons_of_mem _ (List.mem_cons_self ..), fun H93 s93 => ?_⟩
  clear e222
  replace go := go.post s93
  replace d208 := dp_same s93 _ _ d208
  replace d218 := dp_same s93 _ _ d218
  refine ⟨by show 3 ≤ sizeLine; decide, fun t225 n226 => ?_⟩
  have s229 := same_upd (o := .lst [v205, v215, .bl (one_ b 2 2 0 [(n, 5)] 0 false).sh]) n226
  have e227 := upd_same (H := H93) (a := t225) (o := .lst [v205, v215, .bl (one_ b 2 2 0 [(n, 5)] 0 false).sh])
  have n_e227 := go.gs.new n226
  generalize upd H93 t225 (.lst [v205, v215, .bl (one_ b 2 2 0 [(n, 5)] 0 false).sh]) = H228 at *
  replace go := go.post s229
  replace d208 := dp_same s229 _ _ d208
  replace d218 := dp_same s229 _ _ d218
  clear s229 n226
  refine ⟨by show 0 ≤ sizeLine; decide, fun t230 n231 => ?_⟩
  have s234 := same_upd (o := .lst []) n231
  have e232 := upd_same (H := H228) (a := t230) (o := .lst [])
  have n_e232 := go.gs.new n231
  generalize upd H228 t230 (.lst []) = H233 at *
  replace go := go.post s234
  replace d208 := dp_same s234 _ _ d208
  replace d218 := dp_same s234 _ _ d218
  replace e227 := s234 _ _ e227
  clear s234 n231
  refine ⟨by show 0 ≤ sizeLine; decide, fun t235 n236 => ?_⟩
  have s239 := same_upd (o := .lst []) n236
  have e237 := upd_same (H := H233) (a := t235) (o := .lst [])
  have n_e237 := go.gs.new n236
  generalize upd H233 t235 (.lst []) = H238 at *
  replace go := go.post s239
  replace d208 := dp_same s239 _ _ d208
  replace d218 := dp_same s239 _ _ d218
  replace e227 := s239 _ _ e227
  replace e232 := s239 _ _ e232
  clear s239 n236
  refine ⟨by show 3 ≤ sizeLine; decide, fun t240 n241 => ?_⟩
  have s244 := same_upd (o := .lst [V.ref t230, .ref t235, .bl false]) n241
  have e242 := upd_same (H := H238) (a := t240) (o := .lst [V.ref t230, .ref t235, .bl false])
  have n_e242 := go.gs.new n241
  generalize upd H238 t240 (.lst [V.ref t230, .ref t235, .bl false]) = H243 at *
  replace go := go.post s244
  replace d208 := dp_same s244 _ _ d208
  replace d218 := dp_same s244 _ _ d218
  replace e227 := s244 _ _ e227
  replace e232 := s244 _ _ e232
  replace e237 := s244 _ _ e237
  clear s244 n241
  refine ⟨_, _, .list [.list [], .list [], .bool false], rfl, .lst (SqL.of e227) (.cons d208 (.cons d218 (.cons (.bl _) .nil))), .lst (SqL.of e242) (.cons (.lst (SqL.of e232) .nil) (.cons (.lst (SqL.of e237) .nil) (.cons (.bl _) .nil))), okd_list (n := 8) (by show 3 ≤ 1000; decide) (mem_c (okd_list (n := 7) (by show 0 ≤ 1000; decide) mem_0) (mem_c (okd_list (n := 7) (by show 0 ≤ 1000; decide) mem_0) (mem_c (okd_bool _) mem_0))), fun H94 s94 => q H94 (go.post s94)⟩
end
end Fd

set_option Elab.async false
set_option linter.all false
set_option maxRecDepth 100000
set_option maxHeartbeats 2000000
namespace Fd
open PySem PySem.Spec PyProof.Rows L2 RZ Fw LamX
theorem Go.free {w : World} {K : PySem.W.Frag} {C CH : Addr} {H H' : Hp} {p D : Addr} {G' : Gs} {A A' : GA} (g : Go w K C CH H p A G' A' H') (e : H' D = none) (n : D ∉ A.fp p) : H D = none := by
  cases h : H D with
  | none => rfl
  | some u => rw [g.but D u n h] at e; cases e
theorem Go.write {w : World} {K : PySem.W.Frag} {C CH : Addr} {H H' : Hp} {p D : Addr} {G' : Gs} {A A' : GA} {xs : List V} (g : Go w K C CH H p A G' A' H') (hD : H D = none) (n : D ∉ A'.fp p) (e : H' D = some (.lst xs)) (o : HO) : Go w K C CH H p A G' A' (upd H' D o) := by
  refine ⟨fun b u nb x => ?_, g.gs.fr (fun b hb u x => ?_) ⟨(fun b ys _ c => nomatch c), fun b ys x => ?_, fun b ob ys x => ?_⟩, g.new⟩
  · rw [upd_ne (ne_of_none x hD)]
    exact g.but b u nb x
  · rw [upd_ne fun z => n (by rw [← z]; exact hb)]
    exact x
  · rw [upd_ne (ne_of x e nofun)]
    exact x
  · rw [upd_ne (ne_of x e nofun)]
    exact x
theorem act_add {x v : Int} (h1 : -1000000 ≤ x + v) (h2 : x + v ≤ 1000000) : actN "add" x v = .ok (x + v) := by
  unfold actN
  rw [if_neg (by decide +kernel), if_pos (inB_of h1 h2)]
theorem val_spot {E : Fv.Ey} {k : Nat} {x : Int} (h : E.spot.getD k 0 = x) (hx : Fv.inB x = true) : Fv.val E (.spot k) = .ok x := by
  show Fv.far (.ok (E.spot.getD k 0)) = _
  rw [h]
  exact if_pos hx
theorem act_far {x v : Int} (h1 : 1000000 < x + v) : actN "add" x v = .error "far" := by
  unfold actN
  rw [if_neg (by decide +kernel), if_neg (by unfold Fv.inB; rw [decide_eq_false (show ¬ x + v ≤ 1000000 by omega), Bool.and_false]; exact Bool.false_ne_true)]
theorem act_put {row : List Int} {v : Int} {ws : List Int} (h : row.length < 8) : actR "put" row v ws = .ok (row ++ [v]) := by
  unfold actR
  rw [if_pos rfl, if_pos h]
theorem act_full {row : List Int} {v : Int} {ws : List Int} (h : ¬ row.length < 8) : actR "put" row v ws = .error "full" := by
  unfold actR
  rw [if_pos rfl, if_neg h]
theorem act_none {z : Str} {row : List Int} {v : Int} {ws : List Int} (hz : z ≠ "put") (h : ¬ (0 ≤ v ∧ v < row.length)) : actR z row v ws = .error "none" := by
  unfold actR
  rw [if_neg hz, if_neg h]
theorem act_drop {row : List Int} {v : Int} {ws : List Int} (h : 0 ≤ v ∧ v < row.length) : actR "drop" row v ws = .ok (row.eraseIdx v.toNat) := by
  unfold actR
  rw [if_neg (by decide +kernel), if_pos h, if_pos rfl]
theorem act_write {row : List Int} {v : Int} {ws : List Int} (h : 0 ≤ v ∧ v < row.length) : actR "write" row v ws = .ok (row.set v.toNat (ws.headD 0)) := by
  unfold actR
  rw [if_neg (by decide +kernel), if_pos h, if_neg (by decide +kernel)]
section
variable {P : Program} {w : World} {K : PySem.W.Frag} {mg : Str → Option Value} {base : Heap} {f C CH : Addr} {fd : FuncData}
abbrev sNr : Stmt := top 45
def spNr_ (w : World) (K : PySem.W.Frag) (C CH : Addr) : Sp := fun vs H Q _ => ∃ (p : Addr) (A : GA) (a b n r : Str) (m : Int), vs = [.ref p, .str a, .str b, .str n, .str r, .int m] ∧ GsF w K C CH H p (grd a b [(n, m)] [(r, [m, 2, 3, 4, 5, 6, 7])] [one_ a 2 2 2 [] 0 true, one_ b 2 2 0 [(n, 5)] 0 false]) A ∧ Wd a b n r m ∧
  ∀ H', Go w K C CH H p A (grd a b [(n, m + 10)] [(r, [2, 3, 4, 5, 6, 7, 2])] [one_ a 2 2 2 [] 0 true, one_ b 2 2 0 [(n, -7)] 0 false]) A H' → Q (.bl true) H'
theorem scNr : FnScope ["_law_ground", "_law_a", "_law_b", "_law_name", "_law_row", "_law_more", "_law_told", "_law_word"] ["_law_ground", "_law_a", "_law_b", "_law_name", "_law_row", "_law_more"] (defScope sNr) := ⟨rfl, rfl, rfl, by decide +kernel, rfl, by decide +kernel, by decide +kernel⟩
theorem ok_nr {k kH : Nat} (F : Fun K "_law_names_right" "_law_names_right" sNr f fd) (c_G : Cls K C) (hk : kH ≤ k) (GD : MthD P w K mg base C CH kH) (GN : MthK P w K mg base C kH 1 "names" "one" .non ["self", "one"] (spGN w K C CH)) (GL : MthK P w K mg base C kH 1 "lists" "one" .non ["self", "one"] (spGR w K C CH)) (GF : FnG P w K mg base CX0 kH "_law_fell" ["_law_ground", "_law_who", "_law_deed"] (spFe w K C CH)) (GSa : FnG P w K mg base CX0 kH "_law_same" ["_law_found", "_law_due"] (spSame K 9)) : FnOk P w K mg base CX0 (k + 1) f fd ["_law_ground", "_law_a", "_law_b", "_law_name", "_law_row", "_law_more"] (spNr_ w K C CH) := by
  obtain ⟨_, _, _, e0, M_do, G_do, b_do, d_do, he0⟩ := GD
  obtain ⟨_, _, _, M_names, G_names, b_names, d_names, b_names_kw⟩ := GN
  obtain ⟨_, _, _, M_lists, G_lists, b_lists, d_lists, b_lists_kw⟩ := GL
  obtain ⟨_, _, G__law_fell, m__law_fell, k__law_fell, b__law_fell⟩ := GF
  obtain ⟨_, _, G__law_same, m__law_same, k__law_same, b__law_same⟩ := GSa
  have sc := scNr
  refine F.ok sc (fun vs H Q E h => ?_) (fun cdv A outer s H vs Q E hr h => ?_)
  · obtain ⟨p, A, a, b, n, r, m, rfl, _⟩ := h
    rfl
  obtain ⟨p, A, a, b, n, r, m, rfl, hp, W, q⟩ := h
  refine ⟨_, (pss_cons (ps_expr (pe_meth (pv 0) c_G M_do G_do (hr.mono (by omega)) b_do d_do pass0 (pa_cons (pe_tup (pa_cons (pv 1) (pa_cons pe_int pa_nil))) (pa_cons (pe_tup (pa_cons pe_str (pa_cons (pv 3) (pa_cons pe_int pa_nil)))) pa_nil))))
      (pss_cons (ps_expr (pe_meth (pv 0) c_G M_do G_do (hr.mono (by omega)) b_do d_do pass0 (pa_cons (pe_tup (pa_cons (pv 2) (pa_cons pe_int pa_nil))) (pa_cons (pe_tup (pa_cons pe_str (pa_cons (pv 3) (pa_cons (pe_tup (pa_cons pe_str (pa_cons (pe_tup (pa_cons pe_str (pa_cons (pv 3) pa_nil))) (pa_cons pe_int pa_nil)))) pa_nil)))) pa_nil))))
      (pss_cons (ps_if (pt_not (pt_val (pe_call G__law_same (hr.mono (by omega)) (by rfl) m__law_same k__law_same b__law_same .nil pass0 (pa_cons (pe_lst (pa_cons (pe_meth0 (pv 0) c_G M_names G_names (hr.mono (by omega)) b_names d_names pass0) (pa_cons (Fw.pe_methK0 (pv 0) c_G M_names G_names (hr.mono (by omega)) b_names_kw pass0 (pk_cons (pe_tup (pa_cons (pv 2) (pa_cons pe_int pa_nil))) pk_nil)) (pa_cons (Fw.pe_methK0 (pv 0) c_G M_names G_names (hr.mono (by omega)) b_names_kw pass0 (pk_cons (pe_tup (pa_cons (pv 1) (pa_cons pe_int pa_nil))) pk_nil)) pa_nil)))) (pa_cons (pe_lst (pa_cons (pe_lst (pa_cons (pe_tup (pa_cons (pv 3) (pa_cons (pe_op op_add (pv 5) pe_int) pa_nil))) pa_nil)) (pa_cons (pe_lst (pa_cons (pe_tup (pa_cons (pv 3) (pa_cons (pe_un un_neg pe_int) pa_nil))) pa_nil)) (pa_cons (pe_lst pa_nil) pa_nil)))) pa_nil))))) (pss_one (ps_ret pe_bl)) pss_nil)
      (pss_cons (ps_setLc (i := 6) (own := [("_law_word", 7)]) (by rfl) sc.nd rfl rfl (sw_true rfl rfl rfl (by decide +kernel)) (pi_tup (pe_tup (pa_cons pe_str (pa_cons pe_str (pa_cons pe_str pa_nil))))) (blkOk_by (own := [("_law_word", 7)]) (N := ["_law_ground", "_law_a", "_law_b", "_law_name", "_law_row", "_law_more", "_law_told", "_law_word"]) (sc := defScope sNr) (by decide +kernel)) (fun _ _ _ _ _ => (pg_name (i := 7) sc.nd rfl (.inl rfl))) (fun _ _ _ _ _ => pts_nil) (fun _ _ _ _ _ => (pe_meth (pv 0) c_G M_do G_do (hr.mono (by omega)) b_do d_do pass0 (pa_cons (pe_tup (pa_cons (pv 2) (pa_cons pe_int pa_nil))) (pa_cons (pe_tup (pa_cons pe_str (pa_cons (pe_tup (pa_cons (pv 7) (pa_cons (pe_tup (pa_cons pe_str (pa_cons (pv 3) pa_nil))) (pa_cons pe_int pa_nil)))) pa_nil))) pa_nil)))))
      (pss_cons (ps_if (PW.pt (pw_or (pt_cmpR (op_neD hr.units) (pv 6) (pe_lst (pa_cons (pe_un un_neg pe_int) (pa_cons pe_int (pa_cons (pe_un un_neg pe_int) pa_nil)))) (nomark _)) (pw_or1 (pt_cmpR op_ne (pe_call G__law_fell (hr.mono (by omega)) (by rfl) m__law_fell k__law_fell b__law_fell .nil pass0 (pa_cons (pv 0) (pa_cons (pe_tup (pa_cons (pv 1) (pa_cons pe_int pa_nil))) (pa_cons (pe_tup (pa_cons pe_str (pa_cons (pv 3) (pa_cons (pe_op op_pow pe_int pe_int) pa_nil)))) pa_nil)))) pe_str (nomark _))))) (pss_one (ps_ret pe_bl)) pss_nil)
      (pss_cons (ps_expr (pe_meth (pv 0) c_G M_do G_do (hr.mono (by omega)) b_do d_do pass0 (pa_cons (pe_tup (pa_cons (pv 1) (pa_cons pe_int pa_nil))) (pa_cons (pe_tup (pa_cons pe_str (pa_cons (pv 4) (pa_cons (pe_tup (pa_cons pe_str pa_nil)) pa_nil)))) pa_nil))))
      (pss_cons (ps_if (PW.pt (pw_or (pt_cmpR op_ne (pe_call G__law_fell (hr.mono (by omega)) (by rfl) m__law_fell k__law_fell b__law_fell .nil pass0 (pa_cons (pv 0) (pa_cons (pe_tup (pa_cons (pv 2) (pa_cons pe_int pa_nil))) (pa_cons (pe_tup (pa_cons pe_str (pa_cons (pv 4) (pa_cons pe_int pa_nil)))) pa_nil)))) pe_str (nomark _)) (pw_or1 (pt_cmpR op_ne (pe_call G__law_fell (hr.mono (by omega)) (by rfl) m__law_fell k__law_fell b__law_fell .nil pass0 (pa_cons (pv 0) (pa_cons (pe_tup (pa_cons (pv 1) (pa_cons pe_int pa_nil))) (pa_cons (pe_tup (pa_cons pe_str (pa_cons (pv 4) (pa_cons pe_int pa_nil)))) pa_nil)))) pe_str (nomark _))))) (pss_one (ps_ret pe_bl)) pss_nil)
      (pss_cons (ps_expr (pe_meth (pv 0) c_G M_do G_do (hr.mono (by omega)) b_do d_do pass0 (pa_cons (pe_tup (pa_cons (pv 2) (pa_cons pe_int pa_nil))) (pa_cons (pe_tup (pa_cons pe_str (pa_cons (pv 4) (pa_cons pe_int pa_nil)))) pa_nil))))
      (pss_cons (ps_expr (pe_meth (pv 0) c_G M_do G_do (hr.mono (by omega)) b_do d_do pass0 (pa_cons (pe_tup (pa_cons (pv 2) (pa_cons pe_int pa_nil))) (pa_cons (pe_tup (pa_cons pe_str (pa_cons (pv 4) (pa_cons pe_int (pa_cons (pe_tup (pa_cons pe_str (pa_cons (pv 4) pa_nil))) pa_nil))))) pa_nil))))
      (pss_cons (ps_if (pt_cmpR op_ne (pe_call G__law_fell (hr.mono (by omega)) (by rfl) m__law_fell k__law_fell b__law_fell .nil pass0 (pa_cons (pv 0) (pa_cons (pe_tup (pa_cons (pv 1) (pa_cons pe_int pa_nil))) (pa_cons (pe_tup (pa_cons pe_str (pa_cons (pv 4) (pa_cons (pe_un un_neg pe_int) (pa_cons pe_int pa_nil))))) pa_nil)))) pe_str (nomark _)) (pss_one (ps_ret pe_bl)) pss_nil)
      (pss_one (ps_ret (pe_call G__law_same (hr.mono (by omega)) (by rfl) m__law_same k__law_same b__law_same .nil pass0 (pa_cons (pe_meth0 (pv 0) c_G M_lists G_lists (hr.mono (by omega)) b_lists d_lists pass0) (pa_cons (pe_lst (pa_cons (pe_tup (pa_cons (pv 4) (pa_cons (pe_lst (pa_cons pe_int (pa_cons pe_int (pa_cons pe_int (pa_cons pe_int (pa_cons pe_int (pa_cons pe_int (pa_cons pe_int pa_nil)))))))) pa_nil))) pa_nil)) pa_nil))))))))))))))), ?_⟩
  have go := Go.keep hp (Same.refl H)
  refine ⟨_, rfl, p, A.dx, _, rfl, go.gs.ins, by kernel_rfl, _, rfl, by show 2 ≤ sizeLine; decide, fun t1 n2 => ?_⟩
  have s5 := same_upd (o := .tup [V.str a, .int 0]) n2
  have e3 := upd_same (H := H) (a := t1) (o := .tup [V.str a, .int 0])
  generalize upd H t1 (.tup [V.str a, .int 0]) = H4 at *
  replace go := go.post s5
  clear s5 n2
  refine ⟨_, rfl, by show 3 ≤ sizeLine; decide, fun t6 n7 => ?_⟩
  have s10 := same_upd (o := .tup [V.str "add", .str n, .int 10]) n7
  have e8 := upd_same (H := H4) (a := t6) (o := .tup [V.str "add", .str n, .int 10])
  generalize upd H4 t6 (.tup [V.str "add", .str n, .int 10]) = H9 at *
  replace go := go.post s10
  replace e3 := s10 _ _ e3
  clear s10 n7
  refine ⟨p, t1, t6, .ref e0, A, "add", [.str n], [.int 10], [.num 10], _, 0, one_ a 2 2 2 [] 0 true, [], _, .non, (grd a b [(n, m + 10)] [(r, [m, 2, 3, 4, 5, 6, 7])] [one_ a 2 2 2 [] 0 true, one_ b 2 2 0 [(n, 5)] 0 false]), rfl, go.gs, .inl e3, rfl, .inr (.inl (.inl e8)), .cons (.num _) .nil, by show 1 ≤ 100; decide, (fun L hL => by rw [List.mem_singleton.mp hL]; show 1 ≤ 6; decide), ⟨e0, [], rfl, .inr (he0 _), .nil⟩, by decide, vals_num (by decide), .held (.inl (by decide +kernel)) (G' := (grd a b [(n, m + 10)] [(r, [m, 2, 3, 4, 5, 6, 7])] [one_ a 2 2 2 [] 0 true, one_ b 2 2 0 [(n, 5)] 0 false])) ((held_nm0 (n := n) (old := m) (nm := []) (u := m + 10) (by decide +kernel) rfl rfl (act_add (by have := W.m0; omega) (by have := W.m1; omega))).trans (congrArg (fun x => Except.ok (Gs.nm_ _ x)) setN1)), fun H81 g => ?_⟩
  clear e3 e8
  replace go := go.trans g
  clear g
  refine ⟨_, rfl, p, A.dx, _, rfl, go.gs.ins, by kernel_rfl, _, rfl, by show 2 ≤ sizeLine; decide, fun t11 n12 => ?_⟩
  have s15 := same_upd (o := .tup [V.str b, .int 0]) n12
  have e13 := upd_same (H := H81) (a := t11) (o := .tup [V.str b, .int 0])
  generalize upd H81 t11 (.tup [V.str b, .int 0]) = H14 at *
  replace go := go.post s15
  clear s15 n12
  refine ⟨_, rfl, _, rfl, by show 2 ≤ sizeLine; decide, fun t16 n17 => ?_⟩
  have s20 := same_upd (o := .tup [V.str "name", .str n]) n17
  have e18 := upd_same (H := H14) (a := t16) (o := .tup [V.str "name", .str n])
  generalize upd H14 t16 (.tup [V.str "name", .str n]) = H19 at *
  replace go := go.post s20
  replace e13 := s20 _ _ e13
  clear s20 n17
  refine ⟨by show 3 ≤ sizeLine; decide, fun t21 n22 => ?_⟩
  have s25 := same_upd (o := .tup [V.str "minus", .ref t16, .int 12]) n22
  have e23 := upd_same (H := H19) (a := t21) (o := .tup [V.str "minus", .ref t16, .int 12])
  generalize upd H19 t21 (.tup [V.str "minus", .ref t16, .int 12]) = H24 at *
  replace go := go.post s25
  replace e13 := s25 _ _ e13
  replace e18 := s25 _ _ e18
  clear s25 n22
  refine ⟨by show 3 ≤ sizeLine; decide, fun t26 n27 => ?_⟩
  have s30 := same_upd (o := .tup [V.str "set", .str n, .ref t21]) n27
  have e28 := upd_same (H := H24) (a := t26) (o := .tup [V.str "set", .str n, .ref t21])
  generalize upd H24 t26 (.tup [V.str "set", .str n, .ref t21]) = H29 at *
  replace go := go.post s30
  replace e13 := s30 _ _ e13
  replace e18 := s30 _ _ e18
  replace e23 := s30 _ _ e23
  clear s30 n27
  refine ⟨p, t11, t26, .ref e0, A, "set", [.str n], [.ref t21], [.bin .minus (.name n) (.num 12)], _, 1, one_ b 2 2 0 [(n, 5)] 0 false, [], _, .non, (grd a b [(n, m + 10)] [(r, [m, 2, 3, 4, 5, 6, 7])] [one_ a 2 2 2 [] 0 true, one_ b 2 2 0 [(n, -7)] 0 false]), rfl, go.gs, .inl e13, rfl, .inr (.inl (.inl e28)), .cons (.bin (.inl (.inl (.inl e23))) (.name (.inl (.inl (.inl e18)))) (.num 12)) .nil, by show 1 ≤ 100; decide, (fun L hL => by rw [List.mem_singleton.mp hL]; show 2 ≤ 6; decide), ⟨e0, [], rfl, .inr (he0 _), .nil⟩, by decide, vals_one (val_bin (val_name (l := [(n, m + 10)]) rfl (by decide)) (val_num (by decide)) rfl (by decide)), .held (.inl (by decide +kernel)) (G' := (grd a b [(n, m + 10)] [(r, [m, 2, 3, 4, 5, 6, 7])] [one_ a 2 2 2 [] 0 true, one_ b 2 2 0 [(n, -7)] 0 false])) ((held_nmI (n := n) (old := 5) (nm := []) (u := -7) (by decide +kernel) rfl rfl).trans (congrArg (fun x => Except.ok (Gs.put _ _ (One.ns_ _ x))) setN1)), fun H82 g => ?_⟩
  clear e13 e28 e18 e23
  replace go := go.trans g
  clear g
  refine ⟨_, rfl, p, A.dx, _, rfl, go.gs.ins, by kernel_rfl, p, .non, _, _, _, rfl, go.gs.at, .inl ⟨rfl, rfl, rfl⟩, fun v31 H32 as35 s33 d34 _ => ?_⟩
  replace d34 := tr_dp _ _ _ d34
  replace d34 : Dp K H32 v31 (nmD [(n, m + 10)]) := d34
  replace go := go.post s33
  refine ⟨_, rfl, p, A.dx, _, rfl, go.gs.ins, by kernel_rfl, _, rfl, by show 2 ≤ sizeLine; decide, fun t41 n42 => ?_⟩
  have s45 := same_upd (o := .tup [V.str b, .int 0]) n42
  have e43 := upd_same (H := H32) (a := t41) (o := .tup [V.str b, .int 0])
  generalize upd H32 t41 (.tup [V.str b, .int 0]) = H44 at *
  replace go := go.post s45
  replace d34 := dp_same s45 _ _ d34
  clear s45 n42
  refine ⟨rfl, rfl, p, .ref t41, _, _, _, rfl, go.gs.at, .inr ⟨t41, one_ b 2 2 0 [(n, -7)] 0 false, rfl, .inl e43, List.mem_cons_of_mem _ (List.mem_cons_self ..), rfl, rfl⟩, fun v36 H37 as40 s38 d39 _ => ?_⟩
  clear e43
  replace d39 := tr_dp _ _ _ d39
  replace d39 : Dp K H37 v36 (nmD [(n, -7)]) := d39
  replace go := go.post s38
  replace d34 := dp_same s38 _ _ d34
  refine ⟨_, rfl, p, A.dx, _, rfl, go.gs.ins, by kernel_rfl, _, rfl, by show 2 ≤ sizeLine; decide, fun t51 n52 => ?_⟩
  have s55 := same_upd (o := .tup [V.str a, .int 0]) n52
  have e53 := upd_same (H := H37) (a := t51) (o := .tup [V.str a, .int 0])
  generalize upd H37 t51 (.tup [V.str a, .int 0]) = H54 at *
  replace go := go.post s55
  replace d34 := dp_same s55 _ _ d34
  replace d39 := dp_same s55 _ _ d39
  clear s55 n52
  refine ⟨rfl, rfl, p, .ref t51, _, _, _, rfl, go.gs.at, .inr ⟨t51, one_ a 2 2 2 [] 0 true, rfl, .inl e53, List.mem_cons_self .., rfl, rfl⟩, fun v46 H47 as50 s48 d49 _ => ?_⟩
  clear e53
  replace d49 := tr_dp _ _ _ d49
  replace d49 : Dp K H47 v46 (nmD []) := d49
  replace go := go.post s48
  replace d34 := dp_same s48 _ _ d34
  replace d39 := dp_same s48 _ _ d39
  refine ⟨by show 3 ≤ sizeLine; decide, fun t56 n57 => ?_⟩
  have s60 := same_upd (o := .lst [v31, v36, v46]) n57
  have e58 := upd_same (H := H47) (a := t56) (o := .lst [v31, v36, v46])
  have n_e58 := go.gs.new n57
  generalize upd H47 t56 (.lst [v31, v36, v46]) = H59 at *
  replace go := go.post s60
  replace d34 := dp_same s60 _ _ d34
  replace d39 := dp_same s60 _ _ d39
  replace d49 := dp_same s60 _ _ d49
  clear s60 n57
  refine ⟨_, rfl, _, rfl, _, _, rfl, rfl, by show 2 ≤ sizeLine; decide, fun t61 n62 => ?_⟩
  have s65 := same_upd (o := .tup [V.str n, .int (m + 10)]) n62
  have e63 := upd_same (H := H59) (a := t61) (o := .tup [V.str n, .int (m + 10)])
  generalize upd H59 t61 (.tup [V.str n, .int (m + 10)]) = H64 at *
  replace go := go.post s65
  replace d34 := dp_same s65 _ _ d34
  replace d39 := dp_same s65 _ _ d39
  replace d49 := dp_same s65 _ _ d49
  replace e58 := s65 _ _ e58
  clear s65 n62
  refine ⟨by show 1 ≤ sizeLine; decide, fun t66 n67 => ?_⟩
  have s70 := same_upd (o := .lst [V.ref t61]) n67
  have e68 := upd_same (H := H64) (a := t66) (o := .lst [V.ref t61])
  have n_e68 := go.gs.new n67
  generalize upd H64 t66 (.lst [V.ref t61]) = H69 at *
  replace go := go.post s70
  replace d34 := dp_same s70 _ _ d34
  replace d39 := dp_same s70 _ _ d39
  replace d49 := dp_same s70 _ _ d49
  replace e58 := s70 _ _ e58
  replace e63 := s70 _ _ e63
  clear s70 n67
  refine ⟨_, rfl, _, rfl, by show 2 ≤ sizeLine; decide, fun t71 n72 => ?_⟩
  have s75 := same_upd (o := .tup [V.str n, .int (-7)]) n72
  have e73 := upd_same (H := H69) (a := t71) (o := .tup [V.str n, .int (-7)])
  generalize upd H69 t71 (.tup [V.str n, .int (-7)]) = H74 at *
  replace go := go.post s75
  replace d34 := dp_same s75 _ _ d34
  replace d39 := dp_same s75 _ _ d39
  replace d49 := dp_same s75 _ _ d49
  replace e58 := s75 _ _ e58
  replace e63 := s75 _ _ e63
  replace e68 := s75 _ _ e68
  clear s75 n72
  refine ⟨by show 1 ≤ sizeLine; decide, fun t76 n77 => ?_⟩
  have s80 := same_upd (o := .lst [V.ref t71]) n77
  have e78 := upd_same (H := H74) (a := t76) (o := .lst [V.ref t71])
  have n_e78 := go.gs.new n77
  generalize upd H74 t76 (.lst [V.ref t71]) = H79 at *
  replace go := go.post s80
  replace d34 := dp_same s80 _ _ d34
  replace d39 := dp_same s80 _ _ d39
  replace d49 := dp_same s80 _ _ d49
  replace e58 := s80 _ _ e58
  replace e63 := s80 _ _ e63
  replace e68 := s80 _ _ e68
  replace e73 := s80 _ _ e73
  clear s80 n77
  refine ⟨by show 0 ≤ sizeLine; decide, fun t81 n82 => ?_⟩
  have s85 := same_upd (o := .lst []) n82
  have e83 := upd_same (H := H79) (a := t81) (o := .lst [])
  have n_e83 := go.gs.new n82
  generalize upd H79 t81 (.lst []) = H84 at *
  replace go := go.post s85
  replace d34 := dp_same s85 _ _ d34
  replace d39 := dp_same s85 _ _ d39
  replace d49 := dp_same s85 _ _ d49
  replace e58 := s85 _ _ e58
  replace e63 := s85 _ _ e63
  replace e68 := s85 _ _ e68
  replace e73 := s85 _ _ e73
  replace e78 := s85 _ _ e78
  clear s85 n82
  refine ⟨by show 3 ≤ sizeLine; decide, fun t86 n87 => ?_⟩
  have s90 := same_upd (o := .lst [V.ref t66, .ref t76, .ref t81]) n87
  have e88 := upd_same (H := H84) (a := t86) (o := .lst [V.ref t66, .ref t76, .ref t81])
  have n_e88 := go.gs.new n87
  generalize upd H84 t86 (.lst [V.ref t66, .ref t76, .ref t81]) = H89 at *
  replace go := go.post s90
  replace d34 := dp_same s90 _ _ d34
  replace d39 := dp_same s90 _ _ d39
  replace d49 := dp_same s90 _ _ d49
  replace e58 := s90 _ _ e58
  replace e63 := s90 _ _ e63
  replace e68 := s90 _ _ e68
  replace e73 := s90 _ _ e73
  replace e78 := s90 _ _ e78
  replace e83 := s90 _ _ e83
  clear s90 n87
  refine ⟨_, _, .list [nmD [(n, m + 10)], nmD [(n, -7)], nmD []], rfl, .lst (SqL.of e58) (.cons d34 (.cons d39 (.cons d49 .nil))), .lst (SqL.of e88) (.cons (.lst (SqL.of e68) (.cons (.tup (.inl (.inl e63)) (.cons (.str _) (.cons (.int _) .nil))) .nil)) (.cons (.lst (SqL.of e78) (.cons (.tup (.inl (.inl e73)) (.cons (.str _) (.cons (.int _) .nil))) .nil)) (.cons (.lst (SqL.of e83) .nil) .nil))), okd_list (n := 8) (by show 3 ≤ 1000; decide) (mem_c (okd_nm (n := 5) (by show 1 ≤ 1000; decide)) (mem_c (okd_nm (n := 5) (by show 1 ≤ 1000; decide)) (mem_c (okd_nm (n := 5) (by show 0 ≤ 1000; decide)) mem_0))), fun H71 s71 => ⟨true, rfl, ?_⟩⟩
  clear e58 e63 e68 e73 e78 e83 e88 d34 d39 d49
  replace go := go.post s71
  clear s71
  refine iteF ?_
  refine ⟨by show 3 ≤ sizeLine; decide, fun t91 n92 => ?_⟩
  have s95 := same_upd (o := .tup [V.str "over", .str "rest", .str "by"]) n92
  have e93 := upd_same (H := H71) (a := t91) (o := .tup [V.str "over", .str "rest", .str "by"])
  generalize upd H71 t91 (.tup [V.str "over", .str "rest", .str "by"]) = H94 at *
  replace go := go.post s95
  clear s95 n92
  refine ⟨t91, rfl, ⟨_, .inl (.inl e93)⟩, fun D nD => lc_it (walk_tup (xs := [V.str "over", .str "rest", .str "by"])) (fun i H' => Go w K C CH H p A (grd a b [(n, m + 10)] [(r, [m, 2, 3, 4, 5, 6, 7])] [one_ a 2 2 2 [] 0 true, one_ b 2 2 0 [(n, -7)] 0 false]) A H' ∧ H' t91 = some (.tup [V.str "over", .str "rest", .str "by"]) ∧ (D ∉ A.fp p ∧ H D = none) ∧ H' D = some (.lst (([-4, 1, -14] : List Int).take i |>.map V.int))) ⟨go.post (same_upd nD), same_upd nD _ _ e93, ⟨go.gs.new nD, go.free nD (go.gs.new nD)⟩, upd_same⟩ (fun _ _ _ h => .inl (.inl h.2.1)) ?_ ?_⟩
  clear go e93
  · rintro i x _ HB hi ⟨go, ew, nDA, hD⟩ ⟨rfl, ex⟩
    obtain ⟨o, j, ex, ej, hrun, hj⟩ : ∃ (o : Fv.BOp) (j : Int), x = .str o.word ∧ ([-4, 1, -14] : List Int)[i]? = some j ∧ o.run (-7) 2 = .ok j ∧ Fv.inB j = true := by
      match i, hi, ex with
      | 0, _, ex => cases ex; exact ⟨.over, -4, rfl, rfl, rfl, by decide⟩
      | 1, _, ex => cases ex; exact ⟨.rest, 1, rfl, rfl, rfl, by decide⟩
      | 2, _, ex => cases ex; exact ⟨.by_, -14, rfl, rfl, rfl, by decide⟩
    subst ex
    refine ⟨rfl, yesI (iteT ?_)⟩
    refine ⟨_, rfl, p, A.dx, _, rfl, go.gs.ins, by kernel_rfl, _, rfl, by show 2 ≤ sizeLine; decide, fun t96 n97 => ?_⟩
    have s100 := same_upd (o := .tup [V.str b, .int 0]) n97
    have e98 := upd_same (H := HB) (a := t96) (o := .tup [V.str b, .int 0])
    generalize upd HB t96 (.tup [V.str b, .int 0]) = H99 at *
    replace go := go.post s100
    replace ew := s100 _ _ ew
    replace hD := s100 _ _ hD
    clear s100 n97
    refine ⟨_, rfl, _, rfl, by show 2 ≤ sizeLine; decide, fun t101 n102 => ?_⟩
    have s105 := same_upd (o := .tup [V.str "name", .str n]) n102
    have e103 := upd_same (H := H99) (a := t101) (o := .tup [V.str "name", .str n])
    generalize upd H99 t101 (.tup [V.str "name", .str n]) = H104 at *
    replace go := go.post s105
    replace ew := s105 _ _ ew
    replace hD := s105 _ _ hD
    replace e98 := s105 _ _ e98
    clear s105 n102
    refine ⟨by show 3 ≤ sizeLine; decide, fun t106 n107 => ?_⟩
    have s110 := same_upd (o := .tup [V.str o.word, .ref t101, .int 2]) n107
    have e108 := upd_same (H := H104) (a := t106) (o := .tup [V.str o.word, .ref t101, .int 2])
    generalize upd H104 t106 (.tup [V.str o.word, .ref t101, .int 2]) = H109 at *
    replace go := go.post s110
    replace ew := s110 _ _ ew
    replace hD := s110 _ _ hD
    replace e98 := s110 _ _ e98
    replace e103 := s110 _ _ e103
    clear s110 n107
    refine ⟨by show 2 ≤ sizeLine; decide, fun t111 n112 => ?_⟩
    have s115 := same_upd (o := .tup [V.str "say", .ref t106]) n112
    have e113 := upd_same (H := H109) (a := t111) (o := .tup [V.str "say", .ref t106])
    generalize upd H109 t111 (.tup [V.str "say", .ref t106]) = H114 at *
    replace go := go.post s115
    replace ew := s115 _ _ ew
    replace hD := s115 _ _ hD
    replace e98 := s115 _ _ e98
    replace e103 := s115 _ _ e103
    replace e108 := s115 _ _ e108
    clear s115 n112
    have n_hD := nDA.1
    refine ⟨p, t96, t111, .ref e0, A, "say", [], [.ref t106], [.bin o (.name n) (.num 2)], _, 1, one_ b 2 2 0 [(n, -7)] 0 false, [], _, .int j, _, rfl, go.gs, .inl e98, rfl, .inr (.inl (.inl e113)), .cons (.bin (.inl (.inl (.inl e108))) (.name (.inl (.inl (.inl e103)))) (.num 2)) .nil, by show 1 ≤ 100; decide, (fun L hL => by rw [List.mem_singleton.mp hL]; show 2 ≤ 6; decide), ⟨e0, [], rfl, .inr (he0 _), .nil⟩, by decide, vals_one (val_bin (val_name (l := [(n, m + 10)]) rfl (by decide)) (val_num (by decide)) hrun hj), .say _ _, fun H72 g => ?_⟩
    clear e98 e103 e108 e113
    replace ew := (g.kp go.gs).t _ _ ew
    replace hD := g.but _ _ n_hD hD
    replace go := go.trans g
    clear g
    refine ⟨_, hD, ?_, go.write nDA.2 nDA.1 hD _, ?_, nDA, ?_⟩
    · rw [List.length_map, List.length_take]
      exact small1000 (Nat.le_trans (Nat.min_le_right ..) (by show 3 ≤ 1000; decide))
    · rw [upd_ne (ne_of ew hD nofun)]
      exact ew
    · rw [upd_same, List.take_succ, ej, List.map_append]
      rfl
  rintro HB ⟨go, ew, nDA, hD⟩
  clear ew
  replace hD : HB D = some (.lst (([-4, 1, -14] : List Int).map V.int)) := hD
  refine ⟨_, rfl, _, rfl, _, rfl, by show 3 ≤ sizeLine; decide, fun t116 n117 => ?_⟩
  have s120 := same_upd (o := .lst [V.int (-4), .int 1, .int (-14)]) n117
  have e118 := upd_same (H := HB) (a := t116) (o := .lst [V.int (-4), .int 1, .int (-14)])
  have n_e118 := go.gs.new n117
  generalize upd HB t116 (.lst [V.int (-4), .int 1, .int (-14)]) = H119 at *
  replace go := go.post s120
  replace hD := s120 _ _ hD
  clear s120 n117
  refine ⟨.list (([-4, 1, -14] : List Int).map .int), .list (([-4, 1, -14] : List Int).map .int), (.lst (SqL.of hD) (dpAll_ints _)), .lst (SqL.of e118) (dpAll_ints [-4, 1, -14]), Sh.shaped (Sh.list (n := 0) (mem_map2 fun i _ => .int i)) (by decide), Sh.shaped (Sh.list (n := 0) (mem_map2 fun i _ => .int i)) (by decide), _, rfl, ?_⟩
  rw [SeqAt.eqv_refl _ (Sh.l (Sh.list (n := 0) (mem_map2 fun i _ => .int i)))]
  refine ifFF ?_
  clear hD e118
  refine ⟨_, rfl, _, rfl, by show 2 ≤ sizeLine; decide, fun t121 n122 => ?_⟩
  have s125 := same_upd (o := .tup [V.str a, .int 0]) n122
  have e123 := upd_same (H := H119) (a := t121) (o := .tup [V.str a, .int 0])
  generalize upd H119 t121 (.tup [V.str a, .int 0]) = H124 at *
  replace go := go.post s125
  clear s125 n122
  refine ⟨_, rfl, 10, 6, rfl, rfl, ⟨by decide, by decide, by decide⟩, by show 3 ≤ sizeLine; decide, fun t126 n127 => ?_⟩
  have s130 := same_upd (o := .tup [V.str "add", .str n, .int (10 ^ (6 : Int).toNat)]) n127
  have e128 := upd_same (H := H124) (a := t126) (o := .tup [V.str "add", .str n, .int (10 ^ (6 : Int).toNat)])
  generalize upd H124 t126 (.tup [V.str "add", .str n, .int (10 ^ (6 : Int).toNat)]) = H129 at *
  replace go := go.post s130
  replace e123 := s130 _ _ e123
  clear s130 n127
  refine ⟨p, t121, t126, A, "add", n, [.int (10 ^ (6 : Int).toNat)], [.num (10 ^ (6 : Int).toNat)], _, 0, one_ a 2 2 2 [] 0 true, _, _, "far", rfl, go.gs, .inl e123, rfl, .inr (.inl (.inl e128)), .cons (.num _) .nil, by show 1 ≤ 100; decide, (fun L hL => by rw [List.mem_singleton.mp hL]; show 1 ≤ 6; decide), vals_num (by decide), .inl (by decide +kernel), fell_nm0 (nm := []) (old := m + 10) (by decide +kernel) rfl rfl (act_far (by have := W.m0; show 1000000 < m + 10 + 1000000; omega)), fun H83 g => ?_⟩
  clear e123 e128
  replace go := go.post g
  clear g
  refine ⟨rfl, _, rfl, ?_⟩
  rw [decide_eq_true rfl]
  refine ifFF ?_
  refine ⟨_, rfl, p, A.dx, _, rfl, go.gs.ins, by kernel_rfl, _, rfl, by show 2 ≤ sizeLine; decide, fun t131 n132 => ?_⟩
  have s135 := same_upd (o := .tup [V.str a, .int 0]) n132
  have e133 := upd_same (H := H83) (a := t131) (o := .tup [V.str a, .int 0])
  generalize upd H83 t131 (.tup [V.str a, .int 0]) = H134 at *
  replace go := go.post s135
  clear s135 n132
  refine ⟨_, rfl, by show 1 ≤ sizeLine; decide, fun t136 n137 => ?_⟩
  have s140 := same_upd (o := .tup [V.str "x"]) n137
  have e138 := upd_same (H := H134) (a := t136) (o := .tup [V.str "x"])
  generalize upd H134 t136 (.tup [V.str "x"]) = H139 at *
  replace go := go.post s140
  replace e133 := s140 _ _ e133
  clear s140 n137
  refine ⟨by show 3 ≤ sizeLine; decide, fun t141 n142 => ?_⟩
  have s145 := same_upd (o := .tup [V.str "put", .str r, .ref t136]) n142
  have e143 := upd_same (H := H139) (a := t141) (o := .tup [V.str "put", .str r, .ref t136])
  generalize upd H139 t141 (.tup [V.str "put", .str r, .ref t136]) = H144 at *
  replace go := go.post s145
  replace e133 := s145 _ _ e133
  replace e138 := s145 _ _ e138
  clear s145 n142
  refine ⟨p, t131, t141, .ref e0, A, "put", [.str r], [.ref t136], [.spot 0], _, 0, one_ a 2 2 2 [] 0 true, [], _, .non, (grd a b [(n, m + 10)] [(r, [m, 2, 3, 4, 5, 6, 7, 2])] [one_ a 2 2 2 [] 0 true, one_ b 2 2 0 [(n, -7)] 0 false]), rfl, go.gs, .inl e133, rfl, .inr (.inl (.inl e143)), .cons (.spot (k := 0) (z := "x") rfl (.inl (.inl (.inl e138)))) .nil, by show 1 ≤ 100; decide, (fun L hL => by rw [List.mem_singleton.mp hL]; show 1 ≤ 6; decide), ⟨e0, [], rfl, .inr (he0 _), .nil⟩, by decide, vals_one (val_spot (x := 2) rfl (by decide)), .held (.inr (.inl (by decide +kernel))) (G' := (grd a b [(n, m + 10)] [(r, [m, 2, 3, 4, 5, 6, 7, 2])] [one_ a 2 2 2 [] 0 true, one_ b 2 2 0 [(n, -7)] 0 false])) ((held_rw0 (rw_ := []) (row := [m, 2, 3, 4, 5, 6, 7]) (u := [m, 2, 3, 4, 5, 6, 7, 2]) (by decide +kernel) rfl rfl (act_put (row := [m, 2, 3, 4, 5, 6, 7]) (by show 7 < 8; decide))).trans (congrArg (fun x => Except.ok (Gs.rw_ _ x)) setR1)), fun H84 g => ?_⟩
  clear e133 e143 e138
  replace go := go.trans g
  clear g
  refine ⟨_, rfl, _, rfl, by show 2 ≤ sizeLine; decide, fun t146 n147 => ?_⟩
  have s150 := same_upd (o := .tup [V.str b, .int 0]) n147
  have e148 := upd_same (H := H84) (a := t146) (o := .tup [V.str b, .int 0])
  generalize upd H84 t146 (.tup [V.str b, .int 0]) = H149 at *
  replace go := go.post s150
  clear s150 n147
  refine ⟨_, rfl, by show 3 ≤ sizeLine; decide, fun t151 n152 => ?_⟩
  have s155 := same_upd (o := .tup [V.str "put", .str r, .int 1]) n152
  have e153 := upd_same (H := H149) (a := t151) (o := .tup [V.str "put", .str r, .int 1])
  generalize upd H149 t151 (.tup [V.str "put", .str r, .int 1]) = H154 at *
  replace go := go.post s155
  replace e148 := s155 _ _ e148
  clear s155 n152
  refine ⟨p, t146, t151, A, "put", r, [.int 1], [.num 1], _, 1, one_ b 2 2 0 [(n, -7)] 0 false, _, _, "full", rfl, go.gs, .inl e148, rfl, .inr (.inl (.inl e153)), .cons (.num _) .nil, by show 1 ≤ 100; decide, (fun L hL => by rw [List.mem_singleton.mp hL]; show 1 ≤ 6; decide), vals_num (by decide), .inr (.inl (by decide +kernel)), fell_rw0 (rw_ := []) (row := [m, 2, 3, 4, 5, 6, 7, 2]) (by decide +kernel) rfl rfl (act_full (row := [m, 2, 3, 4, 5, 6, 7, 2]) (by show ¬ 8 < 8; decide)), fun H85 g => ?_⟩
  clear e148 e153
  replace go := go.post g
  clear g
  refine ⟨rfl, _, rfl, ?_⟩
  rw [decide_eq_true rfl]
  refine ifFF ?_
  refine ⟨_, rfl, _, rfl, by show 2 ≤ sizeLine; decide, fun t156 n157 => ?_⟩
  have s160 := same_upd (o := .tup [V.str a, .int 0]) n157
  have e158 := upd_same (H := H85) (a := t156) (o := .tup [V.str a, .int 0])
  generalize upd H85 t156 (.tup [V.str a, .int 0]) = H159 at *
  replace go := go.post s160
  clear s160 n157
  refine ⟨_, rfl, by show 3 ≤ sizeLine; decide, fun t161 n162 => ?_⟩
  have s165 := same_upd (o := .tup [V.str "drop", .str r, .int 8]) n162
  have e163 := upd_same (H := H159) (a := t161) (o := .tup [V.str "drop", .str r, .int 8])
  generalize upd H159 t161 (.tup [V.str "drop", .str r, .int 8]) = H164 at *
  replace go := go.post s165
  replace e158 := s165 _ _ e158
  clear s165 n162
  refine ⟨p, t156, t161, A, "drop", r, [.int 8], [.num 8], _, 0, one_ a 2 2 2 [] 0 true, _, _, "none", rfl, go.gs, .inl e158, rfl, .inr (.inl (.inl e163)), .cons (.num _) .nil, by show 1 ≤ 100; decide, (fun L hL => by rw [List.mem_singleton.mp hL]; show 1 ≤ 6; decide), vals_num (by decide), .inr (.inl (by decide +kernel)), fell_rw0 (rw_ := []) (row := [m, 2, 3, 4, 5, 6, 7, 2]) (by decide +kernel) rfl rfl (act_none (row := [m, 2, 3, 4, 5, 6, 7, 2]) (by decide +kernel) (by show ¬ (0 ≤ (8 : Int) ∧ (8 : Int) < (8 : Nat)); decide)), fun H86 g => ?_⟩
  clear e158 e163
  replace go := go.post g
  clear g
  refine ⟨rfl, _, rfl, ?_⟩
  rw [decide_eq_true rfl]
  refine ifFF ?_
  refine ⟨_, rfl, p, A.dx, _, rfl, go.gs.ins, by kernel_rfl, _, rfl, by show 2 ≤ sizeLine; decide, fun t166 n167 => ?_⟩
  have s170 := same_upd (o := .tup [V.str b, .int 0]) n167
  have e168 := upd_same (H := H86) (a := t166) (o := .tup [V.str b, .int 0])
  generalize upd H86 t166 (.tup [V.str b, .int 0]) = H169 at *
  replace go := go.post s170
  clear s170 n167
  refine ⟨_, rfl, by show 3 ≤ sizeLine; decide, fun t171 n172 => ?_⟩
  have s175 := same_upd (o := .tup [V.str "drop", .str r, .int 0]) n172
  have e173 := upd_same (H := H169) (a := t171) (o := .tup [V.str "drop", .str r, .int 0])
  generalize upd H169 t171 (.tup [V.str "drop", .str r, .int 0]) = H174 at *
  replace go := go.post s175
  replace e168 := s175 _ _ e168
  clear s175 n172
  refine ⟨p, t166, t171, .ref e0, A, "drop", [.str r], [.int 0], [.num 0], _, 1, one_ b 2 2 0 [(n, -7)] 0 false, [], _, .non, (grd a b [(n, m + 10)] [(r, [2, 3, 4, 5, 6, 7, 2])] [one_ a 2 2 2 [] 0 true, one_ b 2 2 0 [(n, -7)] 0 false]), rfl, go.gs, .inl e168, rfl, .inr (.inl (.inl e173)), .cons (.num _) .nil, by show 1 ≤ 100; decide, (fun L hL => by rw [List.mem_singleton.mp hL]; show 1 ≤ 6; decide), ⟨e0, [], rfl, .inr (he0 _), .nil⟩, by decide, vals_num (by decide), .held (.inr (.inl (by decide +kernel))) (G' := (grd a b [(n, m + 10)] [(r, [2, 3, 4, 5, 6, 7, 2])] [one_ a 2 2 2 [] 0 true, one_ b 2 2 0 [(n, -7)] 0 false])) ((held_rw0 (rw_ := []) (row := [m, 2, 3, 4, 5, 6, 7, 2]) (u := [2, 3, 4, 5, 6, 7, 2]) (by decide +kernel) rfl rfl (act_drop (row := [m, 2, 3, 4, 5, 6, 7, 2]) (v := 0) (by show (0 ≤ (0 : Int) ∧ (0 : Int) < (8 : Nat)); decide))).trans (congrArg (fun x => Except.ok (Gs.rw_ _ x)) setR1)), fun H87 g => ?_⟩
  clear e168 e173
  replace go := go.trans g
  clear g
  refine ⟨_, rfl, p, A.dx, _, rfl, go.gs.ins, by kernel_rfl, _, rfl, by show 2 ≤ sizeLine; decide, fun t176 n177 => ?_⟩
  have s180 := same_upd (o := .tup [V.str b, .int 0]) n177
  have e178 := upd_same (H := H87) (a := t176) (o := .tup [V.str b, .int 0])
  generalize upd H87 t176 (.tup [V.str b, .int 0]) = H179 at *
  replace go := go.post s180
  clear s180 n177
  refine ⟨_, rfl, _, rfl, by show 2 ≤ sizeLine; decide, fun t181 n182 => ?_⟩
  have s185 := same_upd (o := .tup [V.str "many", .str r]) n182
  have e183 := upd_same (H := H179) (a := t181) (o := .tup [V.str "many", .str r])
  generalize upd H179 t181 (.tup [V.str "many", .str r]) = H184 at *
  replace go := go.post s185
  replace e178 := s185 _ _ e178
  clear s185 n182
  refine ⟨by show 4 ≤ sizeLine; decide, fun t186 n187 => ?_⟩
  have s190 := same_upd (o := .tup [V.str "write", .str r, .int 5, .ref t181]) n187
  have e188 := upd_same (H := H184) (a := t186) (o := .tup [V.str "write", .str r, .int 5, .ref t181])
  generalize upd H184 t186 (.tup [V.str "write", .str r, .int 5, .ref t181]) = H189 at *
  replace go := go.post s190
  replace e178 := s190 _ _ e178
  replace e183 := s190 _ _ e183
  clear s190 n187
  refine ⟨p, t176, t186, .ref e0, A, "write", [.str r], [.int 5, .ref t181], [.num 5, .many r], _, 1, one_ b 2 2 0 [(n, -7)] 0 false, [], _, .non, (grd a b [(n, m + 10)] [(r, [2, 3, 4, 5, 6, 7, 2])] [one_ a 2 2 2 [] 0 true, one_ b 2 2 0 [(n, -7)] 0 false]), rfl, go.gs, .inl e178, rfl, .inr (.inl (.inl e188)), .cons (.num _) (.cons (.many (.inl (.inl (.inl e183)))) .nil), by show 2 ≤ 100; decide, (fun L hL => by
    rcases List.mem_cons.mp hL with rfl | hL
    · show 1 ≤ 6; decide
    · rw [List.mem_singleton.mp hL]; show 1 ≤ 6; decide), ⟨e0, [], rfl, .inr (he0 _), .nil⟩, by decide, vals_two (val_num (by decide)) (val_many (v := [2, 3, 4, 5, 6, 7, 2]) (l := []) rfl (by show Fv.inB 7 = true; decide)), .held (.inr (.inr ⟨rfl, 7, [], rfl⟩)) (G' := (grd a b [(n, m + 10)] [(r, [2, 3, 4, 5, 6, 7, 2])] [one_ a 2 2 2 [] 0 true, one_ b 2 2 0 [(n, -7)] 0 false])) ((held_rw0 (rw_ := []) (row := [2, 3, 4, 5, 6, 7, 2]) (u := [2, 3, 4, 5, 6, 7, 2]) (by decide +kernel) rfl rfl (act_write (row := [2, 3, 4, 5, 6, 7, 2]) (v := 5) (by show (0 ≤ (5 : Int) ∧ (5 : Int) < (7 : Nat)); decide))).trans (congrArg (fun x => Except.ok (Gs.rw_ _ x)) setR1)), fun H88 g => ?_⟩
  clear e178 e188 e183
  replace go := go.trans g
  clear g
  refine ⟨_, rfl, _, rfl, by show 2 ≤ sizeLine; decide, fun t191 n192 => ?_⟩
  have s195 := same_upd (o := .tup [V.str a, .int 0]) n192
  have e193 := upd_same (H := H88) (a := t191) (o := .tup [V.str a, .int 0])
  generalize upd H88 t191 (.tup [V.str a, .int 0]) = H194 at *
  replace go := go.post s195
  clear s195 n192
  refine ⟨_, rfl, _, rfl, by show 4 ≤ sizeLine; decide, fun t196 n197 => ?_⟩
  have s200 := same_upd (o := .tup [V.str "write", .str r, .int (-1), .int 5]) n197
  have e198 := upd_same (H := H194) (a := t196) (o := .tup [V.str "write", .str r, .int (-1), .int 5])
  generalize upd H194 t196 (.tup [V.str "write", .str r, .int (-1), .int 5]) = H199 at *
  replace go := go.post s200
  replace e193 := s200 _ _ e193
  clear s200 n197
  refine ⟨p, t191, t196, A, "write", r, [.int (-1), .int 5], [.num (-1), .num 5], _, 0, one_ a 2 2 2 [] 0 true, _, _, "none", rfl, go.gs, .inl e193, rfl, .inr (.inl (.inl e198)), .cons (.num _) (.cons (.num _) .nil), by show 2 ≤ 100; decide, (fun L hL => by
    rcases List.mem_cons.mp hL with rfl | hL
    · show 1 ≤ 6; decide
    · rw [List.mem_singleton.mp hL]; show 1 ≤ 6; decide), vals_num2 (by decide) (by decide), .inr (.inr ⟨rfl, 5, [], rfl⟩), fell_rw0 (rw_ := []) (row := [2, 3, 4, 5, 6, 7, 2]) (by decide +kernel) rfl rfl (act_none (row := [2, 3, 4, 5, 6, 7, 2]) (by decide +kernel) (by show ¬ (0 ≤ (-1 : Int) ∧ (-1 : Int) < (7 : Nat)); decide)), fun H89 g => ?_⟩
  clear e193 e198
  replace go := go.post g
  clear g
  refine ⟨rfl, _, rfl, ?_⟩
  rw [decide_eq_true rfl]
  refine ifFF ?_
  refine ⟨_, rfl, p, A.dx, _, rfl, go.gs.ins, by kernel_rfl, p, .non, _, _, _, rfl, go.gs.at, .inl ⟨rfl, rfl, rfl⟩, fun v201 H202 as205 s203 d204 _ => ?_⟩
  replace d204 := tr_dp _ _ _ d204
  replace d204 : Dp K H202 v201 (rwD [(r, [2, 3, 4, 5, 6, 7, 2])]) := d204
  replace go := go.post s203
  refine ⟨_, rfl, by show 7 ≤ sizeLine; decide, fun t206 n207 => ?_⟩
  have s210 := same_upd (o := .lst [V.int 2, .int 3, .int 4, .int 5, .int 6, .int 7, .int 2]) n207
  have e208 := upd_same (H := H202) (a := t206) (o := .lst [V.int 2, .int 3, .int 4, .int 5, .int 6, .int 7, .int 2])
  have n_e208 := go.gs.new n207
  generalize upd H202 t206 (.lst [V.int 2, .int 3, .int 4, .int 5, .int 6, .int 7, .int 2]) = H209 at *
  replace go := go.post s210
  replace d204 := dp_same s210 _ _ d204
  clear s210 n207
  refine ⟨by show 2 ≤ sizeLine; decide, fun t211 n212 => ?_⟩
  have s215 := same_upd (o := .tup [V.str r, .ref t206]) n212
  have e213 := upd_same (H := H209) (a := t211) (o := .tup [V.str r, .ref t206])
  generalize upd H209 t211 (.tup [V.str r, .ref t206]) = H214 at *
  replace go := go.post s215
  replace d204 := dp_same s215 _ _ d204
  replace e208 := s215 _ _ e208
  clear s215 n212
  refine ⟨by show 1 ≤ sizeLine; decide, fun t216 n217 => ?_⟩
  have s220 := same_upd (o := .lst [V.ref t211]) n217
  have e218 := upd_same (H := H214) (a := t216) (o := .lst [V.ref t211])
  have n_e218 := go.gs.new n217
  generalize upd H214 t216 (.lst [V.ref t211]) = H219 at *
  replace go := go.post s220
  replace d204 := dp_same s220 _ _ d204
  replace e208 := s220 _ _ e208
  replace e213 := s220 _ _ e213
  clear s220 n217
  refine ⟨_, _, rwD [(r, [2, 3, 4, 5, 6, 7, 2])], rfl, d204, .lst (SqL.of e218) (.cons (.tup (.inl (.inl e213)) (.cons (.str _) (.cons (.lst (SqL.of e208) (dpAll_ints [2, 3, 4, 5, 6, 7, 2])) .nil))) .nil), okd_rw (n := 5) (by show 1 ≤ 1000; decide) (fun q hq => by rw [List.mem_singleton.mp hq]; show 7 ≤ 1000; decide), fun H79 s79 => q H79 (go.post s79)⟩
end
end Fd

set_option Elab.async false
set_option linter.all false
set_option maxRecDepth 100000
set_option maxHeartbeats 1000000
namespace Fd
open PySem PySem.Spec PyProof.Rows L2 RZ Fw LamX
/-! ### deeds, and what leaves tables alone -/
/-- as Go, where tables may change; code objects stand -/
structure GoX (w : World) (K : PySem.W.Frag) (C CH : Addr) (T : List (Addr × Str)) (H : Hp) (p : Addr) (A : GA) (G' : Gs) (A' : GA) (H' : Hp) : Prop where
  but : ∀ b o, b ∉ A.fp p → H b = some o → (∀ ps, o ≠ .tbl ps) → H' b = some o
  gs : GsF w K C CH H' p G' A'
  new : ∀ b ∈ A'.fp p, b ∈ A.fp p ∨ NewL H b
  tb : Tabs T H'
section
variable {w : World} {K : PySem.W.Frag} {C CH : Addr} {T : List (Addr × Str)} {H H' H2 : Hp} {p : Addr} {G G' G2 : Gs} {A A' A2 : GA}
theorem Go.tabs (g : Go w K C CH H p A G' A' H') (h : GsF w K C CH H p G A) (t : Tabs T H) : Tabs T H' := tabs_all t fun b o e k => g.but b o (fun hb => by
  obtain ⟨u, hu, ow⟩ := h.own b hb
  rw [hu] at e
  cases e
  rcases k with ⟨ps, k⟩ | ⟨q, k⟩
  · exact ow.nt.2.1 ps k
  · exact ow.code q k) e
theorem GoX.of (g : Go w K C CH H p A G' A' H') (h : GsF w K C CH H p G A) (t : Tabs T H) : GoX w K C CH T H p A G' A' H' := ⟨fun b o n e _ => g.but b o n e, g.gs, fun b hb => (g.new b hb).imp id NewL.of, g.tabs h t⟩
theorem GoX.post (g : GoX w K C CH T H p A G' A' H') (s : Same H' H2) : GoX w K C CH T H p A G' A' H2 := ⟨fun b o n e t => s _ _ (g.but b o n e t), g.gs.same s, g.new, g.tb.ext s⟩
theorem GoX.ext (g : GoX w K C CH T H p A G' A' H') (s : ExtN H' H2) (t : Tabs T H2) : GoX w K C CH T H p A G' A' H2 := ⟨fun b o n e t => s _ _ (g.but b o n e t) t, g.gs.ext s, g.new, t⟩
theorem GoX.trans (g : GoX w K C CH T H p A G' A' H') (h : Go w K C CH H' p A' G2 A2 H2) : GoX w K C CH T H p A G2 A2 H2 := by
  refine ⟨fun b o n e t => ?_, h.gs, fun b hb => ?_, h.tabs g.gs g.tb⟩
  · have e1 := g.but b o n e t
    refine h.but b o (fun c => ?_) e1
    rcases g.new b c with c | c
    · exact n c
    · obtain ⟨ps, z⟩ := c o e
      exact t ps z
  · rcases h.new b hb with c | c
    · exact g.new b c
    · by_cases hA : b ∈ A.fp p
      · exact .inl hA
      · refine .inr fun o e => ?_
        by_cases ht : ∃ ps, o = .tbl ps
        · exact ht
        · rw [g.but b o hA e fun ps z => ht ⟨ps, z⟩] at c; cases c
theorem GoX.kp (g : GoX w K C CH T H p A G' A' H') (h : GsF w K C CH H p G A) : Kp [] H H' := ⟨(fun b xs _ c => nomatch c), fun b xs e => g.but b _ (fun hb => by
    obtain ⟨u, hu, o⟩ := h.own b hb
    rw [hu] at e
    cases e
    exact o.nt.1 _ rfl) e nofun, fun b ob xs e => g.but b _ (fun hb => by
    obtain ⟨u, hu, o⟩ := h.own b hb
    rw [hu] at e
    cases e
    exact o.nt.2.2.1 _ _ rfl) e nofun⟩
theorem GoX.freeX (g : GoX w K C CH T H p A G' A' H') {D : Addr} (e : H' D = none) (h : GsF w K C CH H p G A) : D ∉ A.fp p → NewL H D := fun n o q => by
  by_cases ht : ∃ ps, o = .tbl ps
  · exact ht
  · rw [g.but D o n q fun ps z => ht ⟨ps, z⟩] at e; cases e
/-- a thing that is not the ground's stands behind a deed, and is not the ground's then -/
theorem Go.lst (g : Go w K C CH H p A G' A' H') {D : Addr} {u : HO} (e : H D = some u) (n : D ∉ A.fp p) : H' D = some u ∧ D ∉ A'.fp p := ⟨g.but D u n e, fun c => (g.new D c).elim n (fun z => by rw [e] at z; cases z)⟩
end
end Fd

set_option Elab.async false
set_option linter.all false
set_option maxRecDepth 100000
set_option maxHeartbeats 2000000
namespace Fd
open PySem PySem.Spec PyProof.Rows L2 RZ Fw LamX
def tolds (n : Str) : List Nms := [[(n, -7)], [(n, 99)], [(n, 99)], [(n, -7)]]
def whos (a b : Str) : List (Str × Int) := [(b, 1), (b, 3), (a, 1), (b, 2)]
/-- the ones behind so many ends -/
def stE (a b n : Str) : Nat → List One
  | 0 => os6 a b n true
  | 1 => [one_ a 2 2 2 [] 0 true, one_ b 2 2 0 [(n, -7)] 0 false, one_ a 2 2 2 [] 1 true, one_ b 2 2 0 [(n, -7)] 3 true, one_ b 2 2 0 [(n, 99)] 2 false]
  | 2 => [one_ a 2 2 2 [] 0 true, one_ b 2 2 0 [(n, -7)] 0 false, one_ a 2 2 2 [] 1 true, one_ b 2 2 0 [(n, 99)] 2 false]
  | 3 => [one_ a 2 2 2 [] 0 true, one_ b 2 2 0 [(n, -7)] 0 false, one_ b 2 2 0 [(n, 99)] 2 false]
  | _ => [one_ a 2 2 2 [] 0 true, one_ b 2 2 0 [(n, -7)] 0 false]
theorem stE_at {a b n : Str} : ∀ {i : Nat} {q : Str × Int}, (whos a b)[i]? = some q → ∃ (j : Nat) (o : One), (stE a b n i)[j]? = some o ∧ o.f.nm = q.1 ∧ o.no = q.2 ∧ (stE a b n i).eraseIdx j = stE a b n (i + 1)
  | 0, _, h => by cases h; exact ⟨2, _, rfl, rfl, rfl, rfl⟩
  | 1, _, h => by cases h; exact ⟨3, _, rfl, rfl, rfl, rfl⟩
  | 2, _, h => by cases h; exact ⟨2, _, rfl, rfl, rfl, rfl⟩
  | 3, _, h => by cases h; exact ⟨2, _, rfl, rfl, rfl, rfl⟩
  | i + 4, _, h => by simp [whos] at h
theorem srt2 {a b n r : Str} {m : Int} (W : Wd a b n r m) {nm : Nms} {rw_ : Rws} {ns : Nms} (nd : ([one_ a 2 2 2 [] 0 true, one_ b 2 2 0 ns 0 false].map One.key).Nodup) : (grd a b nm rw_ [one_ a 2 2 2 [] 0 true, one_ b 2 2 0 ns 0 false]).srt.map oneP = [.tuple [.str a, .int 0], .tuple [.str b, .int 0]] := by
  have ab := W.ab
  rw [srt_is (G := grd a b nm rw_ [one_ a 2 2 2 [] 0 true, one_ b 2 2 0 ns 0 false]) (l := [one_ a 2 2 2 [] 0 true, one_ b 2 2 0 ns 0 false]) nd ?_ (List.Perm.refl _) ?_]
  · rfl
  · intro o ho
    simp only [grd, one_, List.mem_cons, List.not_mem_nil, or_false] at ho ⊢
    rcases ho with rfl | rfl <;> simp
  · have ra : rkO (grd a b nm rw_ [one_ a 2 2 2 [] 0 true, one_ b 2 2 0 ns 0 false]) (one_ a 2 2 2 [] 0 true) = 0 := by
      show ((List.idxOf a [a, b] : Nat) : Int) = 0
      simp
    have rb : rkO (grd a b nm rw_ [one_ a 2 2 2 [] 0 true, one_ b 2 2 0 ns 0 false]) (one_ b 2 2 0 ns 0 false) = 1 := by
      show ((List.idxOf b [a, b] : Nat) : Int) = 1
      simp [List.idxOf_cons, show (a == b) = false from beq_eq_false_iff_ne.mpr ab]
    simp only [List.pairwise_cons, List.mem_cons, List.not_mem_nil, or_false, forall_eq_or_imp, forall_eq, leO, ra, rb]
    simp [one_]
theorem dp_onesL {K : PySem.W.Frag} {H : Hp} {l : Addr} {as : List Addr} {os : List One} (h : H l = some (.lst (as.map V.ref))) (p : Paired (OneT H) as os) : Dp K H (.ref l) (.list (os.map oneP)) := by
  refine .lst (SqL.of h) ?_
  clear h
  induction p with
  | nil => exact .nil
  | cons r t ih => exact .cons (.tup (.inl (.inl r)) (.cons (.str _) (.cons (.int _) .nil))) ih
section
variable {P : Program} {w : World} {K : PySem.W.Frag} {mg : Str → Option Value} {base : Heap} {f C CH P0 : Addr} {fd : FuncData}
/-- a method that the class has under a name of Python's -/
def SpM (P : Program) (w : World) (K : PySem.W.Frag) (mg : Str → Option Value) (base : Heap) (C : Addr) (k : Nat) (x : Str) (ps : List Str) (sp : Sp) : Prop :=
  ∃ f fd, FnOk P w K mg base CX0 k f fd ps sp ∧ PySem.W.findIn K (.ref C) x = some (some (.ref f)) ∧ PySem.W.isFn K (.ref f) = true ∧ Binds K fd ps []
abbrev sCr : Stmt := top 46
def spCr (w : World) (K : PySem.W.Frag) (C CH P0 : Addr) : Sp := fun vs H Q _ => ∃ (p : Addr) (A : GA) (a b n r : Str) (m : Int) (NM : Nms) (RW : Rws), vs = [.ref p, .str a, .str b, .str n] ∧ GsF w K C CH H p (grd a b NM RW [one_ a 2 2 2 [] 0 true, one_ b 2 2 0 [(n, -7)] 0 false]) A ∧ Wd a b n r m ∧ Tabs (TT P0) H ∧
  ∀ H' G' A', GoX w K C CH (TT P0) H p A G' A' H' → Q (.bl true) H'
theorem scCr : FnScope ["_law_ground", "_law_a", "_law_b", "_law_name", "_law_found", "_law_told", "_law_who", "_law_k"] ["_law_ground", "_law_a", "_law_b", "_law_name"] (defScope sCr) := ⟨rfl, rfl, rfl, by decide +kernel, rfl, by decide +kernel, by decide +kernel⟩
theorem ok_cr {k kH : Nat} (F : Fun K "_law_copies_right" "_law_copies_right" sCr f fd) (c_G : Cls K C) (hk : kH + 1 ≤ k) (GD : MthD P w K mg base C CH kH) (GN : MthK P w K mg base C kH 1 "names" "one" .non ["self", "one"] (spGN w K C CH)) (GC : MthG P w K mg base C kH "copy" ["self", "one"] (spGC w K C CH)) (GE : MthG P w K mg base C kH "end" ["self", "one"] (spEn w K C CH)) (GO : MthG P w K mg base C kH "ones" ["self"] (spGo w K C CH P0)) (GM : MthG P w K mg base C kH "met" ["self", "one"] (spGM w K C CH)) (GL : SpM P w K mg base C kH "__len__" ["self"] (spGL w K C CH)) (m_len : mg "len" = none) (m_range : mg "range" = none) : FnOk P w K mg base CX0 (k + 1) f fd ["_law_ground", "_law_a", "_law_b", "_law_name"] (spCr w K C CH P0) := by
  obtain ⟨_, _, _, e0, M_do, G_do, b_do, d_do, he0⟩ := GD
  obtain ⟨_, _, _, M_names, G_names, b_names, d_names, b_names_kw⟩ := GN
  obtain ⟨_, _, M_copy, G_copy, b_copy⟩ := GC
  obtain ⟨_, _, M_end, G_end, b_end⟩ := GE
  obtain ⟨_, _, M_ones, G_ones, b_ones⟩ := GO
  obtain ⟨_, _, M_met, G_met, b_met⟩ := GM
  obtain ⟨_, _, G_len, hs_len, hf_len, b_len⟩ := GL
  have d_copy : Vals [] [] := .nil
  have d_end : Vals [] [] := .nil
  have d_ones : Vals [] [] := .nil
  have d_met : Vals [] [] := .nil
  have sc := scCr
  refine F.ok sc (fun vs H Q E h => ?_) (fun cdv A outer s H vs Q E hr h => ?_)
  · obtain ⟨p, A, a, b, n, r, m, NM, RW, rfl, _⟩ := h
    rfl
  obtain ⟨p, A, a, b, n, r, m, NM, RW, rfl, hp, W, tb, q⟩ := h
  refine ⟨_, (pss_cons (ps_set (i := 4) sc.nd rfl (.inl rfl) (pe_lst (pa_cons (pe_meth (pv 0) c_G M_copy G_copy (hr.mono (by omega)) b_copy d_copy pass0 (pa_cons (pe_tup (pa_cons (pv 2) (pa_cons pe_int pa_nil))) pa_nil)) (pa_cons (pe_meth (pv 0) c_G M_copy G_copy (hr.mono (by omega)) b_copy d_copy pass0 (pa_cons (pe_tup (pa_cons (pv 2) (pa_cons pe_int pa_nil))) pa_nil)) (pa_cons (pe_meth (pv 0) c_G M_copy G_copy (hr.mono (by omega)) b_copy d_copy pass0 (pa_cons (pe_tup (pa_cons (pv 1) (pa_cons pe_int pa_nil))) pa_nil)) (pa_cons (pe_meth (pv 0) c_G M_copy G_copy (hr.mono (by omega)) b_copy d_copy pass0 (pa_cons (pe_tup (pa_cons (pv 2) (pa_cons pe_int pa_nil))) pa_nil)) pa_nil))))))
      (pss_cons (ps_if (PW.pt (pw_or (pt_cmpR (op_neD hr.units) (pv 4) (pe_lst (pa_cons (pe_tup (pa_cons (pv 2) (pa_cons pe_int pa_nil))) (pa_cons (pe_tup (pa_cons (pv 2) (pa_cons pe_int pa_nil))) (pa_cons (pe_tup (pa_cons (pv 1) (pa_cons pe_int pa_nil))) (pa_cons (pe_tup (pa_cons (pv 2) (pa_cons pe_int pa_nil))) pa_nil))))) (nomark _)) (pw_or1 (pt_cmpR op_ne (pe_callB (Fw.call_lenI G_len (hr.mono (by omega)) hs_len hf_len b_len pass0) (by rfl) m_len (by decide +kernel) (pa_cons (pv 0) pa_nil)) pe_int (nomark _))))) (pss_one (ps_ret pe_bl)) pss_nil)
      (pss_cons (ps_expr (pe_meth (pv 0) c_G M_do G_do (hr.mono (by omega)) b_do d_do pass0 (pa_cons (pe_tup (pa_cons (pv 2) (pa_cons pe_int pa_nil))) (pa_cons (pe_tup (pa_cons pe_str (pa_cons (pv 3) (pa_cons pe_int pa_nil)))) pa_nil))))
      (pss_cons (ps_expr (pe_meth (pv 0) c_G M_end G_end (hr.mono (by omega)) b_end d_end pass0 (pa_cons (pe_tup (pa_cons (pv 2) (pa_cons pe_int pa_nil))) pa_nil)))
      (pss_cons (ps_if (PW.pt (pw_or (pt_cmpR (op_neD hr.units) (pe_meth (pv 0) c_G M_copy G_copy (hr.mono (by omega)) b_copy d_copy pass0 (pa_cons (pe_tup (pa_cons (pv 2) (pa_cons pe_int pa_nil))) pa_nil)) (pe_tup (pa_cons (pv 2) (pa_cons pe_int pa_nil))) (nomark _)) (pw_or1 (pt_cmpR (op_neD hr.units) (pe_meth0 (pv 0) c_G M_ones G_ones (hr.mono (by omega)) b_ones d_ones pass0) (pe_lst (pa_cons (pe_tup (pa_cons (pv 1) (pa_cons pe_int pa_nil))) (pa_cons (pe_tup (pa_cons (pv 1) (pa_cons pe_int pa_nil))) (pa_cons (pe_tup (pa_cons (pv 2) (pa_cons pe_int pa_nil))) (pa_cons (pe_tup (pa_cons (pv 2) (pa_cons pe_int pa_nil))) (pa_cons (pe_tup (pa_cons (pv 2) (pa_cons pe_int pa_nil))) (pa_cons (pe_tup (pa_cons (pv 2) (pa_cons pe_int pa_nil))) pa_nil))))))) (nomark _))))) (pss_one (ps_ret pe_bl)) pss_nil)
      (pss_cons (ps_setLc (i := 5) (own := [("_law_k", 7)]) (by rfl) sc.nd rfl rfl (sw_true rfl rfl rfl (by decide +kernel)) (pi_range1 (by rfl) m_range (pa_cons pe_int pa_nil)) (blkOk_by (own := [("_law_k", 7)]) (N := ["_law_ground", "_law_a", "_law_b", "_law_name", "_law_found", "_law_told", "_law_who", "_law_k"]) (sc := defScope sCr) (by decide +kernel)) (fun _ _ _ _ _ => (pg_name (i := 7) sc.nd rfl (.inl rfl))) (fun _ _ _ _ _ => pts_nil) (fun _ _ _ _ _ => (Fw.pe_methK0 (pv 0) c_G M_names G_names (hr.mono (by omega)) b_names_kw pass0 (pk_cons (pe_tup (pa_cons (pv 2) (pa_cons (pv 7) pa_nil))) pk_nil))))
      (pss_cons (ps_if (pt_cmpR (op_neD hr.units) (pv 5) (pe_lst (pa_cons (pe_lst (pa_cons (pe_tup (pa_cons (pv 3) (pa_cons (pe_un un_neg pe_int) pa_nil))) pa_nil)) (pa_cons (pe_lst (pa_cons (pe_tup (pa_cons (pv 3) (pa_cons pe_int pa_nil))) pa_nil)) (pa_cons (pe_lst (pa_cons (pe_tup (pa_cons (pv 3) (pa_cons pe_int pa_nil))) pa_nil)) (pa_cons (pe_lst (pa_cons (pe_tup (pa_cons (pv 3) (pa_cons (pe_un un_neg pe_int) pa_nil))) pa_nil)) pa_nil))))) (nomark _)) (pss_one (ps_ret pe_bl)) pss_nil)
      (pss_cons (ps_expr (pe_meth (pv 0) c_G M_do G_do (hr.mono (by omega)) b_do d_do pass0 (pa_cons (pe_tup (pa_cons (pv 2) (pa_cons pe_int pa_nil))) (pa_cons (pe_tup (pa_cons pe_str pa_nil)) pa_nil))))
      (pss_cons (ps_if (PW.pt (pw_or (pt_cmpR (op_neD hr.units) (pe_meth (pv 0) c_G M_met G_met (hr.mono (by omega)) b_met d_met pass0 (pa_cons (pe_tup (pa_cons (pv 1) (pa_cons pe_int pa_nil))) pa_nil)) (pe_lst (pa_cons (pv 1) (pa_cons (pv 2) pa_nil))) (nomark _)) (pw_or (pt_cmpR (op_neD hr.units) (pe_meth (pv 0) c_G M_met G_met (hr.mono (by omega)) b_met d_met pass0 (pa_cons (pe_tup (pa_cons (pv 2) (pa_cons pe_int pa_nil))) pa_nil)) (pe_lst (pa_cons (pv 1) pa_nil)) (nomark _)) (pw_or1 (pt_cmpR (op_neD hr.units) (pe_meth (pv 0) c_G M_met G_met (hr.mono (by omega)) b_met d_met pass0 (pa_cons (pe_tup (pa_cons (pv 2) (pa_cons pe_int pa_nil))) pa_nil)) (pe_lst pa_nil) (nomark _)))))) (pss_one (ps_ret pe_bl)) pss_nil)
      (pss_cons (ps_for PassesOwn.never rfl (pi_tup (pe_tup (pa_cons (pe_tup (pa_cons (pv 2) (pa_cons pe_int pa_nil))) (pa_cons (pe_tup (pa_cons (pv 2) (pa_cons pe_int pa_nil))) (pa_cons (pe_tup (pa_cons (pv 1) (pa_cons pe_int pa_nil))) (pa_cons (pe_tup (pa_cons (pv 2) (pa_cons pe_int pa_nil))) pa_nil)))))) (pg_name (i := 6) sc.nd rfl (.inl rfl)) (pss_one (ps_expr (pe_meth (pv 0) c_G M_end G_end (hr.mono (by omega)) b_end d_end pass0 (pa_cons (pv 6) pa_nil)))))
      (pss_one (ps_ret (pe_and (pe_cmpR (op_eqD hr.units) (pe_meth0 (pv 0) c_G M_ones G_ones (hr.mono (by omega)) b_ones d_ones pass0) (pe_lst (pa_cons (pe_tup (pa_cons (pv 1) (pa_cons pe_int pa_nil))) (pa_cons (pe_tup (pa_cons (pv 2) (pa_cons pe_int pa_nil))) pa_nil))) (nomark _)) (pe_one (pe_cmpR (op_eqD hr.units) (pe_meth (pv 0) c_G M_met G_met (hr.mono (by omega)) b_met d_met pass0 (pa_cons (pe_tup (pa_cons (pv 1) (pa_cons pe_int pa_nil))) pa_nil)) (pe_lst pa_nil) (nomark _)))))))))))))))), ?_⟩
  have go : GoX w K C CH (TT P0) H p A _ A H := GoX.of (Go.keep hp (Same.refl H)) hp tb
  have ab := W.ab
  have ba := Ne.symm W.ab
  refine ⟨_, rfl, p, A.dx, _, rfl, go.gs.ins, by kernel_rfl, _, rfl, by show 2 ≤ sizeLine; decide, fun t1 n2 => ?_⟩
  have s5 := same_upd (o := .tup [V.str b, .int 0]) n2
  have e3 := upd_same (H := H) (a := t1) (o := .tup [V.str b, .int 0])
  generalize upd H t1 (.tup [V.str b, .int 0]) = H4 at *
  replace go := go.post s5
  clear s5 n2
  refine ⟨p, t1, A, _, one_ b 2 2 0 [(n, -7)] 0 false, rfl, go.gs, .inl e3, List.mem_cons_of_mem _ (List.mem_cons_self ..), by show 2 < 100; decide, fun T1 HC1 nn AC1 fr g ht => ?_⟩
  have hnn : nn = 1 := free_is fr (by decide) (fun m h1 h2 => ?_) ?_
  rotate_left
  · exact absurd h2 (by omega)
  · simp [grd, one_, One.key, ab, ba]
  subst hnn
  replace g : Go w K C CH H4 p A (grd a b NM RW [one_ a 2 2 2 [] 0 true, one_ b 2 2 0 [(n, -7)] 0 false, one_ b 2 2 0 [(n, -7)] 1 false]) AC1 HC1 := g
  replace ht : HC1 T1 = some (.tup [.str b, .int 1]) := ht
  have ht1 := ht
  clear ht fr
  clear e3
  replace go := go.trans g
  clear g
  refine ⟨_, rfl, p, AC1.dx, _, rfl, go.gs.ins, by kernel_rfl, _, rfl, by show 2 ≤ sizeLine; decide, fun t6 n7 => ?_⟩
  have s10 := same_upd (o := .tup [V.str b, .int 1]) n7
  have e8 := upd_same (H := HC1) (a := t6) (o := .tup [V.str b, .int 1])
  generalize upd HC1 t6 (.tup [V.str b, .int 1]) = H9 at *
  replace go := go.post s10
  replace ht1 := s10 _ _ ht1
  clear s10 n7
  refine ⟨p, t6, AC1, _, one_ b 2 2 0 [(n, -7)] 1 false, rfl, go.gs, .inl e8, List.mem_cons_of_mem _ (List.mem_cons_of_mem _ (List.mem_cons_self ..)), by show 3 < 100; decide, fun T2 HC2 nn AC2 fr g ht => ?_⟩
  have hnn : nn = 2 := free_is fr (by decide) (fun m h1 h2 => ?_) ?_
  rotate_left
  · obtain rfl : m = 1 := by omega
    simp [grd, one_, One.key, ab, ba]
  · simp [grd, one_, One.key, ab, ba]
  subst hnn
  replace g : Go w K C CH H9 p AC1 (grd a b NM RW [one_ a 2 2 2 [] 0 true, one_ b 2 2 0 [(n, -7)] 0 false, one_ b 2 2 0 [(n, -7)] 1 false, one_ b 2 2 0 [(n, -7)] 2 false]) AC2 HC2 := g
  replace ht : HC2 T2 = some (.tup [.str b, .int 2]) := ht
  have ht2 := ht
  clear ht fr
  clear e8
  replace ht1 := (g.kp go.gs).t _ _ ht1
  replace go := go.trans g
  clear g
  refine ⟨_, rfl, p, AC2.dx, _, rfl, go.gs.ins, by kernel_rfl, _, rfl, by show 2 ≤ sizeLine; decide, fun t11 n12 => ?_⟩
  have s15 := same_upd (o := .tup [V.str a, .int 0]) n12
  have e13 := upd_same (H := HC2) (a := t11) (o := .tup [V.str a, .int 0])
  generalize upd HC2 t11 (.tup [V.str a, .int 0]) = H14 at *
  replace go := go.post s15
  replace ht1 := s15 _ _ ht1
  replace ht2 := s15 _ _ ht2
  clear s15 n12
  refine ⟨p, t11, AC2, _, one_ a 2 2 2 [] 0 true, rfl, go.gs, .inl e13, List.mem_cons_self .., by show 4 < 100; decide, fun T3 HC3 nn AC3 fr g ht => ?_⟩
  have hnn : nn = 1 := free_is fr (by decide) (fun m h1 h2 => ?_) ?_
  rotate_left
  · exact absurd h2 (by omega)
  · simp [grd, one_, One.key, ab, ba]
  subst hnn
  replace g : Go w K C CH H14 p AC2 (grd a b NM RW [one_ a 2 2 2 [] 0 true, one_ b 2 2 0 [(n, -7)] 0 false, one_ b 2 2 0 [(n, -7)] 1 false, one_ b 2 2 0 [(n, -7)] 2 false, one_ a 2 2 2 [] 1 true]) AC3 HC3 := g
  replace ht : HC3 T3 = some (.tup [.str a, .int 1]) := ht
  have ht3 := ht
  clear ht fr
  clear e13
  replace ht1 := (g.kp go.gs).t _ _ ht1
  replace ht2 := (g.kp go.gs).t _ _ ht2
  replace go := go.trans g
  clear g
  refine ⟨_, rfl, p, AC3.dx, _, rfl, go.gs.ins, by kernel_rfl, _, rfl, by show 2 ≤ sizeLine; decide, fun t16 n17 => ?_⟩
  have s20 := same_upd (o := .tup [V.str b, .int 2]) n17
  have e18 := upd_same (H := HC3) (a := t16) (o := .tup [V.str b, .int 2])
  generalize upd HC3 t16 (.tup [V.str b, .int 2]) = H19 at *
  replace go := go.post s20
  replace ht1 := s20 _ _ ht1
  replace ht2 := s20 _ _ ht2
  replace ht3 := s20 _ _ ht3
  clear s20 n17
  refine ⟨p, t16, AC3, _, one_ b 2 2 0 [(n, -7)] 2 false, rfl, go.gs, .inl e18, List.mem_cons_of_mem _ (List.mem_cons_of_mem _ (List.mem_cons_of_mem _ (List.mem_cons_self ..))), by show 5 < 100; decide, fun T4 HC4 nn AC4 fr g ht => ?_⟩
  have hnn : nn = 3 := free_is fr (by decide) (fun m h1 h2 => ?_) ?_
  rotate_left
  · obtain rfl | rfl : m = 1 ∨ m = 2 := by omega
    · simp [grd, one_, One.key, ab, ba]
    simp [grd, one_, One.key, ab, ba]
  · simp [grd, one_, One.key, ab, ba]
  subst hnn
  replace g : Go w K C CH H19 p AC3 (grd a b NM RW [one_ a 2 2 2 [] 0 true, one_ b 2 2 0 [(n, -7)] 0 false, one_ b 2 2 0 [(n, -7)] 1 false, one_ b 2 2 0 [(n, -7)] 2 false, one_ a 2 2 2 [] 1 true, one_ b 2 2 0 [(n, -7)] 3 false]) AC4 HC4 := g
  replace ht : HC4 T4 = some (.tup [.str b, .int 3]) := ht
  have ht4 := ht
  clear ht fr
  clear e18
  replace ht1 := (g.kp go.gs).t _ _ ht1
  replace ht2 := (g.kp go.gs).t _ _ ht2
  replace ht3 := (g.kp go.gs).t _ _ ht3
  replace go := go.trans g
  clear g
  refine ⟨by show 4 ≤ sizeLine; decide, fun t21 n22 => ?_⟩
  have s25 := same_upd (o := .lst [V.ref T1, .ref T2, .ref T3, .ref T4]) n22
  have e23 := upd_same (H := HC4) (a := t21) (o := .lst [V.ref T1, .ref T2, .ref T3, .ref T4])
  have n_e23 := go.gs.new n22
  generalize upd HC4 t21 (.lst [V.ref T1, .ref T2, .ref T3, .ref T4]) = H24 at *
  replace go := go.post s25
  replace ht1 := s25 _ _ ht1
  replace ht2 := s25 _ _ ht2
  replace ht3 := s25 _ _ ht3
  replace ht4 := s25 _ _ ht4
  clear s25 n22
  refine ⟨_, rfl, _, rfl, by show 2 ≤ sizeLine; decide, fun t26 n27 => ?_⟩
  have s30 := same_upd (o := .tup [V.str b, .int 1]) n27
  have e28 := upd_same (H := H24) (a := t26) (o := .tup [V.str b, .int 1])
  generalize upd H24 t26 (.tup [V.str b, .int 1]) = H29 at *
  replace go := go.post s30
  replace ht1 := s30 _ _ ht1
  replace ht2 := s30 _ _ ht2
  replace ht3 := s30 _ _ ht3
  replace ht4 := s30 _ _ ht4
  replace e23 := s30 _ _ e23
  clear s30 n27
  refine ⟨_, rfl, by show 2 ≤ sizeLine; decide, fun t31 n32 => ?_⟩
  have s35 := same_upd (o := .tup [V.str b, .int 2]) n32
  have e33 := upd_same (H := H29) (a := t31) (o := .tup [V.str b, .int 2])
  generalize upd H29 t31 (.tup [V.str b, .int 2]) = H34 at *
  replace go := go.post s35
  replace ht1 := s35 _ _ ht1
  replace ht2 := s35 _ _ ht2
  replace ht3 := s35 _ _ ht3
  replace ht4 := s35 _ _ ht4
  replace e23 := s35 _ _ e23
  replace e28 := s35 _ _ e28
  clear s35 n32
  refine ⟨_, rfl, by show 2 ≤ sizeLine; decide, fun t36 n37 => ?_⟩
  have s40 := same_upd (o := .tup [V.str a, .int 1]) n37
  have e38 := upd_same (H := H34) (a := t36) (o := .tup [V.str a, .int 1])
  generalize upd H34 t36 (.tup [V.str a, .int 1]) = H39 at *
  replace go := go.post s40
  replace ht1 := s40 _ _ ht1
  replace ht2 := s40 _ _ ht2
  replace ht3 := s40 _ _ ht3
  replace ht4 := s40 _ _ ht4
  replace e23 := s40 _ _ e23
  replace e28 := s40 _ _ e28
  replace e33 := s40 _ _ e33
  clear s40 n37
  refine ⟨_, rfl, by show 2 ≤ sizeLine; decide, fun t41 n42 => ?_⟩
  have s45 := same_upd (o := .tup [V.str b, .int 3]) n42
  have e43 := upd_same (H := H39) (a := t41) (o := .tup [V.str b, .int 3])
  generalize upd H39 t41 (.tup [V.str b, .int 3]) = H44 at *
  replace go := go.post s45
  replace ht1 := s45 _ _ ht1
  replace ht2 := s45 _ _ ht2
  replace ht3 := s45 _ _ ht3
  replace ht4 := s45 _ _ ht4
  replace e23 := s45 _ _ e23
  replace e28 := s45 _ _ e28
  replace e33 := s45 _ _ e33
  replace e38 := s45 _ _ e38
  clear s45 n42
  refine ⟨by show 4 ≤ sizeLine; decide, fun t46 n47 => ?_⟩
  have s50 := same_upd (o := .lst [V.ref t26, .ref t31, .ref t36, .ref t41]) n47
  have e48 := upd_same (H := H44) (a := t46) (o := .lst [V.ref t26, .ref t31, .ref t36, .ref t41])
  have n_e48 := go.gs.new n47
  generalize upd H44 t46 (.lst [V.ref t26, .ref t31, .ref t36, .ref t41]) = H49 at *
  replace go := go.post s50
  replace ht1 := s50 _ _ ht1
  replace ht2 := s50 _ _ ht2
  replace ht3 := s50 _ _ ht3
  replace ht4 := s50 _ _ ht4
  replace e23 := s50 _ _ e23
  replace e28 := s50 _ _ e28
  replace e33 := s50 _ _ e33
  replace e38 := s50 _ _ e38
  replace e43 := s50 _ _ e43
  clear s50 n47
  refine ⟨.list [.tuple [.str b, .int 1], .tuple [.str b, .int 2], .tuple [.str a, .int 1], .tuple [.str b, .int 3]], .list [.tuple [.str b, .int 1], .tuple [.str b, .int 2], .tuple [.str a, .int 1], .tuple [.str b, .int 3]], .lst (SqL.of e23) (.cons (.tup (.inl (.inl ht1)) (.cons (.str _) (.cons (.int _) .nil))) (.cons (.tup (.inl (.inl ht2)) (.cons (.str _) (.cons (.int _) .nil))) (.cons (.tup (.inl (.inl ht3)) (.cons (.str _) (.cons (.int _) .nil))) (.cons (.tup (.inl (.inl ht4)) (.cons (.str _) (.cons (.int _) .nil))) .nil)))), .lst (SqL.of e48) (.cons (.tup (.inl (.inl e28)) (.cons (.str _) (.cons (.int _) .nil))) (.cons (.tup (.inl (.inl e33)) (.cons (.str _) (.cons (.int _) .nil))) (.cons (.tup (.inl (.inl e38)) (.cons (.str _) (.cons (.int _) .nil))) (.cons (.tup (.inl (.inl e43)) (.cons (.str _) (.cons (.int _) .nil))) .nil)))), Sh.shaped (Sh.list (n := 1) (mem_c (Sh.tuple (n := 0) (mem_c (.str W.sb) (mem_c (.int _) mem_0))) (mem_c (Sh.tuple (n := 0) (mem_c (.str W.sb) (mem_c (.int _) mem_0))) (mem_c (Sh.tuple (n := 0) (mem_c (.str W.sa) (mem_c (.int _) mem_0))) (mem_c (Sh.tuple (n := 0) (mem_c (.str W.sb) (mem_c (.int _) mem_0))) mem_0))))) (by decide), Sh.shaped (Sh.list (n := 1) (mem_c (Sh.tuple (n := 0) (mem_c (.str W.sb) (mem_c (.int _) mem_0))) (mem_c (Sh.tuple (n := 0) (mem_c (.str W.sb) (mem_c (.int _) mem_0))) (mem_c (Sh.tuple (n := 0) (mem_c (.str W.sa) (mem_c (.int _) mem_0))) (mem_c (Sh.tuple (n := 0) (mem_c (.str W.sb) (mem_c (.int _) mem_0))) mem_0))))) (by decide), _, rfl, ?_⟩
  rw [SeqAt.eqv_refl _ (Sh.l (Sh.list (n := 1) (mem_c (Sh.tuple (n := 0) (mem_c (.str W.sb) (mem_c (.int _) mem_0))) (mem_c (Sh.tuple (n := 0) (mem_c (.str W.sb) (mem_c (.int _) mem_0))) (mem_c (Sh.tuple (n := 0) (mem_c (.str W.sa) (mem_c (.int _) mem_0))) (mem_c (Sh.tuple (n := 0) (mem_c (.str W.sb) (mem_c (.int _) mem_0))) mem_0))))))]
  refine ifFF ?_
  clear ht1 ht2 ht3 ht4 e23 e48 e28 e33 e38 e43
  refine ⟨_, rfl, p, AC4.dx, _, rfl, go.gs.ins, p, _, rfl, go.gs.at, ⟨_, rfl, by show (0 : Int) ≤ 6; decide, by show (6 : Int) < _; decide⟩, rfl, _, rfl, ?_⟩
  show if (!decide (V.int 6 = V.int 6)) = true then _ else _
  rw [decide_eq_true rfl]
  refine ifFF ?_
  refine ⟨_, rfl, p, AC4.dx, _, rfl, go.gs.ins, by kernel_rfl, _, rfl, by show 2 ≤ sizeLine; decide, fun t51 n52 => ?_⟩
  have s55 := same_upd (o := .tup [V.str b, .int 1]) n52
  have e53 := upd_same (H := H49) (a := t51) (o := .tup [V.str b, .int 1])
  generalize upd H49 t51 (.tup [V.str b, .int 1]) = H54 at *
  replace go := go.post s55
  clear s55 n52
  refine ⟨_, rfl, by show 3 ≤ sizeLine; decide, fun t56 n57 => ?_⟩
  have s60 := same_upd (o := .tup [V.str "set", .str n, .int 99]) n57
  have e58 := upd_same (H := H54) (a := t56) (o := .tup [V.str "set", .str n, .int 99])
  generalize upd H54 t56 (.tup [V.str "set", .str n, .int 99]) = H59 at *
  replace go := go.post s60
  replace e53 := s60 _ _ e53
  clear s60 n57
  refine ⟨p, t51, t56, .ref e0, AC4, "set", [.str n], [.int 99], [.num 99], _, 2, one_ b 2 2 0 [(n, -7)] 1 false, [], _, .non, (grd a b NM RW [one_ a 2 2 2 [] 0 true, one_ b 2 2 0 [(n, -7)] 0 false, one_ b 2 2 0 [(n, 99)] 1 false, one_ b 2 2 0 [(n, -7)] 2 false, one_ a 2 2 2 [] 1 true, one_ b 2 2 0 [(n, -7)] 3 false]), rfl, go.gs, .inl e53, rfl, .inr (.inl (.inl e58)), .cons (.num _) .nil, by show 1 ≤ 100; decide, (fun L hL => by rw [List.mem_singleton.mp hL]; show 1 ≤ 6; decide), ⟨e0, [], rfl, .inr (he0 _), .nil⟩, by decide, vals_num (by decide), .held (.inl (by decide +kernel)) (G' := (grd a b NM RW [one_ a 2 2 2 [] 0 true, one_ b 2 2 0 [(n, -7)] 0 false, one_ b 2 2 0 [(n, 99)] 1 false, one_ b 2 2 0 [(n, -7)] 2 false, one_ a 2 2 2 [] 1 true, one_ b 2 2 0 [(n, -7)] 3 false])) ((held_nmI (n := n) (old := -7) (nm := []) (u := 99) (by decide +kernel) rfl rfl).trans (congrArg (fun x => Except.ok (Gs.put _ _ (One.ns_ _ x))) setN1)), fun H70 g => ?_⟩
  clear e53 e58
  replace go := go.trans g
  clear g
  refine ⟨_, rfl, p, AC4.dx, _, rfl, go.gs.ins, by kernel_rfl, _, rfl, by show 2 ≤ sizeLine; decide, fun t61 n62 => ?_⟩
  have s65 := same_upd (o := .tup [V.str b, .int 2]) n62
  have e63 := upd_same (H := H70) (a := t61) (o := .tup [V.str b, .int 2])
  generalize upd H70 t61 (.tup [V.str b, .int 2]) = H64 at *
  replace go := go.post s65
  clear s65 n62
  refine ⟨p, t61, AC4, _, 3, one_ b 2 2 0 [(n, -7)] 2 false, rfl, go.gs, .inl e63, rfl, fun H69 g => ?_⟩
  replace g : Go w K C CH H64 p AC4 (grd a b NM RW [one_ a 2 2 2 [] 0 true, one_ b 2 2 0 [(n, -7)] 0 false, one_ b 2 2 0 [(n, 99)] 1 false, one_ a 2 2 2 [] 1 true, one_ b 2 2 0 [(n, -7)] 3 false]) (AC4.cut 3) H69 := g
  obtain ⟨AE, eAE⟩ : ∃ AE, AE = AC4.cut 3 := ⟨_, rfl⟩
  rw [← eAE] at g
  clear eAE
  clear e63
  replace go := go.trans g
  clear g
  refine ⟨_, rfl, p, AE.dx, _, rfl, go.gs.ins, by kernel_rfl, _, rfl, by show 2 ≤ sizeLine; decide, fun t66 n67 => ?_⟩
  have s70 := same_upd (o := .tup [V.str b, .int 1]) n67
  have e68 := upd_same (H := H69) (a := t66) (o := .tup [V.str b, .int 1])
  generalize upd H69 t66 (.tup [V.str b, .int 1]) = H69 at *
  replace go := go.post s70
  clear s70 n67
  refine ⟨p, t66, AE, _, one_ b 2 2 0 [(n, 99)] 1 false, rfl, go.gs, .inl e68, List.mem_cons_of_mem _ (List.mem_cons_of_mem _ (List.mem_cons_self ..)), by show 5 < 100; decide, fun T5 HC5 nn AC5 fr g ht => ?_⟩
  have hnn : nn = 2 := free_is fr (by decide) (fun m h1 h2 => ?_) ?_
  rotate_left
  · obtain rfl : m = 1 := by omega
    simp [grd, one_, One.key, ab, ba]
  · simp [grd, one_, One.key, ab, ba]
  subst hnn
  replace g : Go w K C CH H69 p AE (grd a b NM RW [one_ a 2 2 2 [] 0 true, one_ b 2 2 0 [(n, -7)] 0 false, one_ b 2 2 0 [(n, 99)] 1 false, one_ a 2 2 2 [] 1 true, one_ b 2 2 0 [(n, -7)] 3 false, one_ b 2 2 0 [(n, 99)] 2 false]) AC5 HC5 := g
  replace ht : HC5 T5 = some (.tup [.str b, .int 2]) := ht
  have ht5 := ht
  clear ht fr
  clear e68
  replace go := go.trans g
  clear g
  refine ⟨_, rfl, by show 2 ≤ sizeLine; decide, fun t71 n72 => ?_⟩
  have s75 := same_upd (o := .tup [V.str b, .int 2]) n72
  have e73 := upd_same (H := HC5) (a := t71) (o := .tup [V.str b, .int 2])
  generalize upd HC5 t71 (.tup [V.str b, .int 2]) = H74 at *
  replace go := go.post s75
  replace ht5 := s75 _ _ ht5
  clear s75 n72
  refine ⟨.tuple [.str b, .int 2], .tuple [.str b, .int 2], .tup (.inl (.inl ht5)) (.cons (.str _) (.cons (.int _) .nil)), .tup (.inl (.inl e73)) (.cons (.str _) (.cons (.int _) .nil)), Sh.shaped (Sh.tuple (n := 0) (mem_c (.str W.sb) (mem_c (.int _) mem_0))) (by decide), Sh.shaped (Sh.tuple (n := 0) (mem_c (.str W.sb) (mem_c (.int _) mem_0))) (by decide), _, rfl, ?_⟩
  rw [SeqAt.eqv_refl _ (Sh.l (Sh.tuple (n := 0) (mem_c (.str W.sb) (mem_c (.int _) mem_0))))]
  refine ifFF ?_
  clear ht5 e73
  refine ⟨_, rfl, p, AC5.dx, _, rfl, go.gs.ins, by kernel_rfl, p, _, rfl, go.gs.at, (fun o ho => by
    simp only [grd, one_, List.mem_cons, List.not_mem_nil, or_false] at ho ⊢
    rcases ho with rfl | rfl | rfl | rfl | rfl | rfl <;> simp), go.tb, fun l H68 as x T nl hl pk => ?_⟩
  have nd6 := go.gs.ok.nd
  replace go := go.ext x T
  have hO : Dp K H68 (.ref l) (.list [.tuple [.str a, .int 0], .tuple [.str a, .int 1], .tuple [.str b, .int 0], .tuple [.str b, .int 1], .tuple [.str b, .int 2], .tuple [.str b, .int 3]]) := by
    have q9 := dp_onesL (K := K) hl pk
    rw [show ((grd a b NM RW [one_ a 2 2 2 [] 0 true, one_ b 2 2 0 [(n, -7)] 0 false, one_ b 2 2 0 [(n, 99)] 1 false, one_ a 2 2 2 [] 1 true, one_ b 2 2 0 [(n, -7)] 3 false, one_ b 2 2 0 [(n, 99)] 2 false])).srt.map oneP = [.tuple [.str a, .int 0], .tuple [.str a, .int 1], .tuple [.str b, .int 0], .tuple [.str b, .int 1], .tuple [.str b, .int 2], .tuple [.str b, .int 3]] from srt6 W nd6] at q9
    exact q9
  clear x T nl hl pk nd6
  refine ⟨_, rfl, by show 2 ≤ sizeLine; decide, fun t76 n77 => ?_⟩
  have s80 := same_upd (o := .tup [V.str a, .int 0]) n77
  have e78 := upd_same (H := H68) (a := t76) (o := .tup [V.str a, .int 0])
  generalize upd H68 t76 (.tup [V.str a, .int 0]) = H79 at *
  replace go := go.post s80
  replace hO := dp_same s80 _ _ hO
  clear s80 n77
  refine ⟨_, rfl, by show 2 ≤ sizeLine; decide, fun t81 n82 => ?_⟩
  have s85 := same_upd (o := .tup [V.str a, .int 1]) n82
  have e83 := upd_same (H := H79) (a := t81) (o := .tup [V.str a, .int 1])
  generalize upd H79 t81 (.tup [V.str a, .int 1]) = H84 at *
  replace go := go.post s85
  replace hO := dp_same s85 _ _ hO
  replace e78 := s85 _ _ e78
  clear s85 n82
  refine ⟨_, rfl, by show 2 ≤ sizeLine; decide, fun t86 n87 => ?_⟩
  have s90 := same_upd (o := .tup [V.str b, .int 0]) n87
  have e88 := upd_same (H := H84) (a := t86) (o := .tup [V.str b, .int 0])
  generalize upd H84 t86 (.tup [V.str b, .int 0]) = H89 at *
  replace go := go.post s90
  replace hO := dp_same s90 _ _ hO
  replace e78 := s90 _ _ e78
  replace e83 := s90 _ _ e83
  clear s90 n87
  refine ⟨_, rfl, by show 2 ≤ sizeLine; decide, fun t91 n92 => ?_⟩
  have s95 := same_upd (o := .tup [V.str b, .int 1]) n92
  have e93 := upd_same (H := H89) (a := t91) (o := .tup [V.str b, .int 1])
  generalize upd H89 t91 (.tup [V.str b, .int 1]) = H94 at *
  replace go := go.post s95
  replace hO := dp_same s95 _ _ hO
  replace e78 := s95 _ _ e78
  replace e83 := s95 _ _ e83
  replace e88 := s95 _ _ e88
  clear s95 n92
  refine ⟨_, rfl, by show 2 ≤ sizeLine; decide, fun t96 n97 => ?_⟩
  have s100 := same_upd (o := .tup [V.str b, .int 2]) n97
  have e98 := upd_same (H := H94) (a := t96) (o := .tup [V.str b, .int 2])
  generalize upd H94 t96 (.tup [V.str b, .int 2]) = H99 at *
  replace go := go.post s100
  replace hO := dp_same s100 _ _ hO
  replace e78 := s100 _ _ e78
  replace e83 := s100 _ _ e83
  replace e88 := s100 _ _ e88
  replace e93 := s100 _ _ e93
  clear s100 n97
  refine ⟨_, rfl, by show 2 ≤ sizeLine; decide, fun t101 n102 => ?_⟩
  have s105 := same_upd (o := .tup [V.str b, .int 3]) n102
  have e103 := upd_same (H := H99) (a := t101) (o := .tup [V.str b, .int 3])
  generalize upd H99 t101 (.tup [V.str b, .int 3]) = H104 at *
  replace go := go.post s105
  replace hO := dp_same s105 _ _ hO
  replace e78 := s105 _ _ e78
  replace e83 := s105 _ _ e83
  replace e88 := s105 _ _ e88
  replace e93 := s105 _ _ e93
  replace e98 := s105 _ _ e98
  clear s105 n102
  refine ⟨by show 6 ≤ sizeLine; decide, fun t106 n107 => ?_⟩
  have s110 := same_upd (o := .lst [V.ref t76, .ref t81, .ref t86, .ref t91, .ref t96, .ref t101]) n107
  have e108 := upd_same (H := H104) (a := t106) (o := .lst [V.ref t76, .ref t81, .ref t86, .ref t91, .ref t96, .ref t101])
  have n_e108 := go.gs.new n107
  generalize upd H104 t106 (.lst [V.ref t76, .ref t81, .ref t86, .ref t91, .ref t96, .ref t101]) = H109 at *
  replace go := go.post s110
  replace hO := dp_same s110 _ _ hO
  replace e78 := s110 _ _ e78
  replace e83 := s110 _ _ e83
  replace e88 := s110 _ _ e88
  replace e93 := s110 _ _ e93
  replace e98 := s110 _ _ e98
  replace e103 := s110 _ _ e103
  clear s110 n107
  refine ⟨.list [.tuple [.str a, .int 0], .tuple [.str a, .int 1], .tuple [.str b, .int 0], .tuple [.str b, .int 1], .tuple [.str b, .int 2], .tuple [.str b, .int 3]], .list [.tuple [.str a, .int 0], .tuple [.str a, .int 1], .tuple [.str b, .int 0], .tuple [.str b, .int 1], .tuple [.str b, .int 2], .tuple [.str b, .int 3]], hO, .lst (SqL.of e108) (.cons (.tup (.inl (.inl e78)) (.cons (.str _) (.cons (.int _) .nil))) (.cons (.tup (.inl (.inl e83)) (.cons (.str _) (.cons (.int _) .nil))) (.cons (.tup (.inl (.inl e88)) (.cons (.str _) (.cons (.int _) .nil))) (.cons (.tup (.inl (.inl e93)) (.cons (.str _) (.cons (.int _) .nil))) (.cons (.tup (.inl (.inl e98)) (.cons (.str _) (.cons (.int _) .nil))) (.cons (.tup (.inl (.inl e103)) (.cons (.str _) (.cons (.int _) .nil))) .nil)))))), Sh.shaped (Sh.list (n := 1) (mem_c (Sh.tuple (n := 0) (mem_c (.str W.sa) (mem_c (.int _) mem_0))) (mem_c (Sh.tuple (n := 0) (mem_c (.str W.sa) (mem_c (.int _) mem_0))) (mem_c (Sh.tuple (n := 0) (mem_c (.str W.sb) (mem_c (.int _) mem_0))) (mem_c (Sh.tuple (n := 0) (mem_c (.str W.sb) (mem_c (.int _) mem_0))) (mem_c (Sh.tuple (n := 0) (mem_c (.str W.sb) (mem_c (.int _) mem_0))) (mem_c (Sh.tuple (n := 0) (mem_c (.str W.sb) (mem_c (.int _) mem_0))) mem_0))))))) (by decide), Sh.shaped (Sh.list (n := 1) (mem_c (Sh.tuple (n := 0) (mem_c (.str W.sa) (mem_c (.int _) mem_0))) (mem_c (Sh.tuple (n := 0) (mem_c (.str W.sa) (mem_c (.int _) mem_0))) (mem_c (Sh.tuple (n := 0) (mem_c (.str W.sb) (mem_c (.int _) mem_0))) (mem_c (Sh.tuple (n := 0) (mem_c (.str W.sb) (mem_c (.int _) mem_0))) (mem_c (Sh.tuple (n := 0) (mem_c (.str W.sb) (mem_c (.int _) mem_0))) (mem_c (Sh.tuple (n := 0) (mem_c (.str W.sb) (mem_c (.int _) mem_0))) mem_0))))))) (by decide), _, rfl, ?_⟩
  rw [SeqAt.eqv_refl _ (Sh.l (Sh.list (n := 1) (mem_c (Sh.tuple (n := 0) (mem_c (.str W.sa) (mem_c (.int _) mem_0))) (mem_c (Sh.tuple (n := 0) (mem_c (.str W.sa) (mem_c (.int _) mem_0))) (mem_c (Sh.tuple (n := 0) (mem_c (.str W.sb) (mem_c (.int _) mem_0))) (mem_c (Sh.tuple (n := 0) (mem_c (.str W.sb) (mem_c (.int _) mem_0))) (mem_c (Sh.tuple (n := 0) (mem_c (.str W.sb) (mem_c (.int _) mem_0))) (mem_c (Sh.tuple (n := 0) (mem_c (.str W.sb) (mem_c (.int _) mem_0))) mem_0))))))))]
  refine ifFF ?_
  clear hO e108 e78 e83 e88 e93 e98 e103
  refine ⟨_, rfl, by decide, by decide, fun D nD => lc_it walk_range (fun i H' => BldT K D H109 (((tolds n).take i).map nmD) H') (BldT.nil nD) (fun _ _ _ _ => trivial) ?_ ?_⟩
  · rintro i x _ HB hi B ⟨rfl, ex⟩
    obtain rfl : x = V.int i := ex.trans (congrArg V.int (Int.zero_add _))
    have hi : i < 4 := hi
    obtain ⟨o, nm, ho, ek, em⟩ : ∃ (o : One) (nm : Nms), o ∈ (grd a b NM RW [one_ a 2 2 2 [] 0 true, one_ b 2 2 0 [(n, -7)] 0 false, one_ b 2 2 0 [(n, 99)] 1 false, one_ a 2 2 2 [] 1 true, one_ b 2 2 0 [(n, -7)] 3 false, one_ b 2 2 0 [(n, 99)] 2 false]).ones ∧ (o.f.nm = b ∧ o.no = (i : Int) ∧ o.f.ns = nm) ∧ (tolds n)[i]? = some nm := by
      match i, hi with
      | 0, _ => exact ⟨one_ b 2 2 0 [(n, -7)] 0 false, _, List.mem_cons_of_mem _ (List.mem_cons_self ..), ⟨rfl, rfl, rfl⟩, rfl⟩
      | 1, _ => exact ⟨one_ b 2 2 0 [(n, 99)] 1 false, _, List.mem_cons_of_mem _ (List.mem_cons_of_mem _ (List.mem_cons_self ..)), ⟨rfl, rfl, rfl⟩, rfl⟩
      | 2, _ => exact ⟨one_ b 2 2 0 [(n, 99)] 2 false, _, List.mem_cons_of_mem _ (List.mem_cons_of_mem _ (List.mem_cons_of_mem _ (List.mem_cons_of_mem _ (List.mem_cons_of_mem _ (List.mem_cons_self ..))))), ⟨rfl, rfl, rfl⟩, rfl⟩
      | 3, _ => exact ⟨one_ b 2 2 0 [(n, -7)] 3 false, _, List.mem_cons_of_mem _ (List.mem_cons_of_mem _ (List.mem_cons_of_mem _ (List.mem_cons_of_mem _ (List.mem_cons_self ..)))), ⟨rfl, rfl, rfl⟩, rfl⟩
    obtain ⟨ek1, ek2, rfl⟩ := ek
    have g1 := go.gs.same B.1
    refine ⟨rfl, yesI (iteT ⟨_, rfl, p, AC5.dx, _, rfl, g1.ins, by kernel_rfl, _, rfl, _, rfl, by show 2 ≤ sizeLine; decide, fun t nt => ?_⟩)⟩
    have st := same_upd (o := .tup [V.str b, .int (i : Nat)]) nt
    have et := upd_same (H := HB) (a := t) (o := .tup [V.str b, .int (i : Nat)])
    generalize upd HB t (.tup [V.str b, .int (i : Nat)]) = HC at *
    have et' : OneT HC t o := by
      unfold OneT
      rw [ek1, ek2]
      exact et
    refine ⟨rfl, rfl, p, .ref t, _, _, _, rfl, (g1.same st).at, .inr ⟨t, o, rfl, .inl et', ho, rfl, rfl⟩, fun v HD as s2 tr fr => ?_⟩
    have := B.push nD (st.trans s2) tr (fun b hb => same_free st (fr b hb)) (by rw [List.length_map, List.length_take]; omega)
    have e4 : List.take (i + 1) (tolds n) = List.take i (tolds n) ++ [o.f.ns] := by
      rw [List.take_succ, em]
      rfl
    dsimp only
    rw [e4, List.map_append]
    exact this
  rintro HB B
  obtain ⟨as, tr, fr⟩ := B.tr nD
  replace go := go.post B.1
  have hO : Dp K HB (.ref D) (.list [nmD [(n, -7)], nmD [(n, 99)], nmD [(n, 99)], nmD [(n, -7)]]) := tr_dp _ _ _ tr
  clear tr fr B
  refine ⟨_, rfl, _, rfl, _, rfl, by show 2 ≤ sizeLine; decide, fun t111 n112 => ?_⟩
  have s115 := same_upd (o := .tup [V.str n, .int (-7)]) n112
  have e113 := upd_same (H := HB) (a := t111) (o := .tup [V.str n, .int (-7)])
  generalize upd HB t111 (.tup [V.str n, .int (-7)]) = H114 at *
  replace go := go.post s115
  replace hO := dp_same s115 _ _ hO
  clear s115 n112
  refine ⟨by show 1 ≤ sizeLine; decide, fun t116 n117 => ?_⟩
  have s120 := same_upd (o := .lst [V.ref t111]) n117
  have e118 := upd_same (H := H114) (a := t116) (o := .lst [V.ref t111])
  have n_e118 := go.gs.new n117
  generalize upd H114 t116 (.lst [V.ref t111]) = H119 at *
  replace go := go.post s120
  replace hO := dp_same s120 _ _ hO
  replace e113 := s120 _ _ e113
  clear s120 n117
  refine ⟨_, rfl, by show 2 ≤ sizeLine; decide, fun t121 n122 => ?_⟩
  have s125 := same_upd (o := .tup [V.str n, .int 99]) n122
  have e123 := upd_same (H := H119) (a := t121) (o := .tup [V.str n, .int 99])
  generalize upd H119 t121 (.tup [V.str n, .int 99]) = H124 at *
  replace go := go.post s125
  replace hO := dp_same s125 _ _ hO
  replace e113 := s125 _ _ e113
  replace e118 := s125 _ _ e118
  clear s125 n122
  refine ⟨by show 1 ≤ sizeLine; decide, fun t126 n127 => ?_⟩
  have s130 := same_upd (o := .lst [V.ref t121]) n127
  have e128 := upd_same (H := H124) (a := t126) (o := .lst [V.ref t121])
  have n_e128 := go.gs.new n127
  generalize upd H124 t126 (.lst [V.ref t121]) = H129 at *
  replace go := go.post s130
  replace hO := dp_same s130 _ _ hO
  replace e113 := s130 _ _ e113
  replace e118 := s130 _ _ e118
  replace e123 := s130 _ _ e123
  clear s130 n127
  refine ⟨_, rfl, by show 2 ≤ sizeLine; decide, fun t131 n132 => ?_⟩
  have s135 := same_upd (o := .tup [V.str n, .int 99]) n132
  have e133 := upd_same (H := H129) (a := t131) (o := .tup [V.str n, .int 99])
  generalize upd H129 t131 (.tup [V.str n, .int 99]) = H134 at *
  replace go := go.post s135
  replace hO := dp_same s135 _ _ hO
  replace e113 := s135 _ _ e113
  replace e118 := s135 _ _ e118
  replace e123 := s135 _ _ e123
  replace e128 := s135 _ _ e128
  clear s135 n132
  refine ⟨by show 1 ≤ sizeLine; decide, fun t136 n137 => ?_⟩
  have s140 := same_upd (o := .lst [V.ref t131]) n137
  have e138 := upd_same (H := H134) (a := t136) (o := .lst [V.ref t131])
  have n_e138 := go.gs.new n137
  generalize upd H134 t136 (.lst [V.ref t131]) = H139 at *
  replace go := go.post s140
  replace hO := dp_same s140 _ _ hO
  replace e113 := s140 _ _ e113
  replace e118 := s140 _ _ e118
  replace e123 := s140 _ _ e123
  replace e128 := s140 _ _ e128
  replace e133 := s140 _ _ e133
  clear s140 n137
  refine ⟨_, rfl, _, rfl, by show 2 ≤ sizeLine; decide, fun t141 n142 => ?_⟩
  have s145 := same_upd (o := .tup [V.str n, .int (-7)]) n142
  have e143 := upd_same (H := H139) (a := t141) (o := .tup [V.str n, .int (-7)])
  generalize upd H139 t141 (.tup [V.str n, .int (-7)]) = H144 at *
  replace go := go.post s145
  replace hO := dp_same s145 _ _ hO
  replace e113 := s145 _ _ e113
  replace e118 := s145 _ _ e118
  replace e123 := s145 _ _ e123
  replace e128 := s145 _ _ e128
  replace e133 := s145 _ _ e133
  replace e138 := s145 _ _ e138
  clear s145 n142
  refine ⟨by show 1 ≤ sizeLine; decide, fun t146 n147 => ?_⟩
  have s150 := same_upd (o := .lst [V.ref t141]) n147
  have e148 := upd_same (H := H144) (a := t146) (o := .lst [V.ref t141])
  have n_e148 := go.gs.new n147
  generalize upd H144 t146 (.lst [V.ref t141]) = H149 at *
  replace go := go.post s150
  replace hO := dp_same s150 _ _ hO
  replace e113 := s150 _ _ e113
  replace e118 := s150 _ _ e118
  replace e123 := s150 _ _ e123
  replace e128 := s150 _ _ e128
  replace e133 := s150 _ _ e133
  replace e138 := s150 _ _ e138
  replace e143 := s150 _ _ e143
  clear s150 n147
  refine ⟨by show 4 ≤ sizeLine; decide, fun t151 n152 => ?_⟩
  have s155 := same_upd (o := .lst [V.ref t116, .ref t126, .ref t136, .ref t146]) n152
  have e153 := upd_same (H := H149) (a := t151) (o := .lst [V.ref t116, .ref t126, .ref t136, .ref t146])
  have n_e153 := go.gs.new n152
  generalize upd H149 t151 (.lst [V.ref t116, .ref t126, .ref t136, .ref t146]) = H154 at *
  replace go := go.post s155
  replace hO := dp_same s155 _ _ hO
  replace e113 := s155 _ _ e113
  replace e118 := s155 _ _ e118
  replace e123 := s155 _ _ e123
  replace e128 := s155 _ _ e128
  replace e133 := s155 _ _ e133
  replace e138 := s155 _ _ e138
  replace e143 := s155 _ _ e143
  replace e148 := s155 _ _ e148
  clear s155 n152
  refine ⟨.list [nmD [(n, -7)], nmD [(n, 99)], nmD [(n, 99)], nmD [(n, -7)]], .list [nmD [(n, -7)], nmD [(n, 99)], nmD [(n, 99)], nmD [(n, -7)]], hO, .lst (SqL.of e153) (.cons (.lst (SqL.of e118) (.cons (.tup (.inl (.inl e113)) (.cons (.str _) (.cons (.int _) .nil))) .nil)) (.cons (.lst (SqL.of e128) (.cons (.tup (.inl (.inl e123)) (.cons (.str _) (.cons (.int _) .nil))) .nil)) (.cons (.lst (SqL.of e138) (.cons (.tup (.inl (.inl e133)) (.cons (.str _) (.cons (.int _) .nil))) .nil)) (.cons (.lst (SqL.of e148) (.cons (.tup (.inl (.inl e143)) (.cons (.str _) (.cons (.int _) .nil))) .nil)) .nil)))), Sh.shaped (Sh.list (n := 2) (mem_c (sh_nm fun q hq => by rw [List.mem_singleton.mp hq]; exact W.sn) (mem_c (sh_nm fun q hq => by rw [List.mem_singleton.mp hq]; exact W.sn) (mem_c (sh_nm fun q hq => by rw [List.mem_singleton.mp hq]; exact W.sn) (mem_c (sh_nm fun q hq => by rw [List.mem_singleton.mp hq]; exact W.sn) mem_0))))) (by decide), Sh.shaped (Sh.list (n := 2) (mem_c (sh_nm fun q hq => by rw [List.mem_singleton.mp hq]; exact W.sn) (mem_c (sh_nm fun q hq => by rw [List.mem_singleton.mp hq]; exact W.sn) (mem_c (sh_nm fun q hq => by rw [List.mem_singleton.mp hq]; exact W.sn) (mem_c (sh_nm fun q hq => by rw [List.mem_singleton.mp hq]; exact W.sn) mem_0))))) (by decide), _, rfl, ?_⟩
  rw [SeqAt.eqv_refl _ (Sh.l (Sh.list (n := 2) (mem_c (sh_nm fun q hq => by rw [List.mem_singleton.mp hq]; exact W.sn) (mem_c (sh_nm fun q hq => by rw [List.mem_singleton.mp hq]; exact W.sn) (mem_c (sh_nm fun q hq => by rw [List.mem_singleton.mp hq]; exact W.sn) (mem_c (sh_nm fun q hq => by rw [List.mem_singleton.mp hq]; exact W.sn) mem_0))))))]
  refine ifFF ?_
  clear hO e153 e113 e118 e123 e128 e133 e138 e143 e148
  refine ⟨_, rfl, p, AC5.dx, _, rfl, go.gs.ins, by kernel_rfl, _, rfl, by show 2 ≤ sizeLine; decide, fun t156 n157 => ?_⟩
  have s160 := same_upd (o := .tup [V.str b, .int 3]) n157
  have e158 := upd_same (H := H154) (a := t156) (o := .tup [V.str b, .int 3])
  generalize upd H154 t156 (.tup [V.str b, .int 3]) = H159 at *
  replace go := go.post s160
  clear s160 n157
  refine ⟨by show 1 ≤ sizeLine; decide, fun t161 n162 => ?_⟩
  have s165 := same_upd (o := .tup [V.str "show"]) n162
  have e163 := upd_same (H := H159) (a := t161) (o := .tup [V.str "show"])
  generalize upd H159 t161 (.tup [V.str "show"]) = H164 at *
  replace go := go.post s165
  replace e158 := s165 _ _ e158
  clear s165 n162
  refine ⟨p, t156, t161, .ref e0, AC5, "show", [], [], [], _, 4, one_ b 2 2 0 [(n, -7)] 3 false, [], [], .non, _, rfl, go.gs, .inl e158, rfl, .inr (.inl (.inl e163)), .nil, by show 0 ≤ 100; decide, (fun L hL => nomatch hL), ⟨e0, [], rfl, .inr (he0 _), .nil⟩, by decide, rfl, .spot (by decide +kernel) (.inl ⟨rfl, rfl, rfl⟩), fun H67 g => ?_⟩
  replace g : Go w K C CH H164 p AC5 (grd a b NM RW (os6 a b n true)) AC5 H67 := g
  clear e158 e163
  replace go := go.trans g
  clear g
  refine ⟨_, rfl, p, AC5.dx, _, rfl, go.gs.ins, by kernel_rfl, _, rfl, by show 2 ≤ sizeLine; decide, fun t166 n167 => ?_⟩
  have s170 := same_upd (o := .tup [V.str a, .int 0]) n167
  have e168 := upd_same (H := H67) (a := t166) (o := .tup [V.str a, .int 0])
  generalize upd H67 t166 (.tup [V.str a, .int 0]) = H169 at *
  replace go := go.post s170
  clear s170 n167
  refine ⟨p, t166, _, one_ a 2 2 2 [] 0 true, rfl, go.gs.at, .inl e168, List.mem_cons_self .., fun v171 H172 as175 s173 d174 _ => ?_⟩
  rw [show metP _ (one_ a 2 2 2 [] 0 true) = .list [.str a, .str b] from by unfold metP; rw [(met4 W).1]; rfl] at d174
  replace d174 := tr_dp _ _ _ d174
  clear e168
  replace go := go.post s173
  refine ⟨_, rfl, _, rfl, by show 2 ≤ sizeLine; decide, fun t176 n177 => ?_⟩
  have s180 := same_upd (o := .lst [V.str a, .str b]) n177
  have e178 := upd_same (H := H172) (a := t176) (o := .lst [V.str a, .str b])
  have n_e178 := go.gs.new n177
  generalize upd H172 t176 (.lst [V.str a, .str b]) = H179 at *
  replace go := go.post s180
  replace d174 := dp_same s180 _ _ d174
  clear s180 n177
  refine ⟨.list [.str a, .str b], .list [.str a, .str b], d174, .lst (SqL.of e178) (.cons (.str _) (.cons (.str _) .nil)), Sh.shaped (Sh.list (n := 0) (mem_c (.str W.sa) (mem_c (.str W.sb) mem_0))) (by decide), Sh.shaped (Sh.list (n := 0) (mem_c (.str W.sa) (mem_c (.str W.sb) mem_0))) (by decide), _, rfl, ?_⟩
  rw [SeqAt.eqv_refl _ (Sh.l (Sh.list (n := 0) (mem_c (.str W.sa) (mem_c (.str W.sb) mem_0))))]
  refine ifFF ?_
  clear d174 e178
  refine ⟨_, rfl, p, AC5.dx, _, rfl, go.gs.ins, by kernel_rfl, _, rfl, by show 2 ≤ sizeLine; decide, fun t181 n182 => ?_⟩
  have s185 := same_upd (o := .tup [V.str b, .int 3]) n182
  have e183 := upd_same (H := H179) (a := t181) (o := .tup [V.str b, .int 3])
  generalize upd H179 t181 (.tup [V.str b, .int 3]) = H184 at *
  replace go := go.post s185
  clear s185 n182
  refine ⟨p, t181, _, one_ b 2 2 0 [(n, -7)] 3 true, rfl, go.gs.at, .inl e183, List.mem_cons_of_mem _ (List.mem_cons_of_mem _ (List.mem_cons_of_mem _ (List.mem_cons_of_mem _ (List.mem_cons_self ..)))), fun v186 H187 as190 s188 d189 _ => ?_⟩
  rw [show metP _ (one_ b 2 2 0 [(n, -7)] 3 true) = .list [.str a] from by unfold metP; rw [(met4 W).2]; rfl] at d189
  replace d189 := tr_dp _ _ _ d189
  clear e183
  replace go := go.post s188
  refine ⟨_, rfl, by show 1 ≤ sizeLine; decide, fun t191 n192 => ?_⟩
  have s195 := same_upd (o := .lst [V.str a]) n192
  have e193 := upd_same (H := H187) (a := t191) (o := .lst [V.str a])
  have n_e193 := go.gs.new n192
  generalize upd H187 t191 (.lst [V.str a]) = H194 at *
  replace go := go.post s195
  replace d189 := dp_same s195 _ _ d189
  clear s195 n192
  refine ⟨.list [.str a], .list [.str a], d189, .lst (SqL.of e193) (.cons (.str _) .nil), Sh.shaped (Sh.list (n := 0) (mem_c (.str W.sa) mem_0)) (by decide), Sh.shaped (Sh.list (n := 0) (mem_c (.str W.sa) mem_0)) (by decide), _, rfl, ?_⟩
  rw [SeqAt.eqv_refl _ (Sh.l (Sh.list (n := 0) (mem_c (.str W.sa) mem_0)))]
  refine ifFF ?_
  clear d189 e193
  refine ⟨_, rfl, p, AC5.dx, _, rfl, go.gs.ins, by kernel_rfl, _, rfl, by show 2 ≤ sizeLine; decide, fun t196 n197 => ?_⟩
  have s200 := same_upd (o := .tup [V.str b, .int 1]) n197
  have e198 := upd_same (H := H194) (a := t196) (o := .tup [V.str b, .int 1])
  generalize upd H194 t196 (.tup [V.str b, .int 1]) = H199 at *
  replace go := go.post s200
  clear s200 n197
  refine ⟨p, t196, _, one_ b 2 2 0 [(n, 99)] 1 false, rfl, go.gs.at, .inl e198, List.mem_cons_of_mem _ (List.mem_cons_of_mem _ (List.mem_cons_self ..)), fun v201 H202 as205 s203 d204 _ => ?_⟩
  rw [show metP _ (one_ b 2 2 0 [(n, 99)] 1 false) = .list [] from by unfold metP; rw [met_not rfl]; rfl] at d204
  replace d204 := tr_dp _ _ _ d204
  clear e198
  replace go := go.post s203
  refine ⟨by show 0 ≤ sizeLine; decide, fun t206 n207 => ?_⟩
  have s210 := same_upd (o := .lst []) n207
  have e208 := upd_same (H := H202) (a := t206) (o := .lst [])
  have n_e208 := go.gs.new n207
  generalize upd H202 t206 (.lst []) = H209 at *
  replace go := go.post s210
  replace d204 := dp_same s210 _ _ d204
  clear s210 n207
  refine ⟨.list [], .list [], d204, .lst (SqL.of e208) .nil, Sh.shaped (Sh.list (n := 0) mem_0) (by decide), Sh.shaped (Sh.list (n := 0) mem_0) (by decide), _, rfl, ?_⟩
  rw [SeqAt.eqv_refl _ (Sh.l (Sh.list (n := 0) mem_0))]
  refine ifFF ?_
  clear d204 e208
  refine ⟨_, rfl, by show 2 ≤ sizeLine; decide, fun t211 n212 => ?_⟩
  have s215 := same_upd (o := .tup [V.str b, .int 1]) n212
  have e213 := upd_same (H := H209) (a := t211) (o := .tup [V.str b, .int 1])
  generalize upd H209 t211 (.tup [V.str b, .int 1]) = H214 at *
  replace go := go.post s215
  clear s215 n212
  refine ⟨_, rfl, by show 2 ≤ sizeLine; decide, fun t216 n217 => ?_⟩
  have s220 := same_upd (o := .tup [V.str b, .int 3]) n217
  have e218 := upd_same (H := H214) (a := t216) (o := .tup [V.str b, .int 3])
  generalize upd H214 t216 (.tup [V.str b, .int 3]) = H219 at *
  replace go := go.post s220
  replace e213 := s220 _ _ e213
  clear s220 n217
  refine ⟨_, rfl, by show 2 ≤ sizeLine; decide, fun t221 n222 => ?_⟩
  have s225 := same_upd (o := .tup [V.str a, .int 1]) n222
  have e223 := upd_same (H := H219) (a := t221) (o := .tup [V.str a, .int 1])
  generalize upd H219 t221 (.tup [V.str a, .int 1]) = H224 at *
  replace go := go.post s225
  replace e213 := s225 _ _ e213
  replace e218 := s225 _ _ e218
  clear s225 n222
  refine ⟨_, rfl, by show 2 ≤ sizeLine; decide, fun t226 n227 => ?_⟩
  have s230 := same_upd (o := .tup [V.str b, .int 2]) n227
  have e228 := upd_same (H := H224) (a := t226) (o := .tup [V.str b, .int 2])
  generalize upd H224 t226 (.tup [V.str b, .int 2]) = H229 at *
  replace go := go.post s230
  replace e213 := s230 _ _ e213
  replace e218 := s230 _ _ e218
  replace e223 := s230 _ _ e223
  clear s230 n227
  refine ⟨by show 4 ≤ sizeLine; decide, fun t231 n232 => ?_⟩
  have s235 := same_upd (o := .tup [V.ref t211, .ref t216, .ref t221, .ref t226]) n232
  have e233 := upd_same (H := H229) (a := t231) (o := .tup [V.ref t211, .ref t216, .ref t221, .ref t226])
  generalize upd H229 t231 (.tup [V.ref t211, .ref t216, .ref t221, .ref t226]) = H234 at *
  replace go := go.post s235
  replace e213 := s235 _ _ e213
  replace e218 := s235 _ _ e218
  replace e223 := s235 _ _ e223
  replace e228 := s235 _ _ e228
  clear s235 n232
  have pT : Paired (fun t (q : Str × Int) => H234 t = some (.tup [.str q.1, .int q.2])) [t211, t216, t221, t226] (whos a b) := (.cons e213 (.cons e218 (.cons e223 (.cons e228 .nil))))
  have eT : [V.ref t211, .ref t216, .ref t221, .ref t226] = ([t211, t216, t221, t226] : List Addr).map V.ref := rfl
  rw [eT] at e233
  clear e213 e218 e223 e228
  clear eT
  generalize ([t211, t216, t221, t226] : List Addr) = ts at *
  have lts : ts.length = 4 := paired_len pT
  refine ⟨t231, rfl, ⟨_, .inl (.inl e233)⟩, for_it (walk_tup (xs := ts.map V.ref)) (fun i σ H' => ∃ A', GoX w K C CH (TT P0) H p A (grd a b NM RW (stE a b n i)) A' H' ∧ H' t231 = some (.tup (ts.map V.ref)) ∧ Paired (fun t (q : Str × Int) => H' t = some (.tup [.str q.1, .int q.2])) ts (whos a b) ∧ ∃ v4 v5 v6 v7, σ = [some (.ref p), some (.str a), some (.str b), some (.str n), v4, v5, v6, v7]) ⟨_, go, e233, pT, _, _, _, _, rfl⟩ (fun _ _ _ _ ⟨_, _, h, _⟩ => .inl (.inl h)) ?_ ?_⟩
  · clear go pT e233
    rintro i x σ _ HA hi ⟨A', go, el, pT, v4, v5, v6, v7, rfl⟩ ⟨rfl, ex⟩
    rw [List.getElem?_map] at ex
    obtain ⟨t, et, rfl⟩ := Option.map_eq_some_iff.mp ex
    obtain ⟨q0, eq0, ht⟩ := paired_at pT et
    obtain ⟨j, o, ej, e1, e2, e3⟩ := stE_at (n := n) eq0
    have ht' : OneT HA t o := by
      unfold OneT
      rw [e1, e2]
      exact ht
    refine ⟨_, rfl, p, A'.dx, _, rfl, go.gs.ins, by kernel_rfl, _, rfl, p, t, A', _, j, o, rfl, go.gs, .inl ht', ej, fun H66 g => ?_⟩
    have k9 := g.kp go.gs
    have eG : (grd a b NM RW (stE a b n i)).cut j = grd a b NM RW (stE a b n (i + 1)) := by
      show grd a b NM RW ((stE a b n i).eraseIdx j) = _
      rw [e3]
    rw [eG] at g
    exact ⟨_, go.trans g, k9.t _ _ el, L2.Paired.mapP pT fun _ _ e => k9.t _ _ e, _, _, _, _, rfl⟩
  clear go pT e233
  rintro σ HA ⟨A', go, _, _, v4, v5, v6, v7, rfl⟩
  rw [List.length_map, lts] at go
  replace go : GoX w K C CH (TT P0) H p A (grd a b NM RW [one_ a 2 2 2 [] 0 true, one_ b 2 2 0 [(n, -7)] 0 false]) A' HA := go
  refine ⟨_, rfl, p, A'.dx, _, rfl, go.gs.ins, by kernel_rfl, p, _, rfl, go.gs.at, (fun o ho => by
    simp only [grd, one_, List.mem_cons, List.not_mem_nil, or_false] at ho ⊢
    rcases ho with rfl | rfl <;> simp), go.tb, fun l H65 as x T nl hl pk => ?_⟩
  have nd6 := go.gs.ok.nd
  replace go := go.ext x T
  have hO : Dp K H65 (.ref l) (.list [.tuple [.str a, .int 0], .tuple [.str b, .int 0]]) := by
    have q9 := dp_onesL (K := K) hl pk
    rw [show ((grd a b NM RW [one_ a 2 2 2 [] 0 true, one_ b 2 2 0 [(n, -7)] 0 false])).srt.map oneP = [.tuple [.str a, .int 0], .tuple [.str b, .int 0]] from srt2 W nd6] at q9
    exact q9
  clear x T nl hl pk nd6
  refine ⟨_, rfl, by show 2 ≤ sizeLine; decide, fun t236 n237 => ?_⟩
  have s240 := same_upd (o := .tup [V.str a, .int 0]) n237
  have e238 := upd_same (H := H65) (a := t236) (o := .tup [V.str a, .int 0])
  generalize upd H65 t236 (.tup [V.str a, .int 0]) = H239 at *
  replace go := go.post s240
  replace hO := dp_same s240 _ _ hO
  clear s240 n237
  refine ⟨_, rfl, by show 2 ≤ sizeLine; decide, fun t241 n242 => ?_⟩
  have s245 := same_upd (o := .tup [V.str b, .int 0]) n242
  have e243 := upd_same (H := H239) (a := t241) (o := .tup [V.str b, .int 0])
  generalize upd H239 t241 (.tup [V.str b, .int 0]) = H244 at *
  replace go := go.post s245
  replace hO := dp_same s245 _ _ hO
  replace e238 := s245 _ _ e238
  clear s245 n242
  refine ⟨by show 2 ≤ sizeLine; decide, fun t246 n247 => ?_⟩
  have s250 := same_upd (o := .lst [V.ref t236, .ref t241]) n247
  have e248 := upd_same (H := H244) (a := t246) (o := .lst [V.ref t236, .ref t241])
  have n_e248 := go.gs.new n247
  generalize upd H244 t246 (.lst [V.ref t236, .ref t241]) = H249 at *
  replace go := go.post s250
  replace hO := dp_same s250 _ _ hO
  replace e238 := s250 _ _ e238
  replace e243 := s250 _ _ e243
  clear s250 n247
  refine ⟨.list [.tuple [.str a, .int 0], .tuple [.str b, .int 0]], .list [.tuple [.str a, .int 0], .tuple [.str b, .int 0]], hO, .lst (SqL.of e248) (.cons (.tup (.inl (.inl e238)) (.cons (.str _) (.cons (.int _) .nil))) (.cons (.tup (.inl (.inl e243)) (.cons (.str _) (.cons (.int _) .nil))) .nil)), Sh.shaped (Sh.list (n := 1) (mem_c (Sh.tuple (n := 0) (mem_c (.str W.sa) (mem_c (.int _) mem_0))) (mem_c (Sh.tuple (n := 0) (mem_c (.str W.sb) (mem_c (.int _) mem_0))) mem_0))) (by decide), Sh.shaped (Sh.list (n := 1) (mem_c (Sh.tuple (n := 0) (mem_c (.str W.sa) (mem_c (.int _) mem_0))) (mem_c (Sh.tuple (n := 0) (mem_c (.str W.sb) (mem_c (.int _) mem_0))) mem_0))) (by decide), _, rfl, ?_⟩
  rw [SeqAt.eqv_refl _ (Sh.l (Sh.list (n := 1) (mem_c (Sh.tuple (n := 0) (mem_c (.str W.sa) (mem_c (.int _) mem_0))) (mem_c (Sh.tuple (n := 0) (mem_c (.str W.sb) (mem_c (.int _) mem_0))) mem_0))))]
  refine ?_
  clear hO e248 e238 e243
  refine iteT ?_
  refine ⟨_, rfl, p, A'.dx, _, rfl, go.gs.ins, by kernel_rfl, _, rfl, by show 2 ≤ sizeLine; decide, fun t251 n252 => ?_⟩
  have s255 := same_upd (o := .tup [V.str a, .int 0]) n252
  have e253 := upd_same (H := H249) (a := t251) (o := .tup [V.str a, .int 0])
  generalize upd H249 t251 (.tup [V.str a, .int 0]) = H254 at *
  replace go := go.post s255
  clear s255 n252
  refine ⟨p, t251, _, one_ a 2 2 2 [] 0 true, rfl, go.gs.at, .inl e253, List.mem_cons_self .., fun v256 H257 as260 s258 d259 _ => ?_⟩
  rw [show metP _ (one_ a 2 2 2 [] 0 true) = .list [] from by unfold metP; rw [met3 W]; rfl] at d259
  replace d259 := tr_dp _ _ _ d259
  clear e253
  replace go := go.post s258
  refine ⟨by show 0 ≤ sizeLine; decide, fun t261 n262 => ?_⟩
  have s265 := same_upd (o := .lst []) n262
  have e263 := upd_same (H := H257) (a := t261) (o := .lst [])
  have n_e263 := go.gs.new n262
  generalize upd H257 t261 (.lst []) = H264 at *
  replace go := go.post s265
  replace d259 := dp_same s265 _ _ d259
  clear s265 n262
  refine ⟨.list [], .list [], d259, .lst (SqL.of e263) .nil, Sh.shaped (Sh.list (n := 0) mem_0) (by decide), Sh.shaped (Sh.list (n := 0) mem_0) (by decide), ?_⟩
  rw [SeqAt.eqv_refl _ (Sh.l (Sh.list (n := 0) mem_0))]
  exact q _ _ _ go
end
end Fd

set_option Elab.async false
set_option linter.all false
set_option maxRecDepth 100000
set_option maxHeartbeats 2000000
namespace Fd
open PySem PySem.Spec PyProof.Rows L2 RZ Fw LamX
/-- all but a and tables stays -/
def Bx (a : Addr) (H H' : Hp) : Prop := ∀ b u, b ≠ a → H b = some u → (∀ ps, u ≠ .tbl ps) → H' b = some u
theorem Bx.same {a : Addr} {H H1 H2 : Hp} (x : Bx a H H1) (s : Same H1 H2) : Bx a H H2 := fun b u n e t => s _ _ (x b u n e t)
section
variable {P : Program} {w : World} {K : PySem.W.Frag} {mg : Str → Option Value} {base : Heap} {f C CH P0 : Addr} {fd : FuncData}
abbrev sRi : Stmt := top 47
def spRi (P0 : Addr) : Sp := fun vs H Q _ => ∃ (a : Addr) (n : Nat), vs = [.ref a] ∧ Box H a n ∧ n + 5000 ≤ 1000000 ∧ Tabs (TT P0) H ∧ ∀ H', Bx a H H' → Tabs (TT P0) H' → Q (.bl true) H'
theorem scRi : FnScope ["_law_box_here", "_law_words", "_law_more", "_law_a", "_law_b", "_law_name", "_law_row", "_law_listed", "_law_figures", "_law_ground"] ["_law_box_here"] (defScope sRi) := ⟨rfl, rfl, rfl, by decide +kernel, rfl, by decide +kernel, by decide +kernel⟩
theorem ok_ri {k kG : Nat} {fm : Addr} {fmd : FuncData} {psm : List Str} (F : Fun K "_law_right" "_law_right" sRi f fd) (hkG : kG + 1 ≤ k) (M_Ground : Mk K C fm) (G_Ground : FnOk P w K mg base CX0 kG fm fmd psm (spGI w K C CH)) (b_Ground : Binds K fmd psm []) (m_Ground : mg "Ground" = some (.ref C))
    (GN : FnG P w K mg base CX0 k "_law_names" ["_law_box_here", "_law_many"] spNames) (GT : FnG P w K mg base CX0 k "_law_take" ["_law_box_here", "_law_many"] spTake) (GM : FnG P w K mg base CX0 k "_law_moves_right" ["_law_ground", "_law_a", "_law_b"] (spMr w K C CH)) (GR : FnG P w K mg base CX0 k "_law_names_right" ["_law_ground", "_law_a", "_law_b", "_law_name", "_law_row", "_law_more"] (spNr_ w K C CH)) (GC : FnG P w K mg base CX0 k "_law_copies_right" ["_law_ground", "_law_a", "_law_b", "_law_name"] (spCr w K C CH P0)) : FnOk P w K mg base CX0 (k + 1) f fd ["_law_box_here"] (spRi P0) := by
  obtain ⟨_, _, G__law_names, m__law_names, k__law_names, b__law_names⟩ := GN
  obtain ⟨_, _, G__law_take, m__law_take, k__law_take, b__law_take⟩ := GT
  obtain ⟨_, _, G__law_moves_right, m__law_moves_right, k__law_moves_right, b__law_moves_right⟩ := GM
  obtain ⟨_, _, G__law_names_right, m__law_names_right, k__law_names_right, b__law_names_right⟩ := GR
  obtain ⟨_, _, G__law_copies_right, m__law_copies_right, k__law_copies_right, b__law_copies_right⟩ := GC
  have sc := scRi
  refine F.ok sc (fun vs H Q E h => ?_) (fun cdv A outer s H vs Q E hr h => ?_)
  · obtain ⟨a, n, rfl, _⟩ := h
    rfl
  obtain ⟨x, nb, rfl, hB, hn, hT, q⟩ := h
  refine ⟨_, (pss_cons (ps_par (i := 1) (j := 2) (by rfl) sc.nd rfl rfl (by decide) rfl rfl (pa_cons (pe_call G__law_names (hr.mono (by omega)) (by rfl) m__law_names k__law_names b__law_names .nil pass0 (pa_cons (pv 0) (pa_cons pe_int pa_nil))) (pa_cons (pe_call G__law_take (hr.mono (by omega)) (by rfl) m__law_take k__law_take b__law_take .nil pass0 (pa_cons (pv 0) (pa_cons pe_int pa_nil))) pa_nil)) (by rfl))
      (pss_cons (ps_asg (pv 1) (pg_or (pg_tup (by rfl) (pgs_cons (pg_name (i := 3) sc.nd rfl (.inl rfl)) (pgs_cons (pg_name (i := 4) sc.nd rfl (.inl rfl)) (pgs_cons (pg_name (i := 5) sc.nd rfl (.inl rfl)) (pgs_cons (pg_name (i := 6) sc.nd rfl (.inl rfl)) pgs_nil))))) (pg_lst (by rfl) (pgs_cons (pg_name (i := 3) sc.nd rfl (.inl rfl)) (pgs_cons (pg_name (i := 4) sc.nd rfl (.inl rfl)) (pgs_cons (pg_name (i := 5) sc.nd rfl (.inl rfl)) (pgs_cons (pg_name (i := 6) sc.nd rfl (.inl rfl)) pgs_nil)))))))
      (pss_cons (ps_set (i := 7) sc.nd rfl (.inl rfl) (pe_tup (pa_cons (pv 6) (pa_cons (pe_tup (pa_cons (pv 2) (pa_cons pe_int (pa_cons pe_int (pa_cons pe_int (pa_cons pe_int (pa_cons pe_int (pa_cons pe_int pa_nil)))))))) pa_nil))))
      (pss_cons (ps_set (i := 8) sc.nd rfl (.inl rfl) (pe_tup (pa_cons (pe_tup (pa_cons (pv 3) (pa_cons (pe_tup (pa_cons pe_int (pa_cons pe_int (pa_cons pe_int pa_nil)))) (pa_cons (pe_tup pa_nil) (pa_cons (pe_tup pa_nil) (pa_cons (pe_tup pa_nil) (pa_cons (pe_tup pa_nil) pa_nil))))))) (pa_cons (pe_tup (pa_cons (pv 4) (pa_cons (pe_tup (pa_cons pe_int (pa_cons pe_int (pa_cons pe_int pa_nil)))) (pa_cons (pe_tup (pa_cons (pe_tup (pa_cons (pv 5) (pa_cons pe_int pa_nil))) pa_nil)) (pa_cons (pe_tup pa_nil) (pa_cons (pe_tup pa_nil) (pa_cons (pe_tup pa_nil) pa_nil))))))) pa_nil))))
      (pss_cons (ps_set (i := 9) sc.nd rfl (.inl rfl) (pe_make M_Ground G_Ground (hr.mono (by omega)) (by rfl) m_Ground b_Ground .nil pass0 (pa_cons (pe_tup (pa_cons (pe_tup (pa_cons pe_int (pa_cons pe_int pa_nil))) (pa_cons (pe_tup (pa_cons (pe_tup (pa_cons (pv 5) (pa_cons (pv 2) pa_nil))) pa_nil)) (pa_cons (pe_tup (pa_cons (pv 7) pa_nil)) (pa_cons (pv 8) pa_nil))))) pa_nil)))
      (pss_cons (ps_if (PW.pt (pw_or (pt_not (pt_val (pe_call G__law_moves_right (hr.mono (by omega)) (by rfl) m__law_moves_right k__law_moves_right b__law_moves_right .nil pass0 (pa_cons (pv 9) (pa_cons (pv 3) (pa_cons (pv 4) pa_nil)))))) (pw_or1 (pt_not (pt_val (pe_call G__law_names_right (hr.mono (by omega)) (by rfl) m__law_names_right k__law_names_right b__law_names_right .nil pass0 (pa_cons (pv 9) (pa_cons (pv 3) (pa_cons (pv 4) (pa_cons (pv 5) (pa_cons (pv 6) (pa_cons (pv 2) pa_nil)))))))))))) (pss_one (ps_ret pe_bl)) pss_nil)
      (pss_one (ps_ret (pe_call G__law_copies_right (hr.mono (by omega)) (by rfl) m__law_copies_right k__law_copies_right b__law_copies_right .nil pass0 (pa_cons (pv 9) (pa_cons (pv 3) (pa_cons (pv 4) (pa_cons (pv 5) pa_nil))))))))))))), ?_⟩
  refine ⟨_, rfl, x, nb, 4, rfl, hB, by omega, by decide, fun lw ws H1 s1 B1 nl el lws nd asc => ?_⟩
  refine ⟨_, rfl, x, _, 100, rfl, B1, by omega, by decide, by decide, fun m H2 m0 m1 s2 B2 => ⟨_, _, rfl, ?_⟩⟩
  obtain ⟨a, b, n, r, rfl⟩ : ∃ a b n r, ws = [a, b, n, r] := by
    match ws, lws with
    | [a, b, n, r], _ => exact ⟨a, b, n, r, rfl⟩
  have W : Wd a b n r m := ⟨fun z => by rw [z] at nd; simp at nd, asc a (by simp), asc b (by simp), asc n (by simp), asc r (by simp), m0, m1⟩
  have nlx : lw ≠ x := fun z => by
    obtain ⟨o, ho⟩ := hB.is
    rw [z, ho] at nl
    cases nl
  have el2 := s2 _ _ nlx el
  have s12 : But x H H2 := s1.trans s2
  have hT2 : Tabs (TT P0) H2 := tabs_all hT fun b o e k => s12 b o (fun z => by
    obtain ⟨c0, c1, c2, hc, _⟩ := hB
    rw [z, hc] at e
    cases e
    rcases k with ⟨_, k⟩ | ⟨_, k⟩ <;> cases k) e
  have bx : Bx x H H2 := fun c o nc e _ => s12 c o nc e
  clear hT s1 s2 B1 B2 el
  refine ⟨_, rfl, sq_or (.inl (SqL.of el2)) rfl ⟨_, _, rfl, _, _, rfl, _, _, rfl, _, _, rfl, rfl, ?_⟩⟩
  refine ⟨_, rfl, _, rfl, by show 7 ≤ sizeLine; decide, fun t1 n2 => ?_⟩
  have s5 := same_upd (o := .tup [V.int m, .int 2, .int 3, .int 4, .int 5, .int 6, .int 7]) n2
  have e3 := upd_same (H := H2) (a := t1) (o := .tup [V.int m, .int 2, .int 3, .int 4, .int 5, .int 6, .int 7])
  generalize upd H2 t1 (.tup [V.int m, .int 2, .int 3, .int 4, .int 5, .int 6, .int 7]) = H4 at *
  replace bx := bx.same s5
  replace hT2 := hT2.ext s5
  clear s5 n2
  refine ⟨by show 2 ≤ sizeLine; decide, fun t6 n7 => ?_⟩
  have s10 := same_upd (o := .tup [V.str r, .ref t1]) n7
  have e8 := upd_same (H := H4) (a := t6) (o := .tup [V.str r, .ref t1])
  generalize upd H4 t6 (.tup [V.str r, .ref t1]) = H9 at *
  replace bx := bx.same s10
  replace hT2 := hT2.ext s10
  replace e3 := s10 _ _ e3
  clear s10 n7
  refine ⟨_, rfl, by show 3 ≤ sizeLine; decide, fun t11 n12 => ?_⟩
  have s15 := same_upd (o := .tup [V.int 1, .int 1, .int 0]) n12
  have e13 := upd_same (H := H9) (a := t11) (o := .tup [V.int 1, .int 1, .int 0])
  generalize upd H9 t11 (.tup [V.int 1, .int 1, .int 0]) = H14 at *
  replace bx := bx.same s15
  replace hT2 := hT2.ext s15
  replace e3 := s15 _ _ e3
  replace e8 := s15 _ _ e8
  clear s15 n12
  refine ⟨by show 0 ≤ sizeLine; decide, fun t16 n17 => ?_⟩
  have s20 := same_upd (o := .tup []) n17
  have e18 := upd_same (H := H14) (a := t16) (o := .tup [])
  generalize upd H14 t16 (.tup []) = H19 at *
  replace bx := bx.same s20
  replace hT2 := hT2.ext s20
  replace e3 := s20 _ _ e3
  replace e8 := s20 _ _ e8
  replace e13 := s20 _ _ e13
  clear s20 n17
  refine ⟨by show 0 ≤ sizeLine; decide, fun t21 n22 => ?_⟩
  have s25 := same_upd (o := .tup []) n22
  have e23 := upd_same (H := H19) (a := t21) (o := .tup [])
  generalize upd H19 t21 (.tup []) = H24 at *
  replace bx := bx.same s25
  replace hT2 := hT2.ext s25
  replace e3 := s25 _ _ e3
  replace e8 := s25 _ _ e8
  replace e13 := s25 _ _ e13
  replace e18 := s25 _ _ e18
  clear s25 n22
  refine ⟨by show 0 ≤ sizeLine; decide, fun t26 n27 => ?_⟩
  have s30 := same_upd (o := .tup []) n27
  have e28 := upd_same (H := H24) (a := t26) (o := .tup [])
  generalize upd H24 t26 (.tup []) = H29 at *
  replace bx := bx.same s30
  replace hT2 := hT2.ext s30
  replace e3 := s30 _ _ e3
  replace e8 := s30 _ _ e8
  replace e13 := s30 _ _ e13
  replace e18 := s30 _ _ e18
  replace e23 := s30 _ _ e23
  clear s30 n27
  refine ⟨by show 0 ≤ sizeLine; decide, fun t31 n32 => ?_⟩
  have s35 := same_upd (o := .tup []) n32
  have e33 := upd_same (H := H29) (a := t31) (o := .tup [])
  generalize upd H29 t31 (.tup []) = H34 at *
  replace bx := bx.same s35
  replace hT2 := hT2.ext s35
  replace e3 := s35 _ _ e3
  replace e8 := s35 _ _ e8
  replace e13 := s35 _ _ e13
  replace e18 := s35 _ _ e18
  replace e23 := s35 _ _ e23
  replace e28 := s35 _ _ e28
  clear s35 n32
  refine ⟨by show 6 ≤ sizeLine; decide, fun t36 n37 => ?_⟩
  have s40 := same_upd (o := .tup [V.str a, .ref t11, .ref t16, .ref t21, .ref t26, .ref t31]) n37
  have e38 := upd_same (H := H34) (a := t36) (o := .tup [V.str a, .ref t11, .ref t16, .ref t21, .ref t26, .ref t31])
  generalize upd H34 t36 (.tup [V.str a, .ref t11, .ref t16, .ref t21, .ref t26, .ref t31]) = H39 at *
  replace bx := bx.same s40
  replace hT2 := hT2.ext s40
  replace e3 := s40 _ _ e3
  replace e8 := s40 _ _ e8
  replace e13 := s40 _ _ e13
  replace e18 := s40 _ _ e18
  replace e23 := s40 _ _ e23
  replace e28 := s40 _ _ e28
  replace e33 := s40 _ _ e33
  clear s40 n37
  refine ⟨_, rfl, by show 3 ≤ sizeLine; decide, fun t41 n42 => ?_⟩
  have s45 := same_upd (o := .tup [V.int 0, .int 0, .int 0]) n42
  have e43 := upd_same (H := H39) (a := t41) (o := .tup [V.int 0, .int 0, .int 0])
  generalize upd H39 t41 (.tup [V.int 0, .int 0, .int 0]) = H44 at *
  replace bx := bx.same s45
  replace hT2 := hT2.ext s45
  replace e3 := s45 _ _ e3
  replace e8 := s45 _ _ e8
  replace e13 := s45 _ _ e13
  replace e18 := s45 _ _ e18
  replace e23 := s45 _ _ e23
  replace e28 := s45 _ _ e28
  replace e33 := s45 _ _ e33
  replace e38 := s45 _ _ e38
  clear s45 n42
  refine ⟨_, rfl, by show 2 ≤ sizeLine; decide, fun t46 n47 => ?_⟩
  have s50 := same_upd (o := .tup [V.str n, .int 5]) n47
  have e48 := upd_same (H := H44) (a := t46) (o := .tup [V.str n, .int 5])
  generalize upd H44 t46 (.tup [V.str n, .int 5]) = H49 at *
  replace bx := bx.same s50
  replace hT2 := hT2.ext s50
  replace e3 := s50 _ _ e3
  replace e8 := s50 _ _ e8
  replace e13 := s50 _ _ e13
  replace e18 := s50 _ _ e18
  replace e23 := s50 _ _ e23
  replace e28 := s50 _ _ e28
  replace e33 := s50 _ _ e33
  replace e38 := s50 _ _ e38
  replace e43 := s50 _ _ e43
  clear s50 n47
  refine ⟨by show 1 ≤ sizeLine; decide, fun t51 n52 => ?_⟩
  have s55 := same_upd (o := .tup [V.ref t46]) n52
  have e53 := upd_same (H := H49) (a := t51) (o := .tup [V.ref t46])
  generalize upd H49 t51 (.tup [V.ref t46]) = H54 at *
  replace bx := bx.same s55
  replace hT2 := hT2.ext s55
  replace e3 := s55 _ _ e3
  replace e8 := s55 _ _ e8
  replace e13 := s55 _ _ e13
  replace e18 := s55 _ _ e18
  replace e23 := s55 _ _ e23
  replace e28 := s55 _ _ e28
  replace e33 := s55 _ _ e33
  replace e38 := s55 _ _ e38
  replace e43 := s55 _ _ e43
  replace e48 := s55 _ _ e48
  clear s55 n52
  refine ⟨by show 0 ≤ sizeLine; decide, fun t56 n57 => ?_⟩
  have s60 := same_upd (o := .tup []) n57
  have e58 := upd_same (H := H54) (a := t56) (o := .tup [])
  generalize upd H54 t56 (.tup []) = H59 at *
  replace bx := bx.same s60
  replace hT2 := hT2.ext s60
  replace e3 := s60 _ _ e3
  replace e8 := s60 _ _ e8
  replace e13 := s60 _ _ e13
  replace e18 := s60 _ _ e18
  replace e23 := s60 _ _ e23
  replace e28 := s60 _ _ e28
  replace e33 := s60 _ _ e33
  replace e38 := s60 _ _ e38
  replace e43 := s60 _ _ e43
  replace e48 := s60 _ _ e48
  replace e53 := s60 _ _ e53
  clear s60 n57
  refine ⟨by show 0 ≤ sizeLine; decide, fun t61 n62 => ?_⟩
  have s65 := same_upd (o := .tup []) n62
  have e63 := upd_same (H := H59) (a := t61) (o := .tup [])
  generalize upd H59 t61 (.tup []) = H64 at *
  replace bx := bx.same s65
  replace hT2 := hT2.ext s65
  replace e3 := s65 _ _ e3
  replace e8 := s65 _ _ e8
  replace e13 := s65 _ _ e13
  replace e18 := s65 _ _ e18
  replace e23 := s65 _ _ e23
  replace e28 := s65 _ _ e28
  replace e33 := s65 _ _ e33
  replace e38 := s65 _ _ e38
  replace e43 := s65 _ _ e43
  replace e48 := s65 _ _ e48
  replace e53 := s65 _ _ e53
  replace e58 := s65 _ _ e58
  clear s65 n62
  refine ⟨by show 0 ≤ sizeLine; decide, fun t66 n67 => ?_⟩
  have s70 := same_upd (o := .tup []) n67
  have e68 := upd_same (H := H64) (a := t66) (o := .tup [])
  generalize upd H64 t66 (.tup []) = H69 at *
  replace bx := bx.same s70
  replace hT2 := hT2.ext s70
  replace e3 := s70 _ _ e3
  replace e8 := s70 _ _ e8
  replace e13 := s70 _ _ e13
  replace e18 := s70 _ _ e18
  replace e23 := s70 _ _ e23
  replace e28 := s70 _ _ e28
  replace e33 := s70 _ _ e33
  replace e38 := s70 _ _ e38
  replace e43 := s70 _ _ e43
  replace e48 := s70 _ _ e48
  replace e53 := s70 _ _ e53
  replace e58 := s70 _ _ e58
  replace e63 := s70 _ _ e63
  clear s70 n67
  refine ⟨by show 6 ≤ sizeLine; decide, fun t71 n72 => ?_⟩
  have s75 := same_upd (o := .tup [V.str b, .ref t41, .ref t51, .ref t56, .ref t61, .ref t66]) n72
  have e73 := upd_same (H := H69) (a := t71) (o := .tup [V.str b, .ref t41, .ref t51, .ref t56, .ref t61, .ref t66])
  generalize upd H69 t71 (.tup [V.str b, .ref t41, .ref t51, .ref t56, .ref t61, .ref t66]) = H74 at *
  replace bx := bx.same s75
  replace hT2 := hT2.ext s75
  replace e3 := s75 _ _ e3
  replace e8 := s75 _ _ e8
  replace e13 := s75 _ _ e13
  replace e18 := s75 _ _ e18
  replace e23 := s75 _ _ e23
  replace e28 := s75 _ _ e28
  replace e33 := s75 _ _ e33
  replace e38 := s75 _ _ e38
  replace e43 := s75 _ _ e43
  replace e48 := s75 _ _ e48
  replace e53 := s75 _ _ e53
  replace e58 := s75 _ _ e58
  replace e63 := s75 _ _ e63
  replace e68 := s75 _ _ e68
  clear s75 n72
  refine ⟨by show 2 ≤ sizeLine; decide, fun t76 n77 => ?_⟩
  have s80 := same_upd (o := .tup [V.ref t36, .ref t71]) n77
  have e78 := upd_same (H := H74) (a := t76) (o := .tup [V.ref t36, .ref t71])
  generalize upd H74 t76 (.tup [V.ref t36, .ref t71]) = H79 at *
  replace bx := bx.same s80
  replace hT2 := hT2.ext s80
  replace e3 := s80 _ _ e3
  replace e8 := s80 _ _ e8
  replace e13 := s80 _ _ e13
  replace e18 := s80 _ _ e18
  replace e23 := s80 _ _ e23
  replace e28 := s80 _ _ e28
  replace e33 := s80 _ _ e33
  replace e38 := s80 _ _ e38
  replace e43 := s80 _ _ e43
  replace e48 := s80 _ _ e48
  replace e53 := s80 _ _ e53
  replace e58 := s80 _ _ e58
  replace e63 := s80 _ _ e63
  replace e68 := s80 _ _ e68
  replace e73 := s80 _ _ e73
  clear s80 n77
  refine ⟨by show 2 ≤ sizeLine; decide, fun t81 n82 => ?_⟩
  have s85 := same_upd (o := .tup [V.int 5, .int 3]) n82
  have e83 := upd_same (H := H79) (a := t81) (o := .tup [V.int 5, .int 3])
  generalize upd H79 t81 (.tup [V.int 5, .int 3]) = H84 at *
  replace bx := bx.same s85
  replace hT2 := hT2.ext s85
  replace e3 := s85 _ _ e3
  replace e8 := s85 _ _ e8
  replace e13 := s85 _ _ e13
  replace e18 := s85 _ _ e18
  replace e23 := s85 _ _ e23
  replace e28 := s85 _ _ e28
  replace e33 := s85 _ _ e33
  replace e38 := s85 _ _ e38
  replace e43 := s85 _ _ e43
  replace e48 := s85 _ _ e48
  replace e53 := s85 _ _ e53
  replace e58 := s85 _ _ e58
  replace e63 := s85 _ _ e63
  replace e68 := s85 _ _ e68
  replace e73 := s85 _ _ e73
  replace e78 := s85 _ _ e78
  clear s85 n82
  refine ⟨_, rfl, _, rfl, by show 2 ≤ sizeLine; decide, fun t86 n87 => ?_⟩
  have s90 := same_upd (o := .tup [V.str n, .int m]) n87
  have e88 := upd_same (H := H84) (a := t86) (o := .tup [V.str n, .int m])
  generalize upd H84 t86 (.tup [V.str n, .int m]) = H89 at *
  replace bx := bx.same s90
  replace hT2 := hT2.ext s90
  replace e3 := s90 _ _ e3
  replace e8 := s90 _ _ e8
  replace e13 := s90 _ _ e13
  replace e18 := s90 _ _ e18
  replace e23 := s90 _ _ e23
  replace e28 := s90 _ _ e28
  replace e33 := s90 _ _ e33
  replace e38 := s90 _ _ e38
  replace e43 := s90 _ _ e43
  replace e48 := s90 _ _ e48
  replace e53 := s90 _ _ e53
  replace e58 := s90 _ _ e58
  replace e63 := s90 _ _ e63
  replace e68 := s90 _ _ e68
  replace e73 := s90 _ _ e73
  replace e78 := s90 _ _ e78
  replace e83 := s90 _ _ e83
  clear s90 n87
  refine ⟨by show 1 ≤ sizeLine; decide, fun t91 n92 => ?_⟩
  have s95 := same_upd (o := .tup [V.ref t86]) n92
  have e93 := upd_same (H := H89) (a := t91) (o := .tup [V.ref t86])
  generalize upd H89 t91 (.tup [V.ref t86]) = H94 at *
  replace bx := bx.same s95
  replace hT2 := hT2.ext s95
  replace e3 := s95 _ _ e3
  replace e8 := s95 _ _ e8
  replace e13 := s95 _ _ e13
  replace e18 := s95 _ _ e18
  replace e23 := s95 _ _ e23
  replace e28 := s95 _ _ e28
  replace e33 := s95 _ _ e33
  replace e38 := s95 _ _ e38
  replace e43 := s95 _ _ e43
  replace e48 := s95 _ _ e48
  replace e53 := s95 _ _ e53
  replace e58 := s95 _ _ e58
  replace e63 := s95 _ _ e63
  replace e68 := s95 _ _ e68
  replace e73 := s95 _ _ e73
  replace e78 := s95 _ _ e78
  replace e83 := s95 _ _ e83
  replace e88 := s95 _ _ e88
  clear s95 n92
  refine ⟨_, rfl, by show 1 ≤ sizeLine; decide, fun t96 n97 => ?_⟩
  have s100 := same_upd (o := .tup [V.ref t6]) n97
  have e98 := upd_same (H := H94) (a := t96) (o := .tup [V.ref t6])
  generalize upd H94 t96 (.tup [V.ref t6]) = H99 at *
  replace bx := bx.same s100
  replace hT2 := hT2.ext s100
  replace e3 := s100 _ _ e3
  replace e8 := s100 _ _ e8
  replace e13 := s100 _ _ e13
  replace e18 := s100 _ _ e18
  replace e23 := s100 _ _ e23
  replace e28 := s100 _ _ e28
  replace e33 := s100 _ _ e33
  replace e38 := s100 _ _ e38
  replace e43 := s100 _ _ e43
  replace e48 := s100 _ _ e48
  replace e53 := s100 _ _ e53
  replace e58 := s100 _ _ e58
  replace e63 := s100 _ _ e63
  replace e68 := s100 _ _ e68
  replace e73 := s100 _ _ e73
  replace e78 := s100 _ _ e78
  replace e83 := s100 _ _ e83
  replace e88 := s100 _ _ e88
  replace e93 := s100 _ _ e93
  clear s100 n97
  refine ⟨_, rfl, by show 4 ≤ sizeLine; decide, fun t101 n102 => ?_⟩
  have s105 := same_upd (o := .tup [V.ref t81, .ref t91, .ref t96, .ref t76]) n102
  have e103 := upd_same (H := H99) (a := t101) (o := .tup [V.ref t81, .ref t91, .ref t96, .ref t76])
  generalize upd H99 t101 (.tup [V.ref t81, .ref t91, .ref t96, .ref t76]) = H104 at *
  replace bx := bx.same s105
  replace hT2 := hT2.ext s105
  replace e3 := s105 _ _ e3
  replace e8 := s105 _ _ e8
  replace e13 := s105 _ _ e13
  replace e18 := s105 _ _ e18
  replace e23 := s105 _ _ e23
  replace e28 := s105 _ _ e28
  replace e33 := s105 _ _ e33
  replace e38 := s105 _ _ e38
  replace e43 := s105 _ _ e43
  replace e48 := s105 _ _ e48
  replace e53 := s105 _ _ e53
  replace e58 := s105 _ _ e58
  replace e63 := s105 _ _ e63
  replace e68 := s105 _ _ e68
  replace e73 := s105 _ _ e73
  replace e78 := s105 _ _ e78
  replace e83 := s105 _ _ e83
  replace e88 := s105 _ _ e88
  replace e93 := s105 _ _ e93
  replace e98 := s105 _ _ e98
  clear s105 n102
  intro y dy ny ndy nyd
  have sn := (same_upd (o := .own y) ndy).trans (same_upd (H := upd H104 dy (.own y)) (p := y) (o := .ins C dy []) (by rw [upd_ne (Ne.symm nyd)]; exact ny))
  have yn := upd_same (H := upd H104 dy (.own y)) (a := y) (o := .ins C dy [])
  generalize upd (upd H104 dy (.own y)) y (.ins C dy []) = HE at *
  replace e3 := sn _ _ e3
  replace e8 := sn _ _ e8
  replace e13 := sn _ _ e13
  replace e18 := sn _ _ e18
  replace e23 := sn _ _ e23
  replace e28 := sn _ _ e28
  replace e33 := sn _ _ e33
  replace e38 := sn _ _ e38
  replace e43 := sn _ _ e43
  replace e48 := sn _ _ e48
  replace e53 := sn _ _ e53
  replace e58 := sn _ _ e58
  replace e63 := sn _ _ e63
  replace e68 := sn _ _ e68
  replace e73 := sn _ _ e73
  replace e78 := sn _ _ e78
  replace e83 := sn _ _ e83
  replace e88 := sn _ _ e88
  replace e93 := sn _ _ e93
  replace e98 := sn _ _ e98
  replace e103 := sn _ _ e103
  have hin : PlayIn K HE (.ref t101) ⟨5, 3, [(n, m)], [(r, [m, 2, 3, 4, 5, 6, 7])], [⟨a, 1, 1, 0, [], []⟩, ⟨b, 0, 0, 0, [(n, 5)], []⟩]⟩ := by
    refine ⟨t101, t81, .ref t91, .ref t96, t76, _, rfl, (.inr (.inl (.inl e103))), (.inr (.inl (.inl e83))), ⟨t91, _, rfl, (.inr (.inl (.inl e93))), .cons ⟨t86, rfl, (.inr (.inl (.inl e88)))⟩ .nil⟩, ⟨t96, _, rfl, (.inr (.inl (.inl e98))), .cons ⟨t6, t1, rfl, (.inr (.inl (.inl e8))), (.inr (.inl (.inl e3)))⟩ .nil⟩, (.inr (.inl (.inl e78))), .cons ?_ (.cons ?_ .nil)⟩
    · exact ⟨t36, t11, .ref t16, .ref t21, _, rfl, (.inr (.inl (.inl e38))), (.inr (.inl (.inl e13))), ⟨t16, [], rfl, (.inr (.inl (.inl e18))), .nil⟩, ⟨t21, [], rfl, (.inr (.inl (.inl e23))), .nil⟩⟩
    · exact ⟨t71, t41, .ref t51, .ref t56, _, rfl, (.inr (.inl (.inl e73))), (.inr (.inl (.inl e43))), ⟨t51, _, rfl, (.inr (.inl (.inl e53))), .cons ⟨t46, rfl, (.inr (.inl (.inl e48)))⟩ .nil⟩, ⟨t56, [], rfl, (.inr (.inl (.inl e58))), .nil⟩⟩
  have hok : (⟨5, 3, [(n, m)], [(r, [m, 2, 3, 4, 5, 6, 7])], [⟨a, 1, 1, 0, [], []⟩, ⟨b, 0, 0, 0, [(n, 5)], []⟩]⟩ : Gnd).Ok := by
    have one : ∀ {x : Str} {v : Int}, Asc 8 x → Hok [(x, v)] [] := fun hx => ⟨by simp, by simp, by show 1 ≤ 100; decide, by show 0 ≤ 100; decide, (fun q hq => nomatch hq), (fun q hq => by rw [List.mem_singleton.mp hq]; exact hx), fun q hq => nomatch hq⟩
    refine ⟨⟨by simp, by simp, by show 1 ≤ 100; decide, by show 1 ≤ 100; decide, (fun q hq => by rw [List.mem_singleton.mp hq]; show 7 ≤ 100; decide), (fun q hq => by rw [List.mem_singleton.mp hq]; exact W.sn), fun q hq => by rw [List.mem_singleton.mp hq]; exact W.sr⟩, fun f hf => ?_, by simp [W.ab], fun f hf => ?_, by show 2 ≤ 100; decide⟩
    · rcases List.mem_cons.mp hf with rfl | hf
      · exact ⟨by simp, by simp, by show 0 ≤ 100; decide, by show 0 ≤ 100; decide, (fun q hq => nomatch hq), (fun q hq => nomatch hq), fun q hq => nomatch hq⟩
      · rw [List.mem_singleton.mp hf]
        exact one W.sn
    · rcases List.mem_cons.mp hf with rfl | hf
      · exact W.sa
      · rw [List.mem_singleton.mp hf]
        exact W.sb
  refine ⟨y, dy, .ref t101, _, rfl, yn, hin, hok, fun HF A bF hg frn => ⟨rfl, ?_⟩⟩
  have gs : GsF w K C CH HF y (grd a b [(n, m)] [(r, [m, 2, 3, 4, 5, 6, 7])] [one_ a 1 1 0 [] 0 true, one_ b 0 0 0 [(n, 5)] 0 true]) A := GsF.of hg
  have fA : ∀ c ∈ A.fp y, H104 c = none := fun c hc => by
    by_cases z : c = y
    · rw [z]; exact ny
    · exact same_free sn (frn c hc z)
  have sF : Same H104 HF := fun c o e => bF c o (fun z => by rw [List.mem_singleton.mp z, ny] at e; cases e) (sn _ _ e)
  have hTF := hT2.ext sF
  refine ⟨_, rfl, _, rfl, _, rfl, y, A, a, b, n, r, m, rfl, gs, W, fun H3 g1 => ⟨true, rfl, iteF ?_⟩⟩
  refine ⟨_, rfl, _, rfl, _, rfl, _, rfl, _, rfl, _, rfl, y, A, a, b, n, r, m, rfl, g1.gs, W, fun H4 g2 => ⟨true, rfl, iteF ?_⟩⟩
  have g12 := g1.trans g2
  refine ⟨_, rfl, _, rfl, _, rfl, _, rfl, y, A, a, b, n, r, m, _, _, rfl, g12.gs, W, g12.tabs gs hTF, fun H5 G5 A5 g5 => ?_⟩
  have g := GoX.of g12 gs hTF
  refine q H5 (fun c o nc e t => ?_) g5.tb
  have e1 := bx c o nc e t
  have e2 := sF _ _ e1
  have nA : ∀ {X : GA}, (∀ d ∈ X.fp y, d ∈ A.fp y ∨ NewL HF d) → c ∉ X.fp y := fun {X} h hc => by
    rcases h c hc with z | z
    · rw [fA c z] at e1; cases e1
    · obtain ⟨ps, z⟩ := z o e2
      exact t ps z
  exact g5.but c o (nA g.new) (g12.but c o (fun z => by rw [fA c z] at e1; cases e1) e2) t
end
end Fd

set_option Elab.async false
set_option linter.all false
set_option maxRecDepth 100000
set_option maxHeartbeats 1000000
namespace Fd
open PySem PySem.Spec PyProof.Rows L2 RZ Fw LamX
theorem tabs_put {T : List (Addr × Str)} {H : Hp} {D : Addr} {xs : List V} {o : HO} (t : Tabs T H) (e : H D = some (.lst xs)) : Tabs T (upd H D o) := tabs_all t fun b u hb k => by
  rw [upd_ne fun z => ?_]
  · exact hb
  · rw [z, e] at hb
    cases hb
    rcases k with ⟨_, k⟩ | ⟨_, k⟩ <;> cases k
section
variable {P : Program} {w : World} {K : PySem.W.Frag} {mg : Str → Option Value} {base : Heap} {f : Addr} {fd : FuncData} {P0 : Addr}
abbrev sLaw : Stmt := top 48
def spLaw (K : PySem.W.Frag) (P0 : Addr) : Sp := fun vs H Q _ => ∃ (a : Addr) (ns : List Int), vs = [.ref a] ∧ SqL K H a (ns.map V.int) ∧ ns.length ≤ 63 ∧ Tabs (TT P0) H ∧ ∀ H', Q (.bl true) H'
structure LawD (P : Program) (w : World) (K : PySem.W.Frag) (mg : Str → Option Value) (base : Heap) (P0 : Addr) (k : Nat) : Prop where
  GB : FnG P w K mg base CX0 k "_law_box" ["_law_script", "_law_k"] (spBox K)
  GR : FnG P w K mg base CX0 k "_law_right" ["_law_box_here"] (spRi P0)
  m_all : mg "all" = none
  m_min : mg "min" = none
  m_len : mg "len" = none
  m_range : mg "range" = none
theorem scLaw : FnScope ["_law_script", "_law_k"] ["_law_script"] (defScope sLaw) := ⟨rfl, rfl, rfl, by decide +kernel, rfl, by decide +kernel, by decide +kernel⟩
theorem law_body {k : Nat} (D : LawD P w K mg base P0 k) (cdv : Value) (A : Around) (outer : List Env) (s : Shared) (H : Hp) (vs : List V) (Q : VK) (E : XK) (hr : Room k (A.deeper (envOfC "law" (defScope sLaw) s.heap.objs.size f cdv))) (h : spLaw K P0 vs H Q E) :
    ∃ t, PSs (cxOf CX0 P w K mg base ["_law_script", "_law_k"] "law" (defScope sLaw) f cdv A outer s H E).nox (defBody sLaw) t ∧ t { nx := fun _ H' => Q .non H', rt := Q } (L2.start ["_law_script", "_law_k"] vs) H := by
  obtain ⟨⟨_, _, G__law_box, m__law_box, k__law_box, b__law_box⟩, ⟨_, _, G__law_right, m__law_right, k__law_right, b__law_right⟩, m_all, m_min, m_len, m_range⟩ := D
  have sc := scLaw
  obtain ⟨a, ns, rfl, hS, hl, hT, q⟩ := h
  refine ⟨_, (pss_one (ps_ret (pe_callB (cr_all rfl) (by rfl) m_all (by decide +kernel) (pa_cons (pe_lc (own := [("_law_k", 1)]) (by rfl) sc.nd  (pi_range1 (by rfl) m_range (pa_cons (pe_op op_add pe_int (pe_callB (call_min2 rfl) (by rfl) m_min (by decide +kernel) (pa_cons pe_int (pa_cons (pe_callB call_len_seq (by rfl) m_len (by decide +kernel) (pa_cons (pv 0) pa_nil)) pa_nil)))) pa_nil)) (blkOk_by (own := [("_law_k", 1)]) (N := ["_law_script", "_law_k"]) (sc := defScope sLaw) (by decide +kernel)) (fun _ _ _ _ _ => (pg_name (i := 1) sc.nd rfl (.inl rfl))) (fun _ _ _ _ _ => pts_nil) (fun _ _ _ _ _ => (pe_call G__law_right (hr.mono (by omega)) (by rfl) m__law_right k__law_right b__law_right .nil pass0 (pa_cons (pe_call G__law_box (hr.mono (by omega)) (by rfl) m__law_box k__law_box b__law_box .nil pass0 (pa_cons (pv 0) (pa_cons (pv 1) pa_nil))) pa_nil)))) pa_nil)))), ?_⟩
  have key : ∀ H' : Hp, (∀ u, H a = some u → (∀ kvs, u ≠ .dT kvs) → (∀ E, u ≠ .ext E) → (∀ ps, u ≠ .tbl ps) → H' a = some u) → SqL K H' a (ns.map V.int) := fun H' s => by
    rcases hS with (h | ⟨o, h⟩) | h
    · exact .inl (.inl (s _ h nofun nofun nofun))
    · exact .inl (.inr ⟨o, s _ h nofun nofun nofun⟩)
    · exact .inr h
  have ln : (ns.map V.int).length = ns.length := List.length_map ..
  refine ⟨_, rfl, a, _, rfl, .inl hS, _, _, rfl, _, _, rfl, rfl, _, rfl, ?_, ?_, fun D nD => lc_it walk_range (fun i H' => (∀ u, H a = some u → (∀ kvs, u ≠ .dT kvs) → (∀ E, u ≠ .ext E) → (∀ ps, u ≠ .tbl ps) → H' a = some u) ∧ Tabs (TT P0) H' ∧ H' D = some (.lst (List.replicate i (.bl true)))) ⟨fun u e _ _ _ => by rw [upd_ne (ne_of_none e nD)]; exact e, hT.ext (same_upd nD), upd_same⟩ (fun _ _ _ _ => trivial) ?_ ?_⟩
  · rw [ln]; split <;> omega
  · rw [ln]; split <;> omega
  · rintro i x _ H1 hi ⟨x1, T1, hD⟩ ⟨rfl, ex⟩
    obtain rfl : x = V.int i := ex.trans (congrArg V.int (Int.zero_add _))
    have hi5 : i < 5 := by
      have : i < (1 + (if ((ns.map V.int).length : Int) < 4 then ((ns.map V.int).length : Int) else 4)).toNat := hi
      split at this <;> omega
    refine ⟨rfl, yesI (iteT ?_)⟩
    refine ⟨_, rfl, _, rfl, a, i, ns, rfl, key _ x1, by omega, fun p H2 s2 np Bp => ?_⟩
    have pD : D ≠ p := ne_of_none hD np
    have hD2 := s2 _ _ hD
    refine ⟨p, 0, rfl, Bp, by decide, T1.ext s2, fun H3 x3 T3 => ?_⟩
    have hD3 := x3 _ _ pD hD2 nofun
    refine ⟨_, hD3, ?_, fun u e m1 m2 m3 => ?_, tabs_put T3 hD3, ?_⟩
    · rw [List.length_replicate]
      exact small1000 (by omega)
    · rw [upd_ne (ne_of_none e nD)]
      exact x3 _ _ (ne_of_none (x1 _ e m1 m2 m3) np) (s2 _ _ (x1 _ e m1 m2 m3)) m3
    · rw [upd_same, List.replicate_succ']
  · rintro H1 ⟨x1, T1, hD⟩
    refine ⟨D, List.replicate _ true, rfl, SqL.of (by rw [hD, List.map_replicate]), ?_⟩
    rw [all_rep]
    exact q _
end
end Fd

set_option Elab.async false
set_option linter.all false
set_option maxRecDepth 100000
set_option maxHeartbeats 4000000
namespace Fd
open PySem PySem.Spec PyProof.Rows L2 LamX
section
variable {P : Program} {w : World} {K : PySem.W.Frag} {mg : Str → Option Value} {base : Heap}
/-- one entry of a def, by its body there -/
theorem enter {x qual : Str} {st : Stmt} {f : Addr} {fd : FuncData} {N ps : List Str} {k : Nat} {A : Around} {outer : List Env} {s : Shared} {H : Hp} {args : Args} {us : List Value} {vs : List V} {Q : VK} {E : XK} (F : Fun K x qual st f fd) (S : FnScope N ps (defScope st))
    (hl : vs.length = ps.length) (hr : Room (k + 1) A) (e0 : Env0 P w K mg base A outer s H) (hb : BindsTo s fd args (ps.zip us)) (r : Vals vs us)
    (body : ∀ cdv : Value, Room k (A.deeper (envOfC qual (defScope st) s.heap.objs.size f cdv)) → ∃ t, PSs (cxOf CX0 P w K mg base N qual (defScope st) f cdv A outer s H E).nox (defBody st) t ∧ t { nx := fun _ H' => Q .non H', rt := Q } (L2.start N vs) H) :
    codeAny (model P w) A (.call (.ref f) args) (CR CX0 outer P w H s Q E) s := by
  obtain ⟨oc, od, kV, doc, pm, an, cdv, ct, osl, rfl, lk, hcd⟩ := F.ex
  obtain ⟨t, ht, hq⟩ := body cdv (hr.deeper _)
  have old : ∀ b o, base.get? b = some o → s.heap.get? b = some o := fun b o e => (e0.bs b o e).1
  refine codeAny_call_function hr.depth ((e0.mod.kin.keeps old) _ _ lk) rfl S.co S.gen rfl (PySem.W.codeRec_of (e0.mod.kin.keeps old) hcd) (hb _ _ _ _ (wpAny_newFunctionEnv_cells S.kind (fun y hy => ?_) fun env he s1 x => ?_))
  · exact (S.par y.1 (List.of_mem_zip (show (y.1, y.2) ∈ ps.zip us from hy)).1).elim .inl fun z => .inr ⟨z, PySem.W.cellsFrom_some _ _ _ (.inl z)⟩
  subst he
  refine ⟨(e0.mod.nolimit.keeps old).keeps x.toInCall.keep, codeAny_func (wpAny_mono (ht.nox.run [] s1 _ H _ (inv_start S hr.hd e0 hl r x) hq) (fun fl s' hs => ?_) fun _ _ hs => hs)⟩
  cases fl with
  | ret u =>
    obtain ⟨v, _, H', J, rv, q⟩ := hs
    exact ⟨v, H', J.os, J.bare, J.base, J.hok, rv, q⟩
  | next =>
    obtain ⟨_, H', J, q⟩ := hs
    exact ⟨.non, H', J.os, J.bare, J.base, J.hok, (rfl : RelV .non Value.none), q⟩
  | brk => obtain ⟨_, _, _, q⟩ := hs; exact q.elim
  | cont => obtain ⟨_, _, _, q⟩ := hs; exact q.elim
end
/-- the tracked heap at the law's entry: the table at T, and the script or not -/
structure EntryT (P : Program) (w : World) (K : PySem.W.Frag) (T a : Addr) (h : Heap) (H : Hp) : Prop where
  tab : H T = some (.tbl #[])
  ok : HOk P w H h
  one : ∀ b, b ≠ T → H b = none ∨ (b = a ∧ K.lookup a = none ∧ ∃ (ob : Obj) (xs : List V), H b = some (.frz ob (.lst xs)))
theorem entry_ofT {P : Program} {w : World} {K : PySem.W.Frag} {T a : Addr} {h : Heap} {vs : List Value} {ns : List Int} (KX : K.In h) (hT : h.get? T = some { cls := .none, data := .fields #[] }) (ha : h.get? a = some { cls := .type "list", data := .seq vs.toArray }) (hi : IntsAre vs ns) (hl : ns.length ≤ sizeLine) :
    ∃ H, EntryT P w K T a h H ∧ SqL K H a (ns.map V.int) := by
  have aT : a ≠ T := fun z => by
    rw [z, hT] at ha
    cases ha
  cases hk : K.lookup a with
  | some o =>
    have e := KX a o hk
    rw [ha] at e
    cases e
    refine ⟨upd (fun _ => none) T (.tbl #[]), ⟨upd_same, fun b u z => ?_, fun b n => .inl (upd_ne n)⟩, .inr ⟨_, vs.toArray, _, hk, rfl, rfl, rfl, by rw [List.size_toArray, hi.length]; exact hl, by simpa using vals_ints hi⟩⟩
    by_cases e : b = T
    · subst e
      rw [upd_same] at z
      cases z
      exact hT
    · rw [upd_ne e] at z; cases z
  | none =>
    have u1 : upd (upd (fun _ => none) T (.tbl #[])) a (.frz { cls := .type "list", data := .seq vs.toArray } (.lst (ns.map V.int))) a = some _ := upd_same
    refine ⟨upd (upd (fun _ => none) T (.tbl #[])) a (.frz { cls := .type "list", data := .seq vs.toArray } (.lst (ns.map V.int))), ⟨by rw [upd_ne (Ne.symm aT)]; exact upd_same, fun b u z => ?_, fun b n => ?_⟩, .inl (.inr ⟨_, u1⟩)⟩
    · by_cases e : b = a
      · subst e
        rw [upd_same] at z
        cases z
        exact ⟨ha, by rw [List.length_map]; exact hl, vs, _, vals_ints hi, ha⟩
      · rw [upd_ne e] at z
        by_cases e : b = T
        · subst e
          rw [upd_same] at z
          cases z
          exact hT
        · rw [upd_ne e] at z; cases z
    · by_cases e : b = a
      · subst e
        exact .inr ⟨rfl, hk, _, _, u1⟩
      · exact .inl (by rw [upd_ne e, upd_ne n])
section
variable {P : Program} {w : World} {K : PySem.W.Frag} {mg mb : Str → Option Value}
theorem law_atT {k : Nat} {fa a c0 T : Addr} {fd : FuncData} {x : Str} {st : Stmt} {N : List Str} {nm : Str} {s₁ : Shared} {vs : List Value} {ns : List Int} (F : Fun K nm nm st fa fd) (S : FnScope N [x] (defScope st))
    (KX : K.In s₁.heap) (hns : s₁.heap.Ns mainGlobals mg) (hb : s₁.heap.Ns builtinsNs mb) (hbb : ∀ x : Str, x ≠ "__name__" → mb x = bootBuiltins x) (hlim : s₁.heap.NoLimit) (hg : s₁.gens = #[])
    (hT : s₁.heap.get? T = some { cls := .none, data := .fields #[] }) (nT : K.lookup T = none) (C : PySem.W.CodeHd s₁.heap c0 T)
    (hbm : ∃ (bm : Addr) (ob : Obj), mg "__builtins__" = some (.ref bm) ∧ bm ≠ builtinsNs ∧ s₁.heap.get? bm = some ob ∧ ob.cls = .type "module" ∧ ob.dict = some builtinsNs ∧ ob.data = .plain)
    (ha : s₁.heap.get? a = some { cls := .type "list", data := .seq vs.toArray }) (hi : IntsAre vs ns) (hl : ns.length ≤ sizeLine) (hr : Room (k + 1) callerA) (hbind : ∀ (s : Shared) (u : Value), BindsTo s fd ⟨[u], []⟩ [(x, u)])
    (body : ∀ (base : Heap) (cdv : Value) (H : Hp), K.In base → base.Ns mainGlobals mg → TabB base mg c0 T → SqL K H a (ns.map V.int) → Tabs (TT T) H → Room k (callerA.deeper (envOfC nm (defScope st) s₁.heap.objs.size fa cdv)) →
      ∃ t, PSs (cxOf CX0 P w K mg base N nm (defScope st) fa cdv callerA [] s₁ H fun _ _ _ => False).nox (defBody st) t ∧ t { nx := fun _ _ => V.non = .bl true, rt := fun v _ => v = .bl true } (L2.start N [.ref a]) H) :
    codeAny (model P w) callerA (.call (.ref fa) ⟨[.ref a], []⟩) (fun r s' => r = .ok (.ret (.bool true)) ∧ OldK s₁.heap s'.heap ∧ s'.os = s₁.os ∧ AllBare s'.gens) s₁ := by
  obtain ⟨H, en, hS⟩ := entry_ofT (P := P) (w := w) KX hT ha hi hl
  have aT : a ≠ T := fun z => by
    rw [z, hT] at ha
    cases ha
  -- what is not the table and not the script's list is not tracked
  have noD : ∀ {b : Addr} {o : Obj}, s₁.heap.get? b = some o → (∀ vs n, o.data ≠ .seq vs n) → o.data ≠ .fields #[] → H b = none := fun {b o} e h1 h2 => by
    by_cases z : b = T
    · subst z
      rw [hT] at e
      cases e
      exact (h2 rfl).elim
    · rcases en.one b z with q | ⟨q, _⟩
      · exact q
      · subst q
        rw [ha] at e
        cases e
        exact (h1 _ _ rfl).elim
  have noA : ∀ {b : Addr} {o : Obj} {es : Array DictEntry} {ep : Nat}, s₁.heap.get? b = some o → o.data = .dict es ep → H b = none := fun {b o es ep} e d => by
    refine noD e (fun vs n z => ?_) fun z => ?_
    · rw [d] at z
      cases z
    · rw [d] at z
      cases z
  have kb : K.In (hidT s₁.heap H) := fun b o e => hidT_get (KX b o e) (by
    by_cases z : b = T
    · rw [z, nT] at e
      cases e
    · rcases en.one b z with q | ⟨q, q2, _⟩
      · exact q
      · rw [q, q2] at e
        cases e)
  have nb : ∀ {b : Addr} {m : Str → Option Value}, s₁.heap.Ns b m → (hidT s₁.heap H).Ns b m := fun ⟨o, es, ep, e, d, r⟩ => ⟨o, es, ep, hidT_get e (noA e d), d, r⟩
  have lim : (hidT s₁.heap H).NoLimit := by
    obtain ⟨mc, h1, h2⟩ := hlim
    exact ⟨mc, nb h1, h2⟩
  have TB : TabB (hidT s₁.heap H) mg c0 T := by
    refine ⟨?_, ?_, fun z => ?_⟩
    · obtain ⟨o, us, file, tf, flags, tg, inF, text, tt, e1, r1, r2, r3, r⟩ := C
      refine ⟨o, us, file, tf, flags, tg, inF, text, tt, hidT_get e1 (noD e1 (fun vs n z => ?_) fun z => ?_), r1, r2, r3, r⟩
      · rw [r2] at z
        cases z
      · rw [r2] at z
        cases z
        simp at r3
    · obtain ⟨bm, ob, b1, b2, b3, b4, b5, b6⟩ := hbm
      have nG : bm ≠ mainGlobals := fun q => by
        obtain ⟨o, es, ep, e, hd, _⟩ := hns
        rw [q, e] at b3
        cases b3
        rw [hd] at b6
        cases b6
      have nP : bm ≠ T := fun q => by
        rw [q, hT] at b3
        cases b3
        cases b6
      refine ⟨bm, ob, b1, b2, nG, nP, hidT_get b3 (noD b3 (fun vs n z => ?_) fun z => ?_), b4, b5, b6⟩
      · rw [b6] at z
        cases z
      · rw [b6] at z
        cases z
    · obtain ⟨o, es, ep, e, hd, _⟩ := hns
      rw [z, hT] at e
      cases e
      cases hd
  have e0 : Env0 P w K mg (hidT s₁.heap H) callerA [] s₁ H := ⟨rfl, ⟨kb, nb hns, ⟨mb, nb hb, hbb⟩, lim⟩, fun b o e => of_hidT e, Nat.le_of_eq (hidT_size _ _), trivial, fun b hb => absurd (show b ∈ ([] : List Addr) from hb) (by simp), en.ok, .of_eq hg⟩
  have tabs : Tabs (TT T) H := fun p hp => by
    obtain rfl := List.mem_singleton.mp hp
    exact TabS.nil en.tab
  refine codeAny_mono (enter (vs := [.ref a]) (us := [.ref a]) (Q := fun v _ => v = .bl true) (E := fun _ _ _ => False) F S rfl hr e0 (hbind s₁ (.ref a)) (.cons rfl .nil) fun cdv hr' => body _ cdv H kb (nb hns) TB hS tabs hr') fun r s' h => ?_
  cases r with
  | error e => exact h.elim
  | ok fl =>
    cases fl with
    | ret u =>
      obtain ⟨v, H', os, bare, un, ok', rv, q⟩ := h
      obtain rfl : v = .bl true := q
      obtain rfl : u = Value.bool true := rv
      have key : ∀ b o, b ≠ T → s₁.heap.get? b = some o → s'.heap.get? b = some o := fun b o n e => by
        rcases en.one b n with z | ⟨_, _, ob, xs, z⟩
        · exact un.keep b o e z (fun y => absurd (show b ∈ ([] : List Addr) from y) (by simp)) (by simp)
        · obtain ⟨e1, _⟩ := en.ok b _ z
          obtain ⟨e2, _⟩ := ok' b _ (un.frzs b ob _ z)
          rw [e] at e1
          cases e1
          exact e2
      obtain ⟨more, z⟩ := un.tbls T #[] en.tab
      have grown : s'.heap.get? T = some { cls := .none, data := .fields more } := by
        have := ok' T _ z
        rw [Array.empty_append] at this
        exact this
      refine ⟨rfl, ⟨fun b o e => ?_, fun b o e => ?_⟩, os, bare⟩
      · by_cases n : b = T
        · subst n
          rw [hT] at e
          cases e
          exact .inr (.inl ⟨(C.tab hT).isCodeTable, rfl, #[], more, rfl, by rw [Array.empty_append]; exact grown⟩)
        · exact .inl (key b o n e)
      · by_cases n : b = T
        · subst n
          exact ⟨_, grown⟩
        · exact ⟨o, key b o n e⟩
    | next => exact h.elim
    | brk => exact h.elim
    | cont => exact h.elim
end
theorem walk_exT {l : PySem.W.OpenLaw} {n : Nat} {q : Program} {loose : List Str} {XP : (Str → Option Value) → Heap → Prop} {YP : World → Heap → Prop} {d : DefRec} (hn : l.most = some n) (hn2 : n ≤ 63) (hdf : d.params.defaults = []) (hd : d.name = "law")
    (F : ∀ (w : World) (mg : Str → Option Value) (fa : Addr) (h : Heap), YP w h → h.Ns mainGlobals mg → mg "law" = some (.ref fa) →
      ∃ (K : PySem.W.Frag) (fd : FuncData) (c0 T : Addr), K.In h ∧ K.lookup T = none ∧ h.get? T = some { cls := .none, data := .fields #[] } ∧ PySem.W.CodeHd h c0 T ∧ Fun K "law" "law" sLaw fa fd ∧ (∀ (s : Shared) (v : Value), BindsTo s fd ⟨[v], []⟩ [("_law_script", v)]) ∧ ∀ base : Heap, K.In base → base.Ns mainGlobals mg → TabB base mg c0 T → LawD l.prog w K mg base T 40) :
    PySem.W.WalkO q loose XP YP l.row.toRowW d [] (fun f vs => PySem.call f vs) := by
  refine Att.attach_call hn hdf fun w s₀ s₁ mg mb fa o pm cd doc a vs ns G Y ho hd' hcd hmg hobj hints hlen hg => ?_
  rw [hd] at hmg
  obtain ⟨K, fd, c0, T, hK, nT, hT, C, hF, hb, hL⟩ := F w mg fa _ Y G.T.g hmg
  exact law_atT (k := 40) (x := "_law_script") hF scLaw hK G.T.g G.T.b G.T.builtins G.T.nolimit hg hT nT C G.T.bmain hobj hints (Nat.le_trans (Nat.le_trans hlen hn2) (by decide)) ⟨rfl, by decide, by decide⟩ hb
    fun base cdv H kb nb TB hS tabs hr => law_body (hL base kb nb TB) cdv callerA [] s₁ H [.ref a] (fun v _ => v = .bl true) (fun _ _ _ => False) hr ⟨a, ns, rfl, hS, Nat.le_trans hlen hn2, tabs, fun _ => rfl⟩
end Fd

set_option Elab.async false
set_option linter.all false
set_option maxRecDepth 100000
set_option maxHeartbeats 2000000
/-! as hookZ, and some objects outright by their addresses; the table of steps -/
noncomputable section
namespace Fw
open PySem PySem.W PySem.Calls PyProof.Rows HandSHeadRun L2
def obsV (fa : List He.Fa) (fn : List He.FnD) (ck : Frag → Bool) (tf : List He.Defn) (as : List Addr) (n : Nat) (g : Addr → Option Obj) : (He.Al × Bool) × List (Option Obj) :=
  (obsZ fa fn ck tf n g, as.map fun a => (He.frT g (List.range n)).lookup a)
def hookV (fa : List He.Fa) (fn : List He.FnD) (ck : Frag → Bool) (tf : List He.Defn) (as : List Addr) (n : Nat) (os : World → List Obj) : Hook where
  α := (He.Al × Bool) × List (Option Obj)
  obs := fun s => obsV fa fn ck tf as n s.heap.get?
  val := fun w => ((He.valE fn, true), (os w).map some)
  says := fun w h => ∃ K : Frag, K.In h ∧ SaysZ fa fn ck tf h K ∧ ∀ (i : Nat) (a : Addr) (o : Obj), as[i]? = some a → (os w)[i]? = some o → K.lookup a = some o
  of := fun w s e => by
    have e1 : obsZ fa fn ck tf n s.heap.get? = (He.valE fn, true) := congrArg (fun z : (He.Al × Bool) × List (Option Obj) => z.1) e
    have e3 : as.map (fun a => (He.frT s.heap.get? (List.range n)).lookup a) = (os w).map some := congrArg (fun z : (He.Al × Bool) × List (Option Obj) => z.2) e
    refine ⟨_, He.frT_in, saysZ_of e1, fun i a o ha ho => ?_⟩
    have z : (as.map (fun a => (He.frT s.heap.get? (List.range n)).lookup a))[i]? = ((os w).map some)[i]? := by rw [e3]
    rw [List.getElem?_map, List.getElem?_map, ha, ho] at z
    exact Option.some.inj z
  keeps := fun _ _ _ ⟨K, hK, c, d⟩ k => ⟨K, Frag.In.keeps hK k, ⟨c.e, c.ck, c.hd, c.out, fun p hp => k _ _ (c.empty p hp)⟩, d⟩
def obV (fa : List He.Fa) (fn : List He.FnD) (ck : Frag → Bool) (tf : List He.Defn) (as : List Addr) (n : Nat) (s : SharedT) : (He.Al × Bool) × List (Option Obj) := obsV fa fn ck tf as n (getT s)
theorem obV_eq (fa : List He.Fa) (fn : List He.FnD) (ck : Frag → Bool) (tf : List He.Defn) (as : List Addr) (n : Nat) (os : World → List Obj) (s : SharedT) : obV fa fn ck tf as n s = (hookV fa fn ck tf as n os).obs s.abs := by
  have e : getT s = s.abs.heap.get? := funext (getT_eq s)
  show obsV fa fn ck tf as n (getT s) = obsV fa fn ck tf as n s.abs.heap.get?
  rw [e]
/-- a pair of ints -/
def ptT (K : Frag) (v : Value) (q : Int × Int) : Bool := match v with
  | .ref a => (match K.lookup a with
    | some ⟨.type c, _, .seq its _, _⟩ => decide (c = "tuple") && (match its.toList with
      | [.int x _, .int y _] => decide (x = q.1) && decide (y = q.2)
      | _ => false)
    | _ => false)
  | _ => false
theorem ptT_ok {K : Frag} {v : Value} {q : Int × Int} (h : ptT K v q = true) : ∃ a : Addr, v = .ref a ∧ ∀ H, SqT K H a [.int q.1, .int q.2] := by
  unfold ptT at h
  split at h
  · rename_i a
    split at h
    · rename_i c od its m sl hl
      obtain ⟨h1, h2⟩ := Bool.and_eq_true_iff.mp h
      have h1 := of_decide_eq_true h1
      subst h1
      split at h2
      · rename_i x t1 y t2 ei
        obtain ⟨h3, h4⟩ := Bool.and_eq_true_iff.mp h2
        have h3 := of_decide_eq_true h3
        have h4 := of_decide_eq_true h4
        subst h3 h4
        refine ⟨a, rfl, fun H => .inr ⟨_, its, m, hl, rfl, rfl, ?_, ?_⟩⟩
        · rw [← Array.length_toList, ei]; exact (by show 2 ≤ sizeLine; decide)
        · rw [ei]
          exact .cons ⟨_, rfl⟩ (.cons ⟨_, rfl⟩ .nil)
      · cases h2
    · cases h
  · cases h
def stpB (K : Frag) (a : Addr) : Bool := match K.lookup a with
  | some ⟨.type c, _, .seq its _, _⟩ => decide (c = "tuple") && (match its.toList with
    | [v0, v1, v2, v3] => ptT K v0 (1, 0) && ptT K v1 (0, 1) && ptT K v2 (-1, 0) && ptT K v3 (0, -1)
    | _ => false)
  | _ => false
theorem stpB_ok {K : Frag} {a : Addr} (h : stpB K a = true) : ∃ ts : List Addr, (∀ H, SqT K H a (ts.map V.ref)) ∧ ∀ H, Paired (fun t (q : Int × Int) => SqT K H t [.int q.1, .int q.2]) ts [(1, 0), (0, 1), (-1, 0), (0, -1)] := by
  unfold stpB at h
  split at h
  · rename_i c od its m sl hl
    obtain ⟨h1, h2⟩ := Bool.and_eq_true_iff.mp h
    have h1 := of_decide_eq_true h1
    subst h1
    split at h2
    · rename_i v0 v1 v2 v3 ei
      simp only [Bool.and_eq_true] at h2
      obtain ⟨⟨⟨q0, q1⟩, q2⟩, q3⟩ := h2
      obtain ⟨a0, rfl, s0⟩ := ptT_ok q0
      obtain ⟨a1, rfl, s1⟩ := ptT_ok q1
      obtain ⟨a2, rfl, s2⟩ := ptT_ok q2
      obtain ⟨a3, rfl, s3⟩ := ptT_ok q3
      refine ⟨[a0, a1, a2, a3], fun H => .inr ⟨_, its, m, hl, rfl, rfl, ?_, ?_⟩, fun H => .cons (s0 H) (.cons (s1 H) (.cons (s2 H) (.cons (s3 H) .nil)))⟩
      · rw [← Array.length_toList, ei]; exact (by show 4 ≤ sizeLine; decide)
      · rw [ei]
        exact .cons rfl (.cons rfl (.cons rfl (.cons rfl .nil)))
    · cases h2
  · cases h
end Fw

end
set_option Elab.async false
set_option linter.all false
set_option maxRecDepth 100000
set_option maxHeartbeats 2000000
/-! A display of at most 15 pairs whose keys are texts: what it leaves, object by object. -/
namespace Fw
open PySem PySem.W PySem.Calls PyProof.Rows
abbrev SV : Type := Str × Value
section
variable {prog : Program} {w : World} {A : Around} {E : Value → Shared → Prop} {env : Env}
def sEs (w : World) (prog : Program) : Nat → List SV → List DictEntry
  | _, [] => []
  | t, p :: r => ⟨(strKind prog w).hash p.1, .str p.1 t, p.2⟩ :: sEs w prog (t + 1) r
def kvs : Nat → List SV → List (Value × Value)
  | _, [] => []
  | t, p :: r => (.str p.1 t, p.2) :: kvs (t + 1) r
theorem sEs_app : ∀ (a b : List SV) (t : Nat), sEs w prog t (a ++ b) = sEs w prog t a ++ sEs w prog (t + a.length) b
  | [], _, _ => rfl
  | p :: a, b, t => by
    show _ :: sEs w prog (t + 1) (a ++ b) = _
    rw [sEs_app a b, show t + 1 + a.length = t + (p :: a).length by rw [List.length_cons]; omega]
    rfl
theorem sEs_len : ∀ (a : List SV) (t : Nat), (sEs w prog t a).length = a.length
  | [], _ => rfl
  | p :: a, t => congrArg (· + 1) (sEs_len a _)
theorem sEs_mem : ∀ {a : List SV} {t : Nat} {e : DictEntry}, e ∈ sEs w prog t a → ∃ p ∈ a, ∃ t', e = ⟨(strKind prog w).hash p.1, .str p.1 t', p.2⟩
  | [], _, _, h => nomatch h
  | p :: a, t, e, h => by
    rcases List.mem_cons.mp h with z | z
    · exact ⟨p, List.mem_cons_self .., t, z⟩
    · obtain ⟨q, hq, r⟩ := sEs_mem z
      exact ⟨q, List.mem_cons_of_mem _ hq, r⟩
/-- the state with the dict laid behind h -/
def midS (w : World) (prog : Program) (s : Shared) (t k : Nat) (L : List SV) : Shared := { s with heap := ext s.heap [dO (sEs w prog t L)], toks := k }
theorem wp_setS {s : Shared} {t k : Nat} {L : List SV} {x : Str} {v : Value} {Q : Unit → Shared → Prop} (hn : x ∉ L.map (·.1)) (hz : L.length ≤ 1000)
    (q : Q () (midS w prog s t (k + 1) (L ++ [(x, v)]))) : wpAny (model prog w) A (dictSet s.heap.objs.size (.str x (t + L.length)) v) Q E (midS w prog s t k L) := by
  have is : (strKind prog w).is x (.str x (t + L.length)) = true := by show Value.isStrOf x (.str x (t + L.length)) = true; simp [Value.isStrOf]
  have hd : (midS w prog s t (k + 1) L).heap.get? s.heap.objs.size = some (dO (sEs w prog t L)) := ext_get (h := s.heap) (i := 0) rfl (fun c d s z => by injection z with _ _ z _; exact nomatch z)
  unfold dictSet
  try with_reducible refine wpAny_holding ?_
  refine wpAny_bind ((strKind prog w).pyHash is ?_)
  unfold dictSetHashed
  try with_reducible refine wpAny_holding ?_
  refine wpAny_bind (wpAny_dictFind_of (knd := strKind prog w) (s := midS w prog s t (k + 1) L) is hd rfl (fun e he => ?_) ?_)
  · obtain ⟨p, _, t', rfl⟩ := sEs_mem (List.mem_toArray.mp he)
    exact ⟨p.1, by show Value.isStrOf p.1 (.str p.1 t') = true; simp [Value.isStrOf], rfl⟩
  have no : (sEs w prog t L).toArray.findIdx? (fun e => (strKind prog w).is x e.key) = none := by
    rw [List.findIdx?_toArray, List.findIdx?_eq_none_iff]
    intro e he
    obtain ⟨p, hp, t', rfl⟩ := sEs_mem he
    show Value.isStrOf x (.str p.1 t') = false
    cases hh : Value.isStrOf x (.str p.1 t') with
    | false => rfl
    | true =>
      obtain ⟨u, hu⟩ := Value.isStrOf_shape hh
      injection hu with hx _
      exact absurd (List.mem_map.mpr ⟨p, hp, hx⟩) hn
  rw [no]
  refine wpAny_bind (wpAny_rule (wpAny_updateDictKeys (s := midS w prog s t (k + 1) L) hd rfl ?_ (by
    rw [List.size_toArray, sEs_len]
    exact Nat.le_trans hz (by decide))))
  have e : (ext s.heap [dO (sEs w prog t L)]).update s.heap.objs.size (Obj.mapDictKeys fun es => es.push ⟨(strKind prog w).hash x, .str x (t + L.length), v⟩) = ext s.heap [dO (sEs w prog t (L ++ [(x, v)]))] := by
    rw [ext_upd]
    congr 2
    rw [sEs_app]
    show (⟨_, _, _, _⟩ : Obj) = ⟨_, _, _, _⟩
    simp [dO, Obj.mapDictKeys, sEs]
  show Q () { s with heap := (ext s.heap [dO (sEs w prog t L)]).update s.heap.objs.size _, toks := k + 1 }
  rw [e]
  exact q
theorem wp_storeS {s : Shared} {t : Nat} : ∀ (rest done : List SV) (k : Nat) (Q : PUnit → Shared → Prop), ((done ++ rest).map (·.1)).Nodup → (done ++ rest).length ≤ 1000 → Q PUnit.unit (midS w prog s t (k + rest.length) (done ++ rest)) →
    wpAny (model prog w) A (forIn (kvs (t + done.length) rest) PUnit.unit fun (x : Value × Value) (_ : PUnit) => (do dictSet s.heap.objs.size x.1 x.2; pure (ForInStep.yield PUnit.unit) : Sem (ForInStep PUnit))) Q E (midS w prog s t k done)
  | [], done, k, Q, _, _, q => by
    rw [List.append_nil] at q
    show wpAny _ _ (forIn [] PUnit.unit _) _ _ _
    rw [List.forIn_nil]
    exact wpAny_pure q
  | p :: r, done, k, Q, hn, hl, q => by
    have ed : done ++ p :: r = (done ++ [p]) ++ r := by simp
    rw [ed] at hn hl q
    show wpAny _ _ (forIn ((Value.str p.1 (t + done.length), p.2) :: kvs (t + done.length + 1) r) PUnit.unit _) _ _ _
    rw [List.forIn_cons]
    dsimp only
    have hn' : p.1 ∉ done.map (·.1) := fun z => by
      rw [List.map_append, List.map_append] at hn
      exact (List.nodup_append.mp (List.nodup_append.mp hn).1).2.2 _ z _ (List.mem_singleton.mpr rfl) rfl
    have hl' : done.length ≤ 1000 := by
      rw [List.length_append, List.length_append] at hl
      omega
    refine wpAny_bind (wpAny_bind (wp_setS hn' hl' (wpAny_pure ?_)))
    dsimp only
    have := wp_storeS (s := s) (t := t) r (done ++ [p]) (k + 1) Q hn hl (by
      rw [show k + 1 + r.length = k + (p :: r).length by rw [List.length_cons]; omega]
      exact q)
    rw [show t + (done ++ [p]).length = t + done.length + 1 by rw [List.length_append]; rfl] at this
    exact this
/-- pairs, written: a text, and what comes to a value wherever the objects of s stand -/
inductive PairsS (prog : Program) (w : World) (A : Around) (E : Value → Shared → Prop) (env : Env) (s : Shared) : List (Sem Value × Sem Value) → List SV → Prop where
  | nil : PairsS prog w A E env s [] []
  | cons {x : Str} {k : Nat} {kp : Pos} {m : Sem Value} {v : Value} {ps : List (Sem Value × Sem Value)} {r : List SV} :
      (∀ (s' : Shared) (Q : Value → Shared → Prop), (∀ b o, s.heap.get? b = some o → s'.heap.get? b = some o) → Q v s' → wpAny (model prog w) A m Q E s') → PairsS prog w A E env s ps r →
      PairsS prog w A E env s ((eval (.Constant (.str x) k kp) env, m) :: ps) ((x, v) :: r)
theorem pairsS_len {s : Shared} : ∀ {ps : List (Sem Value × Sem Value)} {L : List SV}, PairsS prog w A E env s ps L → ps.length = L.length
  | _, _, .nil => rfl
  | _, _, .cons _ r => congrArg (· + 1) (pairsS_len r)
theorem wp_pairsS {s s' : Shared} : ∀ {ps : List (Sem Value × Sem Value)} {L : List SV} {k : Nat} {Q : List (Value × Value) → Shared → Prop}, PairsS prog w A E env s ps L → (∀ b o, s.heap.get? b = some o → s'.heap.get? b = some o) →
    Q (kvs k L) { s' with toks := k + L.length } → wpAny (model prog w) A (evalPairs ps) Q E { s' with toks := k }
  | _, _, k, Q, .nil, _, q => by
    unfold evalPairs
    exact wpAny_pure q
  | _, _, k, Q, .cons (r := r) h c, hk, q => by
    unfold evalPairs
    refine wpAny_bind (wpAny_Constant_str (wpAny_bind (wpAny_holding (h _ _ hk (wpAny_bind (wpAny_holding ?_))))))
    refine wp_pairsS (k := k + 1) c hk (wpAny_pure ?_)
    rw [show k + 1 + r.length = k + (r.length + 1) by omega]
    exact q
theorem wp_subS {s : Shared} {ps : List (Sem Value × Sem Value)} {L : List SV} {Q : Addr → Shared → Prop} (c : PairsS prog w A E env s ps L) (h15 : ps.length ≤ 15) (hn : (L.map (·.1)).Nodup) (q : Q s.heap.objs.size (midS w prog s s.toks (s.toks + 2 * L.length) L)) :
    wpAny (model prog w) A (subDict ps) Q E s := by
  have ll := pairsS_len c
  unfold subDict
  refine wpAny_bind (wpAny_alloc ?_)
  refine wpAny_bind (wpAny_holding ?_)
  rw [if_pos h15]
  have e : ∀ k, ({ s with heap := s.heap.push { cls := .type "dict", data := .dict #[] }, toks := k } : Shared) = midS w prog s s.toks k [] := fun k => by
    have z : s.heap.push { cls := .type "dict", data := .dict #[] } = ext s.heap [dO []] := by
      have z := ext_push s.heap [] { cls := .type "dict", data := .dict #[] }
      rw [ext_nil] at z
      exact z
    show Shared.mk _ _ _ _ _ = Shared.mk (ext s.heap [dO []]) _ _ _ _
    rw [z]
  refine wpAny_bind (wp_pairsS (s := s) (s' := { s with heap := s.heap.push { cls := .type "dict", data := .dict #[] } }) (k := s.toks) c (fun b o z => Heap.get?_push_of_some _ z) ?_)
  refine wpAny_holding ?_
  show wpAny _ _ _ _ _ ({ s with heap := s.heap.push { cls := .type "dict", data := .dict #[] }, toks := s.toks + L.length } : Shared)
  rw [e]
  refine wpAny_bind (wp_storeS (s := s) (t := s.toks) L [] (s.toks + L.length) _ hn (by show L.length ≤ 1000; omega) (wpAny_pure (wpAny_pure ?_)))
  rw [show s.toks + L.length + L.length = s.toks + 2 * L.length by omega]
  exact q
theorem wp_displayS {pos : Pos} {s : Shared} {keys : List (Option Expr)} {values : List Expr} {ps : List (Sem Value × Sem Value)} {L : List SV} {Q : Value → Shared → Prop}
    (hshape : (evalEachOpt keys env).zip ((evalEach values env).map fun v => do let x ← v; standAt pos; pure x) = ps.map fun p => (some p.1, p.2)) (c : PairsS prog w A E env s ps L) (h0 : ps ≠ []) (h15 : ps.length ≤ 15) (hn : (L.map (·.1)).Nodup)
    (q : Q (.ref s.heap.objs.size) (midS w prog s s.toks (s.toks + 2 * L.length) L)) : wpAny (model prog w) A (eval (.Dict keys values pos) env) Q E s := by
  rw [arm_eval_Dict, hshape, dictDisplay_pairs ps h0 (by omega)]
  exact wpAny_bind (wpAny_standAt (wpAny_bind (wp_subS c h15 hn (wpAny_pure q))))
end
end Fw

set_option Elab.async false
set_option linter.all false
set_option maxRecDepth 100000
set_option maxHeartbeats 2000000
/-! A display of more than 17 and at most 32 pairs, keys texts, values tuples of texts: what it leaves, object by object. -/
namespace Fw
open PySem PySem.W PySem.Calls PyProof.Rows
abbrev SP : Type := Str × List Str
abbrev E3 : Type := Str × Nat × Value
section
variable {prog : Program} {w : World} {A : Around} {E : Value → Shared → Prop} {env : Env}
/-- c: tokens behind a pair -/
def ta (c : Nat) : Nat → List SP → List Obj
  | _, [] => []
  | t, p :: r => tO (t + 1) p.2 :: ta c (t + p.2.length + c) r
def tk (c : Nat) : Nat → List SP → Nat
  | t, [] => t
  | t, p :: r => tk c (t + p.2.length + c) r
def te (c : Nat) : Nat → Nat → List SP → List E3
  | _, _, [] => []
  | a, t, p :: r => (p.1, t, .ref a) :: te c (a + 1) (t + p.2.length + c) r
theorem ta_app (c : Nat) : ∀ (a b : List SP) (t : Nat), ta c t (a ++ b) = ta c t a ++ ta c (tk c t a) b
  | [], _, _ => rfl
  | p :: a, b, t => by
    show _ :: ta c _ (a ++ b) = _
    rw [ta_app c a b]
    rfl
theorem tk_app (c : Nat) : ∀ (a b : List SP) (t : Nat), tk c t (a ++ b) = tk c (tk c t a) b
  | [], _, _ => rfl
  | p :: a, b, t => tk_app c a b _
theorem ta_len (c : Nat) : ∀ (a : List SP) (t : Nat), (ta c t a).length = a.length
  | [], _ => rfl
  | p :: a, t => congrArg (· + 1) (ta_len c a _)
theorem te_app (c : Nat) : ∀ (a b : List SP) (i t : Nat), te c i t (a ++ b) = te c i t a ++ te c (i + a.length) (tk c t a) b
  | [], _, _, _ => rfl
  | p :: a, b, i, t => by
    show _ :: te c (i + 1) _ (a ++ b) = _
    rw [te_app c a b, show i + 1 + a.length = i + (p :: a).length by rw [List.length_cons]; omega]
    rfl
theorem te_keys (c : Nat) : ∀ (a : List SP) (i t : Nat), (te c i t a).map (·.1) = a.map (·.1)
  | [], _, _ => rfl
  | p :: a, i, t => by
    show _ :: (te c _ _ a).map _ = _
    rw [te_keys c a]
    rfl
theorem te_len (c : Nat) : ∀ (a : List SP) (i t : Nat), (te c i t a).length = a.length
  | [], _, _ => rfl
  | p :: a, i, t => congrArg (· + 1) (te_len c a _ _)
def ent (w : World) (prog : Program) (x : E3) : DictEntry := ⟨(strKind prog w).hash x.1, .str x.1 x.2.1, x.2.2⟩
def dE (w : World) (prog : Program) (l : List E3) : Obj := dO (l.map (ent w prog))
theorem nf_dE (l : List E3) : ∀ c d sl, dE w prog l ≠ ⟨c, d, .freed, sl⟩ := fun c d sl z => by injection z with _ _ z _; exact nomatch z
theorem dE_push (l : List E3) (x : E3) : Obj.mapDictKeys (fun es => es.push (ent w prog x)) (dE w prog l) = dE w prog (l ++ [x]) := by
  show (⟨_, _, _, _⟩ : Obj) = ⟨_, _, _, _⟩
  simp [dE, dO, Obj.mapDictKeys]
theorem wp_findE {hp : Heap} {d : Addr} {g dr tks os} {l : List E3} {x : Str} {t : Nat} {Q : Option Nat → Shared → Prop} (hd : hp.get? d = some (dE w prog l)) (hn : x ∉ l.map (·.1)) (q : Q none ⟨hp, g, dr, tks, os⟩) :
    wpAny (model prog w) A (dictFind d (.str x t) ((strKind prog w).hash x)) Q E ⟨hp, g, dr, tks, os⟩ := by
  have is : (strKind prog w).is x (.str x t) = true := by show Value.isStrOf x (.str x t) = true; simp [Value.isStrOf]
  refine wpAny_dictFind_of (knd := strKind prog w) is hd rfl (fun e he => ?_) ?_
  · obtain ⟨y, hy, rfl⟩ := List.mem_map.mp (List.mem_toArray.mp he)
    exact ⟨y.1, by show Value.isStrOf y.1 (.str y.1 y.2.1) = true; simp [Value.isStrOf], rfl⟩
  have no : (l.map (ent w prog)).toArray.findIdx? (fun e => (strKind prog w).is x e.key) = none := by
    rw [List.findIdx?_toArray, List.findIdx?_eq_none_iff]
    intro e he
    obtain ⟨y, hy, rfl⟩ := List.mem_map.mp he
    show Value.isStrOf x (.str y.1 y.2.1) = false
    cases hh : Value.isStrOf x (.str y.1 y.2.1) with
    | false => rfl
    | true =>
      obtain ⟨u, hu⟩ := Value.isStrOf_shape hh
      injection hu with hx _
      exact absurd (List.mem_map.mpr ⟨y, hy, hx⟩) hn
  rw [no]
  exact q
theorem wp_setE {h hp : Heap} {g dr tks os} {l : List E3} {rest : List Obj} {x : Str} {t : Nat} {v : Value} {Q : Unit → Shared → Prop} (hs : hp = ext h (dE w prog l :: rest)) (hn : x ∉ l.map (·.1)) (hz : l.length ≤ 1000)
    (q : Q () ⟨ext h (dE w prog (l ++ [(x, t, v)]) :: rest), g, dr, tks + 1, os⟩) : wpAny (model prog w) A (dictSet h.objs.size (.str x t) v) Q E ⟨hp, g, dr, tks, os⟩ := by
  subst hs
  have is : (strKind prog w).is x (.str x t) = true := by show Value.isStrOf x (.str x t) = true; simp [Value.isStrOf]
  have hd : (ext h (dE w prog l :: rest)).get? h.objs.size = some (dE w prog l) := ext_get (h := h) (i := 0) rfl (nf_dE l)
  unfold dictSet
  try with_reducible refine wpAny_holding ?_
  refine wpAny_bind ((strKind prog w).pyHash is ?_)
  unfold dictSetHashed
  try with_reducible refine wpAny_holding ?_
  refine wpAny_bind (wp_findE hd hn ?_)
  refine wpAny_bind (wpAny_rule (wpAny_updateDictKeys hd rfl ?_ (by
    rw [List.size_toArray, List.length_map]
    exact Nat.le_trans hz (by decide))))
  rw [ext_upd]
  show Q () ⟨ext h (Obj.mapDictKeys (fun es => es.push (ent w prog (x, t, v))) (dE w prog l) :: rest), g, dr, tks + 1, os⟩
  rw [dE_push]
  exact q
/-- the pairs, as they are evaluated -/
inductive PairsT (env : Env) (pos : Pos) : List (Sem Value × Sem Value) → List SP → Prop where
  | nil : PairsT env pos [] []
  | cons {ve : List Expr} {x : Str} {kk vk : Nat} {kp vp : Pos} {zs : List Str} {ps : List (Sem Value × Sem Value)} {r : List SP} : CS ve zs → zs.length ≤ 100 → PairsT env pos ps r →
    PairsT env pos ((eval (.Constant (.str x) kk kp) env, (do let x ← eval (.Tuple ve vk vp) env; standAt pos; pure x)) :: ps) ((x, zs) :: r)
theorem pairsT_len {pos : Pos} : ∀ {ps : List (Sem Value × Sem Value)} {L : List SP}, PairsT env pos ps L → ps.length = L.length
  | _, _, .nil => rfl
  | _, _, .cons _ _ r => congrArg (· + 1) (pairsT_len r)
/-- behind some of the pairs -/
def midT (w : World) (prog : Program) (s : Shared) (L : List SP) : Shared := { s with heap := ext s.heap (dE w prog (te 2 (s.heap.objs.size + 1) s.toks L) :: ta 2 s.toks L), toks := tk 2 s.toks L }
theorem wp_longT {pos : Pos} {s : Shared} : ∀ (rest done : List SP) (pairs : List (Sem Value × Sem Value)) (Q : PUnit → Shared → Prop), PairsT env pos pairs rest → ((done ++ rest).map (·.1)).Nodup → (done ++ rest).length ≤ 1000 → Q PUnit.unit (midT w prog s (done ++ rest)) →
    wpAny (model prog w) A (forIn pairs PUnit.unit fun (x : Sem Value × Sem Value) (_ : PUnit) => (do let kv ← x.1; let vv ← holding [kv] x.2; holding [kv, vv] (dictSet s.heap.objs.size kv vv); pure (ForInStep.yield PUnit.unit) : Sem (ForInStep PUnit))) Q E (midT w prog s done)
  | _, done, _, Q, .nil, _, _, q => by
    rw [List.append_nil] at q
    rw [List.forIn_nil]
    exact wpAny_pure q
  | _, done, _, Q, .cons (ve := ve) (x := x) (kk := kk) (vk := vk) (kp := kp) (vp := vp) (zs := zs) (ps := ps) (r := r) c2 c3 c4, hn, hl, q => by
    rw [List.forIn_cons]
    dsimp only
    have ed : done ++ (x, zs) :: r = (done ++ [(x, zs)]) ++ r := by simp
    rw [ed] at hn hl q
    have hl' : (done ++ [(x, zs)]).length ≤ 1000 := Nat.le_trans (by rw [List.length_append (as := done ++ [(x, zs)])]; exact Nat.le_add_right _ _) hl
    have hn' : x ∉ (te 2 (s.heap.objs.size + 1) s.toks done).map (·.1) := fun z => by
      rw [te_keys] at z
      rw [List.map_append, List.map_append] at hn
      exact (List.nodup_append.mp (List.nodup_append.mp hn).1).2.2 _ z _ (List.mem_singleton.mpr rfl) rfl
    refine wpAny_bind (wpAny_bind (wpAny_Constant_str (wpAny_bind (wpAny_holding (wpAny_bind (wp_tuple (k := vk) (pos := vp) c2 c3 (wpAny_bind (wpAny_standAt (wpAny_pure ?_)))))))))
    have es : (ext s.heap (dE w prog (te 2 (s.heap.objs.size + 1) s.toks done) :: ta 2 s.toks done)).objs.size = s.heap.objs.size + 1 + done.length := by
      rw [ext_size, List.length_cons, ta_len]
      omega
    refine wpAny_bind (wpAny_holding ?_)
    show wpAny _ _ (dictSet s.heap.objs.size (.str x (tk 2 s.toks done)) (.ref (ext s.heap (dE w prog (te 2 (s.heap.objs.size + 1) s.toks done) :: ta 2 s.toks done)).objs.size)) _ _ _
    rw [es]
    refine wp_setE (h := s.heap) (rest := ta 2 s.toks (done ++ [(x, zs)])) ?_ hn' (by rw [te_len]; rw [List.length_append] at hl'; omega) (wpAny_pure ?_)
    · show (ext s.heap _).push _ = _
      rw [ext_push, ta_app]
      rfl
    · refine (congrArg (fun y => wpAny (model prog w) A _ Q E y) ?_).mp (wp_longT r (done ++ [(x, zs)]) ps Q c4 hn hl q)
      unfold midT
      rw [te_app, tk_app]
      show Shared.mk _ _ _ _ _ = Shared.mk _ _ _ _ _
      congr 1
      show tk 2 s.toks done + zs.length + 2 = tk 2 s.toks done + 1 + zs.length + 1
      omega
theorem wp_sub_longT {pos : Pos} {s : Shared} {ps : List (Sem Value × Sem Value)} {L : List SP} {Q : Addr → Shared → Prop} (c : PairsT env pos ps L) (h15 : 15 < ps.length) (hn : (L.map (·.1)).Nodup) (hl : L.length ≤ 1000) (q : Q s.heap.objs.size (midT w prog s L)) :
    wpAny (model prog w) A (subDict ps) Q E s := by
  unfold subDict
  refine wpAny_bind (wpAny_alloc ?_)
  refine wpAny_bind (wpAny_holding ?_)
  rw [if_neg (by omega)]
  refine wpAny_bind (wpAny_rule ?_)
  have e : (Shared.mk (s.heap.push { cls := .type "dict", data := .dict #[] }) s.gens s.drawn s.toks s.os) = midT w prog s [] := by
    have z : s.heap.push { cls := .type "dict", data := .dict #[] } = ext s.heap [dO []] := by
      have z := ext_push s.heap [] { cls := .type "dict", data := .dict #[] }
      rw [ext_nil] at z
      exact z
    show Shared.mk _ _ _ _ _ = Shared.mk (ext s.heap [dO []]) _ _ _ _
    rw [z]
    rfl
  rw [e]
  exact wpAny_bind (wp_longT (E := E) L [] ps _ c hn hl (wpAny_pure (wpAny_pure q)))
/-- keys and values of a short run -/
def kvT (l : List E3) : List (Value × Value) := l.map fun x => (.str x.1 x.2.1, x.2.2)
theorem wp_pairsT {pos : Pos} {h : Heap} {l : List Obj} {g dr os} : ∀ {ps : List (Sem Value × Sem Value)} {L : List SP} (done : List SP) (t : Nat) {Q : List (Value × Value) → Shared → Prop}, PairsT env pos ps L →
    Q (kvT (te 1 (h.objs.size + l.length + done.length) (tk 1 t done) L)) ⟨ext h (l ++ ta 1 t (done ++ L)), g, dr, tk 1 t (done ++ L), os⟩ → wpAny (model prog w) A (evalPairs ps) Q E ⟨ext h (l ++ ta 1 t done), g, dr, tk 1 t done, os⟩
  | _, _, done, t, Q, .nil, q => by
    unfold evalPairs
    rw [List.append_nil] at q
    exact wpAny_pure q
  | _, _, done, t, Q, .cons (ve := ve) (x := x) (kk := kk) (vk := vk) (kp := kp) (vp := vp) (zs := zs) (ps := ps) (r := r) c2 c3 c4, q => by
    unfold evalPairs
    refine wpAny_bind (wpAny_Constant_str (wpAny_bind (wpAny_holding (wpAny_bind (wp_tuple (k := vk) (pos := vp) c2 c3 (wpAny_bind (wpAny_standAt (wpAny_pure ?_))))))))
    refine wpAny_bind (wpAny_holding ?_)
    have ed : done ++ (x, zs) :: r = (done ++ [(x, zs)]) ++ r := by simp
    have e1 : (ext h (l ++ ta 1 t done)).objs.size = h.objs.size + l.length + done.length := by
      rw [ext_size, List.length_append, ta_len]
      omega
    have eS : (⟨(ext h (l ++ ta 1 t done)).push (tO (tk 1 t done + 1) zs), g, dr, tk 1 t done + 1 + zs.length, os⟩ : Shared) = ⟨ext h (l ++ ta 1 t (done ++ [(x, zs)])), g, dr, tk 1 t (done ++ [(x, zs)]), os⟩ := by
      rw [ext_push, ta_app, tk_app, List.append_assoc]
      show Shared.mk _ _ _ _ _ = Shared.mk _ _ _ _ _
      congr 1
      show tk 1 t done + 1 + zs.length = tk 1 t done + zs.length + 1
      omega
    show wpAny _ _ _ _ _ (⟨(ext h (l ++ ta 1 t done)).push (tO (tk 1 t done + 1) zs), g, dr, tk 1 t done + 1 + zs.length, os⟩ : Shared)
    rw [eS]
    refine wp_pairsT (done ++ [(x, zs)]) t c4 (wpAny_pure ?_)
    rw [ed] at q
    show Q ((Value.str x (tk 1 t done), Value.ref (ext h (l ++ ta 1 t done)).objs.size) :: _) _
    rw [e1, tk_app, show h.objs.size + l.length + (done ++ [(x, zs)]).length = h.objs.size + l.length + done.length + 1 by rw [List.length_append]; rfl]
    exact q
theorem wp_storeT {h : Heap} {g dr os} {vals : List Obj} : ∀ (rest done : List E3) (k : Nat) (Q : PUnit → Shared → Prop), ((done ++ rest).map (·.1)).Nodup → (done ++ rest).length ≤ 1000 → Q PUnit.unit ⟨ext h (dE w prog (done ++ rest) :: vals), g, dr, k + rest.length, os⟩ →
    wpAny (model prog w) A (forIn (kvT rest) PUnit.unit fun (x : Value × Value) (_ : PUnit) => (do dictSet h.objs.size x.1 x.2; pure (ForInStep.yield PUnit.unit) : Sem (ForInStep PUnit))) Q E ⟨ext h (dE w prog done :: vals), g, dr, k, os⟩
  | [], done, k, Q, _, _, q => by
    rw [List.append_nil] at q
    show wpAny _ _ (forIn [] PUnit.unit _) _ _ _
    rw [List.forIn_nil]
    exact wpAny_pure q
  | p :: r, done, k, Q, hn, hl, q => by
    have ed : done ++ p :: r = (done ++ [p]) ++ r := by simp
    rw [ed] at hn hl q
    show wpAny _ _ (forIn ((Value.str p.1 p.2.1, p.2.2) :: kvT r) PUnit.unit _) _ _ _
    rw [List.forIn_cons]
    dsimp only
    have hn' : p.1 ∉ done.map (·.1) := fun z => by
      rw [List.map_append, List.map_append] at hn
      exact (List.nodup_append.mp (List.nodup_append.mp hn).1).2.2 _ z _ (List.mem_singleton.mpr rfl) rfl
    have hl' : done.length ≤ 1000 := by
      rw [List.length_append, List.length_append] at hl
      omega
    refine wpAny_bind (wpAny_bind (wp_setE (h := h) rfl hn' hl' (wpAny_pure ?_)))
    dsimp only
    exact wp_storeT r (done ++ [p]) (k + 1) Q hn hl (by
      rw [show k + 1 + r.length = k + (p :: r).length by rw [List.length_cons]; omega]
      exact q)
/-- a short run: the dict, then its values -/
def midU (w : World) (prog : Program) (s : Shared) (L : List SP) : Shared := { s with heap := ext s.heap (dE w prog (te 1 (s.heap.objs.size + 1) s.toks L) :: ta 1 s.toks L), toks := tk 1 s.toks L + L.length }
theorem wp_sub_shortT {pos : Pos} {s : Shared} {ps : List (Sem Value × Sem Value)} {L : List SP} {Q : Addr → Shared → Prop} (c : PairsT env pos ps L) (h15 : ps.length ≤ 15) (hn : (L.map (·.1)).Nodup) (q : Q s.heap.objs.size (midU w prog s L)) :
    wpAny (model prog w) A (subDict ps) Q E s := by
  have ll := pairsT_len c
  obtain ⟨hp, g, dr, t, os⟩ := s
  unfold subDict
  refine wpAny_bind (wpAny_alloc ?_)
  refine wpAny_bind (wpAny_holding ?_)
  rw [if_pos h15]
  have e : (⟨hp.push { cls := .type "dict", data := .dict #[] }, g, dr, t, os⟩ : Shared) = ⟨ext hp ([dE w prog []] ++ ta 1 t []), g, dr, tk 1 t [], os⟩ := by
    have z : hp.push { cls := .type "dict", data := .dict #[] } = ext hp [dO []] := by
      have z := ext_push hp [] { cls := .type "dict", data := .dict #[] }
      rw [ext_nil] at z
      exact z
    show Shared.mk _ _ _ _ _ = Shared.mk (ext hp [dO []]) _ _ _ _
    rw [z]
    rfl
  show wpAny _ _ _ _ _ (⟨hp.push { cls := .type "dict", data := .dict #[] }, g, dr, t, os⟩ : Shared)
  rw [e]
  refine wpAny_bind (wp_pairsT [] t c ?_)
  refine wpAny_holding ?_
  have q' : Q hp.objs.size ⟨ext hp (dE w prog (te 1 (hp.objs.size + 1) t L) :: ta 1 t L), g, dr, tk 1 t L + L.length, os⟩ := q
  refine wpAny_bind (wp_storeT (h := hp) (vals := ta 1 t L) (te 1 (hp.objs.size + 1) t L) [] (tk 1 t L) _ (by rw [List.nil_append, te_keys]; exact hn) (by rw [List.nil_append, te_len]; omega) (wpAny_pure (wpAny_pure ?_)))
  rw [List.nil_append, te_len]
  exact q'
/-- behind the whole display -/
def objsT (w : World) (prog : Program) (m t : Nat) (L M : List SP) : List Obj :=
  dE w prog (te 2 (m + 1) t L ++ te 1 (m + 1 + L.length + 1) (tk 2 t L) M) :: (ta 2 t L ++ dE w prog (te 1 (m + 1 + L.length + 1) (tk 2 t L) M) :: ta 1 (tk 2 t L) M)
def finT (w : World) (prog : Program) (s : Shared) (L M : List SP) : Shared := { s with heap := ext s.heap (objsT w prog s.heap.objs.size s.toks L M), toks := tk 1 (tk 2 s.toks L) M + M.length }
theorem wp_loopT {h : Heap} {g dr tks os} {vals tail : List Obj} {all : List E3} {a : Addr} (ha : a = h.objs.size + (vals.length + 1)) : ∀ (n : Nat) (done : List E3) (e2 : List E3) (pre : Nat) (Q : PUnit → Shared → Prop), n = e2.length → pre + n = all.length → all.drop pre = e2 → ((done ++ e2).map (·.1)).Nodup → (done ++ e2).length ≤ 1000 →
    Q PUnit.unit ⟨ext h (dE w prog (done ++ e2) :: (vals ++ dE w prog all :: tail)), g, dr, tks, os⟩ →
    wpAny (model prog w) A (forIn ((List.range all.length).drop pre) PUnit.unit fun (i : Nat) (_ : PUnit) => (do
      let __do_lift ← dictEntries a
      match __do_lift[i]? with
        | some e => do
          holding [e.key, e.val] (do
            dictPut h.objs.size e.hash e.key e.val)
          let __do_lift ← dictEpoch a
          if (__do_lift != all.length) = true then do
              let _ ← (unsupported "dict.changed-during-merge" : Sem PUnit)
              pure (ForInStep.yield PUnit.unit)
            else pure (ForInStep.yield PUnit.unit)
        | x => unsupported "dict.changed-during-merge" : Sem (ForInStep PUnit))) Q E ⟨ext h (dE w prog done :: (vals ++ dE w prog all :: tail)), g, dr, tks, os⟩
  | 0, done, [], pre, Q, _, hp, _, _, _, q => by
    rw [List.drop_eq_nil_of_le (by rw [List.length_range]; omega), List.forIn_nil]
    rw [List.append_nil] at q
    exact wpAny_pure q
  | n + 1, done, [], pre, Q, h0, _, _, _, _, _ => nomatch h0
  | 0, done, _ :: _, pre, Q, h0, _, _, _, _, _ => nomatch h0
  | n + 1, done, p :: r, pre, Q, h0, hp, hd, hn, hl, q => by
    have ed : done ++ p :: r = (done ++ [p]) ++ r := by simp
    rw [ed] at hn hl q
    have lt : pre < all.length := by omega
    have ep : all[pre]? = some p := by
      have : (all.drop pre)[0]? = some p := by rw [hd]; rfl
      rw [List.getElem?_drop] at this
      exact this
    have hr : (List.range all.length).drop pre = pre :: (List.range all.length).drop (pre + 1) := by
      rw [List.drop_eq_getElem_cons (by rw [List.length_range]; exact lt), List.getElem_range]
    have hn' : p.1 ∉ done.map (·.1) := fun z => by
      rw [List.map_append, List.map_append] at hn
      exact (List.nodup_append.mp (List.nodup_append.mp hn).1).2.2 _ z _ (List.mem_singleton.mpr rfl) rfl
    have hl' : done.length ≤ 1000 := by
      rw [List.length_append, List.length_append] at hl
      omega
    have g1 : ∀ x : Obj, (ext h (x :: (vals ++ dE w prog all :: tail))).get? a = some (dE w prog all) := fun x => by
      rw [ha]
      refine ext_get (h := h) (i := vals.length + 1) ?_ (nf_dE all)
      rw [List.getElem?_cons_succ, List.getElem?_append_right (Nat.le_refl _), Nat.sub_self]
      rfl
    have g0 : (ext h (dE w prog done :: (vals ++ dE w prog all :: tail))).get? h.objs.size = some (dE w prog done) := ext_get (h := h) (i := 0) rfl (nf_dE done)
    rw [hr, List.forIn_cons]
    refine wpAny_bind (wpAny_bind (wpAny_dictEntries (g1 _) rfl ?_))
    have ei : ((all.map (ent w prog)).toArray)[pre]? = some (ent w prog p) := by
      rw [List.getElem?_toArray, List.getElem?_map, ep]
      rfl
    rw [ei]
    dsimp only
    refine wpAny_bind (wpAny_holding ?_)
    unfold dictPut
    refine wpAny_bind (wp_findE g0 hn' ?_)
    refine wpAny_updateDictKeys g0 rfl ?_ (by
      rw [List.size_toArray, List.length_map]
      exact Nat.le_trans hl' (by decide))
    rw [ext_upd]
    show wpAny _ _ _ _ _ (⟨ext h (Obj.mapDictKeys (fun es => es.push (ent w prog p)) (dE w prog done) :: (vals ++ dE w prog all :: tail)), g, dr, tks, os⟩ : Shared)
    rw [dE_push]
    refine wpAny_bind (wpAny_dictEpoch (g1 _) rfl ?_)
    rw [if_neg (by
      show ¬ (((all.map (ent w prog)).length != all.length) = true)
      rw [List.length_map, bne_self_eq_false]
      exact Bool.false_ne_true)]
    refine wpAny_pure ?_
    exact wp_loopT ha n (done ++ [p]) r (pre + 1) Q (by simpa using h0) (by omega) (by rw [← List.drop_drop, hd]; rfl) hn hl q
end
end Fw

set_option Elab.async false
set_option linter.all false
set_option maxRecDepth 100000
set_option maxHeartbeats 2000000
namespace Fw
open PySem PySem.W PySem.Calls PyProof.Rows
section
variable {prog : Program} {w : World} {A : Around} {E : Value → Shared → Prop} {env : Env}
theorem wp_mergeT {s : Shared} {L M : List SP} {Q : Unit → Shared → Prop} (hn : ((L ++ M).map (·.1)).Nodup) (hl : (L ++ M).length ≤ 1000) (h0 : L ≠ []) (hm : sysModules < s.heap.objs.size) (q : Q () (finT w prog s L M)) :
    wpAny (model prog w) A (mergeMapping s.heap.objs.size (.ref (s.heap.objs.size + 1 + L.length)) false) Q E (midU w prog (midT w prog s L) M) := by
  obtain ⟨hp, g, dr, t, os⟩ := s
  have ea : (ext hp (dE w prog (te 2 (hp.objs.size + 1) t L) :: ta 2 t L)).objs.size = hp.objs.size + 1 + L.length := by
    rw [ext_size, List.length_cons, ta_len]
    omega
  generalize h1 : te 2 (hp.objs.size + 1) t L = e1 at *
  have k1 : e1.map (·.1) = L.map (·.1) := by rw [← h1, te_keys]
  have l1 : e1.length = L.length := by rw [← h1, te_len]
  generalize h2 : te 1 (hp.objs.size + 1 + L.length + 1) (tk 2 t L) M = e2 at *
  have k2 : e2.map (·.1) = M.map (·.1) := by rw [← h2, te_keys]
  have l2 : e2.length = M.length := by rw [← h2, te_len]
  have eS : midU w prog (midT w prog ⟨hp, g, dr, t, os⟩ L) M = ⟨ext hp (dE w prog e1 :: (ta 2 t L ++ dE w prog e2 :: ta 1 (tk 2 t L) M)), g, dr, tk 1 (tk 2 t L) M + M.length, os⟩ := by
    unfold midU midT
    dsimp only
    rw [h1, ea, ext_ext, h2]
    rfl
  have eF : finT w prog ⟨hp, g, dr, t, os⟩ L M = ⟨ext hp (dE w prog (e1 ++ e2) :: (ta 2 t L ++ dE w prog e2 :: ta 1 (tk 2 t L) M)), g, dr, tk 1 (tk 2 t L) M + M.length, os⟩ := by
    unfold finT objsT
    dsimp only
    rw [h1, h2]
  rw [eS]
  rw [eF] at q
  generalize tk 1 (tk 2 t L) M + M.length = tks at *
  have ha : hp.objs.size + 1 + L.length = hp.objs.size + ((ta 2 t L).length + 1) := by rw [ta_len]; omega
  have lv : (ta 2 t L).length = L.length := ta_len 2 L t
  generalize ta 2 t L = vals at *
  generalize ta 1 (tk 2 t L) M = tail at *
  have gd : (ext hp (dE w prog e1 :: (vals ++ dE w prog e2 :: tail))).get? hp.objs.size = some (dE w prog e1) := ext_get (h := hp) (i := 0) rfl (nf_dE e1)
  have gs : (ext hp (dE w prog e1 :: (vals ++ dE w prog e2 :: tail))).get? (hp.objs.size + 1 + L.length) = some (dE w prog e2) := by
    rw [ha]
    refine ext_get (h := hp) (i := vals.length + 1) ?_ (nf_dE e2)
    rw [List.getElem?_cons_succ, List.getElem?_append_right (Nat.le_refl _), Nat.sub_self]
    rfl
  have hT : (Shared.mk (ext hp (dE w prog e1 :: (vals ++ dE w prog e2 :: tail))) g dr tks os).TypeIs (.ref (hp.objs.size + 1 + L.length)) "dict" := ⟨_, gs, rfl⟩
  unfold mergeMapping
  refine wpAny_bind (wpAny_isInstance hT isSubtype_dict_dict ?_)
  rw [if_pos rfl]
  refine wpAny_bind (wpAny_specialOf hT F.slot_dict_iter.lookup ?_)
  rw [show ((some (Value.builtin "dict.__iter__") : Option Value) == some (Value.builtin "dict.__iter__")) = true from beq_self_eq_true _]
  refine wpAny_bind (wpAny_pure ?_)
  dsimp only
  rw [if_neg (by
    rw [beq_iff_eq]
    intro z
    have y : sysModules < hp.objs.size := hm
    rw [← z] at y
    exact absurd y (Nat.not_lt.mpr (by omega)))]
  refine wpAny_bind (wpAny_dictEntries gd rfl ?_)
  rw [if_neg (by
    intro z
    have : e1.map (ent w prog) = [] := by simpa using z
    rw [List.map_eq_nil_iff] at this
    rw [this] at l1
    exact h0 (List.eq_nil_of_length_eq_zero l1.symm))]
  refine wpAny_bind (wpAny_dictEntries gs rfl ?_)
  refine wpAny_bind (wpAny_dictEpoch gs rfl ?_)
  have es : ((e2.map (ent w prog)).toArray).size = e2.length := by rw [List.size_toArray, List.length_map]
  have ee : (e2.map (ent w prog)).length = e2.length := List.length_map ..
  show wpAny _ _ (forIn (List.range ((e2.map (ent w prog)).toArray).size) PUnit.unit _ >>= _) _ _ _
  rw [es]
  have hn2 : ((e1 ++ e2).map (·.1)).Nodup := by
    rw [List.map_append, k1, k2, ← List.map_append]
    exact hn
  have hl2 : (e1 ++ e2).length ≤ 1000 := by
    rw [List.length_append, l1, l2, ← List.length_append]
    exact hl
  have lp := wp_loopT (prog := prog) (w := w) (A := A) (E := E) (h := hp) (g := g) (dr := dr) (tks := tks) (os := os) (vals := vals) (tail := tail) (all := e2) ha e2.length e1 e2 0 (fun u s => wpAny (model prog w) A (pure ()) Q E s) rfl (Nat.zero_add _) rfl hn2 hl2 (wpAny_pure q)
  rw [List.drop_zero] at lp
  simp only [ee, Bool.false_eq_true, if_false] at *
  exact wpAny_bind lp
theorem gatherN (f : (Option (Sem Value) × Sem Value) → (Option Addr × List PS) → Sem (ForInStep (Option Addr × List PS))) (d : Option Addr) (hf : ∀ (p : PS) (run : List PS), run.length + 1 < 17 → f (some p.1, p.2) (d, run) = pure (.yield (d, run ++ [p]))) (rest : List PS) :
    ∀ (a run : List PS), run.length + a.length < 17 → forIn ((a ++ rest).map fun p => (some p.1, p.2)) (d, run) f = forIn (rest.map fun p => (some p.1, p.2)) (d, run ++ a) f
  | [], run, _ => by rw [List.append_nil]; rfl
  | p :: a, run, h => by
    rw [List.length_cons] at h
    rw [List.cons_append, List.map_cons, List.forIn_cons, hf p run (by omega), pure_bind]
    dsimp only
    rw [gatherN f d hf rest a (run ++ [p]) (by rw [List.length_append]; show run.length + 1 + a.length < 17; omega), List.append_assoc]
    rfl
theorem wp_displayT {pos : Pos} {s : Shared} {a c : List PS} {b : PS} {L M : List SP} {Q : Value → Shared → Prop} (ha : a.length = 16) (hc0 : c ≠ []) (hc : c.length ≤ 15) (c1 : PairsT env pos (a ++ [b]) L) (c2 : PairsT env pos c M) (hn : ((L ++ M).map (·.1)).Nodup) (hm : sysModules < s.heap.objs.size)
    (q : Q (.ref s.heap.objs.size) (finT w prog s L M)) : wpAny (model prog w) A (dictDisplay ((a ++ b :: c).map fun p => (some p.1, p.2))) Q E s := by
  have hL : L.length = 17 := by
    rw [← pairsT_len c1, List.length_append, ha]
    rfl
  have hM : M.length ≤ 15 := by rw [← pairsT_len c2]; exact hc
  have hn1 : (L.map (·.1)).Nodup := by
    rw [List.map_append] at hn
    exact (List.nodup_append.mp hn).1
  have hn2 : (M.map (·.1)).Nodup := by
    rw [List.map_append] at hn
    exact (List.nodup_append.mp hn).2.1
  unfold dictDisplay
  dsimp only
  rw [gatherN _ none (fun p run h => by
    have hne : ((run ++ [(p.1, p.2)]).length == 17) = false := by simp; omega
    simp only [hne, Bool.false_eq_true, if_false]) (b :: c) a [] (by rw [ha]; decide)]
  rw [List.nil_append, List.map_cons, List.forIn_cons]
  have e17 : ((a ++ [(b.1, b.2)]).length == 17) = true := by rw [List.length_append, ha]; rfl
  have ne : (a ++ [(b.1, b.2)]).isEmpty = false := by cases a <;> rfl
  simp only [e17, if_true, ne, Bool.false_eq_true, if_false]
  refine wpAny_bind (wpAny_bind (wpAny_bind (wpAny_bind (wp_sub_longT (w := w) (prog := prog) c1 (by rw [List.length_append, ha]; show 15 < 17; decide) hn1 (by rw [hL]; decide) ?_))))
  refine wpAny_pure (wpAny_pure ?_)
  dsimp only
  rw [← List.append_nil c, gatherN _ (some s.heap.objs.size) (fun p run h => by
    have hne : ((run ++ [(p.1, p.2)]).length == 17) = false := by simp; omega
    simp only [hne, Bool.false_eq_true, if_false]) [] c [] (by show 0 + c.length < 17; omega)]
  rw [List.nil_append, List.map_nil, List.forIn_nil]
  refine wpAny_pure ?_
  have hce : c.isEmpty = false := by cases c with | nil => exact absurd rfl hc0 | cons _ _ => rfl
  simp only [hce, Bool.false_eq_true, if_false]
  refine wpAny_bind (wpAny_bind (wpAny_holding (wp_sub_shortT (w := w) (prog := prog) c2 hc hn2 ?_)))
  have es : (midT w prog s L).heap.objs.size = s.heap.objs.size + 1 + L.length := by
    show (ext s.heap _).objs.size = _
    rw [ext_size, List.length_cons, ta_len]
    omega
  rw [es]
  refine wpAny_bind (wpAny_onRaise (wpAny_holding (wp_mergeT hn (by rw [List.length_append, hL]; omega) (fun z => by rw [z] at hL; exact nomatch hL) hm ?_)))
  exact wpAny_pure (wpAny_pure q)
end
end Fw

set_option Elab.async false
set_option linter.all false
set_option maxRecDepth 100000
set_option maxHeartbeats 2000000
/-! a top with any number of displays: pieces in the kernel, displays by wp -/
noncomputable section
namespace Fw
open PySem PySem.W PySem.Calls PyProof.Rows HandSHeadRun
structure Base where
  p : Program
  env : Env
  q0 : Pos
  pos0 : Pos
  k0 : Nat
  kB : Nat
def Base.c (D : Base) : Code := .body (behindTheImports D.p) D.env
def Base.B (D : Base) : List Frame := [topFrame D.q0]
def Base.A (D : Base) : Around := { handled := none, depth := frameCount [(.builtin "claim.caller" {}, D.q0)] + D.c.weight, frames := none, guards := none, units := D.c.cUnits + unitsOf [(.builtin "claim.caller" {}, D.q0)] }
theorem base_in {D : Base} : ((⟨D.c, none, none, [], none⟩ : Ctx).over D.B).In D.A :=
  ⟨rfl, Nat.le_refl _, fun l hl => (nomatch (show (none : Option (List Env)) = some l from hl)), fun g hg => (nomatch (show (none : Option (List Code)) = some g from hg)), Nat.le_refl _⟩
def bindF (env : Env) (x : Str) (np : Pos) (v : Value) : Sem Flow := do
  standAt np
  bindName env x v
  pure .next
section
variable {D : Base} {w : World} {n₀ : Nat} {ann : Option Value} {G : SharedT → Prop}
/-- the pieces b come to an end from here -/
def EndsAt (D : Base) (w : World) (n₀ : Nat) (ann : Option Value) (G : SharedT → Prop) (b : List Stmt) (s : SharedT) (p : Pos) : Prop :=
  s.abs.asleep → ∃ S : SharedT, Halts D.p w s.abs ⟨(execs b D.env).wrap doneF (leaveH D.env) id id, D.c, p, D.B⟩ S.abs ∧ S.gens = #[] ∧ Keeps n₀ ann s.abs S.abs ∧ G S
theorem ends_seg {l b : List Stmt} {k : Nat} {s s1 : SharedT} {p p1 : Pos} (h : segF (stepT (denote table) D.p w) n₀ ann k s (piecesOf l D.env D.c p D.B) = some (.next, s1, D.c, p1)) (e : EndsAt D w n₀ ann G b s1 p1) : EndsAt D w n₀ ann G (l ++ b) s p := by
  intro hz
  have sB0 : splitAtGen D.B = none := rfl
  obtain ⟨fC, mC, eC, goC⟩ := seg_goes (res := fun f : Flow => f) (K' := fun f => match f with | .next => (execs b D.env).wrap doneF (leaveH D.env) id id | f => doneF f) (H' := leaveH D.env) (B := D.B) sB0 k (t := piecesOf l D.env D.c p D.B)
    (t' := ⟨(execs l D.env).wrap (fun f => match f with | .next => (execs b D.env).wrap doneF (leaveH D.env) id id | f => doneF f) (leaveH D.env) id id, D.c, p, D.B⟩) ⟨rfl, rfl, .inl ⟨rfl, rfl, _, rfl, rfl⟩⟩ (segF_ok h)
  have eC : fC = .next := eC
  subst eC
  have kC := keeps_go goC
  obtain ⟨S, h1, h2, h3, h4⟩ := e (Shared.asleep_of_life kC.life hz)
  refine ⟨S, ?_, h2, kC.trans h3, h4⟩
  rw [execs_app_wrap]
  exact halts_go goC h1
theorem ends_go {b : List Stmt} {M : Nat} {s s4 : SharedT} {p : Pos} (h : goF (stepT (denote table) D.p w) n₀ ann M s (restOf b D.env D.c p D.B) = some s4) (hg : s4.gens = #[]) (hG : G s4) : EndsAt D w n₀ ann G b s p := by
  intro hz
  have top := goF_ok h
  obtain ⟨_, l4, o4, f4⟩ := topRun_spec _ _ _ _ hz top
  exact ⟨s4, halts_top top hg, hg, ⟨l4, o4, f4⟩, hG⟩
theorem ends_dict {b : List Stmt} {k : Nat} {s s2 : SharedT} {p : Pos} {x : Str} {np : Pos} {keys : List (Option Expr)} {values : List Expr} {dpos apos : Pos}
    (sw : swapsWith (.Dict keys values dpos) (some (.Name x np)) apos.line D.env = pure false)
    (wpD : wpAny (model D.p w) D.A (eval (.Dict keys values dpos) D.env) (fun v s' => v = .ref s.n ∧ s' = s2.abs) (fun _ _ => False) s.abs) (k2 : Keeps n₀ ann s.abs s2.abs)
    (h : ∀ p', ∃ s3 p3, segF (stepT (denote table) D.p w) n₀ ann k s2 ⟨(bindF D.env x np (.ref s.n)).wrap doneF deadEnd id id, D.c, p', D.B⟩ = some (.next, s3, D.c, p3) ∧ EndsAt D w n₀ ann G b s3 p3) :
    EndsAt D w n₀ ann G (.Assign [.Name x np] (.Dict keys values dpos) apos :: b) s p := by
  intro hz
  have sB0 : splitAtGen D.B = none := rfl
  have behind : ∀ p', ∃ S, Halts D.p w s2.abs ⟨(bindF D.env x np (.ref s.n)).wrap (fun f => match f with | .next => (execs b D.env).wrap doneF (leaveH D.env) id id | f => doneF f) (leaveH D.env) id id, D.c, p', D.B⟩ S ∧ S.gens = #[] ∧
      ∃ S4 : SharedT, S = S4.abs ∧ S4.gens = #[] ∧ Keeps n₀ ann s.abs S ∧ G S4 := by
    intro p'
    obtain ⟨s3, p3, h3, e⟩ := h p'
    obtain ⟨fE, mE, eE, goE⟩ := seg_goes (res := fun f : Flow => f) (K' := fun f => match f with | .next => (execs b D.env).wrap doneF (leaveH D.env) id id | f => doneF f) (H' := leaveH D.env) (B := D.B) sB0 k (t := ⟨(bindF D.env x np (.ref s.n)).wrap doneF deadEnd id id, D.c, p', D.B⟩)
      (t' := ⟨(bindF D.env x np (.ref s.n)).wrap (fun f => match f with | .next => (execs b D.env).wrap doneF (leaveH D.env) id id | f => doneF f) (leaveH D.env) id id, D.c, p', D.B⟩) ⟨rfl, rfl, .inl ⟨rfl, rfl, _, rfl, rfl⟩⟩ (segF_ok h3)
    have eE : fE = .next := eE
    subst eE
    have kE := keeps_go goE
    have k3 := k2.trans kE
    obtain ⟨S, h1, h2, h4, h5⟩ := e (Shared.asleep_of_life k3.life hz)
    exact ⟨S.abs, halts_go goE h1, h2, S, rfl, h2, k3.trans h4, h5⟩
  have ex : exec (.Assign [.Name x np] (.Dict keys values dpos) apos) D.env = ((do standAt apos; eval (.Dict keys values dpos) D.env) : Sem Value) >>= bindF D.env x np := by
    rw [exec_Assign_Name _ _ _ _ _ sw]
    rfl
  have wpE : wpAny (model D.p w) D.A ((do standAt apos; eval (.Dict keys values dpos) D.env) : Sem Value) (fun v s' => v = .ref s.n ∧ s' = s2.abs) (fun _ _ => False) s.abs := wpAny_bind (wpAny_standAt wpD)
  obtain ⟨S, hS, hg, S4, rfl, hg4, hk4, hG⟩ := halts_mid' (p := D.p) (w := w) (K := fun v => (bindF D.env x np v).wrap (fun f => match f with | .next => (execs b D.env).wrap doneF (leaveH D.env) id id | f => doneF f) (leaveH D.env) id id) (H := leaveH D.env) (gd := id) (lv := id) (c := D.c) (pos := p) (B := D.B)
    (G := fun S => ∃ S4 : SharedT, S = S4.abs ∧ S4.gens = #[] ∧ Keeps n₀ ann s.abs S ∧ G S4) (wpE _ p base_in) (fun v p' s' q => by
      obtain ⟨rfl, rfl⟩ := q
      exact behind p')
  refine ⟨S4, ?_, hg4, hk4, hG⟩
  rw [execs_cons_wrap, ex, Sem.bind_eq_wrap', Sem.wrap_wrap]
  exact hS
end
/-! ### the stages of a top -/
inductive Stg where
  | seg (l : List Stmt) (k : Nat)
  | big (x : Str) (np : Pos) (keys : List (Option Expr)) (values : List Expr) (dpos apos : Pos) (L : List PK) (pk : PK) (k : Nat)
  | txt (x : Str) (np : Pos) (keys : List (Option Expr)) (values : List Expr) (dpos apos : Pos) (L : List SV) (ok : SharedT → Bool) (k : Nat)
  | two (x : Str) (np : Pos) (keys : List (Option Expr)) (values : List Expr) (dpos apos : Pos) (L M : List SP) (k : Nat)
def Stg.ss : Stg → List Stmt
  | .seg l _ => l
  | .big x np ks vs dp ap .. => [.Assign [.Name x np] (.Dict ks vs dp) ap]
  | .txt x np ks vs dp ap .. => [.Assign [.Name x np] (.Dict ks vs dp) ap]
  | .two x np ks vs dp ap .. => [.Assign [.Name x np] (.Dict ks vs dp) ap]
def layU (w : World) (prog : Program) (L M : List SP) (s : SharedT) : Option SharedT := match putAll (objsT w prog s.n s.toks L M) s.tree s.n with
  | some (t, n) => frNat n fun n => some ⟨t, n, s.life, s.gens, s.drawn, tk 1 (tk 2 s.toks L) M + M.length, s.os⟩
  | none => none
theorem layU_ok {w : World} {prog : Program} {L M : List SP} {s s' : SharedT} (h : layU w prog L M s = some s') : s'.abs = finT w prog s.abs L M := by
  unfold layU at h
  cases e : putAll (objsT w prog s.n s.toks L M) s.tree s.n with
  | none => rw [e] at h; exact nomatch h
  | some r =>
    obtain ⟨t, n⟩ := r
    rw [e] at h
    have h : (frNat n fun n => some (⟨t, n, s.life, s.gens, s.drawn, tk 1 (tk 2 s.toks L) M + M.length, s.os⟩ : SharedT)) = some s' := h
    rw [frNat_eq] at h
    cases h
    have q := putAll_ok (life := s.life) e
    rw [ext_foldl] at q
    have sz : (absHeap s.tree s.n s.life).objs.size = s.n := absHeap_size s.tree s.n s.life
    show Shared.mk (absHeap t n s.life) s.gens s.drawn _ s.os = Shared.mk (ext (absHeap s.tree s.n s.life) (objsT w prog (absHeap s.tree s.n s.life).objs.size s.toks L M)) s.gens s.drawn _ s.os
    rw [q, sz]
    rfl
theorem keeps_finT {w : World} {prog : Program} {n₀ : Nat} {ann : Option Value} (s : Shared) (L M : List SP) : Keeps n₀ ann s (finT w prog s L M) :=
  ⟨rfl, rfl, fun b o _ _ _ _ h => by
    have lt := Heap.lt_size h
    show (ext s.heap _).get? b = some o
    unfold Heap.get? ext at *
    rw [Array.getElem?_append_left lt]
    exact h⟩
def layS (w : World) (prog : Program) (L : List SV) (s : SharedT) : Option SharedT := match putAll [dO (sEs w prog s.toks L)] s.tree s.n with
  | some (t, n) => frNat n fun n => some ⟨t, n, s.life, s.gens, s.drawn, s.toks + 2 * L.length, s.os⟩
  | none => none
theorem layS_ok {w : World} {prog : Program} {L : List SV} {s s' : SharedT} (h : layS w prog L s = some s') : s'.abs = midS w prog s.abs s.abs.toks (s.abs.toks + 2 * L.length) L := by
  unfold layS at h
  cases e : putAll [dO (sEs w prog s.toks L)] s.tree s.n with
  | none => rw [e] at h; exact nomatch h
  | some r =>
    obtain ⟨t, n⟩ := r
    rw [e] at h
    have h : (frNat n fun n => some (⟨t, n, s.life, s.gens, s.drawn, s.toks + 2 * L.length, s.os⟩ : SharedT)) = some s' := h
    rw [frNat_eq] at h
    cases h
    have q := putAll_ok (life := s.life) e
    rw [ext_foldl] at q
    show Shared.mk (absHeap t n s.life) s.gens s.drawn _ s.os = Shared.mk (ext (absHeap s.tree s.n s.life) _) s.gens s.drawn _ s.os
    rw [q]
    rfl
structure Trail where
  s : SharedT
  p : Pos
  cs : List Code
  fl : List Bool
def goStg (st : SharedT → Thread → Option (SharedT × Thread)) (D : Base) (w : World) (n₀ : Nat) (ann : Option Value) : List Stg → List Pos → SharedT → Pos → Option Trail
  | [], _, s, p => some ⟨s, p, [], []⟩
  | .seg l k :: r, ps, s, p => match segF st n₀ ann k s (piecesOf l D.env D.c p D.B) with
    | some (.next, s1, c1, p1) => (match goStg st D w n₀ ann r ps s1 p1 with
      | some t => some ⟨t.s, t.p, c1 :: t.cs, t.fl⟩
      | none => none)
    | _ => none
  | .big x np _ _ _ _ L pk k :: r, ps, s, p => match layT w D.p L pk s with
    | some s2 => (match segF st n₀ ann k s2 ⟨(bindF D.env x np (.ref s.n)).wrap doneF deadEnd id id, D.c, ps.headD p, D.B⟩ with
      | some (.next, s3, c3, p3) => (match goStg st D w n₀ ann r ps.tail s3 p3 with
        | some t => some ⟨t.s, t.p, c3 :: t.cs, Nat.blt sysModules s.n :: t.fl⟩
        | none => none)
      | _ => none)
    | none => none
  | .txt x np _ _ _ _ L ok k :: r, ps, s, p => match layS w D.p L s with
    | some s2 => (match segF st n₀ ann k s2 ⟨(bindF D.env x np (.ref s.n)).wrap doneF deadEnd id id, D.c, ps.headD p, D.B⟩ with
      | some (.next, s3, c3, p3) => (match goStg st D w n₀ ann r ps.tail s3 p3 with
        | some t => some ⟨t.s, t.p, c3 :: t.cs, ok s :: t.fl⟩
        | none => none)
      | _ => none)
    | none => none
  | .two x np _ _ _ _ L M k :: r, ps, s, p => match layU w D.p L M s with
    | some s2 => (match segF st n₀ ann k s2 ⟨(bindF D.env x np (.ref s.n)).wrap doneF deadEnd id id, D.c, ps.headD p, D.B⟩ with
      | some (.next, s3, c3, p3) => (match goStg st D w n₀ ann r ps.tail s3 p3 with
        | some t => some ⟨t.s, t.p, c3 :: t.cs, Nat.blt sysModules s.n :: t.fl⟩
        | none => none)
      | _ => none)
    | none => none
def Stg.Ok (D : Base) (w : World) : Stg → Prop
  | .seg _ _ => True
  | .big x np keys values dpos apos L pk _ => swapsWith (.Dict keys values dpos) (some (.Name x np)) apos.line D.env = pure false ∧ ((L ++ [pk]).map key).Nodup ∧
      ∃ (a : List PS) (b c : PS), a.length = 16 ∧ (evalEachOpt keys D.env).zip ((evalEach values D.env).map fun v => do let x ← v; standAt dpos; pure x) = (a ++ [b, c]).map (fun p => (some p.1, p.2)) ∧ PairsAre D.env dpos (a ++ [b]) L ∧ PairsAre D.env dpos [c] [pk]
  | .txt x np keys values dpos apos L ok _ => swapsWith (.Dict keys values dpos) (some (.Name x np)) apos.line D.env = pure false ∧ (L.map (·.1)).Nodup ∧
      ∀ s : SharedT, ok s = true → ∃ ps : List PS, (evalEachOpt keys D.env).zip ((evalEach values D.env).map fun v => do let x ← v; standAt dpos; pure x) = ps.map (fun p => (some p.1, p.2)) ∧ PairsS D.p w D.A (fun _ _ => False) D.env s.abs ps L ∧ ps ≠ [] ∧ ps.length ≤ 15
  | .two x np keys values dpos apos L M _ => swapsWith (.Dict keys values dpos) (some (.Name x np)) apos.line D.env = pure false ∧ ((L ++ M).map (·.1)).Nodup ∧
      ∃ (a c : List PS) (b : PS), a.length = 16 ∧ c ≠ [] ∧ c.length ≤ 15 ∧ (evalEachOpt keys D.env).zip ((evalEach values D.env).map fun v => do let x ← v; standAt dpos; pure x) = (a ++ b :: c).map (fun p => (some p.1, p.2)) ∧ PairsT D.env dpos (a ++ [b]) L ∧ PairsT D.env dpos c M
def Stg.disp : Stg → Nat
  | .seg _ _ => 0
  | _ => 1
theorem keeps_midS {w : World} {prog : Program} {n₀ : Nat} {ann : Option Value} (s : Shared) (t k : Nat) (L : List SV) : Keeps n₀ ann s (midS w prog s t k L) :=
  ⟨rfl, rfl, fun b o _ _ _ _ h => by
    have lt := Heap.lt_size h
    show (ext s.heap _).get? b = some o
    unfold Heap.get? ext at *
    rw [Array.getElem?_append_left lt]
    exact h⟩
theorem stg_ends {D : Base} {w : World} {n₀ : Nat} {ann : Option Value} {G : SharedT → Prop} {b : List Stmt} (un : D.A.units < cLine) : ∀ (L : List Stg) (s : SharedT) (p : Pos), (∀ x ∈ L, x.Ok D w) →
    (∀ ps : List Pos, ps.length = (L.map Stg.disp).sum → ∃ t, goStg (stepT (denote table) D.p w) D w n₀ ann L ps s p = some t ∧ (∀ c ∈ t.cs, c = D.c) ∧ (∀ f ∈ t.fl, f = true) ∧ EndsAt D w n₀ ann G b t.s t.p) →
    EndsAt D w n₀ ann G (L.flatMap Stg.ss ++ b) s p
  | [], s, p, _, run => by
    obtain ⟨t, h, _, _, e⟩ := run [] rfl
    cases h
    exact e
  | .seg l k :: r, s, p, ok, run => by
    show EndsAt D w n₀ ann G ((l ++ r.flatMap Stg.ss) ++ b) s p
    rw [List.append_assoc]
    obtain ⟨t0, h0, c0, _, _⟩ := run (List.replicate ((Stg.seg l k :: r).map Stg.disp).sum default) (List.length_replicate ..)
    cases hs : segF (stepT (denote table) D.p w) n₀ ann k s (piecesOf l D.env D.c p D.B) with
    | none => simp [goStg, hs] at h0
    | some v =>
      obtain ⟨f, s1, c1, p1⟩ := v
      cases f with
      | next =>
        have ec : c1 = D.c := by
          simp only [goStg, hs] at h0
          split at h0
          · cases h0
            exact c0 c1 (List.mem_cons_self ..)
          · cases h0
        subst ec
        refine ends_seg hs (stg_ends un r s1 p1 (fun x hx => ok x (List.mem_cons_of_mem _ hx)) fun ps hp => ?_)
        obtain ⟨t, h, c, f, e⟩ := run ps (by rw [hp, List.map_cons, List.sum_cons]; exact (Nat.zero_add _).symm)
        simp only [goStg, hs] at h
        split at h
        · rename_i t' ht'
          cases h
          exact ⟨t', ht', fun x hx => c x (List.mem_cons_of_mem _ hx), f, e⟩
        · cases h
      | _ => simp [goStg, hs] at h0
  | .big x np keys values dpos apos L pk k :: r, s, p, ok, run => by
    obtain ⟨sw, nd, a, bb, cc, al, hsh, p1, p2⟩ := ok _ (List.mem_cons_self ..)
    show EndsAt D w n₀ ann G (.Assign [.Name x np] (.Dict keys values dpos) apos :: (r.flatMap Stg.ss ++ b)) s p
    obtain ⟨t0, h0, _, f0, _⟩ := run (List.replicate ((Stg.big x np keys values dpos apos L pk k :: r).map Stg.disp).sum default) (List.length_replicate ..)
    cases hs : layT w D.p L pk s with
    | none => simp [goStg, hs] at h0
    | some s2 =>
      have sz : s.abs.heap.objs.size = s.n := absHeap_size s.tree s.n s.life
      have blt : Nat.blt sysModules s.n = true := by
        simp only [goStg, hs] at h0
        split at h0
        · split at h0
          · cases h0
            exact f0 _ (List.mem_cons_self ..)
          · cases h0
        · cases h0
      refine ends_dict (k := k) sw ?_ (by rw [layT_ok hs]; exact keeps_fin _ _ _) fun p' => ?_
      · rw [arm_eval_Dict, hsh]
        refine wpAny_bind (wpAny_standAt (wp_display un al p1 p2 nd (by rw [sz]; exact Nat.le_of_ble_eq_true blt) ?_))
        rw [sz, layT_ok hs]
        exact ⟨rfl, rfl⟩
      · obtain ⟨t1, h1, c1, _, _⟩ := run (p' :: List.replicate (r.map Stg.disp).sum default) (by rw [List.length_cons, List.length_replicate, List.map_cons, List.sum_cons]; exact Nat.add_comm _ _)
        simp only [goStg, hs, List.headD_cons, List.tail_cons] at h1
        split at h1
        · rename_i s3 c3 p3 h3
          have ec : c3 = D.c := by
            split at h1
            · cases h1
              exact c1 c3 (List.mem_cons_self ..)
            · cases h1
          subst ec
          refine ⟨s3, p3, h3, stg_ends un r s3 p3 (fun x hx => ok x (List.mem_cons_of_mem _ hx)) fun ps hp => ?_⟩
          obtain ⟨t, h, c, f, e⟩ := run (p' :: ps) (by rw [List.length_cons, hp, List.map_cons, List.sum_cons]; exact Nat.add_comm _ _)
          simp only [goStg, hs, List.headD_cons, List.tail_cons, h3] at h
          split at h
          · rename_i t' ht'
            cases h
            exact ⟨t', ht', fun x hx => c x (List.mem_cons_of_mem _ hx), fun x hx => f x (List.mem_cons_of_mem _ hx), e⟩
          · cases h
        · cases h1
  | .txt x np keys values dpos apos L okB k :: r, s, p, ok, run => by
    obtain ⟨sw, nd, hps⟩ := ok _ (List.mem_cons_self ..)
    show EndsAt D w n₀ ann G (.Assign [.Name x np] (.Dict keys values dpos) apos :: (r.flatMap Stg.ss ++ b)) s p
    obtain ⟨t0, h0, _, f0, _⟩ := run (List.replicate ((Stg.txt x np keys values dpos apos L okB k :: r).map Stg.disp).sum default) (List.length_replicate ..)
    cases hs : layS w D.p L s with
    | none => simp [goStg, hs] at h0
    | some s2 =>
      have sz : s.abs.heap.objs.size = s.n := absHeap_size s.tree s.n s.life
      have okS : okB s = true := by
        simp only [goStg, hs] at h0
        split at h0
        · split at h0
          · cases h0
            exact f0 _ (List.mem_cons_self ..)
          · cases h0
        · cases h0
      obtain ⟨pss, hsh, hP, h0', h15⟩ := hps s okS
      refine ends_dict (k := k) sw ?_ (by rw [layS_ok hs]; exact keeps_midS _ _ _ _) fun p' => ?_
      · refine wp_displayS hsh hP h0' h15 nd ?_
        rw [sz, layS_ok hs]
        exact ⟨rfl, rfl⟩
      · obtain ⟨t1, h1, c1, _, _⟩ := run (p' :: List.replicate (r.map Stg.disp).sum default) (by rw [List.length_cons, List.length_replicate, List.map_cons, List.sum_cons]; exact Nat.add_comm _ _)
        simp only [goStg, hs, List.headD_cons, List.tail_cons] at h1
        split at h1
        · rename_i s3 c3 p3 h3
          have ec : c3 = D.c := by
            split at h1
            · cases h1
              exact c1 c3 (List.mem_cons_self ..)
            · cases h1
          subst ec
          refine ⟨s3, p3, h3, stg_ends un r s3 p3 (fun x hx => ok x (List.mem_cons_of_mem _ hx)) fun ps hp => ?_⟩
          obtain ⟨t, h, c, f, e⟩ := run (p' :: ps) (by rw [List.length_cons, hp, List.map_cons, List.sum_cons]; exact Nat.add_comm _ _)
          simp only [goStg, hs, List.headD_cons, List.tail_cons, h3] at h
          split at h
          · rename_i t' ht'
            cases h
            exact ⟨t', ht', fun x hx => c x (List.mem_cons_of_mem _ hx), fun x hx => f x (List.mem_cons_of_mem _ hx), e⟩
          · cases h
        · cases h1
  | .two x np keys values dpos apos L M k :: r, s, p, ok, run => by
    obtain ⟨sw, nd, a, cc, bb, al, hc0, hc, hsh, p1, p2⟩ := ok _ (List.mem_cons_self ..)
    show EndsAt D w n₀ ann G (.Assign [.Name x np] (.Dict keys values dpos) apos :: (r.flatMap Stg.ss ++ b)) s p
    obtain ⟨t0, h0, _, f0, _⟩ := run (List.replicate ((Stg.two x np keys values dpos apos L M k :: r).map Stg.disp).sum default) (List.length_replicate ..)
    cases hs : layU w D.p L M s with
    | none => simp [goStg, hs] at h0
    | some s2 =>
      have sz : s.abs.heap.objs.size = s.n := absHeap_size s.tree s.n s.life
      have blt : Nat.blt sysModules s.n = true := by
        simp only [goStg, hs] at h0
        split at h0
        · split at h0
          · cases h0
            exact f0 _ (List.mem_cons_self ..)
          · cases h0
        · cases h0
      refine ends_dict (k := k) sw ?_ (by rw [layU_ok hs]; exact keeps_finT _ _ _) fun p' => ?_
      · rw [arm_eval_Dict, hsh]
        refine wpAny_bind (wpAny_standAt (wp_displayT al hc0 hc p1 p2 nd (by rw [sz]; exact Nat.le_of_ble_eq_true blt) ?_))
        rw [sz, layU_ok hs]
        exact ⟨rfl, rfl⟩
      · obtain ⟨t1, h1, c1, _, _⟩ := run (p' :: List.replicate (r.map Stg.disp).sum default) (by rw [List.length_cons, List.length_replicate, List.map_cons, List.sum_cons]; exact Nat.add_comm _ _)
        simp only [goStg, hs, List.headD_cons, List.tail_cons] at h1
        split at h1
        · rename_i s3 c3 p3 h3
          have ec : c3 = D.c := by
            split at h1
            · cases h1
              exact c1 c3 (List.mem_cons_self ..)
            · cases h1
          subst ec
          refine ⟨s3, p3, h3, stg_ends un r s3 p3 (fun x hx => ok x (List.mem_cons_of_mem _ hx)) fun ps hp => ?_⟩
          obtain ⟨t, h, c, f, e⟩ := run (p' :: ps) (by rw [List.length_cons, hp, List.map_cons, List.sum_cons]; exact Nat.add_comm _ _)
          simp only [goStg, hs, List.headD_cons, List.tail_cons, h3] at h
          split at h
          · rename_i t' ht'
            cases h
            exact ⟨t', ht', fun x hx => c x (List.mem_cons_of_mem _ hx), fun x hx => f x (List.mem_cons_of_mem _ hx), e⟩
          · cases h
        · cases h1
end Fw

end
set_option Elab.async false
set_option linter.all false
set_option maxRecDepth 100000
set_option maxHeartbeats 2000000
/-! the head of a row whose top has displays: as HeadX, for the stages of TopMany -/
noncomputable section
namespace Fw
open PySem PySem.W PySem.Calls PyProof.Rows HandSHeadRun
structure Many extends Base where
  L : List Stg
  rest : List Stmt
  M : Nat
structure ManyR where
  tA : Thread
  cB : Code
  cs : List Code
  fl : List Bool
  s4 : SharedT
def manyF (st : SharedT → Thread → Option (SharedT × Thread)) (D : Many) (w : World) (os : OsState) (ps : List Pos) : Option ManyR := match putAll (boot_heap w.params).objs.toList .nil 0 with
  | none => none
  | some (t, n) => frNat n fun n0 => match goS st n0 (bootAnn w) D.k0 (bootT w os (t, n0)) (topStub D.p) with
    | none => none
    | some (sA, tA) => match segF st n0 (bootAnn w) D.kB sA (blockOf (behindTheImports D.p) D.env D.toBase.c D.pos0 D.toBase.B) with
      | some (.next, sB, cB, pB) => (match goStg st D.toBase w n0 (bootAnn w) D.L ps sB pB with
        | some t => (match goF st n0 (bootAnn w) D.M t.s (restOf D.rest D.env D.toBase.c t.p D.toBase.B) with
          | some s4 => some ⟨tA, cB, t.cs, t.fl, s4⟩
          | none => none)
        | none => none)
      | _ => none
def Many.d (D : Many) : Nat := (D.L.map Stg.disp).sum
structure Many.Ok (D : Many) : Prop where
  body : behindTheImports D.p = D.L.flatMap Stg.ss ++ D.rest
  st : ∀ w, ∀ x ∈ D.L, x.Ok D.toBase w
  un : D.toBase.A.units < cLine
theorem many_ends {D : Many} {w : World} {os : OsState} {G : SharedT → Prop} (O : D.Ok)
    (run : ∀ ps : List Pos, ps.length = D.d → ∃ r, manyF (stepT (denote table) D.p w) D w os ps = some r ∧ r.tA = ⟨denote table D.toBase.c, D.toBase.c, D.pos0, D.toBase.B⟩ ∧ r.cB = D.toBase.c ∧ (∀ c ∈ r.cs, c = D.toBase.c) ∧ (∀ f ∈ r.fl, f = true) ∧ r.s4.gens = #[] ∧ G r.s4)
    (hz : (⟨boot_heap w.params, #[], boot_drawn, boot_toks, os⟩ : Shared).asleep) :
    ∃ S : SharedT, Halts D.p w ⟨boot_heap w.params, #[], boot_drawn, boot_toks, os⟩ (topStub D.p) S.abs ∧ S.gens = #[] ∧ Keeps (boot_heap w.params).objs.size (bootAnn w) ⟨boot_heap w.params, #[], boot_drawn, boot_toks, os⟩ S.abs ∧ G S := by
  have parts : ∀ ps : List Pos, ps.length = D.d → ∃ (sA sB : SharedT) (pB : Pos) (t : PySem.W.BT) (n : Nat) (tr : Trail) (s4 : SharedT), putAll (boot_heap w.params).objs.toList .nil 0 = some (t, n) ∧ goS (stepT (denote table) D.p w) n (bootAnn w) D.k0 (bootT w os (t, n)) (topStub D.p) = some (sA, ⟨denote table D.toBase.c, D.toBase.c, D.pos0, D.toBase.B⟩) ∧
      segF (stepT (denote table) D.p w) n (bootAnn w) D.kB sA (blockOf (behindTheImports D.p) D.env D.toBase.c D.pos0 D.toBase.B) = some (.next, sB, D.toBase.c, pB) ∧ goStg (stepT (denote table) D.p w) D.toBase w n (bootAnn w) D.L ps sB pB = some tr ∧ (∀ c ∈ tr.cs, c = D.toBase.c) ∧ (∀ f ∈ tr.fl, f = true) ∧
      goF (stepT (denote table) D.p w) n (bootAnn w) D.M tr.s (restOf D.rest D.env D.toBase.c tr.p D.toBase.B) = some s4 ∧ s4.gens = #[] ∧ G s4 := by
    intro ps hp
    obtain ⟨r, hr, e1, e2, e3, e4, hg, hG⟩ := run ps hp
    unfold manyF at hr
    split at hr
    · exact nomatch hr
    rename_i t n ht
    rw [frNat_eq] at hr
    split at hr
    · exact nomatch hr
    rename_i sA tA hA
    split at hr
    · rename_i sB cB pB hB
      split at hr
      · rename_i tr h1
        split at hr
        · rename_i s4 h4
          cases hr
          dsimp only at e1 e2 e3 e4 hg hG
          subst e1 e2
          exact ⟨sA, sB, pB, t, n, tr, s4, ht, hA, hB, h1, e3, e4, h4, hg, hG⟩
        · exact nomatch hr
      · exact nomatch hr
    · exact nomatch hr
  obtain ⟨sA, sB, pB, t, n, _, _, ht, hA, hB, _⟩ := parts (List.replicate D.d default) (List.length_replicate ..)
  have eh := putAll_heap ht
  have en : (boot_heap w.params).objs.size = n := by
    rw [← eh]
    exact absHeap_size t n _
  have eb : (bootT w os (t, n)).abs = ⟨boot_heap w.params, #[], boot_drawn, boot_toks, os⟩ := by
    show (⟨absHeap t n (boot_heap w.params).life, #[], boot_drawn, boot_toks, os⟩ : Shared) = _
    rw [eh]
  have goA := goS_ok hA
  rw [eb] at goA
  have kA := keeps_go goA
  have sB0 : splitAtGen D.toBase.B = none := rfl
  obtain ⟨_, mB, _, goB⟩ := seg_goes (res := fun _ : Unit => Flow.next) (K' := fun _ => (execs (behindTheImports D.p) D.env).wrap doneF (leaveH D.env) id id) (H' := Sem.raise) (B := D.toBase.B) sB0 D.kB (t := blockOf (behindTheImports D.p) D.env D.toBase.c D.pos0 D.toBase.B)
    (t' := ⟨(blockStart (behindTheImports D.p) D.env).wrap (fun _ => (execs (behindTheImports D.p) D.env).wrap doneF (leaveH D.env) id id) .raise id id, D.toBase.c, D.pos0, D.toBase.B⟩) ⟨rfl, rfl, .inl ⟨rfl, rfl, _, rfl, rfl⟩⟩ (segF_ok hB)
  have kB := keeps_go goB
  have KB := kA.trans kB
  have E : EndsAt D.toBase w n (bootAnn w) G (D.L.flatMap Stg.ss ++ D.rest) sB pB := stg_ends O.un D.L sB pB (O.st w) fun ps hp => by
    obtain ⟨sA', sB', pB', t', n', tr, s4, ht', hA', hB', h1, c1, f1, h4, hg, hG⟩ := parts ps hp
    rw [ht] at ht'
    cases ht'
    rw [hA] at hA'
    cases hA'
    rw [hB] at hB'
    cases hB'
    exact ⟨tr, h1, c1, f1, ends_go h4 hg hG⟩
  obtain ⟨S, h1, h2, h3, h4⟩ := E (Shared.asleep_of_life KB.life hz)
  refine ⟨S, ?_, h2, by rw [en]; exact KB.trans h3, h4⟩
  refine halts_go goA ?_
  have eB : denote table D.toBase.c = (blockStart (behindTheImports D.p) D.env).wrap (fun _ => (execs (behindTheImports D.p) D.env).wrap doneF (leaveH D.env) id id) .raise id id := body_wrap _
  rw [eB]
  refine halts_go goB ?_
  rw [O.body]
  exact h1
/-- what is read off a run's end -/
def seeM (D : Many) (q : Program) (loose : List Str) (Xt : Shared → Bool) {α : Type} (ob : SharedT → α) (w : World) (r : ManyR) := (r.tA, r.cB, r.cs, r.fl, r.s4.gens.size, looksF D.p (boot_heap w.params) r.s4.abs, seenQ q loose (importedModules D.p.main.body) Xt r.s4.abs, ob r.s4)
def RunM (D : Many) (q : Program) (loose : List Str) (Xt : Shared → Bool) {α : Type} (ob : SharedT → α) (val : World → α) : Prop :=
  ∀ (w : World) (os : OsState) (ps : List Pos), ps.length = D.d → (manyF (stepQ (denQ tabQ) D.p w) D w os ps).map (seeM D q loose Xt ob w) = some (⟨denQ tabQ D.toBase.c, D.toBase.c, D.pos0, D.toBase.B⟩, D.toBase.c, List.replicate D.L.length D.toBase.c, List.replicate D.d true, 0, true, openGood q loose, val w)
theorem tops_many {D : Many} {q : Program} {loose : List Str} {Xt : Shared → Bool} {H : Hook} {ob : SharedT → H.α} (O : D.Ok) (ho : ∀ s : SharedT, ob s = H.obs s.abs) (e : opening D.p = plainProg D.p.main.scope.names) (f : ∀ s, fenceModules? D.p s = some s) (run : RunM D q loose Xt ob H.val) :
    TopsE D.p q loose Xt H.obs H.val := fun w => by
  obtain ⟨⟨hp, gs, dr, tk, os⟩, hf, e0⟩ := Option.map_eq_some_iff.mp (boot_open (N := 600) e rfl f w)
  obtain ⟨rfl, rfl, rfl, rfl⟩ : hp = boot_heap w.params ∧ gs = Array.mk [] ∧ dr = boot_drawn ∧ tk = boot_toks := by simpa using e0
  rw [← table_eq_tree] at hf
  obtain ⟨s, hi, hfe⟩ := Option.bind_eq_some_iff.mp hf
  have A := AfterImport.of_importEnds hi
  have hz := Shared.asleep_of_life (fence_lifeW hfe) A.life
  have eq : ∀ ps, manyF (stepQ (denQ tabQ) D.p w) D w os ps = manyF (stepT (denote table) D.p w) D w os ps := fun ps => by
    rw [← stepQ_eq, ← denQ_eq, ← tabQ_eq, table_eq_tree]
  obtain ⟨S, hS, hg, kS, g1, g2, g3⟩ := many_ends (w := w) (os := os) (G := fun S => looksF D.p (boot_heap w.params) S.abs = true ∧ openSeen q loose (importedModules D.p.main.body) Xt true S.abs = openGood q loose ∧ H.obs S.abs = H.val w) O (fun ps hps => by
    obtain ⟨r, hr, hv⟩ := Option.map_eq_some_iff.mp (run w os ps hps)
    rw [eq] at hr
    have hv : seeM D q loose Xt ob w r = _ := hv
    unfold seeM at hv
    simp only [Prod.mk.injEq] at hv
    obtain ⟨v1, v2, v3, v4, v5, v6, v7, v8⟩ := hv
    refine ⟨r, hr, ?_, v2, fun c hc => ?_, fun f hf => ?_, Array.eq_empty_of_size_eq_zero v5, v6, ?_, ?_⟩
    · rw [v1, ← denQ_eq, ← tabQ_eq, table_eq_tree]
    · rw [v3] at hc
      exact List.eq_of_mem_replicate hc
    · rw [v4] at hf
      exact List.eq_of_mem_replicate hf
    · rw [seenQ_eq]
      exact v7
    · rw [← ho]
      exact v8) hz
  exact ⟨600, _, S.abs, hf, ⟨hS, boot_ns _, rfl, hg, kS.life, kS.os, kS.fr, g1, g2, g3⟩⟩
theorem head_many {r : OpenRow} {D : Many} {q : Program} {loose : List Str} {H : Hook} {ob : SharedT → H.α} {d : DefRec} {kwd : List (Str × Expr)} (hD : D.p = r.prog) (O : D.Ok) (ho : ∀ s : SharedT, ob s = H.obs s.abs) (e : opening D.p = plainProg D.p.main.scope.names) (f : ∀ s, fenceModules? D.p s = some s)
    (run : RunM D q loose (fun s => xlAt q [] s && recOk r.toRowW.records s) ob H.val) (hdef : defOf q r.name = some (d, kwd)) (hp : r.prog.theDef r.name = some (d.params, d.body, d.scope)) (hk : kwWritten? d.params.kwonlyargs d.params.kw_defaults = some kwd)
    (hwr : (!r.writes || r.records.isEmpty) = true) (k1 : r.wellSaid = true) (ok : (chainsOk q && opensWell r.prog && (frees r.toRowW && r.within.isEmpty)) = true) (hb : r.prog.bare) (hw : r.toRowW.promised)
    (call : WalkO q loose (XL q []) H.says r.toRowW d kwd fun f vs => PySem.call f vs) : r.Holds := by
  have T := tops_many O ho e f run
  rw [hD] at T
  exact holdsE T (fun s z => xl_of s (Bool.and_eq_true_iff.mp z).1) XL.keeps hdef hp hk (fun s z => recFacts_of (Bool.and_eq_true_iff.mp z).2) hwr k1 ok hb hw call
end Fw

end
set_option Elab.async false
set_option linter.all false
set_option maxRecDepth 100000
set_option maxHeartbeats 2000000
/-! a plan is sound: by looks that the kernel takes -/
namespace Fw
open PySem PySem.W PySem.Calls PyProof.Rows
def csB : List Expr → List Str → Bool
  | [], [] => true
  | .Constant (.str x) _ _ :: es, z :: zs => decide (x = z) && csB es zs
  | _, _ => false
theorem csB_ok : ∀ {es : List Expr} {zs : List Str}, csB es zs = true → CS es zs
  | [], [], _ => .nil
  | e :: es, z :: zs, h => by
    unfold csB at h
    split at h
    · rename_i h1 h2; cases h1
    · rename_i x k pos es' z' zs' h1 h2
      cases h1
      cases h2
      obtain ⟨a, b⟩ := Bool.and_eq_true_iff.mp h
      have := of_decide_eq_true a
      subst this
      exact .cons (csB_ok b)
    · cases h
  | [], _ :: _, h => by simp [csB] at h
  | e :: es, [], h => by
    unfold csB at h
    split at h
    · rename_i h1 h2; cases h1
    · rename_i h1 h2; cases h2
    · cases h
def pairB : Option Expr → Expr → PK → Bool
  | some (.Tuple ke _ _), .Tuple ve _ _, p => csB ke (key p) && csB ve p.2.2 && decide (p.2.2.length ≤ 100)
  | _, _, _ => false
def pairsB : List (Option Expr) → List Expr → List PK → Bool
  | [], [], [] => true
  | k :: ks, v :: vs, p :: ps => pairB k v p && pairsB ks vs ps
  | _, _, _ => false
theorem pairsB_ok {env : Env} {pos : Pos} : ∀ {ks : List (Option Expr)} {vs : List Expr} {L : List PK}, pairsB ks vs L = true →
    ∃ ps : List PS, PairsAre env pos ps L ∧ (evalEachOpt ks env).zip ((evalEach vs env).map fun v => do let x ← v; standAt pos; pure x) = ps.map (fun p => (some p.1, p.2))
  | [], [], [], _ => ⟨[], .nil, rfl⟩
  | k :: ks, v :: vs, p :: ps, h => by
    have h : (pairB k v p && pairsB ks vs ps) = true := h
    obtain ⟨h1, h2⟩ := Bool.and_eq_true_iff.mp h
    obtain ⟨r, hr, e⟩ := pairsB_ok h2
    unfold pairB at h1
    split at h1
    · rename_i ke kk kp ve vk vp hh
      obtain ⟨h3, h5⟩ := Bool.and_eq_true_iff.mp h1
      obtain ⟨h3, h4⟩ := Bool.and_eq_true_iff.mp h3
      refine ⟨_ :: r, .cons (kk := kk) (vk := vk) (kp := kp) (vp := vp) (csB_ok h3) (csB_ok h4) (of_decide_eq_true h5) hr, ?_⟩
      show (some (eval (.Tuple ke kk kp) env), _) :: (evalEachOpt ks env).zip _ = (some _, _) :: r.map _
      rw [e]
    · cases h1
  | [], [], _ :: _, h => by simp [pairsB] at h
  | [], _ :: _, _, h => by simp [pairsB] at h
  | _ :: _, [], _, h => by simp [pairsB] at h
  | _ :: _, _ :: _, [], h => by simp [pairsB] at h
theorem pairs_split {env : Env} {pos : Pos} : ∀ {L : List PK} {p : PK} {ps : List PS}, PairsAre env pos ps (L ++ [p]) → ∃ a c, ps = a ++ [c] ∧ a.length = L.length ∧ PairsAre env pos a L ∧ PairsAre env pos [c] [p]
  | [], p, _, .cons h1 h2 h3 .nil => ⟨[], _, rfl, rfl, .nil, .cons h1 h2 h3 .nil⟩
  | q :: L, p, _, .cons h1 h2 h3 r => by
    obtain ⟨a, c, rfl, hl, ha, hc⟩ := pairs_split r
    exact ⟨_ :: a, c, rfl, congrArg (· + 1) hl, .cons h1 h2 h3 ha, hc⟩
theorem Plan.ok_of {D : Plan} (body : behindTheImports D.p = D.l ++ D.st :: D.rest) (sw : swapsWith (.Dict D.keys D.values D.dpos) (some (.Name D.x D.np)) D.apos.line D.env = pure false) (hp : pairsB D.keys D.values (D.L ++ [D.pk]) = true) (hl : D.L.length = 17)
    (nd : ((D.L ++ [D.pk]).map key).Nodup) (un : D.c.cUnits + unitsOf [(.builtin "claim.caller" {}, D.q0)] < cLine) : D.Ok := by
  refine ⟨body, sw, ?_, nd, un⟩
  obtain ⟨ps, h1, h2⟩ := pairsB_ok (env := D.env) (pos := D.dpos) hp
  obtain ⟨a, c, rfl, al, ha, hc⟩ := pairs_split h1
  rw [hl] at al
  obtain ⟨a', b, rfl⟩ : ∃ a' b, a = a' ++ [b] := ⟨a.dropLast, a.getLast (fun z => by rw [z] at al; cases al), (List.dropLast_concat_getLast _).symm⟩
  rw [List.length_append] at al
  have al' : a'.length + 1 = 17 := al
  exact ⟨a', b, c, by omega, by rw [h2, List.append_assoc]; rfl, ha, hc⟩
end Fw

set_option Elab.async false
set_option linter.all false
set_option maxRecDepth 100000
set_option maxHeartbeats 2000000
/-! a display of texts whose values are names of the module: its stage is sound, by looks that the kernel takes -/
noncomputable section
namespace Fw
open PySem PySem.W PySem.Calls PyProof.Rows HandSHeadRun
abbrev TN : Type := Str × Str × Addr
def okN (T : List TN) (s : SharedT) : Bool :=
  let K := He.frG (getT s) (List.range s.n)
  nsOkIn K mainGlobals && T.all fun x => He.eqO (nsIn K mainGlobals x.2.1) (some (some (.ref x.2.2)))
def svT (T : List TN) : List SV := T.map fun x => (x.1, .ref x.2.2)
def txtB : List (Option Expr) → List Expr → List TN → Bool
  | [], [], [] => true
  | some (.Constant (.str x) _ _) :: ks, .Name y _ :: vs, t :: T => decide (x = t.1) && decide (y = t.2.1) && !(y == ("__debug__" : Str)) && txtB ks vs T
  | _, _, _ => false
theorem okN_ok {T : List TN} {s : SharedT} (h : okN T s = true) : ∃ mg, s.abs.heap.Ns mainGlobals mg ∧ ∀ x ∈ T, mg x.2.1 = some (.ref x.2.2) := by
  have eg : getT s = s.abs.heap.get? := funext (getT_eq s)
  unfold okN at h
  rw [eg] at h
  obtain ⟨h1, h2⟩ := Bool.and_eq_true_iff.mp h
  have X : (He.frG s.abs.heap.get? (List.range s.n)).In s.abs.heap := He.frG_in
  have N : s.abs.heap.Ns mainGlobals _ := .of_isNs (isNs_of_in X h1)
  exact ⟨_, N, fun x hx => mg_of X N (He.eqO_ok (List.all_eq_true.mp h2 x hx))⟩
theorem txt_pairs {prog : Program} {w : World} {A : Around} {E : Value → Shared → Prop} {env : Env} {pos : Pos} {s : Shared} {mg : Str → Option Value} (hk : env.scope.kind = .module) (hl : env.locals = env.globals) (hg : env.globals = mainGlobals) (N : s.heap.Ns mainGlobals mg) :
    ∀ {ks : List (Option Expr)} {vs : List Expr} {T : List TN}, txtB ks vs T = true → (∀ x ∈ T, mg x.2.1 = some (.ref x.2.2)) →
    ∃ ps : List PS, (evalEachOpt ks env).zip ((evalEach vs env).map fun v => do let x ← v; standAt pos; pure x) = ps.map (fun p => (some p.1, p.2)) ∧ PairsS prog w A E env s ps (svT T)
  | [], [], [], _, _ => ⟨[], rfl, .nil⟩
  | some (.Constant (.str x) k kp) :: ks, .Name y yp :: vs, t :: T, h, hm => by
    have h : (decide (x = t.1) && decide (y = t.2.1) && !(y == ("__debug__" : Str)) && txtB ks vs T) = true := h
    obtain ⟨h, h4⟩ := Bool.and_eq_true_iff.mp h
    obtain ⟨h, h3⟩ := Bool.and_eq_true_iff.mp h
    obtain ⟨h1, h2⟩ := Bool.and_eq_true_iff.mp h
    obtain ⟨tx, ty, ta⟩ := t
    obtain rfl : x = tx := of_decide_eq_true h1
    obtain rfl : y = ty := of_decide_eq_true h2
    have h3 : (y == ("__debug__" : Str)) = false := by simpa using h3
    obtain ⟨ps, e, P⟩ := txt_pairs hk hl hg N h4 fun z hz => hm z (List.mem_cons_of_mem _ hz)
    refine ⟨(eval (.Constant (.str x) k kp) env, do let x ← eval (.Name y yp) env; standAt pos; pure x) :: ps, ?_, .cons (fun s' Q kp' q => ?_) P⟩
    · show (some _, _) :: (evalEachOpt ks env).zip _ = _ :: ps.map _
      rw [e]
    · refine wpAny_bind (Name_module hk hl (loadGlobal_global (mg := mg) (by rw [hg]; exact N.keeps kp') (hm (x, y, ta) (List.mem_cons_self ..)) ?_) h3)
      exact wpAny_bind (wpAny_standAt (wpAny_pure q))
  | [], [], _ :: _, h, _ => by simp [txtB] at h
  | [], _ :: _, _, h, _ => by simp [txtB] at h
  | _ :: _, [], _, h, _ => by simp [txtB] at h
  | _ :: _, _ :: _, [], h, _ => by simp [txtB] at h
theorem txt_ok {D : Base} {w : World} {x : Str} {np dpos apos : Pos} {keys : List (Option Expr)} {values : List Expr} {T : List TN} {k : Nat} (hk : D.env.scope.kind = .module) (hl : D.env.locals = D.env.globals) (hg : D.env.globals = mainGlobals)
    (sw : swapsWith (.Dict keys values dpos) (some (.Name x np)) apos.line D.env = pure false) (nd : (T.map (·.1)).Nodup) (hB : txtB keys values T = true) (h0 : T ≠ []) (h15 : T.length ≤ 15) :
    Stg.Ok D w (.txt x np keys values dpos apos (svT T) (okN T) k) := by
  refine ⟨sw, ?_, fun s h => ?_⟩
  · show ((T.map _).map _).Nodup
    rw [List.map_map]
    exact nd
  · obtain ⟨mg, N, hm⟩ := okN_ok h
    obtain ⟨ps, e, P⟩ := txt_pairs (prog := D.p) (w := w) (A := D.A) (E := fun _ _ => False) (pos := dpos) hk hl hg N hB hm
    have ll := pairsS_len P
    have l2 : (svT T).length = T.length := List.length_map ..
    refine ⟨ps, e, P, fun z => ?_, by omega⟩
    subst z
    cases T with
    | nil => exact h0 rfl
    | cons a T => cases ll
theorem big_ok {D : Base} {w : World} {x : Str} {np dpos apos : Pos} {keys : List (Option Expr)} {values : List Expr} {L : List PK} {pk : PK} {k : Nat} (sw : swapsWith (.Dict keys values dpos) (some (.Name x np)) apos.line D.env = pure false)
    (hp : pairsB keys values (L ++ [pk]) = true) (hl : L.length = 17) (nd : ((L ++ [pk]).map key).Nodup) : Stg.Ok D w (.big x np keys values dpos apos L pk k) := by
  refine ⟨sw, nd, ?_⟩
  obtain ⟨ps, h1, h2⟩ := pairsB_ok (env := D.env) (pos := dpos) hp
  obtain ⟨a, c, rfl, al, ha, hc⟩ := pairs_split h1
  rw [hl] at al
  obtain ⟨a', b, rfl⟩ : ∃ a' b, a = a' ++ [b] := ⟨a.dropLast, a.getLast (fun z => by rw [z] at al; cases al), (List.dropLast_concat_getLast _).symm⟩
  rw [List.length_append] at al
  have al' : a'.length + 1 = 17 := al
  exact ⟨a', b, c, by omega, by rw [h2, List.append_assoc]; rfl, ha, hc⟩
end Fw

end
set_option Elab.async false
set_option linter.all false
set_option maxRecDepth 100000
set_option maxHeartbeats 2000000
/-! a display of texts whose values are written truths -/
noncomputable section
namespace Fw
open PySem PySem.W PySem.Calls PyProof.Rows HandSHeadRun
def svB (T : List (Str × Bool)) : List SV := T.map fun x => (x.1, .bool x.2)
def boolB : List (Option Expr) → List Expr → List (Str × Bool) → Bool
  | [], [], [] => true
  | some (.Constant (.str x) _ _) :: ks, .Constant (.bool b) _ _ :: vs, t :: T => decide (x = t.1) && decide (b = t.2) && boolB ks vs T
  | _, _, _ => false
theorem bool_pairs {prog : Program} {w : World} {A : Around} {E : Value → Shared → Prop} {env : Env} {pos : Pos} {s : Shared} : ∀ {ks : List (Option Expr)} {vs : List Expr} {T : List (Str × Bool)}, boolB ks vs T = true →
    ∃ ps : List PS, (evalEachOpt ks env).zip ((evalEach vs env).map fun v => do let x ← v; standAt pos; pure x) = ps.map (fun p => (some p.1, p.2)) ∧ PairsS prog w A E env s ps (svB T)
  | [], [], [], _ => ⟨[], rfl, .nil⟩
  | some (.Constant (.str x) k kp) :: ks, .Constant (.bool b) bk bp :: vs, t :: T, h => by
    have h : (decide (x = t.1) && decide (b = t.2) && boolB ks vs T) = true := h
    obtain ⟨h, h3⟩ := Bool.and_eq_true_iff.mp h
    obtain ⟨h1, h2⟩ := Bool.and_eq_true_iff.mp h
    obtain ⟨tx, tb⟩ := t
    obtain rfl : x = tx := of_decide_eq_true h1
    obtain rfl : b = tb := of_decide_eq_true h2
    obtain ⟨ps, e, P⟩ := bool_pairs (prog := prog) (w := w) (A := A) (E := E) (env := env) (pos := pos) (s := s) h3
    refine ⟨(eval (.Constant (.str x) k kp) env, do let x ← eval (.Constant (.bool b) bk bp) env; standAt pos; pure x) :: ps, ?_, .cons (fun s' Q kp' q => ?_) P⟩
    · show (some _, _) :: (evalEachOpt ks env).zip _ = _ :: ps.map _
      rw [e]
    · exact wpAny_bind (wpAny_Constant_bool (wpAny_bind (wpAny_standAt (wpAny_pure q))))
  | [], [], _ :: _, h => by simp [boolB] at h
  | [], _ :: _, _, h => by simp [boolB] at h
  | _ :: _, [], _, h => by simp [boolB] at h
  | _ :: _, _ :: _, [], h => by simp [boolB] at h
theorem bool_ok {D : Base} {w : World} {x : Str} {np dpos apos : Pos} {keys : List (Option Expr)} {values : List Expr} {T : List (Str × Bool)} {k : Nat}
    (sw : swapsWith (.Dict keys values dpos) (some (.Name x np)) apos.line D.env = pure false) (nd : (T.map (·.1)).Nodup) (hB : boolB keys values T = true) (h0 : T ≠ []) (h15 : T.length ≤ 15) :
    Stg.Ok D w (.txt x np keys values dpos apos (svB T) (fun _ => true) k) := by
  refine ⟨sw, ?_, fun s _ => ?_⟩
  · show ((T.map _).map _).Nodup
    rw [List.map_map]
    exact nd
  · obtain ⟨ps, e, P⟩ := bool_pairs (prog := D.p) (w := w) (A := D.A) (E := fun _ _ => False) (pos := dpos) (env := D.env) (s := s.abs) hB
    have ll := pairsS_len P
    have l2 : (svB T).length = T.length := List.length_map ..
    refine ⟨ps, e, P, fun z => ?_, by omega⟩
    subst z
    cases T with
    | nil => exact h0 rfl
    | cons a T => cases ll
end Fw

end
set_option Elab.async false
set_option linter.all false
set_option maxRecDepth 100000
set_option maxHeartbeats 2000000
/-! a display of 18 to 32 pairs, keys texts, values tuples of texts: its stage is sound, by looks that the kernel takes -/
noncomputable section
namespace Fw
open PySem PySem.W PySem.Calls PyProof.Rows HandSHeadRun
def twoB : List (Option Expr) → List Expr → List SP → Bool
  | [], [], [] => true
  | some (.Constant (.str x) _ _) :: ks, .Tuple es _ _ :: vs, p :: r => decide (x = p.1) && csB es p.2 && decide (p.2.length ≤ 100) && twoB ks vs r
  | _, _, _ => false
theorem twoB_ok {env : Env} {pos : Pos} : ∀ {ks : List (Option Expr)} {vs : List Expr} {L : List SP}, twoB ks vs L = true →
    ∃ ps : List PS, PairsT env pos ps L ∧ (evalEachOpt ks env).zip ((evalEach vs env).map fun v => do let x ← v; standAt pos; pure x) = ps.map (fun p => (some p.1, p.2))
  | [], [], [], _ => ⟨[], .nil, rfl⟩
  | some (.Constant (.str x) kk kp) :: ks, .Tuple es vk vp :: vs, p :: r, h => by
    have h : (decide (x = p.1) && csB es p.2 && decide (p.2.length ≤ 100) && twoB ks vs r) = true := h
    obtain ⟨h, h4⟩ := Bool.and_eq_true_iff.mp h
    obtain ⟨h, h3⟩ := Bool.and_eq_true_iff.mp h
    obtain ⟨h1, h2⟩ := Bool.and_eq_true_iff.mp h
    obtain ⟨px, pz⟩ := p
    obtain rfl : x = px := of_decide_eq_true h1
    obtain ⟨ps, hr, e⟩ := twoB_ok (env := env) (pos := pos) h4
    refine ⟨_ :: ps, .cons (kk := kk) (vk := vk) (kp := kp) (vp := vp) (csB_ok h2) (of_decide_eq_true h3) hr, ?_⟩
    show (some (eval (.Constant (.str x) kk kp) env), _) :: (evalEachOpt ks env).zip _ = (some _, _) :: ps.map _
    rw [e]
  | [], [], _ :: _, h => by simp [twoB] at h
  | [], _ :: _, _, h => by simp [twoB] at h
  | _ :: _, [], _, h => by simp [twoB] at h
  | _ :: _, _ :: _, [], h => by simp [twoB] at h
theorem pairsT_split {env : Env} {pos : Pos} : ∀ {L : List SP} {ps : List PS} {M : List SP}, PairsT env pos ps (L ++ M) → ∃ a c, ps = a ++ c ∧ a.length = L.length ∧ PairsT env pos a L ∧ PairsT env pos c M
  | [], ps, M, h => ⟨[], ps, rfl, rfl, .nil, h⟩
  | p :: L, _, M, h => by
    cases h with
    | cons c1 c2 c3 =>
      obtain ⟨a, c, rfl, al, h1, h2⟩ := pairsT_split (L := L) c3
      exact ⟨_ :: a, c, rfl, congrArg (· + 1) al, .cons c1 c2 h1, h2⟩
theorem two_ok {D : Base} {w : World} {x : Str} {np dpos apos : Pos} {keys : List (Option Expr)} {values : List Expr} {L M : List SP} {k : Nat} (sw : swapsWith (.Dict keys values dpos) (some (.Name x np)) apos.line D.env = pure false)
    (hp : twoB keys values (L ++ M) = true) (hl : L.length = 17) (h0 : M ≠ []) (hM : M.length ≤ 15) (nd : ((L ++ M).map (·.1)).Nodup) : Stg.Ok D w (.two x np keys values dpos apos L M k) := by
  refine ⟨sw, nd, ?_⟩
  obtain ⟨ps, h1, h2⟩ := twoB_ok (env := D.env) (pos := dpos) hp
  obtain ⟨a, c, rfl, al, ha, hc⟩ := pairsT_split h1
  rw [hl] at al
  obtain ⟨a', b, rfl⟩ : ∃ a' b, a = a' ++ [b] := ⟨a.dropLast, a.getLast (fun z => by rw [z] at al; cases al), (List.dropLast_concat_getLast _).symm⟩
  rw [List.length_append] at al
  have al' : a'.length + 1 = 17 := al
  have lc := pairsT_len hc
  exact ⟨a', c, b, by omega, fun z => by rw [z] at lc; exact h0 (List.eq_nil_of_length_eq_zero lc.symm), by omega, by rw [h2, List.append_assoc]; rfl, ha, hc⟩
end Fw

end
set_option Elab.async false
set_option linter.all false
set_option maxRecDepth 100000
set_option maxHeartbeats 0
noncomputable section
namespace Kk23
open PySem PySem.W PySem.Calls PyProof.Rows HandSHeadRun Fw
abbrev pr : Program := PySem.Challenge.pw_figuredeeds_k23_known_grounds
def dk (s : Stmt) : List (Option Expr) := match s with
  | .Assign _ (.Dict ks _ _) _ => ks
  | _ => []
def dv (s : Stmt) : List Expr := match s with
  | .Assign _ (.Dict _ vs _) _ => vs
  | _ => []
def dp (s : Stmt) : Pos := match s with
  | .Assign _ (.Dict _ _ p) _ => p
  | _ => default
def ap (s : Stmt) : Pos := match s with
  | .Assign _ _ p => p
  | _ => default
def np (s : Stmt) : Pos := match s with
  | .Assign [.Name _ p] _ _ => p
  | _ => default
def top (i : Nat) : Stmt := pr.main.body.getD i (.Pass ⟨0, 0, 0, 0⟩)
def st14 : Stmt := top 14
def st27 : Stmt := top 27
def st28 : Stmt := top 28
def st34 : Stmt := top 34
def st35 : Stmt := top 35
def tn14 : List TN := [("plus", "plus", 63), ("minus", "minus", 70), ("by", "by", 77), ("over", "over", 84), ("rest", "rest", 91)]
def tn27 : List TN := [("set", "set_number", 163), ("add", "add_number", 170)]
def tn28 : List TN := [("put", "put_value", 177), ("drop", "drop_value", 184), ("write", "write_value", 191)]
def tn34 : List TN := [("move", "moved", 205), ("turn", "turned", 212), ("place", "placed", 219)]
def tb35 : List (Str × Bool) := [("show", true), ("hide", false)]
def D : Many where
  p := pr
  env := { scope := pr.main.scope, locals := mainNs, globals := mainNs, cells := [], code := .ref 13, frame := some 14 }
  q0 := ⟨0, 0, 0, 0⟩
  pos0 := ⟨0, 0, 0, 0⟩
  k0 := 12
  kB := 3
  L := [.seg ((pr.main.body.drop 0).take 14) 1120, .txt "SUMS" (np st14) (dk st14) (dv st14) (dp st14) (ap st14) (svT tn14) (okN tn14) 60, .seg ((pr.main.body.drop 15).take 12) 1318, .txt "NAME_DEEDS" (np st27) (dk st27) (dv st27) (dp st27) (ap st27) (svT tn27) (okN tn27) 60, .seg ((pr.main.body.drop 28).take 0) 100, .txt "LIST_DEEDS" (np st28) (dk st28) (dv st28) (dp st28) (ap st28) (svT tn28) (okN tn28) 60, .seg ((pr.main.body.drop 29).take 5) 386, .txt "SPOT_DEEDS" (np st34) (dk st34) (dv st34) (dp st34) (ap st34) (svT tn34) (okN tn34) 60, .seg ((pr.main.body.drop 35).take 0) 100, .txt "SHOWN_BY" (np st35) (dk st35) (dv st35) (dp st35) (ap st35) (svB tb35) (fun _ => true) 60]
  rest := pr.main.body.drop 36
  M := 2658
def fnd (x : Str) (i : Nat) : He.FnD := ⟨(x, none), x, x, L2.defArgs (top i), L2.defBody (top i), L2.defScope (top i)⟩
def inC (i j : Nat) : Stmt := match top i with
  | .ClassDef _ _ _ b .. => b.getD j (.Pass ⟨0, 0, 0, 0⟩)
  | _ => .Pass ⟨0, 0, 0, 0⟩
def fn : List He.FnD := [fnd "_wall" 0, fnd "is_number" 7, fnd "is_value" 8, fnd "plus" 9, fnd "minus" 10, fnd "by" 11, fnd "over" 12, fnd "rest" 13, fnd "value_of" 15, fnd "outcome" 16, fnd "first_of" 17, fnd "place_in" 18, fnd "set_number" 22, fnd "add_number" 23, fnd "put_value" 24, fnd "drop_value" 25, fnd "write_value" 26, fnd "moved" 31, fnd "turned" 32, fnd "placed" 33, fnd "nearest" 36, fnd "_law_box" 39, fnd "_law_take" 40, fnd "_law_names" 41, fnd "_law_same" 42, fnd "_law_fell" 43, fnd "_law_moves_right" 44, fnd "_law_names_right" 45, fnd "_law_copies_right" 46, fnd "_law_right" 47, fnd "law" 48, ⟨("Fell", some "__init__"), "__init__", "Fell.__init__", L2.defArgs (inC 2 0), L2.defBody (inC 2 0), L2.defScope (inC 2 0)⟩, ⟨("Holding", some "__init__"), "__init__", "Holding.__init__", L2.defArgs (inC 21 0), L2.defBody (inC 21 0), L2.defScope (inC 21 0)⟩, ⟨("Holding", some "name_pairs"), "name_pairs", "Holding.name_pairs", L2.defArgs (inC 21 1), L2.defBody (inC 21 1), L2.defScope (inC 21 1)⟩, ⟨("Holding", some "list_pairs"), "list_pairs", "Holding.list_pairs", L2.defArgs (inC 21 2), L2.defBody (inC 21 2), L2.defScope (inC 21 2)⟩, ⟨("Holding", some "again"), "again", "Holding.again", L2.defArgs (inC 21 3), L2.defBody (inC 21 3), L2.defScope (inC 21 3)⟩, ⟨("Ground", some "__init__"), "__init__", "Ground.__init__", L2.defArgs (inC 37 0), L2.defBody (inC 37 0), L2.defScope (inC 37 0)⟩, ⟨("Ground", some "__len__"), "__len__", "Ground.__len__", L2.defArgs (inC 37 1), L2.defBody (inC 37 1), L2.defScope (inC 37 1)⟩, ⟨("Ground", some "__eq__"), "__eq__", "Ground.__eq__", L2.defArgs (inC 37 2), L2.defBody (inC 37 2), L2.defScope (inC 37 2)⟩, ⟨("Ground", some "told"), "told", "Ground.told", L2.defArgs (inC 37 3), L2.defBody (inC 37 3), L2.defScope (inC 37 3)⟩, ⟨("Ground", some "twin"), "twin", "Ground.twin", L2.defArgs (inC 37 4), L2.defBody (inC 37 4), L2.defScope (inC 37 4)⟩, ⟨("Ground", some "give"), "give", "Ground.give", L2.defArgs (inC 37 5), L2.defBody (inC 37 5), L2.defScope (inC 37 5)⟩, ⟨("Ground", some "ones"), "ones", "Ground.ones", L2.defArgs (inC 37 6), L2.defBody (inC 37 6), L2.defScope (inC 37 6)⟩, ⟨("Ground", some "spot"), "spot", "Ground.spot", L2.defArgs (inC 37 7), L2.defBody (inC 37 7), L2.defScope (inC 37 7)⟩, ⟨("Ground", some "is_shown"), "is_shown", "Ground.is_shown", L2.defArgs (inC 37 8), L2.defBody (inC 37 8), L2.defScope (inC 37 8)⟩, ⟨("Ground", some "names"), "names", "Ground.names", L2.defArgs (inC 37 9), L2.defBody (inC 37 9), L2.defScope (inC 37 9)⟩, ⟨("Ground", some "lists"), "lists", "Ground.lists", L2.defArgs (inC 37 10), L2.defBody (inC 37 10), L2.defScope (inC 37 10)⟩, ⟨("Ground", some "held_by"), "held_by", "Ground.held_by", L2.defArgs (inC 37 11), L2.defBody (inC 37 11), L2.defScope (inC 37 11)⟩, ⟨("Ground", some "met"), "met", "Ground.met", L2.defArgs (inC 37 12), L2.defBody (inC 37 12), L2.defScope (inC 37 12)⟩, ⟨("Ground", some "eyes"), "eyes", "Ground.eyes", L2.defArgs (inC 37 13), L2.defBody (inC 37 13), L2.defScope (inC 37 13)⟩, ⟨("Ground", some "copy"), "copy", "Ground.copy", L2.defArgs (inC 37 14), L2.defBody (inC 37 14), L2.defScope (inC 37 14)⟩, ⟨("Ground", some "end"), "end", "Ground.end", L2.defArgs (inC 37 15), L2.defBody (inC 37 15), L2.defScope (inC 37 15)⟩, ⟨("Ground", some "do"), "do", "Ground.do", L2.defArgs (inC 37 16), L2.defBody (inC 37 16), L2.defScope (inC 37 16)⟩, ⟨("Ground", some "change_spot"), "change_spot", "Ground.change_spot", L2.defArgs (inC 37 17), L2.defBody (inC 37 17), L2.defScope (inC 37 17)⟩, ⟨("Ground", some "change_held"), "change_held", "Ground.change_held", L2.defArgs (inC 37 18), L2.defBody (inC 37 18), L2.defScope (inC 37 18)⟩, ⟨("Ground", some "numbers_with"), "numbers_with", "Ground.numbers_with", L2.defArgs (inC 37 19), L2.defBody (inC 37 19), L2.defScope (inC 37 19)⟩, ⟨("Ground", some "row_of"), "row_of", "Ground.row_of", L2.defArgs (inC 37 20), L2.defBody (inC 37 20), L2.defScope (inC 37 20)⟩]
def fa : List He.Fa := [.glo "_wall", .keep "_wall", .glo "is_number", .keep "is_number", .glo "is_value", .keep "is_value", .glo "plus", .keep "plus", .glo "minus", .keep "minus", .glo "by", .keep "by", .glo "over", .keep "over", .glo "rest", .keep "rest", .glo "value_of", .keep "value_of", .glo "outcome", .keep "outcome", .glo "first_of", .keep "first_of", .glo "place_in", .keep "place_in", .glo "set_number", .keep "set_number", .glo "add_number", .keep "add_number", .glo "put_value", .keep "put_value", .glo "drop_value", .keep "drop_value", .glo "write_value", .keep "write_value", .glo "moved", .keep "moved", .glo "turned", .keep "turned", .glo "placed", .keep "placed", .glo "nearest", .keep "nearest", .glo "_law_box", .keep "_law_box", .glo "_law_take", .keep "_law_take", .glo "_law_names", .keep "_law_names", .glo "_law_same", .keep "_law_same", .glo "_law_fell", .keep "_law_fell", .glo "_law_moves_right", .keep "_law_moves_right", .glo "_law_names_right", .keep "_law_names_right", .glo "_law_copies_right", .keep "_law_copies_right", .glo "_law_right", .keep "_law_right", .glo "law", .keep "law", .free "len", .free "int", .free "divmod", .free "list", .free "isinstance", .free "tuple", .free "all", .free "abs", .free "zip", .free "str", .free "bool", .free "range", .free "enumerate", .free "sorted", .free "min", .free "max", .free "RuntimeError", .int "LEAST_VALUE" (-1000000), .int "MOST_VALUE" (1000000), .int "LONGEST_LIST" (8), .glo "Fell", .meth "Holding" "name_pairs", .meth "Holding" "list_pairs", .meth "Holding" "again", .glo "Holding", .cls "Holding", .mkr "Holding", .meth "Ground" "__len__", .meth "Ground" "__eq__", .meth "Ground" "told", .meth "Ground" "twin", .meth "Ground" "give", .meth "Ground" "ones", .meth "Ground" "spot", .meth "Ground" "is_shown", .meth "Ground" "names", .meth "Ground" "lists", .meth "Ground" "held_by", .meth "Ground" "met", .meth "Ground" "eyes", .meth "Ground" "copy", .meth "Ground" "end", .meth "Ground" "do", .meth "Ground" "change_spot", .meth "Ground" "change_held", .meth "Ground" "numbers_with", .meth "Ground" "row_of", .glo "Ground", .cls "Ground", .mkr "Ground", .meth "Holding" "__init__", .meth "Ground" "__init__", .noat "Holding" "numbers", .noat "Holding" "rows", .noat "Ground" "wide", .noat "Ground" "high", .noat "Ground" "figures", .noat "Ground" "places", .noat "Ground" "shown", .noat "Ground" "held"]
def ck (K : Frag) : Bool := decide (kwO K ("Ground", some "names") "one" = some .none) && decide (kwO K ("Ground", some "lists") "one" = some .none) && emT K (kwO K ("Ground", some "eyes") "params") && emT K (kwO K ("Ground", some "do") "params") && He.eqO (nsIn K 192 "move") (some none) && He.eqO (nsIn K 192 "turn") (some none) && He.eqO (nsIn K 192 "say") (some none) && He.eqO (nsIn K 192 "place") (some none) && He.eqO (nsIn K 192 "put") (some none) && He.eqO (nsIn K 192 "drop") (some none) && He.eqO (nsIn K 192 "write") (some none) && He.eqO (nsIn K 192 "show") (some none) && He.eqO (nsIn K 192 "hide") (some none) && He.eqO (nsIn K 193 "move") (some none) && He.eqO (nsIn K 193 "turn") (some none) && He.eqO (nsIn K 193 "say") (some none) && He.eqO (nsIn K 193 "place") (some none) && He.eqO (nsIn K 193 "set") (some none) && He.eqO (nsIn K 193 "add") (some none) && He.eqO (nsIn K 193 "show") (some none) && He.eqO (nsIn K 193 "hide") (some none) && He.eqO (nsIn K 221 "turn") (some none) && He.eqO (nsIn K 221 "place") (some none) && He.eqO (nsIn K 221 "move") (some none) && He.eqO (nsIn K 221 "show") (some (some (.bool true))) && He.eqO (nsIn K 221 "hide") (some (some (.bool false))) && He.eqO (nsIn K mainGlobals "STEPS") (some (some (.ref 198))) && He.eqO (nsIn K mainGlobals "SPOT_WORDS") (some (some (.ref 42))) && He.eqO (nsIn K 92 "plus") (some (some (.ref (He.ga K "plus")))) && He.eqO (nsIn K 92 "minus") (some (some (.ref (He.ga K "minus")))) && He.eqO (nsIn K 92 "by") (some (some (.ref (He.ga K "by")))) && He.eqO (nsIn K 92 "over") (some (some (.ref (He.ga K "over")))) && He.eqO (nsIn K 92 "rest") (some (some (.ref (He.ga K "rest")))) && He.eqO (nsIn K mainGlobals "SUMS") (some (some (.ref 92))) && He.eqO (nsIn K 192 "set") (some (some (.ref (He.ga K "set_number")))) && He.eqO (nsIn K 192 "add") (some (some (.ref (He.ga K "add_number")))) && He.eqO (nsIn K mainGlobals "NAME_DEEDS") (some (some (.ref 192))) && He.eqO (nsIn K 193 "put") (some (some (.ref (He.ga K "put_value")))) && He.eqO (nsIn K 193 "drop") (some (some (.ref (He.ga K "drop_value")))) && He.eqO (nsIn K 193 "write") (some (some (.ref (He.ga K "write_value")))) && He.eqO (nsIn K mainGlobals "LIST_DEEDS") (some (some (.ref 193))) && He.eqO (nsIn K 220 "move") (some (some (.ref (He.ga K "moved")))) && He.eqO (nsIn K 220 "turn") (some (some (.ref (He.ga K "turned")))) && He.eqO (nsIn K 220 "place") (some (some (.ref (He.ga K "placed")))) && He.eqO (nsIn K mainGlobals "SPOT_DEEDS") (some (some (.ref 220))) && He.eqO (nsIn K mainGlobals "SHOWN_BY") (some (some (.ref 221))) && fellB K && stpB K 198
def tf : List He.Defn := [("Ground", some "ones")]
def as : List Addr := [42, 92, 192, 193, 220, 221]
def objs (w : World) : List Obj := ([tO 230 ["x", "y", "way", "number"]]) ++ ([dO (sEs w pr 289 (svT tn14))]) ++ ([dO (sEs w pr 438 (svT tn27))]) ++ ([dO (sEs w pr 443 (svT tn28))]) ++ ([dO (sEs w pr 495 (svT tn34))]) ++ ([dO (sEs w pr 502 (svB tb35))])
abbrev R : OpenRow := OpenLaw.row PySem.Challenge.rw_figuredeeds_k23_known_grounds
abbrev q : Program := view R.prog [48]
def loose : List PySem.Str := (["_wall", "__name__", "Fell", "LEAST_VALUE", "MOST_VALUE", "SPOT_WORDS", "is_number", "is_value", "plus", "minus", "by", "over", "rest", "SUMS", "value_of"] : List PySem.Str) ++ (["outcome", "first_of", "place_in", "LONGEST_LIST", "Holding", "set_number", "add_number", "put_value", "drop_value", "write_value", "NAME_DEEDS", "LIST_DEEDS", "STEPS", "moved", "turned"] : List PySem.Str) ++ (["placed", "SPOT_DEEDS", "SHOWN_BY", "nearest", "Ground", "_law_box", "_law_take", "_law_names", "_law_same", "_law_fell", "_law_moves_right", "_law_names_right", "_law_copies_right", "_law_right"] : List PySem.Str)
theorem run : RunM D q loose (fun s => xlAt q [] s && recOk R.toRowW.records s) (obV fa fn ck tf as 444) (hookV fa fn ck tf as 444 objs).val := by
  intro w os ps hp
  match ps, hp with
  | [p0, p1, p2, p3, p4], _ => kernel_rfl
end Kk23

end
set_option Elab.async false
set_option linter.all false
set_option maxRecDepth 100000
set_option maxHeartbeats 0
namespace Kk23
open PySem PySem.W PySem.Calls PyProof.Rows HandSHeadRun Fw
theorem D_ok : D.Ok := by
  refine ⟨by kernel_rfl, fun w x hx => ?_, by decide +kernel⟩
  have hx : x ∈ ([.seg ((pr.main.body.drop 0).take 14) 1120, .txt "SUMS" (np st14) (dk st14) (dv st14) (dp st14) (ap st14) (svT tn14) (okN tn14) 60, .seg ((pr.main.body.drop 15).take 12) 1318, .txt "NAME_DEEDS" (np st27) (dk st27) (dv st27) (dp st27) (ap st27) (svT tn27) (okN tn27) 60, .seg ((pr.main.body.drop 28).take 0) 100, .txt "LIST_DEEDS" (np st28) (dk st28) (dv st28) (dp st28) (ap st28) (svT tn28) (okN tn28) 60, .seg ((pr.main.body.drop 29).take 5) 386, .txt "SPOT_DEEDS" (np st34) (dk st34) (dv st34) (dp st34) (ap st34) (svT tn34) (okN tn34) 60, .seg ((pr.main.body.drop 35).take 0) 100, .txt "SHOWN_BY" (np st35) (dk st35) (dv st35) (dp st35) (ap st35) (svB tb35) (fun _ => true) 60] : List Stg) := hx
  rcases List.mem_cons.mp hx with rfl | hx
  · exact trivial
  rcases List.mem_cons.mp hx with rfl | hx
  · exact txt_ok (by rfl) (by rfl) (by rfl) (by rfl) (by decide +kernel) (by kernel_rfl) (by decide +kernel) (by decide +kernel)
  rcases List.mem_cons.mp hx with rfl | hx
  · exact trivial
  rcases List.mem_cons.mp hx with rfl | hx
  · exact txt_ok (by rfl) (by rfl) (by rfl) (by rfl) (by decide +kernel) (by kernel_rfl) (by decide +kernel) (by decide +kernel)
  rcases List.mem_cons.mp hx with rfl | hx
  · exact trivial
  rcases List.mem_cons.mp hx with rfl | hx
  · exact txt_ok (by rfl) (by rfl) (by rfl) (by rfl) (by decide +kernel) (by kernel_rfl) (by decide +kernel) (by decide +kernel)
  rcases List.mem_cons.mp hx with rfl | hx
  · exact trivial
  rcases List.mem_cons.mp hx with rfl | hx
  · exact txt_ok (by rfl) (by rfl) (by rfl) (by rfl) (by decide +kernel) (by kernel_rfl) (by decide +kernel) (by decide +kernel)
  rcases List.mem_cons.mp hx with rfl | hx
  · exact trivial
  rcases List.mem_cons.mp hx with rfl | hx
  · exact bool_ok (by rfl) (by decide +kernel) (by kernel_rfl) (by decide +kernel) (by decide +kernel)
  · exact nomatch hx
theorem op_ok : opening D.p = plainProg D.p.main.scope.names := by kernel_rfl
theorem fe_ok : ∀ s, fenceModules? D.p s = some s := fun s => by rfl
end Kk23

set_option Elab.async false
set_option linter.all false
set_option maxRecDepth 100000
set_option maxHeartbeats 2000000
/-! d.get((a, b)) of a dict that the module's top laid, keyed by tuples of texts, whose values are tuples of texts -/
namespace Fw
open PySem PySem.Spec PyProof.Rows L2
structure Parts (prog : Program) (w : World) (K : PySem.W.Frag) (d : Addr) (g : List Str → Option (List Str)) : Prop where
  is : ∃ (xs : List (List Str × Addr × Value)) (o : Obj) (ep : Nat), K.lookup d = some o ∧ o.ExactDict ∧ o.data = .dict (xs.map (entryOfKey (tupleKind (strKind prog w)))).toArray ep ∧
    (∀ x ∈ xs, ∃ t, K.lookup x.2.1 = some (tO t x.1)) ∧ (xs.map (·.1)).Nodup ∧
    ∀ k, (valueAt (pairsH xs) k = none ∧ g k = none) ∨ ∃ b t zs, valueAt (pairsH xs) k = some (.ref b) ∧ g k = some zs ∧ K.lookup b = some (tO t zs) ∧ zs.length ≤ sizeLine
  hd : (d == sysModules) = false
theorem vals_toks : ∀ (zs : List Str) (t : Nat), Vals (zs.map V.str) (toksV t zs)
  | [], _ => .nil
  | z :: r, t => .cons ⟨t, rfl⟩ (vals_toks r (t + 1))
theorem tO_sqT {K : PySem.W.Frag} {H : Hp} {b : Addr} {t : Nat} {zs : List Str} (h : K.lookup b = some (tO t zs)) (hz : zs.length ≤ sizeLine) : SqT K H b (zs.map V.str) :=
  .inr ⟨_, (toksV t zs).toArray, _, h, rfl, rfl, by rw [List.size_toArray, toksV_len]; exact hz, vals_toks zs t⟩
def tPG (K : PySem.W.Frag) (d : Addr) (g : List Str → Option (List Str)) (to : TE) (t : TA) : TE := fun σ H Q => to σ H fun x H1 => x = .ref d ∧ t σ H1 fun ys H2 =>
  ∃ p k1 k2, ys = [.ref p] ∧ H2 p = some (.tup [.str k1, .str k2]) ∧ (g [k1, k2] = none → Q .non H2) ∧ ∀ b zs, g [k1, k2] = some zs → SqT K H2 b (zs.map V.str) → Q (.ref b) H2
variable {X : Cx}
theorem pe_pget {d : Addr} {g : List Str → Option (List Str)} {o e : Expr} {to : TE} {t : TA} {apos cpos : Pos} (hp : Parts X.prog X.w X.K d g) (hu : X.A.units + 1 < cLine) (ho : PE X o to) (ha : PA X [e] t)
    (hbase : attributeBase o "get" X.env (eval o X.env) = eval o X.env := by rfl)
    (hfew : ((backTo cpos (starEach [e] X.env)).all (fun x => !x.1) && (backToKw cpos (keywordEach [] X.env)).all (fun x => x.1.isSome)
      && decide ([e].length + ([] : List Keyword).length + (if ([] : List Keyword).isEmpty then 0 else 1) < 30)) = true := by rfl)
    (hline : (apos.endLine == cpos.line) = true := by rfl) (hs : starEach [e] X.env = (false, eval e X.env) :: starEach [] X.env := by rfl) (hplain : (backTo cpos (starEach [] X.env)).any (·.1) = false := by rfl) :
    PE X (.Call (.Attribute o "get" apos) [e] [] cpos) (tPG X.K d g to t) := by
  refine ⟨fun pins s σ H Q I h => ?_⟩
  obtain ⟨⟨xs, ob, ep, hk, hex, hdt, hks, hnd, hv⟩, hsm⟩ := hp
  refine wpAny_Call_method_late hbase hfew hline rfl (thn (ho.run pins s σ H _ I h) fun v s1 ⟨x, H1, I1, r1, ex, q1⟩ => ?_)
  subst ex
  cases (show v = Value.ref d from r1)
  refine ⟨"dict", "dict.get", PySem.F.plainAttrs_dict, PySem.F.slot_dict_get, PySem.F.type_dict_get, ⟨ob, I1.kIn d ob hk, hex.1⟩, fun a z => ?_, ?_⟩
  · cases z
    exact ⟨ob, I1.kIn _ ob hk, hex.2.1⟩
  have hA := ha.run cpos pins s1 σ H1 _ I1 q1
  rw [hs] at hA ⊢
  refine Calls.callWith_builtin (by show (false || (backTo cpos (starEach [] X.env)).any (·.1)) = false; rw [hplain] <;> rfl) (Calls.evalArgs_plain ?_)
  refine thn hA fun us s2 hh => ?_
  obtain ⟨vs, H2, I2, r2, p, k1, k2, rfl, hp2, qn, qs⟩ := hh
  obtain ⟨u, rfl, ru⟩ := Vals.one r2
  cases (show u = Value.ref p from ru)
  obtain ⟨its, rv, ⟨o', e', c', n', d'⟩, _⟩ := I2.tuple (SqT.of (K := X.K) hp2)
  obtain ⟨u1, u2, rfl, ⟨t1, rfl⟩, ⟨t2, rfl⟩⟩ := Vals.two rv
  have key : IsTupleKey (strKind X.prog X.w) s2.heap [k1, k2] p := ⟨o', _, n', e', c', d', by
    exact .cons (by show Value.isStrOf k1 (.str k1 t1) = true; simp [Value.isStrOf]) (.cons (by show Value.isStrOf k2 (.str k2 t2) = true; simp [Value.isStrOf]) .nil)⟩
  have dk : s2.heap.DictKeyed (tupleKind (strKind X.prog X.w)) d (pairsH xs) := Heap.DictKeyed.ofEntries xs (I2.kIn d ob hk) hex hdt rfl (fun x hx => by
    obtain ⟨t, ht⟩ := hks x hx
    exact ⟨_, _, _, I2.kIn _ _ ht, rfl, rfl, by simpa using items_of x.1 t⟩) hnd
  refine get_keyed (tupleKind_room_in1 hu) key hsm dk ?_
  rcases hv [k1, k2] with ⟨z1, z2⟩ | ⟨b, t, zs, z1, z2, z3, z4⟩
  · rw [z1]
    exact ⟨.non, H2, I2.tok _, rfl, qn z2⟩
  · rw [z1]
    exact ⟨.ref b, H2, I2.tok _, rfl, qs b zs z2 (tO_sqT z3 z4)⟩
end Fw

set_option Elab.async false
set_option linter.all false
set_option maxRecDepth 100000
set_option maxHeartbeats 2000000
/-! the display's objects, as Parts -/
namespace Fw
open PySem PySem.Spec PyProof.Rows L2
theorem lo_at : ∀ {L : List PK} {j t : Nat} {p : PK}, L[j]? = some p → (∃ t', (lo t L)[2 * j]? = some (tO t' (key p))) ∧ ∃ t', (lo t L)[2 * j + 1]? = some (tO t' p.2.2)
  | [], _, _, _, h => by simp at h
  | q :: L, 0, t, p, h => by
    cases Option.some.inj h
    exact ⟨⟨t, rfl⟩, ⟨t + 2, rfl⟩⟩
  | q :: L, j + 1, t, p, h => by
    obtain ⟨h1, h2⟩ := lo_at (L := L) (j := j) (t := t + q.2.2.length + 5) h
    rw [show 2 * (j + 1) = 2 * j + 1 + 1 by omega, show 2 * j + 1 + 1 + 1 = (2 * j + 1) + 1 + 1 by omega]
    exact ⟨h1, h2⟩
theorem lx_at : ∀ {L : List PK} {i : Nat} {x : List Str × Addr × Value}, x ∈ lx i L → ∃ j p, L[j]? = some p ∧ x = (key p, i + 2 * j, .ref (i + 2 * j + 1))
  | [], _, _, h => nomatch h
  | q :: L, i, x, h => by
    rcases List.mem_cons.mp h with z | z
    · exact ⟨0, q, rfl, z⟩
    · obtain ⟨j, p, h1, h2⟩ := lx_at z
      exact ⟨j + 1, p, h1, by rw [h2, show i + 2 + 2 * j = i + 2 * (j + 1) by omega]⟩
theorem find_lx (k : List Str) : ∀ (L : List PK) (i : Nat), ((pairsH (lx i L)).find? (fun kv => decide (kv.1 = k)) = none ∧ L.find? (fun p => decide (key p = k)) = none) ∨
    ∃ j p, L[j]? = some p ∧ L.find? (fun p => decide (key p = k)) = some p ∧ (pairsH (lx i L)).find? (fun kv => decide (kv.1 = k)) = some (key p, .ref (i + 2 * j + 1))
  | [], _ => .inl ⟨rfl, rfl⟩
  | q :: L, i => by
    by_cases h : key q = k
    · refine .inr ⟨0, q, rfl, ?_, ?_⟩
      · rw [List.find?_cons, decide_eq_true h]
      · show ((key q, Value.ref (i + 1)) :: pairsH (lx (i + 2) L)).find? _ = _
        rw [List.find?_cons, decide_eq_true h]
    · rcases find_lx k L (i + 2) with ⟨h1, h2⟩ | ⟨j, p, h1, h2, h3⟩
      · refine .inl ⟨?_, ?_⟩
        · show ((key q, Value.ref (i + 1)) :: pairsH (lx (i + 2) L)).find? _ = _
          rw [List.find?_cons, decide_eq_false h]
          exact h1
        · rw [List.find?_cons, decide_eq_false h]
          exact h2
      · refine .inr ⟨j + 1, p, h1, ?_, ?_⟩
        · rw [List.find?_cons, decide_eq_false h]
          exact h2
        · show ((key q, Value.ref (i + 1)) :: pairsH (lx (i + 2) L)).find? _ = _
          rw [List.find?_cons, decide_eq_false h, show i + 2 * (j + 1) + 1 = i + 2 + 2 * j + 1 by omega]
          exact h3
theorem parts_of {prog : Program} {w : World} {K : PySem.W.Frag} {m t : Nat} {L : List PK} {p : PK} (h : ∀ i o, (finObjs w prog m t L p)[i]? = some o → K.lookup (m + i) = some o) (hm : (m == sysModules) = false) (nd : ((L ++ [p]).map key).Nodup)
    (hl : ∀ x ∈ L ++ [p], x.2.2.length ≤ sizeLine) : Parts prog w K m (fun k => ((L ++ [p]).find? fun q => decide (key q = k)).map (·.2.2)) := by
  have ll : ∀ s, (lo s L).length = 2 * L.length := lo_len L
  have inL : ∀ {j : Nat} {o : Obj}, (lo t L)[j]? = some o → K.lookup (m + 1 + j) = some o := fun {j o} e => by
    have hj : j < (lo t L).length := (List.getElem?_eq_some_iff.mp e).1
    have := h (j + 1) o (by
      show ((lo t L) ++ _)[j]? = some o
      rw [List.getElem?_append_left hj]
      exact e)
    rw [show m + 1 + j = m + (j + 1) by omega]
    exact this
  have inP : ∀ {j : Nat} {o : Obj}, (lo (lt t L) [p])[j]? = some o → K.lookup (m + 1 + 2 * L.length + 1 + j) = some o := fun {j o} e => by
    have := h (2 * L.length + 1 + j + 1) o (by
      show ((lo t L) ++ _)[2 * L.length + 1 + j]? = some o
      rw [List.getElem?_append_right (by rw [ll]; omega), ll, show 2 * L.length + 1 + j - 2 * L.length = j + 1 by omega]
      exact e)
    rw [show m + 1 + 2 * L.length + 1 + j = m + (2 * L.length + 1 + j + 1) by omega]
    exact this
  refine ⟨⟨lx (m + 1) L ++ lx (m + 1 + 2 * L.length + 1) [p], _, _, h 0 _ rfl, ⟨rfl, rfl, ?_⟩, rfl, fun x hx => ?_, ?_, fun k => ?_⟩, hm⟩
  · rfl
  · rcases List.mem_append.mp hx with z | z
    · obtain ⟨j, q, h1, rfl⟩ := lx_at z
      obtain ⟨⟨t', h2⟩, _⟩ := lo_at (t := t) h1
      exact ⟨t', inL h2⟩
    · obtain ⟨j, q, h1, rfl⟩ := lx_at z
      obtain ⟨⟨t', h2⟩, _⟩ := lo_at (t := lt t L) h1
      exact ⟨t', inP h2⟩
  · rw [List.map_append, lx_keys, lx_keys, ← List.map_append]
    exact nd
  · have val : ∀ {j : Nat} {q : PK}, L[j]? = some q → ∃ t', K.lookup (m + 1 + 2 * j + 1) = some (tO t' q.2.2) := fun {j q} e => by
      obtain ⟨_, t', h2⟩ := lo_at (t := t) e
      exact ⟨t', inL h2⟩
    have e1 : pairsH (lx (m + 1) L ++ lx (m + 1 + 2 * L.length + 1) [p]) = pairsH (lx (m + 1) L) ++ pairsH (lx (m + 1 + 2 * L.length + 1) [p]) := List.map_append
    unfold valueAt
    rw [e1, List.find?_append, List.find?_append]
    rcases find_lx k L (m + 1) with ⟨h1, h2⟩ | ⟨j, q, h1, h2, h3⟩
    · rw [h1, h2]
      rcases find_lx k [p] (m + 1 + 2 * L.length + 1) with ⟨h3, h4⟩ | ⟨j, q, h3, h4, h5⟩
      · rw [h3, h4]
        exact .inl ⟨rfl, rfl⟩
      · rw [h4, h5]
        obtain ⟨_, t', h6⟩ := lo_at (t := lt t L) h3
        exact .inr ⟨_, t', _, rfl, rfl, inP h6, hl q (List.mem_append.mpr (.inr (List.mem_of_getElem? h3)))⟩
    · rw [h2, h3]
      obtain ⟨t', ht'⟩ := val h1
      exact .inr ⟨_, t', _, rfl, rfl, ht', hl q (List.mem_append.mpr (.inl (List.mem_of_getElem? h1)))⟩
end Fw

open PySem PySem.W PyProof.Rows
set_option Elab.async false
set_option linter.all false
set_option maxRecDepth 100000
set_option maxHeartbeats 8000000
namespace Fd
open PySem PySem.Spec PyProof.Rows L2 RZ Fw LamX
theorem law_mk {w : World} {h : Heap} {mg : Str → Option Value} {fa : Addr} (Y : (Fw.hookV Kk23.fa Kk23.fn Kk23.ck Kk23.tf Kk23.as 444 Kk23.objs).says w h) (G : h.Ns mainGlobals mg) (hfa : mg "law" = some (.ref fa)) :
    ∃ (K : PySem.W.Frag) (fd : FuncData) (c0 T : Addr), K.In h ∧ K.lookup T = none ∧ h.get? T = some { cls := .none, data := .fields #[] } ∧ PySem.W.CodeHd h c0 T ∧ Fun K "law" "law" sLaw fa fd ∧ (∀ (s : Shared) (v : Value), BindsTo s fd ⟨[v], []⟩ [("_law_script", v)]) ∧ ∀ base : Heap, K.In base → base.Ns mainGlobals mg → TabB base mg c0 T → LawD PySem.Challenge.rw_figuredeeds_k23_known_grounds.prog w K mg base T 40 := by
  obtain ⟨K, X, c, hob⟩ := Y
  have hck := c.ck
  obtain ⟨oc_is_number, od_is_number, osl_is_number, kV_is_number, dc_is_number, pm_is_number, an_is_number, cd_is_number, ct_is_number, l_is_number, e_is_number⟩ := c.e.def_ 1
  have F_is_number := fun_mk (x := "is_number") (qual := "is_number") (st := Fv.sIsNum) (f := (He.ga K "is_number")) l_is_number e_is_number (He.keep_ok (c.e.fact 3))
  have D_is_number : Df K mg "is_number" Fv.sIsNum ["thing"] (He.ga K "is_number") _ := ⟨F_is_number, He.glo_ok X G (c.e.fact 2), F_is_number.binds fun _ _ _ _ _ _ us hl => match us, hl with | [_], _ => rfl⟩
  obtain ⟨oc_is_value, od_is_value, osl_is_value, kV_is_value, dc_is_value, pm_is_value, an_is_value, cd_is_value, ct_is_value, l_is_value, e_is_value⟩ := c.e.def_ 2
  have F_is_value := fun_mk (x := "is_value") (qual := "is_value") (st := Fv.sIsVal) (f := (He.ga K "is_value")) l_is_value e_is_value (He.keep_ok (c.e.fact 5))
  have D_is_value : Df K mg "is_value" Fv.sIsVal ["thing"] (He.ga K "is_value") _ := ⟨F_is_value, He.glo_ok X G (c.e.fact 4), F_is_value.binds fun _ _ _ _ _ _ us hl => match us, hl with | [_], _ => rfl⟩
  obtain ⟨oc_plus, od_plus, osl_plus, kV_plus, dc_plus, pm_plus, an_plus, cd_plus, ct_plus, l_plus, e_plus⟩ := c.e.def_ 3
  have F_plus := fun_mk (x := "plus") (qual := "plus") (st := Fv.sPlus) (f := (He.ga K "plus")) l_plus e_plus (He.keep_ok (c.e.fact 7))
  have D_plus : Df K mg "plus" Fv.sPlus ["first", "second"] (He.ga K "plus") _ := ⟨F_plus, He.glo_ok X G (c.e.fact 6), F_plus.binds fun _ _ _ _ _ _ us hl => match us, hl with | [_, _], _ => rfl⟩
  obtain ⟨oc_minus, od_minus, osl_minus, kV_minus, dc_minus, pm_minus, an_minus, cd_minus, ct_minus, l_minus, e_minus⟩ := c.e.def_ 4
  have F_minus := fun_mk (x := "minus") (qual := "minus") (st := Fv.sMinus) (f := (He.ga K "minus")) l_minus e_minus (He.keep_ok (c.e.fact 9))
  have D_minus : Df K mg "minus" Fv.sMinus ["first", "second"] (He.ga K "minus") _ := ⟨F_minus, He.glo_ok X G (c.e.fact 8), F_minus.binds fun _ _ _ _ _ _ us hl => match us, hl with | [_, _], _ => rfl⟩
  obtain ⟨oc_by, od_by, osl_by, kV_by, dc_by, pm_by, an_by, cd_by, ct_by, l_by, e_by⟩ := c.e.def_ 5
  have F_by := fun_mk (x := "by") (qual := "by") (st := Fv.sBy) (f := (He.ga K "by")) l_by e_by (He.keep_ok (c.e.fact 11))
  have D_by : Df K mg "by" Fv.sBy ["first", "second"] (He.ga K "by") _ := ⟨F_by, He.glo_ok X G (c.e.fact 10), F_by.binds fun _ _ _ _ _ _ us hl => match us, hl with | [_, _], _ => rfl⟩
  obtain ⟨oc_over, od_over, osl_over, kV_over, dc_over, pm_over, an_over, cd_over, ct_over, l_over, e_over⟩ := c.e.def_ 6
  have F_over := fun_mk (x := "over") (qual := "over") (st := Fv.sOver) (f := (He.ga K "over")) l_over e_over (He.keep_ok (c.e.fact 13))
  have D_over : Df K mg "over" Fv.sOver ["first", "second"] (He.ga K "over") _ := ⟨F_over, He.glo_ok X G (c.e.fact 12), F_over.binds fun _ _ _ _ _ _ us hl => match us, hl with | [_, _], _ => rfl⟩
  obtain ⟨oc_rest, od_rest, osl_rest, kV_rest, dc_rest, pm_rest, an_rest, cd_rest, ct_rest, l_rest, e_rest⟩ := c.e.def_ 7
  have F_rest := fun_mk (x := "rest") (qual := "rest") (st := Fv.sRest) (f := (He.ga K "rest")) l_rest e_rest (He.keep_ok (c.e.fact 15))
  have D_rest : Df K mg "rest" Fv.sRest ["first", "second"] (He.ga K "rest") _ := ⟨F_rest, He.glo_ok X G (c.e.fact 14), F_rest.binds fun _ _ _ _ _ _ us hl => match us, hl with | [_, _], _ => rfl⟩
  obtain ⟨oc_value_of, od_value_of, osl_value_of, kV_value_of, dc_value_of, pm_value_of, an_value_of, cd_value_of, ct_value_of, l_value_of, e_value_of⟩ := c.e.def_ 8
  have F_value_of := fun_mk (x := "value_of") (qual := "value_of") (st := Fv.sVal) (f := (He.ga K "value_of")) l_value_of e_value_of (He.keep_ok (c.e.fact 17))
  have D_value_of : Df K mg "value_of" Fv.sVal ["look", "eyes"] (He.ga K "value_of") _ := ⟨F_value_of, He.glo_ok X G (c.e.fact 16), F_value_of.binds fun _ _ _ _ _ _ us hl => match us, hl with | [_, _], _ => rfl⟩
  obtain ⟨oc_outcome, od_outcome, osl_outcome, kV_outcome, dc_outcome, pm_outcome, an_outcome, cd_outcome, ct_outcome, l_outcome, e_outcome⟩ := c.e.def_ 9
  have F_outcome := fun_mk (x := "outcome") (qual := "outcome") (st := Fv.sOut) (f := (He.ga K "outcome")) l_outcome e_outcome (He.keep_ok (c.e.fact 19))
  have D_outcome : Df K mg "outcome" Fv.sOut ["look", "eyes"] (He.ga K "outcome") _ := ⟨F_outcome, He.glo_ok X G (c.e.fact 18), F_outcome.binds fun _ _ _ _ _ _ us hl => match us, hl with | [_, _], _ => rfl⟩
  obtain ⟨oc_first_of, od_first_of, osl_first_of, kV_first_of, dc_first_of, pm_first_of, an_first_of, cd_first_of, ct_first_of, l_first_of, e_first_of⟩ := c.e.def_ 10
  have F_first_of := fun_mk (x := "first_of") (qual := "first_of") (st := Fv.sFirst) (f := (He.ga K "first_of")) l_first_of e_first_of (He.keep_ok (c.e.fact 21))
  have D_first_of : Df K mg "first_of" Fv.sFirst ["pairs", "name"] (He.ga K "first_of") _ := ⟨F_first_of, He.glo_ok X G (c.e.fact 20), F_first_of.binds fun _ _ _ _ _ _ us hl => match us, hl with | [_, _], _ => rfl⟩
  obtain ⟨oc_place_in, od_place_in, osl_place_in, kV_place_in, dc_place_in, pm_place_in, an_place_in, cd_place_in, ct_place_in, l_place_in, e_place_in⟩ := c.e.def_ 11
  have F_place_in := fun_mk (x := "place_in") (qual := "place_in") (st := Fv.sPlace) (f := (He.ga K "place_in")) l_place_in e_place_in (He.keep_ok (c.e.fact 23))
  have D_place_in : Df K mg "place_in" Fv.sPlace ["row", "place"] (He.ga K "place_in") _ := ⟨F_place_in, He.glo_ok X G (c.e.fact 22), F_place_in.binds fun _ _ _ _ _ _ us hl => match us, hl with | [_, _], _ => rfl⟩
  obtain ⟨oc_set_number, od_set_number, osl_set_number, kV_set_number, dc_set_number, pm_set_number, an_set_number, cd_set_number, ct_set_number, l_set_number, e_set_number⟩ := c.e.def_ 12
  have F_set_number := fun_mk (x := "set_number") (qual := "set_number") (st := sSetN) (f := (He.ga K "set_number")) l_set_number e_set_number (He.keep_ok (c.e.fact 25))
  have D_set_number : Df K mg "set_number" sSetN ["numbers", "name", "value"] (He.ga K "set_number") _ := ⟨F_set_number, He.glo_ok X G (c.e.fact 24), F_set_number.binds fun _ _ _ _ _ _ us hl => match us, hl with | [_, _, _], _ => rfl⟩
  obtain ⟨oc_add_number, od_add_number, osl_add_number, kV_add_number, dc_add_number, pm_add_number, an_add_number, cd_add_number, ct_add_number, l_add_number, e_add_number⟩ := c.e.def_ 13
  have F_add_number := fun_mk (x := "add_number") (qual := "add_number") (st := sAddN) (f := (He.ga K "add_number")) l_add_number e_add_number (He.keep_ok (c.e.fact 27))
  have D_add_number : Df K mg "add_number" sAddN ["numbers", "name", "value"] (He.ga K "add_number") _ := ⟨F_add_number, He.glo_ok X G (c.e.fact 26), F_add_number.binds fun _ _ _ _ _ _ us hl => match us, hl with | [_, _, _], _ => rfl⟩
  obtain ⟨oc_put_value, od_put_value, osl_put_value, kV_put_value, dc_put_value, pm_put_value, an_put_value, cd_put_value, ct_put_value, l_put_value, e_put_value⟩ := c.e.def_ 14
  have F_put_value := fun_mk (x := "put_value") (qual := "put_value") (st := sPutV) (f := (He.ga K "put_value")) l_put_value e_put_value (He.keep_ok (c.e.fact 29))
  have D_put_value : Df K mg "put_value" sPutV ["row", "values"] (He.ga K "put_value") _ := ⟨F_put_value, He.glo_ok X G (c.e.fact 28), F_put_value.binds fun _ _ _ _ _ _ us hl => match us, hl with | [_, _], _ => rfl⟩
  obtain ⟨oc_drop_value, od_drop_value, osl_drop_value, kV_drop_value, dc_drop_value, pm_drop_value, an_drop_value, cd_drop_value, ct_drop_value, l_drop_value, e_drop_value⟩ := c.e.def_ 15
  have F_drop_value := fun_mk (x := "drop_value") (qual := "drop_value") (st := sDropV) (f := (He.ga K "drop_value")) l_drop_value e_drop_value (He.keep_ok (c.e.fact 31))
  have D_drop_value : Df K mg "drop_value" sDropV ["row", "values"] (He.ga K "drop_value") _ := ⟨F_drop_value, He.glo_ok X G (c.e.fact 30), F_drop_value.binds fun _ _ _ _ _ _ us hl => match us, hl with | [_, _], _ => rfl⟩
  obtain ⟨oc_write_value, od_write_value, osl_write_value, kV_write_value, dc_write_value, pm_write_value, an_write_value, cd_write_value, ct_write_value, l_write_value, e_write_value⟩ := c.e.def_ 16
  have F_write_value := fun_mk (x := "write_value") (qual := "write_value") (st := sWriteV) (f := (He.ga K "write_value")) l_write_value e_write_value (He.keep_ok (c.e.fact 33))
  have D_write_value : Df K mg "write_value" sWriteV ["row", "values"] (He.ga K "write_value") _ := ⟨F_write_value, He.glo_ok X G (c.e.fact 32), F_write_value.binds fun _ _ _ _ _ _ us hl => match us, hl with | [_, _], _ => rfl⟩
  obtain ⟨oc_moved, od_moved, osl_moved, kV_moved, dc_moved, pm_moved, an_moved, cd_moved, ct_moved, l_moved, e_moved⟩ := c.e.def_ 17
  have F_moved := fun_mk (x := "moved") (qual := "moved") (st := sMv) (f := (He.ga K "moved")) l_moved e_moved (He.keep_ok (c.e.fact 35))
  have D_moved : Df K mg "moved" sMv ["spot", "values"] (He.ga K "moved") _ := ⟨F_moved, He.glo_ok X G (c.e.fact 34), F_moved.binds fun _ _ _ _ _ _ us hl => match us, hl with | [_, _], _ => rfl⟩
  obtain ⟨oc_turned, od_turned, osl_turned, kV_turned, dc_turned, pm_turned, an_turned, cd_turned, ct_turned, l_turned, e_turned⟩ := c.e.def_ 18
  have F_turned := fun_mk (x := "turned") (qual := "turned") (st := sTurn) (f := (He.ga K "turned")) l_turned e_turned (He.keep_ok (c.e.fact 37))
  have D_turned : Df K mg "turned" sTurn ["spot", "values"] (He.ga K "turned") _ := ⟨F_turned, He.glo_ok X G (c.e.fact 36), F_turned.binds fun _ _ _ _ _ _ us hl => match us, hl with | [_, _], _ => rfl⟩
  obtain ⟨oc_placed, od_placed, osl_placed, kV_placed, dc_placed, pm_placed, an_placed, cd_placed, ct_placed, l_placed, e_placed⟩ := c.e.def_ 19
  have F_placed := fun_mk (x := "placed") (qual := "placed") (st := sPlc) (f := (He.ga K "placed")) l_placed e_placed (He.keep_ok (c.e.fact 39))
  have D_placed : Df K mg "placed" sPlc ["spot", "values"] (He.ga K "placed") _ := ⟨F_placed, He.glo_ok X G (c.e.fact 38), F_placed.binds fun _ _ _ _ _ _ us hl => match us, hl with | [_, _], _ => rfl⟩
  obtain ⟨oc_nearest, od_nearest, osl_nearest, kV_nearest, dc_nearest, pm_nearest, an_nearest, cd_nearest, ct_nearest, l_nearest, e_nearest⟩ := c.e.def_ 20
  have F_nearest := fun_mk (x := "nearest") (qual := "nearest") (st := sNear) (f := (He.ga K "nearest")) l_nearest e_nearest (He.keep_ok (c.e.fact 41))
  have D_nearest : Df K mg "nearest" sNear ["place", "many"] (He.ga K "nearest") _ := ⟨F_nearest, He.glo_ok X G (c.e.fact 40), F_nearest.binds fun _ _ _ _ _ _ us hl => match us, hl with | [_, _], _ => rfl⟩
  obtain ⟨oc__law_box, od__law_box, osl__law_box, kV__law_box, dc__law_box, pm__law_box, an__law_box, cd__law_box, ct__law_box, l__law_box, e__law_box⟩ := c.e.def_ 21
  have F__law_box := fun_mk (x := "_law_box") (qual := "_law_box") (st := sBox) (f := (He.ga K "_law_box")) l__law_box e__law_box (He.keep_ok (c.e.fact 43))
  have D__law_box : Df K mg "_law_box" sBox ["_law_script", "_law_k"] (He.ga K "_law_box") _ := ⟨F__law_box, He.glo_ok X G (c.e.fact 42), F__law_box.binds fun _ _ _ _ _ _ us hl => match us, hl with | [_, _], _ => rfl⟩
  obtain ⟨oc__law_take, od__law_take, osl__law_take, kV__law_take, dc__law_take, pm__law_take, an__law_take, cd__law_take, ct__law_take, l__law_take, e__law_take⟩ := c.e.def_ 22
  have F__law_take := fun_mk (x := "_law_take") (qual := "_law_take") (st := sTake) (f := (He.ga K "_law_take")) l__law_take e__law_take (He.keep_ok (c.e.fact 45))
  have D__law_take : Df K mg "_law_take" sTake ["_law_box_here", "_law_many"] (He.ga K "_law_take") _ := ⟨F__law_take, He.glo_ok X G (c.e.fact 44), F__law_take.binds fun _ _ _ _ _ _ us hl => match us, hl with | [_, _], _ => rfl⟩
  obtain ⟨oc__law_names, od__law_names, osl__law_names, kV__law_names, dc__law_names, pm__law_names, an__law_names, cd__law_names, ct__law_names, l__law_names, e__law_names⟩ := c.e.def_ 23
  have F__law_names := fun_mk (x := "_law_names") (qual := "_law_names") (st := sNames) (f := (He.ga K "_law_names")) l__law_names e__law_names (He.keep_ok (c.e.fact 47))
  have D__law_names : Df K mg "_law_names" sNames ["_law_box_here", "_law_many"] (He.ga K "_law_names") _ := ⟨F__law_names, He.glo_ok X G (c.e.fact 46), F__law_names.binds fun _ _ _ _ _ _ us hl => match us, hl with | [_, _], _ => rfl⟩
  obtain ⟨oc__law_same, od__law_same, osl__law_same, kV__law_same, dc__law_same, pm__law_same, an__law_same, cd__law_same, ct__law_same, l__law_same, e__law_same⟩ := c.e.def_ 24
  have F__law_same := fun_mk (x := "_law_same") (qual := "_law_same") (st := sSame) (f := (He.ga K "_law_same")) l__law_same e__law_same (He.keep_ok (c.e.fact 49))
  have D__law_same : Df K mg "_law_same" sSame ["_law_found", "_law_due"] (He.ga K "_law_same") _ := ⟨F__law_same, He.glo_ok X G (c.e.fact 48), F__law_same.binds fun _ _ _ _ _ _ us hl => match us, hl with | [_, _], _ => rfl⟩
  obtain ⟨oc__law_fell, od__law_fell, osl__law_fell, kV__law_fell, dc__law_fell, pm__law_fell, an__law_fell, cd__law_fell, ct__law_fell, l__law_fell, e__law_fell⟩ := c.e.def_ 25
  have F__law_fell := fun_mk (x := "_law_fell") (qual := "_law_fell") (st := sFe) (f := (He.ga K "_law_fell")) l__law_fell e__law_fell (He.keep_ok (c.e.fact 51))
  have D__law_fell : Df K mg "_law_fell" sFe ["_law_ground", "_law_who", "_law_deed"] (He.ga K "_law_fell") _ := ⟨F__law_fell, He.glo_ok X G (c.e.fact 50), F__law_fell.binds fun _ _ _ _ _ _ us hl => match us, hl with | [_, _, _], _ => rfl⟩
  obtain ⟨oc__law_moves_right, od__law_moves_right, osl__law_moves_right, kV__law_moves_right, dc__law_moves_right, pm__law_moves_right, an__law_moves_right, cd__law_moves_right, ct__law_moves_right, l__law_moves_right, e__law_moves_right⟩ := c.e.def_ 26
  have F__law_moves_right := fun_mk (x := "_law_moves_right") (qual := "_law_moves_right") (st := sMr) (f := (He.ga K "_law_moves_right")) l__law_moves_right e__law_moves_right (He.keep_ok (c.e.fact 53))
  have D__law_moves_right : Df K mg "_law_moves_right" sMr ["_law_ground", "_law_a", "_law_b"] (He.ga K "_law_moves_right") _ := ⟨F__law_moves_right, He.glo_ok X G (c.e.fact 52), F__law_moves_right.binds fun _ _ _ _ _ _ us hl => match us, hl with | [_, _, _], _ => rfl⟩
  obtain ⟨oc__law_names_right, od__law_names_right, osl__law_names_right, kV__law_names_right, dc__law_names_right, pm__law_names_right, an__law_names_right, cd__law_names_right, ct__law_names_right, l__law_names_right, e__law_names_right⟩ := c.e.def_ 27
  have F__law_names_right := fun_mk (x := "_law_names_right") (qual := "_law_names_right") (st := sNr) (f := (He.ga K "_law_names_right")) l__law_names_right e__law_names_right (He.keep_ok (c.e.fact 55))
  have D__law_names_right : Df K mg "_law_names_right" sNr ["_law_ground", "_law_a", "_law_b", "_law_name", "_law_row", "_law_more"] (He.ga K "_law_names_right") _ := ⟨F__law_names_right, He.glo_ok X G (c.e.fact 54), F__law_names_right.binds fun _ _ _ _ _ _ us hl => match us, hl with | [_, _, _, _, _, _], _ => rfl⟩
  obtain ⟨oc__law_copies_right, od__law_copies_right, osl__law_copies_right, kV__law_copies_right, dc__law_copies_right, pm__law_copies_right, an__law_copies_right, cd__law_copies_right, ct__law_copies_right, l__law_copies_right, e__law_copies_right⟩ := c.e.def_ 28
  have F__law_copies_right := fun_mk (x := "_law_copies_right") (qual := "_law_copies_right") (st := sCr) (f := (He.ga K "_law_copies_right")) l__law_copies_right e__law_copies_right (He.keep_ok (c.e.fact 57))
  have D__law_copies_right : Df K mg "_law_copies_right" sCr ["_law_ground", "_law_a", "_law_b", "_law_name"] (He.ga K "_law_copies_right") _ := ⟨F__law_copies_right, He.glo_ok X G (c.e.fact 56), F__law_copies_right.binds fun _ _ _ _ _ _ us hl => match us, hl with | [_, _, _, _], _ => rfl⟩
  obtain ⟨oc__law_right, od__law_right, osl__law_right, kV__law_right, dc__law_right, pm__law_right, an__law_right, cd__law_right, ct__law_right, l__law_right, e__law_right⟩ := c.e.def_ 29
  have F__law_right := fun_mk (x := "_law_right") (qual := "_law_right") (st := sRi) (f := (He.ga K "_law_right")) l__law_right e__law_right (He.keep_ok (c.e.fact 59))
  have D__law_right : Df K mg "_law_right" sRi ["_law_box_here"] (He.ga K "_law_right") _ := ⟨F__law_right, He.glo_ok X G (c.e.fact 58), F__law_right.binds fun _ _ _ _ _ _ us hl => match us, hl with | [_], _ => rfl⟩
  obtain ⟨oc_law, od_law, osl_law, kV_law, dc_law, pm_law, an_law, cd_law, ct_law, l_law, e_law⟩ := c.e.def_ 30
  have F_law := fun_mk (x := "law") (qual := "law") (st := sLaw) (f := (He.ga K "law")) l_law e_law (He.keep_ok (c.e.fact 61))
  obtain ⟨oc_H___init__, od_H___init__, osl_H___init__, kV_H___init__, dc_H___init__, pm_H___init__, an_H___init__, cd_H___init__, ct_H___init__, l_H___init__, e_H___init__⟩ := c.e.def_ 32
  have F_H___init__ := fun_mk (x := "__init__") (qual := "Holding.__init__") (st := sHI) (f := (He.ma K (He.ga K "Holding") "__init__")) l_H___init__ e_H___init__ (He.meth_ok (c.e.fact 112)).kp
  have B_H___init__ : Binds K _ ["self", "names", "lists"] [] := F_H___init__.binds fun _ _ _ _ _ _ us hl => match us, hl with | [_, _, _], _ => rfl
  obtain ⟨oc_H_name_pairs, od_H_name_pairs, osl_H_name_pairs, kV_H_name_pairs, dc_H_name_pairs, pm_H_name_pairs, an_H_name_pairs, cd_H_name_pairs, ct_H_name_pairs, l_H_name_pairs, e_H_name_pairs⟩ := c.e.def_ 33
  have F_H_name_pairs := fun_mk (x := "name_pairs") (qual := "Holding.name_pairs") (st := sHN) (f := (He.ma K (He.ga K "Holding") "name_pairs")) l_H_name_pairs e_H_name_pairs (He.meth_ok (c.e.fact 83)).kp
  have B_H_name_pairs : Binds K _ ["self"] [] := F_H_name_pairs.binds fun _ _ _ _ _ _ us hl => match us, hl with | [_], _ => rfl
  have M_H_name_pairs := He.meth_ok (c.e.fact 83)
  obtain ⟨oc_H_list_pairs, od_H_list_pairs, osl_H_list_pairs, kV_H_list_pairs, dc_H_list_pairs, pm_H_list_pairs, an_H_list_pairs, cd_H_list_pairs, ct_H_list_pairs, l_H_list_pairs, e_H_list_pairs⟩ := c.e.def_ 34
  have F_H_list_pairs := fun_mk (x := "list_pairs") (qual := "Holding.list_pairs") (st := sHL) (f := (He.ma K (He.ga K "Holding") "list_pairs")) l_H_list_pairs e_H_list_pairs (He.meth_ok (c.e.fact 84)).kp
  have B_H_list_pairs : Binds K _ ["self"] [] := F_H_list_pairs.binds fun _ _ _ _ _ _ us hl => match us, hl with | [_], _ => rfl
  have M_H_list_pairs := He.meth_ok (c.e.fact 84)
  obtain ⟨oc_H_again, od_H_again, osl_H_again, kV_H_again, dc_H_again, pm_H_again, an_H_again, cd_H_again, ct_H_again, l_H_again, e_H_again⟩ := c.e.def_ 35
  have F_H_again := fun_mk (x := "again") (qual := "Holding.again") (st := sHA) (f := (He.ma K (He.ga K "Holding") "again")) l_H_again e_H_again (He.meth_ok (c.e.fact 85)).kp
  have B_H_again : Binds K _ ["self"] [] := F_H_again.binds fun _ _ _ _ _ _ us hl => match us, hl with | [_], _ => rfl
  have M_H_again := He.meth_ok (c.e.fact 85)
  obtain ⟨oc_G___init__, od_G___init__, osl_G___init__, kV_G___init__, dc_G___init__, pm_G___init__, an_G___init__, cd_G___init__, ct_G___init__, l_G___init__, e_G___init__⟩ := c.e.def_ 36
  have F_G___init__ := fun_mk (x := "__init__") (qual := "Ground.__init__") (st := sGI) (f := (He.ma K (He.ga K "Ground") "__init__")) l_G___init__ e_G___init__ (He.meth_ok (c.e.fact 113)).kp
  have B_G___init__ : Binds K _ ["self", "play"] [] := F_G___init__.binds fun _ _ _ _ _ _ us hl => match us, hl with | [_, _], _ => rfl
  obtain ⟨oc_G___len__, od_G___len__, osl_G___len__, kV_G___len__, dc_G___len__, pm_G___len__, an_G___len__, cd_G___len__, ct_G___len__, l_G___len__, e_G___len__⟩ := c.e.def_ 37
  have F_G___len__ := fun_mk (x := "__len__") (qual := "Ground.__len__") (st := sGL) (f := (He.ma K (He.ga K "Ground") "__len__")) l_G___len__ e_G___len__ (He.meth_ok (c.e.fact 89)).kp
  have B_G___len__ : Binds K _ ["self"] [] := F_G___len__.binds fun _ _ _ _ _ _ us hl => match us, hl with | [_], _ => rfl
  have M_G___len__ := He.meth_ok (c.e.fact 89)
  obtain ⟨oc_G_give, od_G_give, osl_G_give, kV_G_give, dc_G_give, pm_G_give, an_G_give, cd_G_give, ct_G_give, l_G_give, e_G_give⟩ := c.e.def_ 41
  have F_G_give := fun_mk (x := "give") (qual := "Ground.give") (st := sGv) (f := (He.ma K (He.ga K "Ground") "give")) l_G_give e_G_give (He.meth_ok (c.e.fact 93)).kp
  have B_G_give : Binds K _ ["self", "one", "ground", "new"] [] := F_G_give.binds fun _ _ _ _ _ _ us hl => match us, hl with | [_, _, _, _], _ => rfl
  have M_G_give := He.meth_ok (c.e.fact 93)
  obtain ⟨oc_G_ones, od_G_ones, osl_G_ones, kV_G_ones, dc_G_ones, pm_G_ones, an_G_ones, cd_G_ones, ct_G_ones, l_G_ones, e_G_ones⟩ := c.e.def_ 42
  have F_G_ones := fun_mk (x := "ones") (qual := "Ground.ones") (st := sGO) (f := (He.ma K (He.ga K "Ground") "ones")) l_G_ones e_G_ones (He.meth_ok (c.e.fact 94)).kp
  have B_G_ones : Binds K _ ["self"] [] := F_G_ones.binds fun _ _ _ _ _ _ us hl => match us, hl with | [_], _ => rfl
  have M_G_ones := He.meth_ok (c.e.fact 94)
  obtain ⟨oc_G_spot, od_G_spot, osl_G_spot, kV_G_spot, dc_G_spot, pm_G_spot, an_G_spot, cd_G_spot, ct_G_spot, l_G_spot, e_G_spot⟩ := c.e.def_ 43
  have F_G_spot := fun_mk (x := "spot") (qual := "Ground.spot") (st := sGS) (f := (He.ma K (He.ga K "Ground") "spot")) l_G_spot e_G_spot (He.meth_ok (c.e.fact 95)).kp
  have B_G_spot : Binds K _ ["self", "one"] [] := F_G_spot.binds fun _ _ _ _ _ _ us hl => match us, hl with | [_, _], _ => rfl
  have M_G_spot := He.meth_ok (c.e.fact 95)
  obtain ⟨oc_G_is_shown, od_G_is_shown, osl_G_is_shown, kV_G_is_shown, dc_G_is_shown, pm_G_is_shown, an_G_is_shown, cd_G_is_shown, ct_G_is_shown, l_G_is_shown, e_G_is_shown⟩ := c.e.def_ 44
  have F_G_is_shown := fun_mk (x := "is_shown") (qual := "Ground.is_shown") (st := sGW) (f := (He.ma K (He.ga K "Ground") "is_shown")) l_G_is_shown e_G_is_shown (He.meth_ok (c.e.fact 96)).kp
  have B_G_is_shown : Binds K _ ["self", "one"] [] := F_G_is_shown.binds fun _ _ _ _ _ _ us hl => match us, hl with | [_, _], _ => rfl
  have M_G_is_shown := He.meth_ok (c.e.fact 96)
  obtain ⟨oc_G_names, od_G_names, osl_G_names, kV_G_names, dc_G_names, pm_G_names, an_G_names, cd_G_names, ct_G_names, l_G_names, e_G_names⟩ := c.e.def_ 45
  have F_G_names := fun_mk (x := "names") (qual := "Ground.names") (st := sGN) (f := (He.ma K (He.ga K "Ground") "names")) l_G_names e_G_names (He.meth_ok (c.e.fact 97)).kp
  have M_G_names := He.meth_ok (c.e.fact 97)
  obtain ⟨oc_G_lists, od_G_lists, osl_G_lists, kV_G_lists, dc_G_lists, pm_G_lists, an_G_lists, cd_G_lists, ct_G_lists, l_G_lists, e_G_lists⟩ := c.e.def_ 46
  have F_G_lists := fun_mk (x := "lists") (qual := "Ground.lists") (st := sGR) (f := (He.ma K (He.ga K "Ground") "lists")) l_G_lists e_G_lists (He.meth_ok (c.e.fact 98)).kp
  have M_G_lists := He.meth_ok (c.e.fact 98)
  obtain ⟨oc_G_held_by, od_G_held_by, osl_G_held_by, kV_G_held_by, dc_G_held_by, pm_G_held_by, an_G_held_by, cd_G_held_by, ct_G_held_by, l_G_held_by, e_G_held_by⟩ := c.e.def_ 47
  have F_G_held_by := fun_mk (x := "held_by") (qual := "Ground.held_by") (st := sGB) (f := (He.ma K (He.ga K "Ground") "held_by")) l_G_held_by e_G_held_by (He.meth_ok (c.e.fact 99)).kp
  have B_G_held_by : Binds K _ ["self", "one"] [] := F_G_held_by.binds fun _ _ _ _ _ _ us hl => match us, hl with | [_, _], _ => rfl
  have M_G_held_by := He.meth_ok (c.e.fact 99)
  obtain ⟨oc_G_met, od_G_met, osl_G_met, kV_G_met, dc_G_met, pm_G_met, an_G_met, cd_G_met, ct_G_met, l_G_met, e_G_met⟩ := c.e.def_ 48
  have F_G_met := fun_mk (x := "met") (qual := "Ground.met") (st := sGM) (f := (He.ma K (He.ga K "Ground") "met")) l_G_met e_G_met (He.meth_ok (c.e.fact 100)).kp
  have B_G_met : Binds K _ ["self", "one"] [] := F_G_met.binds fun _ _ _ _ _ _ us hl => match us, hl with | [_, _], _ => rfl
  have M_G_met := He.meth_ok (c.e.fact 100)
  obtain ⟨oc_G_eyes, od_G_eyes, osl_G_eyes, kV_G_eyes, dc_G_eyes, pm_G_eyes, an_G_eyes, cd_G_eyes, ct_G_eyes, l_G_eyes, e_G_eyes⟩ := c.e.def_ 49
  have F_G_eyes := fun_mk (x := "eyes") (qual := "Ground.eyes") (st := sGE) (f := (He.ma K (He.ga K "Ground") "eyes")) l_G_eyes e_G_eyes (He.meth_ok (c.e.fact 101)).kp
  have M_G_eyes := He.meth_ok (c.e.fact 101)
  obtain ⟨oc_G_copy, od_G_copy, osl_G_copy, kV_G_copy, dc_G_copy, pm_G_copy, an_G_copy, cd_G_copy, ct_G_copy, l_G_copy, e_G_copy⟩ := c.e.def_ 50
  have F_G_copy := fun_mk (x := "copy") (qual := "Ground.copy") (st := sGC) (f := (He.ma K (He.ga K "Ground") "copy")) l_G_copy e_G_copy (He.meth_ok (c.e.fact 102)).kp
  have B_G_copy : Binds K _ ["self", "one"] [] := F_G_copy.binds fun _ _ _ _ _ _ us hl => match us, hl with | [_, _], _ => rfl
  have M_G_copy := He.meth_ok (c.e.fact 102)
  obtain ⟨oc_G_end, od_G_end, osl_G_end, kV_G_end, dc_G_end, pm_G_end, an_G_end, cd_G_end, ct_G_end, l_G_end, e_G_end⟩ := c.e.def_ 51
  have F_G_end := fun_mk (x := "end") (qual := "Ground.end") (st := sEn) (f := (He.ma K (He.ga K "Ground") "end")) l_G_end e_G_end (He.meth_ok (c.e.fact 103)).kp
  have B_G_end : Binds K _ ["self", "one"] [] := F_G_end.binds fun _ _ _ _ _ _ us hl => match us, hl with | [_, _], _ => rfl
  have M_G_end := He.meth_ok (c.e.fact 103)
  obtain ⟨oc_G_do, od_G_do, osl_G_do, kV_G_do, dc_G_do, pm_G_do, an_G_do, cd_G_do, ct_G_do, l_G_do, e_G_do⟩ := c.e.def_ 52
  have F_G_do := fun_mk (x := "do") (qual := "Ground.do") (st := sDo) (f := (He.ma K (He.ga K "Ground") "do")) l_G_do e_G_do (He.meth_ok (c.e.fact 104)).kp
  have M_G_do := He.meth_ok (c.e.fact 104)
  obtain ⟨oc_G_change_spot, od_G_change_spot, osl_G_change_spot, kV_G_change_spot, dc_G_change_spot, pm_G_change_spot, an_G_change_spot, cd_G_change_spot, ct_G_change_spot, l_G_change_spot, e_G_change_spot⟩ := c.e.def_ 53
  have F_G_change_spot := fun_mk (x := "change_spot") (qual := "Ground.change_spot") (st := sCS) (f := (He.ma K (He.ga K "Ground") "change_spot")) l_G_change_spot e_G_change_spot (He.meth_ok (c.e.fact 105)).kp
  have B_G_change_spot : Binds K _ ["self", "one", "word", "values"] [] := F_G_change_spot.binds fun _ _ _ _ _ _ us hl => match us, hl with | [_, _, _, _], _ => rfl
  have M_G_change_spot := He.meth_ok (c.e.fact 105)
  obtain ⟨oc_G_change_held, od_G_change_held, osl_G_change_held, kV_G_change_held, dc_G_change_held, pm_G_change_held, an_G_change_held, cd_G_change_held, ct_G_change_held, l_G_change_held, e_G_change_held⟩ := c.e.def_ 54
  have F_G_change_held := fun_mk (x := "change_held") (qual := "Ground.change_held") (st := sCH) (f := (He.ma K (He.ga K "Ground") "change_held")) l_G_change_held e_G_change_held (He.meth_ok (c.e.fact 106)).kp
  have B_G_change_held : Binds K _ ["self", "one", "word", "name", "values"] [] := F_G_change_held.binds fun _ _ _ _ _ _ us hl => match us, hl with | [_, _, _, _, _], _ => rfl
  have M_G_change_held := He.meth_ok (c.e.fact 106)
  obtain ⟨oc_G_numbers_with, od_G_numbers_with, osl_G_numbers_with, kV_G_numbers_with, dc_G_numbers_with, pm_G_numbers_with, an_G_numbers_with, cd_G_numbers_with, ct_G_numbers_with, l_G_numbers_with, e_G_numbers_with⟩ := c.e.def_ 55
  have F_G_numbers_with := fun_mk (x := "numbers_with") (qual := "Ground.numbers_with") (st := sNW) (f := (He.ma K (He.ga K "Ground") "numbers_with")) l_G_numbers_with e_G_numbers_with (He.meth_ok (c.e.fact 107)).kp
  have B_G_numbers_with : Binds K _ ["self", "one", "name"] [] := F_G_numbers_with.binds fun _ _ _ _ _ _ us hl => match us, hl with | [_, _, _], _ => rfl
  have M_G_numbers_with := He.meth_ok (c.e.fact 107)
  obtain ⟨oc_G_row_of, od_G_row_of, osl_G_row_of, kV_G_row_of, dc_G_row_of, pm_G_row_of, an_G_row_of, cd_G_row_of, ct_G_row_of, l_G_row_of, e_G_row_of⟩ := c.e.def_ 56
  have F_G_row_of := fun_mk (x := "row_of") (qual := "Ground.row_of") (st := sRO) (f := (He.ma K (He.ga K "Ground") "row_of")) l_G_row_of e_G_row_of (He.meth_ok (c.e.fact 108)).kp
  have B_G_row_of : Binds K _ ["self", "one", "name"] [] := F_G_row_of.binds fun _ _ _ _ _ _ us hl => match us, hl with | [_, _, _], _ => rfl
  have M_G_row_of := He.meth_ok (c.e.fact 108)
  obtain rfl : fa = He.ga K "law" := Value.ref.inj (Option.some.inj (hfa.symm.trans (He.glo_ok X G (c.e.fact 60))))
  have m_len : mg "len" = none := He.free_ok X G (c.e.fact 62)
  have m_int : mg "int" = none := He.free_ok X G (c.e.fact 63)
  have m_divmod : mg "divmod" = none := He.free_ok X G (c.e.fact 64)
  have m_list : mg "list" = none := He.free_ok X G (c.e.fact 65)
  have m_isinstance : mg "isinstance" = none := He.free_ok X G (c.e.fact 66)
  have m_tuple : mg "tuple" = none := He.free_ok X G (c.e.fact 67)
  have m_all : mg "all" = none := He.free_ok X G (c.e.fact 68)
  have m_abs : mg "abs" = none := He.free_ok X G (c.e.fact 69)
  have m_zip : mg "zip" = none := He.free_ok X G (c.e.fact 70)
  have m_str : mg "str" = none := He.free_ok X G (c.e.fact 71)
  have m_bool : mg "bool" = none := He.free_ok X G (c.e.fact 72)
  have m_range : mg "range" = none := He.free_ok X G (c.e.fact 73)
  have m_enumerate : mg "enumerate" = none := He.free_ok X G (c.e.fact 74)
  have m_sorted : mg "sorted" = none := He.free_ok X G (c.e.fact 75)
  have m_min : mg "min" = none := He.free_ok X G (c.e.fact 76)
  have m_max : mg "max" = none := He.free_ok X G (c.e.fact 77)
  have m_RuntimeError : mg "RuntimeError" = none := He.free_ok X G (c.e.fact 78)
  obtain ⟨t_LEAST_VALUE, m_LEAST_VALUE⟩ := He.int_ok X G (c.e.fact 79)
  obtain ⟨t_MOST_VALUE, m_MOST_VALUE⟩ := He.int_ok X G (c.e.fact 80)
  obtain ⟨t_LONGEST_LIST, m_LONGEST_LIST⟩ := He.int_ok X G (c.e.fact 81)
  have m_Holding := He.glo_ok X G (c.e.fact 86)
  have m_Ground := He.glo_ok X G (c.e.fact 109)
  have cH := He.cls_ok (c.e.fact 87)
  have cG := He.cls_ok (c.e.fact 110)
  have kH := He.mkr_ok (c.e.fact 88)
  have kG := He.mkr_ok (c.e.fact 111)
  have hH : HCls K (He.ga K "Holding") := ⟨cH, He.noat_ok (c.e.fact 114), He.noat_ok (c.e.fact 115)⟩
  have hG : GCls K (He.ga K "Ground") := ⟨cG, He.noat_ok (c.e.fact 116), He.noat_ok (c.e.fact 117), He.noat_ok (c.e.fact 118), He.noat_ok (c.e.fact 119), He.noat_ok (c.e.fact 120), He.noat_ok (c.e.fact 121)⟩
  unfold Kk23.ck at hck
  simp only [Bool.and_eq_true] at hck
  obtain ⟨⟨⟨⟨⟨⟨⟨⟨⟨⟨⟨⟨⟨⟨⟨⟨⟨⟨⟨⟨⟨⟨⟨⟨⟨⟨⟨⟨⟨⟨⟨⟨⟨⟨⟨⟨⟨⟨⟨⟨⟨⟨⟨⟨⟨⟨⟨q0, q1⟩, q2⟩, q3⟩, q4⟩, q5⟩, q6⟩, q7⟩, q8⟩, q9⟩, q10⟩, q11⟩, q12⟩, q13⟩, q14⟩, q15⟩, q16⟩, q17⟩, q18⟩, q19⟩, q20⟩, q21⟩, q22⟩, q23⟩, q24⟩, q25⟩, q26⟩, q27⟩, q28⟩, q29⟩, q30⟩, q31⟩, q32⟩, q33⟩, q34⟩, q35⟩, q36⟩, q37⟩, q38⟩, q39⟩, q40⟩, q41⟩, q42⟩, q43⟩, q44⟩, q45⟩, q46⟩, q47⟩ := hck
  have q0 := of_decide_eq_true q0
  have q1 := of_decide_eq_true q1
  obtain ⟨e_eyes, q2, he_eyes⟩ := Fw.emT_ok q2
  obtain ⟨e_do, q3, he_do⟩ := Fw.emT_ok q3
  have hST : StT K 198 := ⟨Fw.stpB_ok q47⟩
  have m_NAME_DEEDS := PySem.W.mg_of X G (He.eqO_ok q36)
  have m_LIST_DEEDS := PySem.W.mg_of X G (He.eqO_ok q40)
  have m_SPOT_DEEDS := PySem.W.mg_of X G (He.eqO_ok q44)
  have m_SHOWN_BY := PySem.W.mg_of X G (He.eqO_ok q45)
  have m_STEPS := PySem.W.mg_of X G (He.eqO_ok q26)
  have m_SUMS := PySem.W.mg_of X G (He.eqO_ok q33)
  have m_SPOT_WORDS := PySem.W.mg_of X G (He.eqO_ok q27)
  have m1 : (("Ground", some "ones") : He.Defn) ∈ Kk23.tf := List.mem_singleton.mpr rfl
  obtain ⟨c0, hc0⟩ := He.codeIn_ref e_G_ones
  have hcT : (He.cT K ("Ground", some "ones")).1 = c0 := He.codeOf_eq (p := ("Ground", some "ones")) l_G_ones hc0
  have hd0 := c.hd _ m1
  have ot0 := c.out _ m1
  have em0 := c.empty _ m1
  rw [hcT] at hd0
  generalize hT0 : (He.cT K ("Ground", some "ones")).2 = T at hd0 ot0 em0
  obtain ⟨d_names, v_names, b_names⟩ := (Fw.funD_of (p := ("Ground", some "names")) (st := sGN) (v := .non) rfl l_G_names e_G_names M_G_names.kp q0 rfl).binds0 (ps := ["self", "one"]) 1 nofun rfl fun D _ _ _ _ _ us ks h1 h2 => match us, ks, h1, h2 with | [_], [_], _, _ => ⟨_, _, _, _, _, _, rfl, rfl, rfl⟩
  have k_names := Fw.kb_one (K := K) (fd := PySem.W.fnOf "names" "Ground.names" (defArgs sGN) (defBody sGN) (defScope sGN) .none kV_G_names dc_G_names pm_G_names an_G_names cd_G_names ct_G_names) (ps := ["self", "one"]) (z := "one") (n := 1) fun us ws h1 h2 => match us, ws, h1, h2 with | [_], [_], _, _ => rfl
  obtain ⟨d_lists, v_lists, b_lists⟩ := (Fw.funD_of (p := ("Ground", some "lists")) (st := sGR) (v := .non) rfl l_G_lists e_G_lists M_G_lists.kp q1 rfl).binds0 (ps := ["self", "one"]) 1 nofun rfl fun D _ _ _ _ _ us ks h1 h2 => match us, ks, h1, h2 with | [_], [_], _, _ => ⟨_, _, _, _, _, _, rfl, rfl, rfl⟩
  have k_lists := Fw.kb_one (K := K) (fd := PySem.W.fnOf "lists" "Ground.lists" (defArgs sGR) (defBody sGR) (defScope sGR) .none kV_G_lists dc_G_lists pm_G_lists an_G_lists cd_G_lists ct_G_lists) (ps := ["self", "one"]) (z := "one") (n := 1) fun us ws h1 h2 => match us, ws, h1, h2 with | [_], [_], _, _ => rfl
  obtain ⟨d_eyes, v_eyes, b_eyes⟩ := (Fw.funD_of (p := ("Ground", some "eyes")) (st := sGE) (v := .ref e_eyes) rfl l_G_eyes e_G_eyes M_G_eyes.kp q2 rfl).binds0 (ps := ["self", "one", "params"]) 2 nofun rfl fun D _ _ _ _ _ us ks h1 h2 => match us, ks, h1, h2 with | [_, _], [_], _, _ => ⟨_, _, _, _, _, _, rfl, rfl, rfl⟩
  have k_eyes := Fw.kb_one (K := K) (fd := PySem.W.fnOf "eyes" "Ground.eyes" (defArgs sGE) (defBody sGE) (defScope sGE) .none kV_G_eyes dc_G_eyes pm_G_eyes an_G_eyes cd_G_eyes ct_G_eyes) (ps := ["self", "one", "params"]) (z := "params") (n := 2) fun us ws h1 h2 => match us, ws, h1, h2 with | [_, _], [_], _, _ => rfl
  obtain ⟨d_do, v_do, b_do⟩ := (Fw.funD_of (p := ("Ground", some "do")) (st := sDo) (v := .ref e_do) rfl l_G_do e_G_do M_G_do.kp q3 rfl).binds0 (ps := ["self", "one", "deed", "params"]) 3 nofun rfl fun D _ _ _ _ _ us ks h1 h2 => match us, ks, h1, h2 with | [_, _, _], [_], _, _ => ⟨_, _, _, _, _, _, rfl, rfl, rfl⟩
  have k_do := Fw.kb_one (K := K) (fd := PySem.W.fnOf "do" "Ground.do" (defArgs sDo) (defBody sDo) (defScope sDo) .none kV_G_do dc_G_do pm_G_do an_G_do cd_G_do ct_G_do) (ps := ["self", "one", "deed", "params"]) (z := "params") (n := 3) fun us ws h1 h2 => match us, ws, h1, h2 with | [_, _, _], [_], _, _ => rfl
  have lU : K.lookup 92 = some (Fw.dO (Fw.sEs w Kk23.pr 289 (Fw.svT Kk23.tn14))) := hob 1 92 _ rfl rfl
  have kU : PySem.W.KeysLit w.params (Fw.sEs w Kk23.pr 289 (Fw.svT Kk23.tn14)) := ⟨⟨_, _, rfl, rfl⟩, ⟨_, _, rfl, rfl⟩, ⟨_, _, rfl, rfl⟩, ⟨_, _, rfl, rfl⟩, ⟨_, _, rfl, rfl⟩, trivial⟩
  have lN : K.lookup 192 = some (Fw.dO (Fw.sEs w Kk23.pr 438 (Fw.svT Kk23.tn27))) := hob 2 192 _ rfl rfl
  have kN : PySem.W.KeysLit w.params (Fw.sEs w Kk23.pr 438 (Fw.svT Kk23.tn27)) := ⟨⟨_, _, rfl, rfl⟩, ⟨_, _, rfl, rfl⟩, trivial⟩
  have lL : K.lookup 193 = some (Fw.dO (Fw.sEs w Kk23.pr 443 (Fw.svT Kk23.tn28))) := hob 3 193 _ rfl rfl
  have kL : PySem.W.KeysLit w.params (Fw.sEs w Kk23.pr 443 (Fw.svT Kk23.tn28)) := ⟨⟨_, _, rfl, rfl⟩, ⟨_, _, rfl, rfl⟩, ⟨_, _, rfl, rfl⟩, trivial⟩
  have lS : K.lookup 220 = some (Fw.dO (Fw.sEs w Kk23.pr 495 (Fw.svT Kk23.tn34))) := hob 4 220 _ rfl rfl
  have kS : PySem.W.KeysLit w.params (Fw.sEs w Kk23.pr 495 (Fw.svT Kk23.tn34)) := ⟨⟨_, _, rfl, rfl⟩, ⟨_, _, rfl, rfl⟩, ⟨_, _, rfl, rfl⟩, trivial⟩
  have lB : K.lookup 221 = some (Fw.dO (Fw.sEs w Kk23.pr 502 (Fw.svB Kk23.tb35))) := hob 5 221 _ rfl rfl
  have kB : PySem.W.KeysLit w.params (Fw.sEs w Kk23.pr 502 (Fw.svB Kk23.tb35)) := ⟨⟨_, _, rfl, rfl⟩, ⟨_, _, rfl, rfl⟩, trivial⟩
  obtain ⟨ocI, odI, oslI, kVI, dcI, pmI, anI, cdI, ctI, lI, eI⟩ := c.e.def_ 31
  obtain ⟨tF, eC, _⟩ := Fw.fell_of X G (c.e.fact 82) q46 ⟨ocI, odI, oslI, kVI, dcI, pmI, anI, cdI, ctI, lI, eI⟩
  have hW : K.lookup 42 = some (Fw.tO 230 ["x", "y", "way", "number"]) := hob 0 42 _ rfl rfl
  refine ⟨K, _, c0, T, X, ot0, em0, PySem.W.codeHd_of_K X hd0, F_law, fun s v => .of_eq rfl, fun base _ _ TB => ?_⟩
  have o_hi : FnOk PySem.Challenge.rw_figuredeeds_k23_known_grounds.prog w K mg base CX0 1 _ _ ["self", "names", "lists"] (spHI K (He.ga K "Holding")) := ok_hi F_H___init__ hH m_list
  have o_hn : FnOk PySem.Challenge.rw_figuredeeds_k23_known_grounds.prog w K mg base CX0 1 _ _ ["self"] (spHN K (He.ga K "Holding")) := ok_hn F_H_name_pairs hH
  have o_hl : FnOk PySem.Challenge.rw_figuredeeds_k23_known_grounds.prog w K mg base CX0 1 _ _ ["self"] (spHL K (He.ga K "Holding")) := ok_hl F_H_list_pairs hH m_list
  have o_gi : FnOk PySem.Challenge.rw_figuredeeds_k23_known_grounds.prog w K mg base CX0 3 _ _ ["self", "play"] (spGI w K (He.ga K "Ground") (He.ga K "Holding")) := ok_gi F_G___init__ hG m_tuple kH o_hi (by decide) m_Holding B_H___init__
  have o_ha : FnOk PySem.Challenge.rw_figuredeeds_k23_known_grounds.prog w K mg base CX0 3 _ _ ["self"] (spHA K (He.ga K "Holding")) := ok_ha (k := 2) (kH := 1) F_H_again cH (by decide) M_H_name_pairs o_hn B_H_name_pairs M_H_list_pairs o_hl B_H_list_pairs kH o_hi m_Holding B_H___init__
  have o_go : FnOk PySem.Challenge.rw_figuredeeds_k23_known_grounds.prog w K mg base CX0 1 _ _ ["self"] (spGo w K (He.ga K "Ground") (He.ga K "Holding") T) := ok_gO F_G_ones hG hc0 TB m_enumerate m_sorted m_list
  have o_gl : FnOk PySem.Challenge.rw_figuredeeds_k23_known_grounds.prog w K mg base CX0 1 _ _ ["self"] (spGL w K (He.ga K "Ground") (He.ga K "Holding")) := ok_gl F_G___len__ hG m_len
  have o_gs : FnOk PySem.Challenge.rw_figuredeeds_k23_known_grounds.prog w K mg base CX0 1 _ _ ["self", "one"] (spGS w K (He.ga K "Ground") (He.ga K "Holding")) := ok_gs F_G_spot hG m_tuple
  have o_gw : FnOk PySem.Challenge.rw_figuredeeds_k23_known_grounds.prog w K mg base CX0 1 _ _ ["self", "one"] (spGW w K (He.ga K "Ground") (He.ga K "Holding")) := ok_gw F_G_is_shown hG m_tuple
  have o_gb : FnOk PySem.Challenge.rw_figuredeeds_k23_known_grounds.prog w K mg base CX0 1 _ _ ["self", "one"] (spGB w K (He.ga K "Ground") (He.ga K "Holding")) := ok_gb F_G_held_by hG m_tuple
  have o_gm : FnOk PySem.Challenge.rw_figuredeeds_k23_known_grounds.prog w K mg base CX0 1 _ _ ["self", "one"] (spGM w K (He.ga K "Ground") (He.ga K "Holding")) := ok_gm F_G_met hG m_tuple
  have o_gn : FnOk PySem.Challenge.rw_figuredeeds_k23_known_grounds.prog w K mg base CX0 2 _ _ ["self", "one"] (spGN w K (He.ga K "Ground") (He.ga K "Holding")) := ok_gn F_G_names cG cH M_G_held_by o_gb B_G_held_by M_H_name_pairs o_hn B_H_name_pairs (by decide)
  have o_gr : FnOk PySem.Challenge.rw_figuredeeds_k23_known_grounds.prog w K mg base CX0 2 _ _ ["self", "one"] (spGR w K (He.ga K "Ground") (He.ga K "Holding")) := ok_gr F_G_lists cG cH M_G_held_by o_gb B_G_held_by M_H_list_pairs o_hl B_H_list_pairs (by decide)
  have gN : MthK PySem.Challenge.rw_figuredeeds_k23_known_grounds.prog w K mg base (He.ga K "Ground") 2 1 "names" "one" .non ["self", "one"] (spGN w K (He.ga K "Ground") (He.ga K "Holding")) := ⟨_, _, d_names, M_G_names, o_gn, b_names, v_names, k_names⟩
  have gR : MthK PySem.Challenge.rw_figuredeeds_k23_known_grounds.prog w K mg base (He.ga K "Ground") 2 1 "lists" "one" .non ["self", "one"] (spGR w K (He.ga K "Ground") (He.ga K "Holding")) := ⟨_, _, d_lists, M_G_lists, o_gr, b_lists, v_lists, k_lists⟩
  have gO : MthG PySem.Challenge.rw_figuredeeds_k23_known_grounds.prog w K mg base (He.ga K "Ground") 2 "ones" ["self"] (spGo w K (He.ga K "Ground") (He.ga K "Holding") T) := ⟨_, _, M_G_ones, o_go.mono (by decide), B_G_ones⟩
  have gS : MthG PySem.Challenge.rw_figuredeeds_k23_known_grounds.prog w K mg base (He.ga K "Ground") 2 "spot" ["self", "one"] (spGS w K (He.ga K "Ground") (He.ga K "Holding")) := ⟨_, _, M_G_spot, o_gs.mono (by decide), B_G_spot⟩
  have gW : MthG PySem.Challenge.rw_figuredeeds_k23_known_grounds.prog w K mg base (He.ga K "Ground") 2 "is_shown" ["self", "one"] (spGW w K (He.ga K "Ground") (He.ga K "Holding")) := ⟨_, _, M_G_is_shown, o_gw.mono (by decide), B_G_is_shown⟩
  have gM : MthG PySem.Challenge.rw_figuredeeds_k23_known_grounds.prog w K mg base (He.ga K "Ground") 2 "met" ["self", "one"] (spGM w K (He.ga K "Ground") (He.ga K "Holding")) := ⟨_, _, M_G_met, o_gm.mono (by decide), B_G_met⟩
  have gL : SpM PySem.Challenge.rw_figuredeeds_k23_known_grounds.prog w K mg base (He.ga K "Ground") 2 "__len__" ["self"] (spGL w K (He.ga K "Ground") (He.ga K "Holding")) := ⟨_, _, o_gl.mono (by decide), M_G___len__.at_, M_G___len__.fn, B_G___len__⟩
  have o_ge : FnOk PySem.Challenge.rw_figuredeeds_k23_known_grounds.prog w K mg base CX0 3 _ _ ["self", "one", "params"] (spGE w K (He.ga K "Ground") (He.ga K "Holding")) := ok_ge (k := 2) F_G_eyes hG cG (by decide) gN gR gS gM
  have o_gv : FnOk PySem.Challenge.rw_figuredeeds_k23_known_grounds.prog w K mg base CX0 4 _ _ ["self", "one", "ground", "new"] (spGv w K (He.ga K "Ground") (He.ga K "Holding")) := ok_gv (k := 3) (kH := 3) F_G_give hG cH (by decide) M_H_again o_ha B_H_again
  have o_gc : FnOk PySem.Challenge.rw_figuredeeds_k23_known_grounds.prog w K mg base CX0 5 _ _ ["self", "one"] (spGC w K (He.ga K "Ground") (He.ga K "Holding")) := ok_gc (k := 4) (kH := 4) F_G_copy hG cG (by decide) m_tuple M_G_give o_gv B_G_give
  let fs : Fv.BOp → Addr := fun o => match o with
    | .plus => He.ga K "plus" | .minus => He.ga K "minus" | .by_ => He.ga K "by" | .over => He.ga K "over" | .rest => He.ga K "rest"
  have W5 : Fv.Wr K w mg 42 92 fs := ⟨m_SPOT_WORDS, m_SUMS, ⟨_, _, _, hW, Fw.vals_toks _ _, by decide⟩, fun o => by
    cases o
    · exact ⟨_, _, _, lU, kU, He.eqO_ok q28, rfl⟩
    · exact ⟨_, _, _, lU, kU, He.eqO_ok q29, rfl⟩
    · exact ⟨_, _, _, lU, kU, He.eqO_ok q30, rfl⟩
    · exact ⟨_, _, _, lU, kU, He.eqO_ok q31, rfl⟩
    · exact ⟨_, _, _, lU, kU, He.eqO_ok q32, rfl⟩⟩
  have vN : FnG PySem.Challenge.rw_figuredeeds_k23_known_grounds.prog w K mg base CX0 1 "is_number" ["thing"] (Fv.spIsNum K) := D_is_number.g (Fv.ok_isNum D_is_number.F m_isinstance m_int m_bool)
  have vV : FnG PySem.Challenge.rw_figuredeeds_k23_known_grounds.prog w K mg base CX0 2 "is_value" ["thing"] Fv.spIsVal := D_is_value.g (Fv.ok_isVal D_is_value.F vN m_LEAST_VALUE m_MOST_VALUE)
  have vPl := FnG.mono (D_place_in.g (Fv.ok_place (P := PySem.Challenge.rw_figuredeeds_k23_known_grounds.prog) (w := w) (base := base) (k := 1) tF D_place_in.F m_len)) (by decide : 3 ≤ 3)
  have L5 : Fv.Looks5 PySem.Challenge.rw_figuredeeds_k23_known_grounds.prog w K mg base _ _ 42 92 fs := ⟨tF, W5, vN.mono (by decide), vV.mono (by decide), FnG.mono (D_first_of.g (Fv.ok_first (k := 1) tF D_first_of.F)) (by decide), vPl, fun o => by
    cases o
    · exact ⟨_, _, (Fv.ok_plus D_plus.F).mono (by decide : 1 ≤ 3), D_plus.F.kp, D_plus.b⟩
    · exact ⟨_, _, (Fv.ok_minus D_minus.F).mono (by decide : 1 ≤ 3), D_minus.F.kp, D_minus.b⟩
    · exact ⟨_, _, (Fv.ok_by D_by.F).mono (by decide : 1 ≤ 3), D_by.F.kp, D_by.b⟩
    · exact ⟨_, _, (Fv.ok_over tF D_over.F).mono (by decide : 2 ≤ 3), D_over.F.kp, D_over.b⟩
    · exact ⟨_, _, (Fv.ok_rest tF D_rest.F).mono (by decide : 2 ≤ 3), D_rest.F.kp, D_rest.b⟩⟩
  have gV := Fv.ok_values L5 m_len D_value_of D_outcome 6
  obtain ⟨tsS, hS1, hS2⟩ := hST.ex
  have lS4 : (tsS.map V.ref).length = 4 := by rw [List.length_map]; exact paired_len (hS2 fun _ => none)
  have vR : FnG PySem.Challenge.rw_figuredeeds_k23_known_grounds.prog w K mg base CX0 1 "nearest" ["place", "many"] spNr := D_nearest.g (ok_near D_nearest.F m_max m_min)
  have hT : Held PySem.Challenge.rw_figuredeeds_k23_known_grounds.prog w K mg base 2 _ (spTn K) := ⟨_, _, ok_turn (k := 1) F_turned m_len m_STEPS hS1 lS4, F_turned.kp, D_turned.b⟩
  have hP : Held PySem.Challenge.rw_figuredeeds_k23_known_grounds.prog w K mg base 2 _ (spPc K) := ⟨_, _, ok_plc (k := 1) F_placed, F_placed.kp, D_placed.b⟩
  have hM : Held PySem.Challenge.rw_figuredeeds_k23_known_grounds.prog w K mg base 2 _ (spMv K) := ⟨_, _, ok_mv (k := 1) F_moved m_STEPS hST, F_moved.kp, D_moved.b⟩
  have o_cs : FnOk PySem.Challenge.rw_figuredeeds_k23_known_grounds.prog w K mg base CX0 3 _ _ _ (spCS w K (He.ga K "Ground") (He.ga K "Holding")) := ok_cs (k := 2) F_G_change_spot hG m_SPOT_DEEDS ⟨_, _, _, lS, kS, He.eqO_ok q42, rfl⟩ ⟨_, _, _, lS, kS, He.eqO_ok q43, rfl⟩ ⟨_, _, _, lS, kS, He.eqO_ok q41, rfl⟩ hM hT hP (vR.mono (by decide))
  have xS : Fv.HeldX PySem.Challenge.rw_figuredeeds_k23_known_grounds.prog w K mg base 6 (He.ga K "set_number") spSetN := ⟨_, _, (ok_setN (k := 0) D_set_number.F).mono (by decide : 1 ≤ 6), D_set_number.F.kp, D_set_number.b⟩
  have xA : Fv.HeldX PySem.Challenge.rw_figuredeeds_k23_known_grounds.prog w K mg base 6 (He.ga K "add_number") (spAddN (He.ga K "Fell")) := ⟨_, _, (ok_addN (k := 4) tF D_add_number.F (vV.mono (by decide))).mono (by decide : 6 ≤ 6), D_add_number.F.kp, D_add_number.b⟩
  have xP : Fv.HeldX PySem.Challenge.rw_figuredeeds_k23_known_grounds.prog w K mg base 6 (He.ga K "put_value") (spPutV K (He.ga K "Fell")) := ⟨_, _, (ok_putV (k := 0) tF D_put_value.F m_len m_LONGEST_LIST).mono (by decide : 2 ≤ 6), D_put_value.F.kp, D_put_value.b⟩
  have xD : Fv.HeldX PySem.Challenge.rw_figuredeeds_k23_known_grounds.prog w K mg base 6 (He.ga K "drop_value") (spDropV K (He.ga K "Fell")) := ⟨_, _, (ok_dropV (k := 3) D_drop_value.F vPl).mono (by decide : 4 ≤ 6), D_drop_value.F.kp, D_drop_value.b⟩
  have xW : Fv.HeldX PySem.Challenge.rw_figuredeeds_k23_known_grounds.prog w K mg base 6 (He.ga K "write_value") (spWriteV K (He.ga K "Fell")) := ⟨_, _, (ok_writeV (k := 3) D_write_value.F vPl).mono (by decide : 4 ≤ 6), D_write_value.F.kp, D_write_value.b⟩
  have T9 : DoT PySem.Challenge.rw_figuredeeds_k23_known_grounds.prog K w mg base (He.ga K "Fell") 192 193 221 _ _ _ _ _ _ 6 := ⟨m_NAME_DEEDS, m_LIST_DEEDS, m_SHOWN_BY, ⟨lN, kN, by decide⟩, ⟨lL, kL, by decide⟩, ⟨lB, kB, by decide⟩, (fun z h => (List.mem_cons.mp h).elim (fun e => e ▸ He.eqO_ok q4) fun h => (List.mem_cons.mp h).elim (fun e => e ▸ He.eqO_ok q5) fun h => (List.mem_cons.mp h).elim (fun e => e ▸ He.eqO_ok q6) fun h => (List.mem_cons.mp h).elim (fun e => e ▸ He.eqO_ok q7) fun h => (List.mem_cons.mp h).elim (fun e => e ▸ He.eqO_ok q8) fun h => (List.mem_cons.mp h).elim (fun e => e ▸ He.eqO_ok q9) fun h => (List.mem_cons.mp h).elim (fun e => e ▸ He.eqO_ok q10) fun h => (List.mem_cons.mp h).elim (fun e => e ▸ He.eqO_ok q11) fun h => (List.mem_cons.mp h).elim (fun e => e ▸ He.eqO_ok q12) fun h => nomatch h), (fun z h => (List.mem_cons.mp h).elim (fun e => e ▸ He.eqO_ok q13) fun h => (List.mem_cons.mp h).elim (fun e => e ▸ He.eqO_ok q14) fun h => (List.mem_cons.mp h).elim (fun e => e ▸ He.eqO_ok q15) fun h => (List.mem_cons.mp h).elim (fun e => e ▸ He.eqO_ok q16) fun h => (List.mem_cons.mp h).elim (fun e => e ▸ He.eqO_ok q17) fun h => (List.mem_cons.mp h).elim (fun e => e ▸ He.eqO_ok q18) fun h => (List.mem_cons.mp h).elim (fun e => e ▸ He.eqO_ok q19) fun h => (List.mem_cons.mp h).elim (fun e => e ▸ He.eqO_ok q20) fun h => nomatch h), (fun z h => (List.mem_cons.mp h).elim (fun e => e ▸ He.eqO_ok q21) fun h => (List.mem_cons.mp h).elim (fun e => e ▸ He.eqO_ok q22) fun h => (List.mem_cons.mp h).elim (fun e => e ▸ He.eqO_ok q23) fun h => nomatch h), ⟨_, _, _, lB, kB, He.eqO_ok q24, rfl⟩, ⟨_, _, _, lB, kB, He.eqO_ok q25, rfl⟩, ⟨_, ⟨_, _, _, lN, kN, He.eqO_ok q34, rfl⟩, xS⟩, ⟨_, ⟨_, _, _, lN, kN, He.eqO_ok q35, rfl⟩, xA⟩, ⟨_, ⟨_, _, _, lL, kL, He.eqO_ok q37, rfl⟩, xP⟩, ⟨_, ⟨_, _, _, lL, kL, He.eqO_ok q38, rfl⟩, xD⟩, ⟨_, ⟨_, _, _, lL, kL, He.eqO_ok q39, rfl⟩, xW⟩⟩
  have o_nw : FnOk PySem.Challenge.rw_figuredeeds_k23_known_grounds.prog w K mg base (L2.CX PySem.Challenge.rw_figuredeeds_k23_known_grounds.prog w) 2 _ _ ["self", "one", "name"] (spNW w K (He.ga K "Ground") (He.ga K "Holding") (He.ga K "Fell")) := ok_nw (k := 0) tF F_G_numbers_with hG hH
  have o_ro : FnOk PySem.Challenge.rw_figuredeeds_k23_known_grounds.prog w K mg base (L2.CX PySem.Challenge.rw_figuredeeds_k23_known_grounds.prog w) 2 _ _ ["self", "one", "name"] (spRO w K (He.ga K "Ground") (He.ga K "Holding") (He.ga K "Fell")) := ok_ro (k := 0) tF F_G_row_of hG hH
  have o_ch : FnOk PySem.Challenge.rw_figuredeeds_k23_known_grounds.prog w K mg base (L2.CX PySem.Challenge.rw_figuredeeds_k23_known_grounds.prog w) 7 _ _ ["self", "one", "word", "name", "values"] (spCH w K (He.ga K "Ground") (He.ga K "Holding") (He.ga K "Fell")) := ok_ch (k := 6) F_G_change_held cG T9 M_G_numbers_with (o_nw.mono (by decide)) B_G_numbers_with M_G_row_of (o_ro.mono (by decide)) B_G_row_of
  have o_do : FnOk PySem.Challenge.rw_figuredeeds_k23_known_grounds.prog w K mg base (L2.CX PySem.Challenge.rw_figuredeeds_k23_known_grounds.prog w) 17 _ _ ["self", "one", "deed", "params"] (spDo w K (He.ga K "Ground") (He.ga K "Holding") (He.ga K "Fell")) := ok_do (k := 16) (kH := 16) F_G_do hG cG (by decide) m_tuple T9 M_G_eyes (o_ge.mono (by decide)) k_eyes M_G_change_spot (o_cs.mono (by decide)) B_G_change_spot M_G_change_held (o_ch.mono (by decide)) B_G_change_held gV
  have o_en : FnOk PySem.Challenge.rw_figuredeeds_k23_known_grounds.prog w K mg base CX0 1 _ _ ["self", "one"] (spEn w K (He.ga K "Ground") (He.ga K "Holding")) := ok_en F_G_end hG m_tuple
  have gD : MthD PySem.Challenge.rw_figuredeeds_k23_known_grounds.prog w K mg base (He.ga K "Ground") (He.ga K "Holding") 20 := ⟨_, _, d_do, e_do, M_G_do, (FnOk.calm o_do do_calm).mono (by decide), b_do, v_do, he_do⟩
  have aT : FnG PySem.Challenge.rw_figuredeeds_k23_known_grounds.prog w K mg base CX0 1 "_law_take" ["_law_box_here", "_law_many"] spTake := D__law_take.g (ok_take D__law_take.F m_divmod)
  have aB : FnG PySem.Challenge.rw_figuredeeds_k23_known_grounds.prog w K mg base CX0 1 "_law_box" ["_law_script", "_law_k"] (spBox K) := D__law_box.g (ok_boxd D__law_box.F m_len m_abs m_int)
  have aN : FnG PySem.Challenge.rw_figuredeeds_k23_known_grounds.prog w K mg base CX0 2 "_law_names" ["_law_box_here", "_law_many"] spNames := D__law_names.g (ok_names D__law_names.F aT m_len m_range m_divmod)
  have aSm : FnG PySem.Challenge.rw_figuredeeds_k23_known_grounds.prog w K mg base CX0 9 "_law_same" ["_law_found", "_law_due"] (spSame K 9) := D__law_same.g (ok_same D__law_same.F ⟨m_isinstance, m_list, m_tuple, m_len, m_all, m_zip, m_str, m_int, m_bool⟩ D__law_same.m D__law_same.b 9)
  have aFe : FnG PySem.Challenge.rw_figuredeeds_k23_known_grounds.prog w K mg base CX0 18 "_law_fell" ["_law_ground", "_law_who", "_law_deed"] (spFe w K (He.ga K "Ground") (He.ga K "Holding")) := D__law_fell.g (ok_fe (k := 17) tF eC cG D__law_fell.F M_G_do o_do b_do v_do he_do)
  have gS8 : MthG PySem.Challenge.rw_figuredeeds_k23_known_grounds.prog w K mg base (He.ga K "Ground") 20 "spot" ["self", "one"] (spGS w K (He.ga K "Ground") (He.ga K "Holding")) := ⟨_, _, M_G_spot, o_gs.mono (by decide), B_G_spot⟩
  have gW8 : MthG PySem.Challenge.rw_figuredeeds_k23_known_grounds.prog w K mg base (He.ga K "Ground") 20 "is_shown" ["self", "one"] (spGW w K (He.ga K "Ground") (He.ga K "Holding")) := ⟨_, _, M_G_is_shown, o_gw.mono (by decide), B_G_is_shown⟩
  have gM8 : MthG PySem.Challenge.rw_figuredeeds_k23_known_grounds.prog w K mg base (He.ga K "Ground") 20 "met" ["self", "one"] (spGM w K (He.ga K "Ground") (He.ga K "Holding")) := ⟨_, _, M_G_met, o_gm.mono (by decide), B_G_met⟩
  have gC8 : MthG PySem.Challenge.rw_figuredeeds_k23_known_grounds.prog w K mg base (He.ga K "Ground") 20 "copy" ["self", "one"] (spGC w K (He.ga K "Ground") (He.ga K "Holding")) := ⟨_, _, M_G_copy, o_gc.mono (by decide), B_G_copy⟩
  have gE8 : MthG PySem.Challenge.rw_figuredeeds_k23_known_grounds.prog w K mg base (He.ga K "Ground") 20 "end" ["self", "one"] (spEn w K (He.ga K "Ground") (He.ga K "Holding")) := ⟨_, _, M_G_end, o_en.mono (by decide), B_G_end⟩
  have gO8 : MthG PySem.Challenge.rw_figuredeeds_k23_known_grounds.prog w K mg base (He.ga K "Ground") 20 "ones" ["self"] (spGo w K (He.ga K "Ground") (He.ga K "Holding") T) := ⟨_, _, M_G_ones, o_go.mono (by decide), B_G_ones⟩
  have gL8 : SpM PySem.Challenge.rw_figuredeeds_k23_known_grounds.prog w K mg base (He.ga K "Ground") 20 "__len__" ["self"] (spGL w K (He.ga K "Ground") (He.ga K "Holding")) := ⟨_, _, o_gl.mono (by decide), M_G___len__.at_, M_G___len__.fn, B_G___len__⟩
  have gN8 : MthK PySem.Challenge.rw_figuredeeds_k23_known_grounds.prog w K mg base (He.ga K "Ground") 20 1 "names" "one" .non ["self", "one"] (spGN w K (He.ga K "Ground") (He.ga K "Holding")) := ⟨_, _, d_names, M_G_names, o_gn.mono (by decide), b_names, v_names, k_names⟩
  have gR8 : MthK PySem.Challenge.rw_figuredeeds_k23_known_grounds.prog w K mg base (He.ga K "Ground") 20 1 "lists" "one" .non ["self", "one"] (spGR w K (He.ga K "Ground") (He.ga K "Holding")) := ⟨_, _, d_lists, M_G_lists, o_gr.mono (by decide), b_lists, v_lists, k_lists⟩
  have aMr : FnG PySem.Challenge.rw_figuredeeds_k23_known_grounds.prog w K mg base CX0 21 "_law_moves_right" ["_law_ground", "_law_a", "_law_b"] (spMr w K (He.ga K "Ground") (He.ga K "Holding")) := D__law_moves_right.g (ok_mr (k := 20) D__law_moves_right.F cG (by decide) gD gS8 gW8 gM8 (aSm.mono (by decide)) m_zip)
  have aNr : FnG PySem.Challenge.rw_figuredeeds_k23_known_grounds.prog w K mg base CX0 21 "_law_names_right" ["_law_ground", "_law_a", "_law_b", "_law_name", "_law_row", "_law_more"] (spNr_ w K (He.ga K "Ground") (He.ga K "Holding")) := D__law_names_right.g (ok_nr (k := 20) D__law_names_right.F cG (by decide) gD gN8 gR8 (aFe.mono (by decide)) (aSm.mono (by decide)))
  have aCr : FnG PySem.Challenge.rw_figuredeeds_k23_known_grounds.prog w K mg base CX0 22 "_law_copies_right" ["_law_ground", "_law_a", "_law_b", "_law_name"] (spCr w K (He.ga K "Ground") (He.ga K "Holding") T) := D__law_copies_right.g (ok_cr (k := 21) (kH := 20) D__law_copies_right.F cG (by decide) gD gN8 gC8 gE8 gO8 gM8 gL8 m_len m_range)
  have aRi : FnG PySem.Challenge.rw_figuredeeds_k23_known_grounds.prog w K mg base CX0 40 "_law_right" ["_law_box_here"] (spRi T) := D__law_right.g (ok_ri (k := 39) (kG := 3) D__law_right.F (by decide) kG o_gi B_G___init__ m_Ground (aN.mono (by decide)) (aT.mono (by decide)) (aMr.mono (by decide)) (aNr.mono (by decide)) (aCr.mono (by decide)))
  exact ⟨aB.mono (by decide), aRi, m_all, m_min, m_len, m_range⟩
end Fd

open PySem PySem.W PyProof.Rows
set_option Elab.async false
set_option linter.all false
set_option maxRecDepth 100000 in
set_option maxHeartbeats 0 in
theorem PySem.Challenge.cw_figuredeeds_k23_known_grounds_holds : PySem.Challenge.rw_figuredeeds_k23_known_grounds.Holds := by
  w_on; o_law
  refine Fw.head_many (r := Kk23.R) (D := Kk23.D) (q := Kk23.q) (loose := Kk23.loose) (H := Fw.hookV Kk23.fa Kk23.fn Kk23.ck Kk23.tf Kk23.as 444 Kk23.objs) (ob := Fw.obV Kk23.fa Kk23.fn Kk23.ck Kk23.tf Kk23.as 444) (d := HandSHeadRun.topDef Kk23.R.prog 48) (kwd := []) rfl Kk23.D_ok (fun s => Fw.obV_eq _ _ _ _ _ _ _ s) Kk23.op_ok Kk23.fe_ok Kk23.run
    (by kernel_rfl) (by kernel_rfl) (by kernel_rfl) (by rfl) (by first | assumption | decide +kernel) (by decide +kernel) ⟨rfl, rfl, rfl, rfl, rfl, by decide +kernel⟩ ?hw ?hc
  case hw => w_witness2
  case hc =>
    refine Fd.walk_exT (l := PySem.Challenge.rw_figuredeeds_k23_known_grounds) (n := 63) rfl (by decide) (by kernel_rfl) (by kernel_rfl) ?F
    intro w mg fa h Y G hmg
    exact Fd.law_mk Y G hmg

