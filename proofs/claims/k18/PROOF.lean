import PyProof.Rows.All
import Wide.All
import OpenK.AllK
import Wide.FinOn
import HandS.Lambda
import HandS.Conv
import HandS.Dict
import KE.SortKeyHeap
import KE.KeyNested
import PyProof.DictRoadsH
import HandS.OwnEq
import OpenK.KOps
import HandS.DictComp
import HandS.Walk
import HandS.Defaults
import OpenK.KMore
import HandS.Call
import HandS.NoneIn
import HandS.TryOnly
import HandS.Wide
import HandS.Zip
import HandS.IsInst
import HandS.TupLe
import HandS.TupLen
import HandS.ListItems
import HandS.Codes
import HandS.ForMost
import PyProof.Rows.StrIntSpec
import HandS.TupAny
import HandS.Style
import HandS.Text
import PyProof.TupleIter
import PyProof.Rows.TupIter
import HandS.Ends
import HandS.CallLocal
import HandS.More
import HandS.Deep
import HandS.EndTab
import HandS.Head0
import HandS.Head1
import HandS.Head2
import KE.KDictDisplayH
import HandS.HeadHook1
import PyProof.EqAt
import PyProof.EqKinds
import PyProof.TupleCall
import KE.KExcInit
import KE.KExcIs
import HandS.ForExc
import HandS.ExcValue
import HandS.ExcField
import HandS.ExcIs
import HandS.HeadHook4
import HandS.MakeKwOnly
import HandS.Words
import PySem.Challenge.RW_figuredeeds_k18_spots_and_ways
set_option Elab.async false
set_option linter.all false
set_option maxRecDepth 100000
set_option maxHeartbeats 400000
/-! sorted(xs, key=lambda x: (y[x[0]], x[1])): y a captured dict of texts -/
namespace Fw
open PySem PySem.Spec PySem.Calls PyProof.Rows L2 LamX
section
variable {prog : Program} {w : World} {A : Around} {E : Value → Shared → Prop} {s : Shared}
abbrev keyBody (x y : Str) (k0 k1 c : Nat) (p1 p2 p3 p4 p5 p6 p7 p8 p9 : Pos) : Expr :=
  .Tuple [.Subscript (.Name y p1) (.Subscript (.Name x p2) (.Constant (.int 0) k0 p3) p4) p5, .Subscript (.Name x p6) (.Constant (.int 1) k1 p7) p8] c p9
/-- t[j], t a pair that a local name holds -/
theorem loc_item {env : Env} {x : Str} {m : Str → Option Value} {t : Addr} {u0 u1 : Value} {i : Int} {j : Nat} {k : Nat} {p1 p2 p3 : Pos} {v : Value} {Q : Value → Shared → Prop} (hk : env.scope.kind = .function) (hx : env.kindOf x = some .local)
    (hn : s.heap.Ns env.locals m) (hm : m x = some (.ref t)) (ht : IsTup s.heap t #[u0, u1]) (hi : seqIndex? i 2 = some j) (hv : #[u0, u1][j]? = some v) (h1 : -2 ^ 63 ≤ i) (h2 : i < 2 ^ 63) (h : Q v { s with toks := s.toks + 1 }) (hd : (x == ("__debug__" : Str)) = false := by decide) :
    wpAny (model prog w) A (eval (.Subscript (.Name x p1) (.Constant (.int i) k p2) p3) env) Q E s := by
  refine Subscript_ (wpAny_Name (wpAny_loadName_local hk hx hn hm ?_) hd)
  refine wpAny_Constant_int ?_
  refine subscriptTail_builtinR (x := v) (T := "tuple") (id := "tuple.__getitem__") ?_ slot_tuple_getitem.lookup ?_ (by rfl)
  · obtain ⟨o, e, c, _⟩ := ht
    exact ⟨o, e, c⟩
  · exact getItem_tuple (j := j) (items := #[u0, u1]) ht h1 h2 hi hv ⟨rfl, h⟩
theorem key_body {env : Env} {x y : Str} {m : Str → Option Value} {t d cr : Addr} {u0 u1 r : Value} {z : Str} {vs : List (Key × Value)} {k0 k1 c : Nat} {p1 p2 p3 p4 p5 p6 p7 p8 p9 : Pos} {Q : Value → Shared → Prop} (hk : env.scope.kind = .function)
    (hx : env.kindOf x = some .local) (hy : env.kindOf y = some .free) (hcy : env.cells.lookup y = some cr) (hcell : s.heap.IsCell cr (some (.ref d))) (hn : s.heap.Ns env.locals m) (hm : m x = some (.ref t)) (ht : IsTup s.heap t #[u0, u1])
    (hdd : s.heap.DictOf (mixKind prog w) d vs) (hkey : (mixKind prog w).is (Sum.inr z) u0 = true) (hv : valueAt vs (Sum.inr z) = some r)
    (h : ∀ tk, Q (.ref s.heap.objs.size) { s with heap := s.heap.push { cls := Value.type "tuple", data := Data.seq #[r, u1] }, toks := tk }) (hdx : (x == ("__debug__" : Str)) = false := by decide) (hdy : (y == ("__debug__" : Str)) = false := by decide) (hcd : (y == ("__classdict__" : Str)) = false := by decide) :
    wpAny (model prog w) A (eval (keyBody x y k0 k1 c p1 p2 p3 p4 p5 p6 p7 p8 p9) env) Q E s := by
  refine wpAny_Tuple_spliced ?_
  refine Calls.spliced_cons ?_
  refine subD_of PySem.F.slot_dict_getitem.lookup (fun _ _ => rfl) (wpAny_Name (wpAny_loadName_free hk hy hcy hcell ?_ hcd) hdy)
  refine loc_item (j := 0) (v := u0) hk hx hn hm ht rfl rfl (by decide) (by decide) ⟨hdd.typeIs, ?_⟩ hdx
  refine wpAny_getItem_of (s := { s with toks := s.toks + 1 }) hkey (show Heap.MapOf (mixKind prog w) s.heap d _ from hdd.mapOf) hv ?_
  refine Calls.spliced_cons ?_
  refine loc_item (s := { s with toks := s.toks + 1 + 1 }) (j := 1) (v := u1) hk hx hn hm ht rfl rfl (by decide) (by decide) ?_ hdx
  refine Calls.spliced_nil ⟨by show 2 ≤ sizeLine; decide, ?_⟩
  exact h _
theorem key_turn {f c' d cr t : Addr} {q x y : Str} {params : Arguments} {scope : Scope} {cl : List (Str × Addr)} {pm ctv u0 : Value} {z : Str} {n r : Int} {tn tr : Tok} {vs : List (Key × Value)} {k0 k1 c : Nat} {p1 p2 p3 p4 p5 p6 p7 p8 p9 : Pos}
    (hdep : A.depth < recursionLimit) (hf : s.heap.get? f = some (PySem.W.kla_obj "<lambda>" q params (keyBody x y k0 k1 c p1 p2 p3 p4 p5 p6 p7 p8 p9) scope cl pm c' ctv)) (hco : ∃ (oc : Obj) (vs : Array Value) (tq : Tok), s.heap.get? c' = some oc ∧ oc.data = .fields vs ∧ vs[1]? = some (.str q tq))
    (hk : scope.kind = .function) (hc1 : scope.isCoroutine = false) (hc2 : scope.isGenerator = false) (hc3 : ∀ z ∈ scope.names, z.2 ≠ .cell) (hx : scope.names.lookup x = some .local) (hy : scope.names.lookup y = some .free)
    (hcl : cl.lookup y = some cr) (hcell : s.heap.IsCell cr (some (.ref d))) (hbind : bindArgs (PySem.W.kla_fn "<lambda>" q params (keyBody x y k0 k1 c p1 p2 p3 p4 p5 p6 p7 p8 p9) scope cl pm (.ref c') ctv) ⟨[.ref t], []⟩ = pure [(x, .ref t)]) (hnl : s.heap.NoLimit)
    (ht : IsTup s.heap t #[u0, .int n tn]) (hdd : s.heap.DictOf (mixKind prog w) d vs) (hkey : (mixKind prog w).is (Sum.inr z) u0 = true) (hv : valueAt vs (Sum.inr z) = some (.int r tr))
    (hdx : (x == ("__debug__" : Str)) = false := by decide) (hdy : (y == ("__debug__" : Str)) = false := by decide) (hcd : (y == ("__classdict__" : Str)) = false := by decide) :
    wpAny (model prog w) A (call (.ref f) [.ref t]) (PySem.W.KeyPure (.tuple [.int r, .int n]) s) (fun _ _ => False) s := by
  obtain ⟨oc, fs, tq, e1, e2, e3⟩ := hco
  refine wpAny_call ?_
  refine PySem.W.kla_callFunE hdep hf rfl hc1 hc2 rfl ⟨c', oc, fs, tq, rfl, e1, e2, e3⟩ ?_
  rw [hbind]
  refine wpAny_pure (wpAny_newFunctionEnv hc3 (fun b hb => by cases List.mem_singleton.mp hb; exact hx) (fun h₁ hns hsb => ⟨hnl.fresh _ hsb, ?_⟩) hk)
  have kp : ∀ b o, s.heap.get? b = some o → h₁.get? b = some o := fun b o e => hsb.extBut b o (Nat.ne_of_lt (Heap.lt_size e)) (Heap.get?_push_of_some _ e)
  refine PySem.W.kla_codeExpr ?_
  obtain ⟨ob, es, ep, d1, d2⟩ := hdd
  obtain ⟨oo, t1, t2⟩ := ht
  obtain ⟨ocl, cc1, cc2⟩ := hcell
  refine key_body (cr := cr) (d := d) (t := t) (u0 := u0) (u1 := .int n tn) (r := .int r tr) (z := z) (vs := vs) (m := fun y => ([(x, Value.ref t)] : List (Str × Value)).reverse.lookup y) hk hx hy hcl ⟨ocl, kp _ _ cc1, cc2⟩ hns ?_ ⟨oo, kp _ _ t1, t2⟩ ⟨ob, es, ep, kp _ _ d1, d2⟩ hkey hv (fun tk => ?_) hdx hdy hcd
  · show ([(x, Value.ref t)] : List (Str × Value)).lookup x = some (.ref t)
    simp [List.lookup]
  · refine ⟨_, tk, rfl, fun b o e => Heap.get?_push_of_some _ (kp b o e), ?_⟩
    exact .tuple (Heap.get?_push_size _ rfl) rfl rfl (.cons (.int _ _) (.cons (.int _ _) .nil))
end
/-- an item that is sorted: a pair's place, its text, its number, the text's rank -/
structure KI where
  a : Addr
  z : Str
  n : Int
  r : Int
def kiKey (it : KI) : PyData := .tuple [.int it.r, .int it.n]
abbrev kiLe : KI → KI → Bool := PySem.W.dataLe false kiKey
def tSrtL (K : PySem.W.Frag) (T : List (Addr × Str)) (i : Nat) (t : TA) : TE := fun σ H Q => t σ H fun vs H1 => ∃ (l d : Addr) (L : List KI) (kvs : List (Key × V)), vs = [.ref l] ∧ SqL K H1 l (L.map fun it => V.ref it.a) ∧ L.length ≤ 1000 ∧ σ[i]? = some (some (.ref d)) ∧ H1 d = some (.dK kvs) ∧
  (∀ it ∈ L, SqT K H1 it.a [.str it.z, .int it.n] ∧ valV kvs (Sum.inr it.z) = some (.int it.r)) ∧ Tabs T H1 ∧ ∀ H2 p, ExtN H1 H2 → Tabs T H2 → H2 p = none → Q (.ref p) (upd H2 p (.lst ((L.mergeSort kiLe).map fun it => V.ref it.a)))
theorem each_refs : ∀ {L : List KI} {its : List Value}, Vals (L.map fun it => V.ref it.a) its → PySem.W.EachIs (fun v (it : KI) => v = .ref it.a) its L
  | [], _, .nil => .nil
  | it :: L, _, .cons r t => .cons r (each_refs t)
theorem refs_each : ∀ {L : List KI} {out : List Value}, PySem.W.EachIs (fun v (it : KI) => v = .ref it.a) out L → Vals (L.map fun it => V.ref it.a) out
  | _, _, .nil => .nil
  | _, _, .cons r t => .cons r (refs_each t)
theorem sqT_extN {K : PySem.W.Frag} {H H' : Hp} {a : Addr} {xs : List V} (h : SqT K H a xs) (e : ExtN H H') : SqT K H' a xs := by
  rcases h with (h | ⟨o, h⟩) | h
  · exact .inl (.inl (e _ _ h nofun))
  · exact .inl (.inr ⟨o, e _ _ h nofun⟩)
  · exact .inr h
theorem sqL_extN {K : PySem.W.Frag} {H H' : Hp} {a : Addr} {xs : List V} (h : SqL K H a xs) (e : ExtN H H') : SqL K H' a xs := by
  rcases h with (h | ⟨o, h⟩) | h
  · exact .inl (.inl (e _ _ h nofun))
  · exact .inl (.inr ⟨o, e _ _ h nofun⟩)
  · exact .inr h
theorem kiLe_eq (a b : KI) : kiLe a b = decide (a.r < b.r ∨ a.r = b.r ∧ a.n ≤ b.n) := by
  show (!PyProof.Rows.lexLt PyProof.Rows.itemOrd (PySem.W.keyToks (kiKey b)) (PySem.W.keyToks (kiKey a))) = _
  rw [show PySem.W.keyToks (kiKey b) = [Sum.inl 1, .inl b.r, .inl 1, .inl b.n, .inl 0] from rfl, show PySem.W.keyToks (kiKey a) = [Sum.inl 1, .inl a.r, .inl 1, .inl a.n, .inl 0] from rfl]
  simp only [PyProof.Rows.lexLt, PyProof.Rows.itemLt]
  by_cases h1 : a.r < b.r
  · have : ¬ b.r < a.r := by omega
    simp [h1, this]
  · by_cases h2 : a.r = b.r
    · by_cases h3 : a.n ≤ b.n
      · have : ¬ b.n < a.n := by omega
        simp [h2, h3, this]
      · have : b.n < a.n := by omega
        simp [h2, h3, this]
    · have : b.r < a.r := by omega
      simp [h1, h2, this]
theorem ki_sorted {L : List KI} (h : L.Pairwise fun a b => a.r < b.r ∨ a.r = b.r ∧ a.n ≤ b.n) : L.mergeSort kiLe = L := by
  refine List.mergeSort_of_pairwise (h.imp fun {a b} h => ?_)
  rw [kiLe_eq]
  exact decide_eq_true h
section
variable {X : Cx}
theorem pe_srtL {T : List (Addr × Str)} {e : Expr} {t : TA} {i : Nat} {c P : Addr} {x y : Str} {params : Arguments} {scope : Scope} {k0 k1 kc : Nat} {q1 q2 q3 q4 q5 q6 q7 q8 q9 p lp kp pos : Pos}
    (hPA : PA X [e] t) (hg : Gl X "sorted") (hm : X.mg "sorted" = none) (TB : TabB X.base X.mg c P) (hcode : X.env.code = .ref c) (hmT : (P, X.env.qual ++ "<lambda>") ∈ T) (hu : ∀ p ∈ T, p.1 = P → p.2 = X.env.qual ++ "<lambda>")
    (hdef : defaultsOf params X.env = ([], [])) (hbind : ∀ (q : Str) (cl : List (Str × Addr)) (pm cv ctv u : Value), bindArgs (PySem.W.kla_fn "<lambda>" q params (keyBody x y k0 k1 kc q1 q2 q3 q4 q5 q6 q7 q8 q9) scope cl pm cv ctv) ⟨[u], []⟩ = pure [(x, u)])
    (hk : scope.kind = .function) (hc1 : scope.isCoroutine = false) (hc2 : scope.isGenerator = false) (hc3 : ∀ z ∈ scope.names, z.2 ≠ .cell) (hx : scope.names.lookup x = some .local) (hy : scope.names.lookup y = some .free) (hone : ∀ z ∈ scope.names, z.2 = .free → z.1 = y)
    (hN : X.N[i]? = some y) (hcy : X.env.scope.names.lookup y = some .cell) (hdep : X.A.depth < recursionLimit) (hun : X.A.units + 70 < cLine)
    (hb1 : backTo pos (starEach [e] X.env) = (false, eval e X.env) :: backTo pos (starEach [] X.env) := by rfl) (hpl : (backTo pos (starEach [e] X.env)).any (·.1) = false := by rfl)
    (hdx : (x == ("__debug__" : Str)) = false := by decide) (hdy : (y == ("__debug__" : Str)) = false := by decide) (hcd : (y == ("__classdict__" : Str)) = false := by decide) :
    PE X (.Call (.Name "sorted" p) [e] [⟨some "key", .Lambda params (keyBody x y k0 k1 kc q1 q2 q3 q4 q5 q6 q7 q8 q9) scope lp, kp⟩] pos) (tSrtL X.K T i t) := by
  refine ⟨fun pins s σ H Q I h' => ?_⟩
  refine wpAny_Call_Name_kw (ld_blt I hg hm (u := .builtin "sorted") (by rfl) ?_ (by decide) (by decide))
  refine PyProof.Rows.callWith_kw (thn (hPA.run pos pins s σ H _ I h') fun us s1 ⟨vs, H1, I1, r1, l, d, L, kvs, hvs, hS, hL, hσ, hd, hits, hT, q⟩ => ?_) hb1 hpl (by rfl) (by rfl)
  subst hvs
  cases r1 with | @cons _ u0 _ _ ru r0 =>
  cases r0
  obtain rfl : u0 = Value.ref l := ru
  show wpAny _ _ (evalAll [(do let v ← eval (.Lambda params (keyBody x y k0 k1 kc q1 q2 q3 q4 q5 q6 q7 q8 q9) scope lp) X.env; standAt pos; pure v)]) _ _ s1
  have hfree : ∀ z ∈ scope.names, z.2 = .free → ∃ c, X.env.cells.lookup z.1 = some c := fun z hz e => by
    rw [hone z hz e]
    exact I.ok.has y (.inl hcy)
  refine wpAny_evalAll_cons (wpAny_bind (lam_make2 I1 TB hcode hmT hu hT hdef hfree fun f c' pm ctv H2 s2 I2 eN T2 hf hfn hfr hco => wpAny_bind (wpAny_standAt (wpAny_pure ?_))))
  refine wpAny_evalAll_nil ?_
  show wpAny _ _ (call (.builtin "sorted") [.ref l] [(Str.ofString "key", .ref f)]) _ _ s2
  obtain ⟨its, rv, hl, hz⟩ := I2.list (sqL_extN hS eN)
  have each := each_refs rv
  obtain ⟨⟨oc, fs, tq, hoc, hdc, hvc⟩, _, _⟩ := I2.hok c' _ hco
  obtain ⟨m, hn, hloc⟩ := I2.loc
  obtain ⟨u, ru', look⟩ := hloc i y (.ref d) hN hσ (.inr (.inl hcy))
  obtain rfl : u = Value.ref d := ru'
  obtain ⟨cr, hcr, hcell⟩ : ∃ cr, X.env.cells.lookup y = some cr ∧ s2.heap.IsCell cr (some (.ref d)) := by
    rcases look with ⟨k, _⟩ | ⟨_, c, h1, h2⟩
    · have k : X.env.scope.names.lookup y = some .local := k
      rw [hcy] at k
      cases k
    · exact ⟨c, h1, h2⟩
  have hcl : (cloFrom X.env.cells scope.names []).lookup y = some cr := by
    obtain ⟨c2, h2⟩ := mem_lookup (cloFrom_has (cells := X.env.cells) (acc := []) (PySem.mem_of_lookup hy))
    rcases cloFrom_mem (PySem.mem_of_lookup h2) with hm | ⟨h1, h3⟩
    · cases hm
    · rw [h2, h3, hcr]
      rfl
  obtain ⟨_, _, vs, rel, ob, es, ep, d1, d2⟩ := I2.hok d _ (eN _ _ hd nofun)
  refine PySem.W.sorted_key_data (β := KI) (R := fun v it => v = .ref it.a) (bs := L) (b := false) kiKey hl.isList each ?al (.inl fun k hk => ?so) (Nat.le_trans hL (by decide)) (fun it hit => ?hu) (PyProof.Rows.ksk_s1 _ _) (fun x => PyProof.Rows.ksk_l1 _ _) (fun x => PyProof.Rows.ksk_t1 _ _) (fun v it hv hit g tk kp => ?turn) (fun out c3 g tk kp fr hout ho eo => ?fin)
  case al =>
    intro k hk k' hk'
    obtain ⟨a, _, rfl⟩ := List.mem_map.mp hk
    obtain ⟨b, _, rfl⟩ := List.mem_map.mp hk'
    rfl
  case so =>
    obtain ⟨a, _, rfl⟩ := List.mem_map.mp hk
    exact ⟨_, _, rfl⟩
  case hu =>
    show X.A.units + 2 + (PyData.tuple [.int it.r, .int it.n]).depth < cLine
    have : (PyData.tuple [.int it.r, .int it.n]).depth ≤ 2 := by show max 0 (max 0 0) + 1 ≤ 2; decide
    omega
  case fin =>
    refine ⟨.ref _, upd H2 (s2.heap.objs.size + 1) (.lst ((L.mergeSort kiLe).map fun it => V.ref it.a)), I2.laid (t' := tk) kp (Nat.le_succ _) ⟨?_, out, c3, refs_each eo, hout⟩, rfl, q H2 _ eN T2 (I2.hok.fresh (Nat.le_succ _))⟩
    rw [List.length_map, List.length_mergeSort]
    exact Nat.le_trans hL (by decide)
  case turn =>
    subst hv
    obtain ⟨hq, hvv⟩ := hits it hit
    obtain ⟨is2, r2, ⟨ot, t1, t2⟩, _⟩ := I2.tuple (sqT_extN hq eN)
    cases r2 with | @cons _ w0 _ _ rw0 r2 =>
    cases r2 with | @cons _ w1 _ _ rw1 r2 =>
    cases r2
    obtain ⟨t0, rfl⟩ := rw0
    obtain ⟨tn, rfl⟩ := rw1
    obtain ⟨w', hw, rw'⟩ := RelO.some_of (v := .int it.r) (o := valueAt vs (Sum.inr it.z)) (by rw [← hvv]; exact rel.val _)
    obtain ⟨tr, rfl⟩ := rw'
    obtain ⟨ocl, cc1, cc2⟩ := hcell
    exact key_turn (s := { s2 with heap := g, toks := tk }) (A := X.A.in1.in1) (tn := tn) (tr := tr) (vs := vs) (u0 := .str it.z t0) (z := it.z) hdep (kp _ _ hf) ⟨oc, fs, tq, kp _ _ hoc, hdc, hvc⟩ hk hc1 hc2 hc3 hx hy hcl ⟨ocl, kp _ _ cc1, cc2⟩ (hbind _ _ _ _ _ _) (I2.nolimit.keeps kp) ⟨ot, kp _ _ t1, t2⟩ ⟨ob, es, ep, kp _ _ d1, d2⟩ (kV_is (k := Sum.inr it.z) ⟨t0, rfl⟩) hw hdx hdy hcd
end
end Fw

set_option Elab.async false
set_option linter.all false
set_option maxRecDepth 100000
set_option maxHeartbeats 1000000
/-! a dict whose keys are tuples and None -/
namespace Fw
open PySem PySem.Spec PyProof.Rows L2
section
variable {prog : Program} {w : World} {A : Around} {E : Value → Shared → Prop} {s : Shared}
/-- what may stand as a key: None, or a tuple of few things -/
def MIs (h : Heap) (k : NestedKey) (v : Value) : Prop := NestedIs h k v ∧ k.depth ≤ 8 ∧ (v = .none ∨ ∃ a, v = .ref a)
/-- an entry: key, the key's value, the value -/
abbrev EntX := NestedKey × Value × Value
def entM (w : World) (x : EntX) : DictEntry := ⟨x.1.hash w, x.2.1, x.2.2⟩
theorem MIs.same {h : Heap} {x y : NestedKey} {v : Value} (a : MIs h x v) (b : MIs h y v) : x = y := NestedIs.inj x y v a.1 b.1
theorem MIs.eq {x y : NestedKey} {a b : Value} {Q : Bool → Shared → Prop} (ha : MIs s.heap x a) (hb : MIs s.heap y b) (hu : A.units + 8 < cLine) (q : Q (decide (x = y)) s) : wpAny (model prog w) A (eqBool a b) Q E s := by
  have lt : A.units + min x.depth y.depth < cLine := by
    have := ha.2.1
    omega
  have e := eqAt_key x y A s a b ha.1 hb.1 lt prog w E Q
  rw [← NestedKey.decide_eq] at e
  exact e q
theorem MIs.quiet {k : NestedKey} {v : Value} {Q : Bool → Shared → Prop} (a : MIs s.heap k v) (q : Q true s) : wpAny (model prog w) A (eqIsQuiet 8 v) Q E s := quiet_key k v 8 s a.1 a.2.1 A E Q q
theorem MIs.hash {k : NestedKey} {v : Value} {Q : Int → Shared → Prop} (a : MIs s.heap k v) (hu : A.units + 8 < cLine) (q : ∀ tk, Q (k.hash w) { s with toks := tk }) : wpAny (model prog w) A (pyHash v) Q E s :=
  pyHash_key k v A s Q a.1 (by have := a.2.1; omega) (q _)
/-- the entries of a table: none but those of xs, in their order -/
structure Tab (w : World) (es : Array DictEntry) (xs : List EntX) : Prop where
  eq : es.toList = xs.map (entM w)
  nd : (xs.map (·.1)).Nodup
section
variable {es : Array DictEntry} {xs : List EntX}
theorem Tab.size (t : Tab w es xs) : es.size = xs.length := by
  have := congrArg List.length t.eq
  rwa [Array.length_toList, List.length_map] at this
theorem Tab.get (t : Tab w es xs) (i : Nat) : es[i]? = (xs[i]?).map (entM w) := by
  have := congrArg (fun l => l[i]?) t.eq
  simpa using this
theorem Tab.one (t : Tab w es xs) {i j : Nat} {y z : EntX} (hi : xs[i]? = some y) (hj : xs[j]? = some z) (e : y.1 = z.1) : i = j := by
  refine (List.getElem?_inj ?_ t.nd).mp ?_
  · rw [List.length_map]
    exact (List.getElem?_eq_some_iff.mp hi).1
  · rw [List.getElem?_map, List.getElem?_map, hi, hj]
    exact congrArg some e
/-- the places that a search for hash h goes through -/
abbrev plc (es : Array DictEntry) (h : Int) : List Nat := placesWithHash es.size (fun i => es[i]?.map (·.hash)) h
theorem Tab.at_ (t : Tab w es xs) {h : Int} {i : Nat} (m : i ∈ plc es h) : ∃ y, xs[i]? = some y ∧ es[i]? = some (entM w y) ∧ y.1.hash w = h := by
  have hh : ((es[i]?.map (·.hash)) == some h) = true := (List.mem_filter.mp m).2
  have g := t.get i
  cases e : xs[i]? with
  | none =>
    rw [e] at g
    rw [show es[i]? = none from g] at hh
    cases hh
  | some y =>
    rw [e] at g
    have g : es[i]? = some (entM w y) := g
    rw [g] at hh
    exact ⟨y, rfl, g, by simpa [entM] using hh⟩
theorem Tab.in_ (t : Tab w es xs) {j : Nat} {y : EntX} (hj : xs[j]? = some y) : j ∈ plc es (y.1.hash w) := by
  have g := t.get j
  rw [hj] at g
  have g : es[j]? = some (entM w y) := g
  refine List.mem_filter.mpr ⟨List.mem_range.mpr (Array.getElem?_eq_some_iff.mp g).1, ?_⟩
  show ((es[j]?.map (·.hash)) == some (y.1.hash w)) = true
  rw [g]
  simp [entM]
theorem plc_nd (es : Array DictEntry) (h : Int) : (plc es h).Nodup := List.nodup_range.filter _
theorem Tab.stored (t : Tab w es xs) {h : Int} {g : Heap} (his : ∀ x ∈ xs, MIs g x.1 x.2.1) : ∀ v ∈ (plc es h).filterMap (fun i => es[i]?.map (·.key)), ∃ k, MIs g k v := fun v hv => by
  obtain ⟨i, m, e⟩ := List.mem_filterMap.mp hv
  obtain ⟨y, h1, h2, _⟩ := t.at_ m
  rw [h2] at e
  cases e
  exact ⟨y.1, his y (List.mem_of_getElem? h1)⟩
end
/-- no table of such keys tells more -/
theorem tells_not {v : Value} {stored : List Value} {Q : Bool → Shared → Prop} (all : ∀ u ∈ v :: stored, ∃ k, MIs s.heap k u) (q : Q false s) : wpAny (model prog w) A (tableMayTell v stored) Q E s := by
  obtain ⟨k, hk⟩ := all v (List.mem_cons_self ..)
  unfold tableMayTell
  split
  · exact wpAny_pure q
  refine wpAny_bind (hk.quiet ?_)
  rw [if_neg (by simp)]
  refine wpAny_bind (wpAny_forIn_list _ (fun rest r t => t = s ∧ r = (none, ()) ∧ rest <:+ stored) _ ?_ ?_ _ _ ⟨rfl, rfl, List.suffix_refl _⟩)
  · rintro u rest r t ⟨rfl, rfl, suf⟩
    obtain ⟨k', hk'⟩ := all u (List.mem_cons_of_mem _ (suf.subset (List.mem_cons_self ..)))
    refine wpAny_bind (hk'.quiet ?_)
    rw [if_neg (by simp)]
    exact wpAny_pure ⟨rfl, rfl, (List.suffix_cons u rest).trans suf⟩
  · rintro r t ⟨rfl, rfl, _⟩
    exact wpAny_pure q
section
variable {es : Array DictEntry} {xs : List EntX} {d : Addr} {o : Obj} {ep : Nat} {k : NestedKey} {kv : Value} {Q : Option Nat → Shared → Prop}
/-- the search among None alone -/
theorem walk_plain (t : Tab w es xs) (his : ∀ x ∈ xs, MIs s.heap x.1 x.2.1) (hu : A.units + 8 < cLine) (hkey : MIs s.heap k kv) (ho : s.heap.get? d = some o) (hd : o.data = .dict es ep) (no : (∀ (j : Nat) (y : EntX), xs[j]? = some y → y.1 ≠ k) → Q none s) (yes : ∀ (j : Nat) (y : EntX), xs[j]? = some y → y.1 = k → Q (some j) s) :
    wpAny (model prog w) A (dictWalkPlain d kv (k.hash w) es (plc es (k.hash w))) Q E s := by
  unfold dictWalkPlain
  refine wpAny_bind (wpAny_forIn_list _ (fun rest b t' => t' = s ∧ b = (none, ()) ∧ rest <:+ plc es (k.hash w) ∧ ∀ (j : Nat) (y : EntX), xs[j]? = some y → y.1 = k → j ∈ rest) _ ?_ ?_ _ _ ⟨rfl, rfl, List.suffix_refl _, fun j y hj e => e ▸ t.in_ hj⟩)
  · rintro i rest b t' ⟨rfl, rfl, suf, left⟩
    obtain ⟨y, hy, ey, eh⟩ := t.at_ (suf.subset (List.mem_cons_self ..))
    have suf' := (List.suffix_cons i rest).trans suf
    simp only [ey]
    rw [if_pos (show ((entM w y).hash == k.hash w) = true from beq_iff_eq.mpr eh)]
    refine wpAny_bind (wpAny_dictEpoch ho hd (wpAny_bind ((his y (List.mem_of_getElem? hy)).eq hkey hu (wpAny_bind (wpAny_dictEpoch ho hd ?_)))))
    show wpAny _ _ (if (ep != ep) = true then _ else _) _ _ _
    rw [if_neg (by simp)]
    by_cases e : y.1 = k
    · rw [decide_eq_true e]
      exact wpAny_bind (wpAny_rule (wpAny_pure (wpAny_pure (yes i y hy e))))
    · rw [decide_eq_false e]
      refine wpAny_bind (wpAny_rule (wpAny_pure ⟨rfl, rfl, suf', fun j z hj ez => ?_⟩))
      rcases List.mem_cons.mp (left j z hj ez) with rfl | m
      · rw [hy] at hj
        cases hj
        exact absurd ez e
      · exact m
  · rintro b t' ⟨rfl, rfl, _, left⟩
    exact wpAny_pure (no fun j y hj e => nomatch left j y hj e)
/-- the search for a key -/
theorem m_find (t : Tab w es xs) (his : ∀ x ∈ xs, MIs s.heap x.1 x.2.1) (hu : A.units + 8 < cLine) (hkey : MIs s.heap k kv) (ho : s.heap.get? d = some o) (hd : o.data = .dict es ep) (no : (∀ (j : Nat) (y : EntX), xs[j]? = some y → y.1 ≠ k) → Q none s) (yes : ∀ (j : Nat) (y : EntX), xs[j]? = some y → y.1 = k → Q (some j) s) :
    wpAny (model prog w) A (dictFind d kv (k.hash w)) Q E s := by
  have tl : ∀ {Q' : Bool → Shared → Prop}, Q' false s → wpAny (model prog w) A (tableMayTell kv ((plc es (k.hash w)).filterMap (fun i => es[i]?.map (·.key)))) Q' E s := fun {Q'} q => by
    refine tells_not (fun u hu => ?_) q
    rcases List.mem_cons.mp hu with rfl | hu
    · exact ⟨k, hkey⟩
    · exact t.stored his u hu
  unfold dictFind
  refine wpAny_holding (wpAny_bind (wpAny_dictEntries ho hd ?_))
  rcases hkey.2.2 with rfl | ⟨a, rfl⟩
  case' inl =>
    dsimp only
    by_cases hall : ((Value.none :: (plc es (k.hash w)).filterMap (fun i => es[i]?.map (·.key))).all carriedByValue) = true
    case pos =>
      rw [if_pos hall]
      exact walk_plain t his hu hkey ho hd no yes
    rw [if_neg hall]
    by_cases one : (((plc es (k.hash w)).filterMap (fun i => es[i]?.map (·.key))) == [Value.none]) = true <;> first | rw [if_pos one] | rw [if_neg one]
  case' inr =>
    dsimp only
    rw [if_neg (by simp [carriedByValue])]
    rw [if_neg fun c => by
      obtain ⟨i, hi, hc⟩ := Array.any_eq_true.mp c
      have g := t.get i
      rw [Array.getElem?_eq_getElem hi] at g
      cases e : xs[i]? with
      | none => rw [e] at g; cases g
      | some y =>
        rw [e] at g
        rw [Option.some.inj g, Bool.and_eq_true] at hc
        have e1 : y.2.1 = Value.ref a := eq_of_beq hc.1
        have m := his y (List.mem_of_getElem? e)
        rw [e1] at m
        have e2 := hc.2
        rw [show (entM w y).hash = k.hash w from congrArg (NestedKey.hash w) (m.same hkey)] at e2
        simp at e2]
    by_cases one : (((plc es (k.hash w)).filterMap (fun i => es[i]?.map (·.key))) == [Value.ref a]) = true <;> first | rw [if_pos one] | rw [if_neg one]
  all_goals first | refine wpAny_bind (wpAny_pure ?_) | refine wpAny_bind (tl ?_)
  all_goals
    rw [if_neg (by simp)]
    refine wpAny_bind (wpAny_forIn_list _ (fun rest b t' => t' = s ∧ rest <:+ plc es (k.hash w) ∧ ((b = (none, none) ∧ ∀ (j : Nat) (y : EntX), xs[j]? = some y → y.1 = k → j ∈ rest) ∨ ∃ j y, b = (none, some j) ∧ xs[j]? = some y ∧ y.1 = k ∧ j ∉ rest)) _ ?step ?fin _ _ ⟨rfl, List.suffix_refl _, .inl ⟨rfl, fun j y hj e => e ▸ t.in_ hj⟩⟩)
    case fin =>
      rintro b t' ⟨rfl, _, ⟨rfl, left⟩ | ⟨j, y, rfl, hj, ej, _⟩⟩
      · exact wpAny_pure (no fun j y hj e => nomatch left j y hj e)
      · exact wpAny_pure (yes j y hj ej)
    case step =>
      rintro i rest b t' ⟨rfl, suf, inv⟩
      obtain ⟨y, hy, ey, eh⟩ := t.at_ (suf.subset (List.mem_cons_self ..))
      have suf' := (List.suffix_cons i rest).trans suf
      have ni : i ∉ rest := (List.nodup_cons.mp (suf.sublist.nodup (plc_nd es _))).1
      simp only [ey]
      rw [if_pos (show ((entM w y).hash == k.hash w) = true from beq_iff_eq.mpr eh)]
      refine wpAny_bind (wpAny_dictEpoch ho hd (wpAny_bind ((his y (List.mem_of_getElem? hy)).eq hkey hu (wpAny_bind (wpAny_dictEpoch ho hd ?_)))))
      show wpAny _ _ (if (ep != ep) = true then _ else _) _ _ _
      rw [if_neg (by simp)]
      by_cases e : y.1 = k
      · rw [decide_eq_true e]
        rcases inv with ⟨rfl, left⟩ | ⟨j, z, rfl, hj, ej, nj⟩
        · simp only [if_true, Option.isSome_none, Bool.false_eq_true, if_false]
          first
            | refine wpAny_bind (wpAny_rule ?_)
            | refine wpAny_bind (wpAny_pure (wpAny_bind (wpAny_rule ?_)))
          split
          · exact wpAny_pure (wpAny_pure (yes i y hy e))
          · exact wpAny_pure ⟨rfl, suf', .inr ⟨i, y, rfl, hy, e, ni⟩⟩
        · exact absurd (t.one hj hy (ej.trans e.symm) ▸ List.mem_cons_self ..) nj
      · rw [decide_eq_false e]
        have inv' : (b = (none, none) ∧ ∀ (j : Nat) (y : EntX), xs[j]? = some y → y.1 = k → j ∈ rest) ∨ ∃ j y, b = (none, some j) ∧ xs[j]? = some y ∧ y.1 = k ∧ j ∉ rest := by
          rcases inv with ⟨rfl, left⟩ | ⟨j, z, rfl, hj, ej, nj⟩
          · refine .inl ⟨rfl, fun j z hj ez => (List.mem_cons.mp (left j z hj ez)).resolve_left fun q => ?_⟩
            subst q
            rw [hy] at hj
            cases hj
            exact e ez
          · exact .inr ⟨j, z, rfl, hj, ej, fun m => nj (List.mem_cons_of_mem _ m)⟩
        simp only [Bool.false_eq_true, if_false]
        refine wpAny_bind (wpAny_rule ?_)
        rcases inv' with ⟨rfl, l⟩ | ⟨j, z, rfl, r⟩
        · first
            | exact wpAny_pure ⟨rfl, suf', .inl ⟨rfl, l⟩⟩
            | (rw [if_neg (by simp)]; exact wpAny_pure ⟨rfl, suf', .inl ⟨rfl, l⟩⟩)
        · first
            | exact wpAny_pure ⟨rfl, suf', .inr ⟨j, z, rfl, r⟩⟩
            | (rw [if_neg (by simp)]; exact wpAny_pure ⟨rfl, suf', .inr ⟨j, z, rfl, r⟩⟩)
end
/-- at d stands a dict with the entries xs -/
def DictM (w : World) (h : Heap) (d : Addr) (xs : List EntX) : Prop := ∃ o es ep, h.get? d = some o ∧ o.ExactDict ∧ o.data = .dict es ep ∧ es.toList = xs.map (entM w)
theorem DictM.typeIs {d : Addr} {xs : List EntX} : DictM w s.heap d xs → s.TypeIs (.ref d) "dict"
  | ⟨o, _, _, ho, hc, _⟩ => ⟨o, ho, hc.1⟩
section
variable {d : Addr} {xs : List EntX} {k : NestedKey} {kv v : Value}
theorem m_get {j : Nat} {p : Value × Value} {Q : Option Value → Shared → Prop} (hu : A.units + 8 < cLine) (hkey : MIs s.heap k kv) (hm : DictM w s.heap d xs) (his : ∀ x ∈ xs, MIs s.heap x.1 x.2.1) (hn : (xs.map (·.1)).Nodup) (hj : xs[j]? = some (k, p))
    (q : ∀ tk, Q (some p.2) { s with toks := tk }) : wpAny (model prog w) A (dictGet d kv) Q E s := by
  obtain ⟨o, es, ep, ho, _, hd, he⟩ := hm
  have t : Tab w es xs := ⟨he, hn⟩
  unfold dictGet
  refine wpAny_holding (wpAny_bind (hkey.hash hu fun tk => wpAny_bind (m_find (s := { s with toks := tk }) t his hu hkey ho hd (fun no => absurd rfl (no j _ hj)) fun i y hi e => ?_)))
  obtain rfl := t.one hi hj e
  refine wpAny_bind (wpAny_dictEntries (s := { s with toks := tk }) ho hd ?_)
  rw [t.get i, hj]
  exact wpAny_pure (q tk)
theorem m_put {Q : Unit → Shared → Prop} (hu : A.units + 8 < cLine) (hkey : MIs s.heap k kv) (hm : DictM w s.heap d xs) (his : ∀ x ∈ xs, MIs s.heap x.1 x.2.1) (hn : (xs.map (·.1)).Nodup) (hno : k ∉ xs.map (·.1)) (hz : xs.length < sizeLine)
    (q : ∀ h' tk, DictM w h' d (xs ++ [(k, kv, v)]) → Heap.SameBut d s.heap h' → Q () { s with heap := h', toks := tk }) : wpAny (model prog w) A (dictSet d kv v) Q E s := by
  obtain ⟨o, es, ep, ho, hc, hd, he⟩ := hm
  have t : Tab w es xs := ⟨he, hn⟩
  have new : ∀ (j : Nat) (y : EntX), xs[j]? = some y → y.1 ≠ k := fun j y hj e => hno (e ▸ List.mem_map_of_mem (List.mem_of_getElem? hj))
  unfold dictSet
  refine wpAny_holding (wpAny_bind (hkey.hash hu fun tk => ?_))
  unfold dictSetHashed
  refine wpAny_holding (wpAny_bind (m_find (s := { s with toks := tk }) t his hu hkey ho hd (fun _ => ?_) fun j y hj e => absurd e (new j y hj)))
  have fits : es.size ≤ sizeLine := by rw [t.size]; omega
  refine wpAny_bind (wpAny_rule (wpAny_updateDictKeys (s := { s with toks := tk }) ho hd (q _ _ ⟨_, _, _, Heap.get?_update_self _ ho (Obj.isFreed_of_dict (Obj.data_mapDictKeys hd _)), hc.mapDictKeys _, Obj.data_mapDictKeys hd _, ?_⟩ (Heap.SameBut.update ..)) fits))
  rw [Array.toList_push, he, List.map_append]
  rfl
theorem m_getItem {j : Nat} {p : Value × Value} {Q : Value → Shared → Prop} (hu : A.units + 9 < cLine) (hkey : MIs s.heap k kv) (hm : DictM w s.heap d xs) (his : ∀ x ∈ xs, MIs s.heap x.1 x.2.1) (hn : (xs.map (·.1)).Nodup) (hj : xs[j]? = some (k, p))
    (q : ∀ tk, Q p.2 { s with toks := tk }) : wpAny (model prog w) A (getItem (.ref d) kv) Q E s := by
  refine PyProof.Rows.getItem_slot hm.typeIs (by decide) slot_dict_getitem (call_meetsIn slot_dict_getitem hm.typeIs entry_dict_getitem (args_dict_getitem _ _) (S := fun A' R s' => A' = A ∧ s' = s ∧ ∀ tk, R (.ok (.ret p.2)) { s with toks := tk }) (.of_wp fun A' R s' hS => ?_) ⟨rfl, rfl, fun tk => q tk⟩)
  obtain ⟨rfl, rfl, hq⟩ := hS
  show wpAny _ _ (dictGet d kv >>= _) _ _ _
  exact wpAny_bind (m_get (by show _ + 1 + 8 < cLine; omega) hkey hm his hn hj fun tk => wpAny_pure ⟨p.2, rfl, hq tk⟩)
theorem m_setNew {Q : Unit → Shared → Prop} (hu : A.units + 9 < cLine) (hkey : MIs s.heap k kv) (hm : DictM w s.heap d xs) (his : ∀ x ∈ xs, MIs s.heap x.1 x.2.1) (hn : (xs.map (·.1)).Nodup) (hno : k ∉ xs.map (·.1)) (hz : xs.length < sizeLine)
    (q : ∀ h' tk, DictM w h' d (xs ++ [(k, kv, v)]) → Heap.SameBut d s.heap h' → Q () { s with heap := h', toks := tk }) : wpAny (model prog w) A (setItem (.ref d) kv v) Q E s := by
  have c : wpAny (model prog w) A (call (.builtin "dict.__setitem__") [.ref d, kv, v]) (fun _ s' => Q () s') E s := by
    refine call_meetsIn slot_dict_setitem hm.typeIs entry_dict_setitem (args_dict_setitem _ _ _) (S := fun A' R s' => A' = A ∧ s' = s ∧ ∀ h' tk, DictM w h' d (xs ++ [(k, kv, v)]) → Heap.SameBut d s.heap h' → R (.ok (.ret .none)) { s with heap := h', toks := tk }) (.of_wp fun A' R s' hS => ?_) ⟨rfl, rfl, q⟩
    obtain ⟨rfl, rfl, hq⟩ := hS
    refine wpAny_bind (m := Builtin.Dict.notOrdered "__setitem__" ⟨[.ref d, kv, v], []⟩) (wpAny_notOrdered_dict hm.typeIs ?_)
    refine wpAny_bind (m := dictSet d kv v) (m_put (by show _ + 1 + 8 < cLine; omega) hkey hm his hn hno hz fun h' tk m sb => wpAny_pure ⟨.none, rfl, hq h' tk m sb⟩)
  unfold setItem
  refine wpAny_holding (wpAny_bind (wpAny_sequenceKey hm.typeIs (by decide) (wpAny_bind (wpAny_callSpecial?_slot (name := Str.ofString "__setitem__") hm.typeIs slot_dict_setitem (wpAny_mono c (fun _ s' h => ?_) fun _ _ e => e)))))
  exact wpAny_pure h
end
end
end Fw

set_option Elab.async false
set_option linter.all false
set_option maxRecDepth 100000
set_option maxHeartbeats 1000000
/-! the same over the layer -/
namespace Fw
open PySem PySem.Spec PyProof.Rows L2
abbrev MKey := Option (List Key)
def itemN : Key → NestedKey
  | .inl i => .num i
  | .inr z => .text z
def keyN : MKey → NestedKey
  | none => .none
  | some ks => .tup (ks.map itemN)
theorem itemN_inj {a b : Key} (h : itemN a = itemN b) : a = b := by
  cases a <;> cases b <;> cases h <;> rfl
theorem itemsN_inj : ∀ {a b : List Key}, a.map itemN = b.map itemN → a = b
  | [], [], _ => rfl
  | [], _ :: _, h => nomatch h
  | _ :: _, [], h => nomatch h
  | x :: a, y :: b, h => by
    obtain ⟨h1, h2⟩ := List.cons.inj h
    rw [itemN_inj h1, itemsN_inj h2]
theorem keyN_inj {a b : MKey} (h : keyN a = keyN b) : a = b := by
  cases a with
  | none => cases b with
    | none => rfl
    | some b => cases h
  | some a => cases b with
    | none => cases h
    | some b => rw [itemsN_inj (NestedKey.tup.inj h)]
theorem items_hash (P : Program) (w : World) : ∀ ks : List Key, NestedKey.hashes w (ks.map itemN) = ks.map (mixKind P w).hash
  | [] => rfl
  | .inl i :: ks => by show NestedKey.hash w (.num i) :: NestedKey.hashes w _ = _; rw [items_hash P w ks]; rfl
  | .inr z :: ks => by show NestedKey.hash w (.text z) :: NestedKey.hashes w _ = _; rw [items_hash P w ks]; rfl
theorem items_depth : ∀ ks : List Key, NestedKey.depthAll (ks.map itemN) = 0
  | [] => rfl
  | .inl i :: ks => by show max 0 (NestedKey.depthAll _) = 0; rw [items_depth ks]; rfl
  | .inr z :: ks => by show max 0 (NestedKey.depthAll _) = 0; rw [items_depth ks]; rfl
theorem keyN_depth (k : MKey) : (keyN k).depth ≤ 8 := by
  cases k with
  | none => exact Nat.zero_le _
  | some ks => show NestedKey.depthAll _ + 1 ≤ 8; rw [items_depth]; decide
theorem items_nested {h : Heap} : ∀ {ks : List Key} {its : List Value}, Vals (ks.map kV) its → NestedAll h (ks.map itemN) its
  | [], _, .nil => .nil
  | .inl i :: ks, _, .cons r t => by
    obtain ⟨tk, rfl⟩ := r
    exact .cons (.int _ _) (items_nested t)
  | .inr z :: ks, _, .cons r t => by
    obtain ⟨tk, rfl⟩ := r
    exact .cons (.text _ _) (items_nested t)
/-- the value u is the key k: None, or a known tuple -/
def KeyAt (H : Hp) (k : MKey) (u : Value) : Prop := (k = none ∧ u = .none) ∨ ∃ ks a, k = some ks ∧ u = .ref a ∧ H a = some (.tup (ks.map kV))
def KeyV (H : Hp) (k : MKey) (y : V) : Prop := (k = none ∧ y = .non) ∨ ∃ ks a, k = some ks ∧ y = .ref a ∧ H a = some (.tup (ks.map kV))
theorem KeyV.at {H : Hp} {k : MKey} {y : V} {u : Value} (h : KeyV H k y) (r : RelV y u) : KeyAt H k u := by
  rcases h with ⟨rfl, rfl⟩ | ⟨ks, a, rfl, rfl, e⟩
  · exact .inl ⟨rfl, r⟩
  · exact .inr ⟨ks, a, rfl, r, e⟩
theorem KeyAt.keep {H H' : Hp} {k : MKey} {u : Value} (h : KeyAt H k u) (e : ∀ b xs, H b = some (.tup xs) → H' b = some (.tup xs)) : KeyAt H' k u := by
  rcases h with ⟨rfl, rfl⟩ | ⟨ks, a, rfl, rfl, q⟩
  · exact .inl ⟨rfl, rfl⟩
  · exact .inr ⟨ks, a, rfl, rfl, e _ _ q⟩
theorem KeyV.keep {H H' : Hp} {k : MKey} {u : V} (h : KeyV H k u) (e : ∀ b xs, H b = some (.tup xs) → H' b = some (.tup xs)) : KeyV H' k u := by
  rcases h with ⟨rfl, rfl⟩ | ⟨ks, a, rfl, rfl, q⟩
  · exact .inl ⟨rfl, rfl⟩
  · exact .inr ⟨ks, a, rfl, rfl, e _ _ q⟩
theorem KeyAt.is {P : Program} {w : World} {H : Hp} {h : Heap} {k : MKey} {u : Value} (x : KeyAt H k u) (ok : HOk P w H h) : MIs h (keyN k) u := by
  rcases x with ⟨rfl, rfl⟩ | ⟨ks, a, rfl, rfl, e⟩
  · exact ⟨.none, Nat.zero_le _, .inl rfl⟩
  · obtain ⟨_, its, r, o, h1, h2, n, h3⟩ := (show ObjOk P w H h a (.tup (ks.map kV)) from ok a _ e)
    exact ⟨.tup h1 h2 h3 (by simpa using items_nested r), keyN_depth _, .inr ⟨a, rfl⟩⟩
/-- a dict of tuples and None, by its entries as they stand -/
def MixO (w : World) (d : Addr) (xs : List (NestedKey × Value × Value)) : HO := .ext fun h => DictM w h d xs
theorem mix_ok {P : Program} {w : World} {H : Hp} {h : Heap} {d : Addr} {xs : List (NestedKey × Value × Value)} (m : DictM w h d xs) : ObjOk P w H h d (MixO w d xs) := by
  obtain ⟨o, es, ep, h1, r⟩ := m
  exact ⟨⟨o, es, ep, h1, r⟩, ⟨o, h1⟩, fun g1 g2 ⟨o, es, ep, e, r⟩ k => ⟨o, es, ep, k _ e, r⟩⟩
theorem mix_of {P : Program} {w : World} {H : Hp} {h : Heap} {d : Addr} {xs : List (NestedKey × Value × Value)} (m : ObjOk P w H h d (MixO w d xs)) : DictM w h d xs := m.1
def MRel (H : Hp) (p : MKey × V) (q : NestedKey × Value × Value) : Prop := q.1 = keyN p.1 ∧ KeyAt H p.1 q.2.1 ∧ RelV p.2 q.2.2
/-- at d stands a dict of tuples and None: kvs -/
def MixD (w : World) (H : Hp) (d : Addr) (kvs : List (MKey × V)) : Prop := ∃ xs, H d = some (MixO w d xs) ∧ kvs.length ≤ 1000 ∧ (kvs.map (·.1)).Nodup ∧ Paired (MRel H) kvs xs
theorem MixD.same {w : World} {H H' : Hp} {d : Addr} {kvs : List (MKey × V)} (m : MixD w H d kvs) (hd : ∀ o, H d = some o → H' d = some o) (ht : ∀ b xs, H b = some (.tup xs) → H' b = some (.tup xs)) : MixD w H' d kvs := by
  obtain ⟨xs, h1, h2, h3, h4⟩ := m
  exact ⟨xs, hd _ h1, h2, h3, L2.Paired.mapP h4 fun p q ⟨a, b, c⟩ => ⟨a, b.keep ht, c⟩⟩
theorem mrel_is {P : Program} {w : World} {H : Hp} {h : Heap} (ok : HOk P w H h) : ∀ {kvs : List (MKey × V)} {xs : List (NestedKey × Value × Value)}, Paired (MRel H) kvs xs → ∀ x ∈ xs, MIs h x.1 x.2.1
  | _, _, .nil => fun x hx => nomatch hx
  | _, _, .cons r t => fun x hx => by
    rcases List.mem_cons.mp hx with rfl | hx
    · rw [r.1]
      exact r.2.1.is ok
    · exact mrel_is ok t x hx
theorem mrel_keys {H : Hp} : ∀ {kvs : List (MKey × V)} {xs : List (NestedKey × Value × Value)}, Paired (MRel H) kvs xs → xs.map (·.1) = (kvs.map (·.1)).map keyN
  | _, _, .nil => rfl
  | _, _, .cons r t => by
    rw [List.map_cons, List.map_cons, List.map_cons, mrel_keys t, r.1]
theorem nodup_keyN {l : List MKey} (h : l.Nodup) : (l.map keyN).Nodup := by
  rw [List.nodup_iff_pairwise_ne, List.pairwise_map]
  exact (List.nodup_iff_pairwise_ne.mp h).imp fun h e => h (keyN_inj e)
theorem mrel_at {H : Hp} : ∀ {kvs : List (MKey × V)} {xs : List (NestedKey × Value × Value)} {k : MKey} {v : V}, Paired (MRel H) kvs xs → (k, v) ∈ kvs → ∃ (j : Nat) (p : Value × Value), xs[j]? = some (keyN k, p) ∧ RelV v p.2
  | _, _, _, _, .nil, h => nomatch h
  | _, _, k, v, .cons (b := q) r t, h => by
    rcases List.mem_cons.mp h with e | h
    · subst e
      exact ⟨0, q.2, by rw [← r.1]; rfl, r.2.2⟩
    · obtain ⟨j, p, e, rv⟩ := mrel_at t h
      exact ⟨j + 1, p, e, rv⟩
/-- d[k], there -/
def tMGet (w : World) (td ty : TE) : TE := fun σ H Q => td σ H fun x H1 => ty σ H1 fun y H2 => ∃ (a : Addr) (kvs : List (MKey × V)) (k : MKey) (v : V), x = .ref a ∧ MixD w H2 a kvs ∧ KeyV H2 k y ∧ (k, v) ∈ kvs ∧ Q v H2
/-- d[k] = v, k new -/
def tMPut (w : World) (td ty tv : TE) : TS := fun D σ H => tv σ H fun v H1 => td σ H1 fun x H2 => ty σ H2 fun y H3 => ∃ (a : Addr) (kvs : List (MKey × V)) (k : MKey), x = .ref a ∧ MixD w H3 a kvs ∧ KeyV H3 k y ∧ k ∉ kvs.map (·.1) ∧ kvs.length < 1000 ∧
  ∀ o, MixD w (upd H3 a o) a (kvs ++ [(k, v)]) → D.nx σ (upd H3 a o)
/-- d[None] = v, d a dict of tuples alone -/
def tMPutT (w : World) (td ty tv : TE) : TS := fun D σ H => tv σ H fun v H1 => td σ H1 fun x H2 => ty σ H2 fun y H3 => ∃ (a : Addr) (kvs : List (List Key × V)), x = .ref a ∧ y = .non ∧ H3 a = some (.dT kvs) ∧ kvs.length < 1000 ∧
  ∀ o, MixD w (upd H3 a o) a ((kvs.map fun p => (some p.1, p.2)) ++ [(none, v)]) → D.nx σ (upd H3 a o)
theorem mix_ne {w : World} {d : Addr} {xs : List (NestedKey × Value × Value)} {ys : List V} : MixO w d xs ≠ .tup ys := fun z => by
  unfold MixO at z
  cases z
theorem mrel_snoc {H : Hp} : ∀ {kvs : List (MKey × V)} {xs : List (NestedKey × Value × Value)} {p : MKey × V} {q : NestedKey × Value × Value}, Paired (MRel H) kvs xs → MRel H p q → Paired (MRel H) (kvs ++ [p]) (xs ++ [q])
  | _, _, _, _, .nil, r => .cons r .nil
  | _, _, _, _, .cons a t, r => .cons a (mrel_snoc t r)
theorem keyT_N (P : Program) (w : World) (ks : List Key) : (tupleKind (mixKind P w)).hash ks = (keyN (some ks)).hash w := by
  show reduceHash (Builtin.Tuple.tupleHashOf (ks.map (mixKind P w).hash)) = reduceHash (Builtin.Tuple.tupleHashOf (NestedKey.hashes w (ks.map itemN)))
  rw [items_hash P w ks]
section
variable {X : Cx} {o i value : Expr} {pos pos' : Pos} {td ty tv : TE}
theorem pe_mget (hu : X.A.units + 20 < cLine) (ho : PE X o td) (hi : PE X i ty) (hs : NoSl i) : PE X (.Subscript o i pos) (tMGet X.w td ty) := by
  refine ⟨fun pins s σ H Q I h => ?_⟩
  refine subD_of PySem.F.slot_dict_getitem.lookup hs (thn (ho.run pins s σ H _ I h) fun u s1 ⟨x, H1, I1, rx, q1⟩ => thn (hi.run pins s1 σ H1 _ I1 q1) fun iv s2 ⟨y, H2, I2, ry, a, kvs, k, v, ex, m, hk, hv, q2⟩ => ?_)
  subst ex
  obtain rfl : u = Value.ref a := rx
  obtain ⟨xs, hd, hl, hn, rel⟩ := m
  have dm := mix_of (I2.hok a _ hd)
  obtain ⟨j, p, ej, rv⟩ := mrel_at rel hv
  refine ⟨dm.typeIs, m_getItem (by omega) ((hk.at ry).is I2.hok) dm (mrel_is I2.hok rel) (by rw [mrel_keys rel]; exact nodup_keyN hn) ej fun tk => ?_⟩
  exact ⟨v, H2, I2.kept (t' := tk) fun b o e => e, rv, q2⟩
theorem ps_mput (hu : X.A.units + 20 < cLine) (ho : PE X o td) (hi : PE X i ty) (hv : PE X value tv) (hs : swapsWith value (some (.Subscript o i pos')) pos.line X.env = pure false) : PS X (.Assign [.Subscript o i pos'] value pos) (tMPut X.w td ty tv) := by
  refine ⟨fun pins s σ H D I h => ?_⟩
  refine wpAny_Assign_Subscript (thn (hv.run pins s σ H _ I h) fun r s1 ⟨v, H1, I1, rv, q1⟩ => thn (ho.run pins s1 σ H1 _ I1 q1) fun u s2 ⟨x, H2, I2, rx, q2⟩ => thn (hi.run pins s2 σ H2 _ I2 q2) fun iv s3 ⟨y, H3, I3, ry, a, kvs, k, ex, m, hk, hno, hl, q3⟩ => ?_) hs
  subst ex
  obtain rfl : u = Value.ref a := rx
  obtain ⟨xs, hd, _, hn, rel⟩ := m
  have dm := mix_of (I3.hok a _ hd)
  have hlen := Paired.length rel
  have ka := hk.at ry
  refine m_setNew (by omega) (ka.is I3.hok) dm (mrel_is I3.hok rel) (by rw [mrel_keys rel]; exact nodup_keyN hn) (fun z => ?_) (by rw [← hlen]; exact Nat.lt_of_lt_of_le hl (by decide)) fun h' tk dm' hs' => ?_
  · rw [mrel_keys rel] at z
    obtain ⟨k', hk', e⟩ := List.mem_map.mp z
    exact hno (keyN_inj e ▸ hk')
  have kt : ∀ b ys, H3 b = some (.tup ys) → upd H3 a (MixO X.w a (xs ++ [(keyN k, iv, r)])) b = some (.tup ys) := fun b ys e => by
    rw [upd_ne (ne_of e hd fun z => mix_ne z.symm)]
    exact e
  have he : ∃ q, h'.get? a = some q := let ⟨q, _, _, hq, _⟩ := dm'; ⟨q, hq⟩
  refine ⟨σ, _, I3.write (t' := tk) (x := a) (e := a) (o := MixO X.w a (xs ++ [(keyN k, iv, r)])) (by rw [hd]; exact True.intro) (.inl rfl) (fun b u hb e => (hs'.2 b hb).trans e) he (mix_ok dm'), q3 _ ⟨_, upd_same, ?_, ?_, ?_⟩⟩
  · rw [List.length_append]
    exact hl
  · rw [List.map_append, List.nodup_append]
    refine ⟨hn, by simp, fun x hx y hy => ?_⟩
    cases List.mem_singleton.mp hy
    exact fun e => hno (by rw [e] at hx; exact hx)
  · exact mrel_snoc (L2.Paired.mapP rel fun p q ⟨a, b, c⟩ => ⟨a, b.keep kt, c⟩) ⟨rfl, ka.keep kt, rv⟩
theorem ps_mputT (hu : X.A.units + 20 < cLine) (ho : PE X o td) (hi : PE X i ty) (hv : PE X value tv) (hs : swapsWith value (some (.Subscript o i pos')) pos.line X.env = pure false) : PS X (.Assign [.Subscript o i pos'] value pos) (tMPutT X.w td ty tv) := by
  refine ⟨fun pins s σ H D I h => ?_⟩
  refine wpAny_Assign_Subscript (thn (hv.run pins s σ H _ I h) fun r s1 ⟨v, H1, I1, rv, q1⟩ => thn (ho.run pins s1 σ H1 _ I1 q1) fun u s2 ⟨x, H2, I2, rx, q2⟩ => thn (hi.run pins s2 σ H2 _ I2 q2) fun iv s3 ⟨y, H3, I3, ry, a, kvs, ex, ey, hd, hl, q3⟩ => ?_) hs
  subst ex ey
  obtain rfl : u = Value.ref a := rx
  obtain rfl : iv = Value.none := ry
  obtain ⟨z1, z2, ys, rel, ob, es, ep, h1, h2, h3, h4, h5⟩ := (show ObjOk X.prog X.w H3 s3.heap a (.dT kvs) from I3.hok a _ hd)
  obtain ⟨xs, exs⟩ : ∃ xs : List (NestedKey × Value × Value), xs = ys.map fun q => (keyN (some q.1), Value.ref q.2.1, q.2.2) := ⟨_, rfl⟩
  have dm : DictM X.w s3.heap a xs := ⟨ob, es, ep, h1, h2, h3, by
    rw [h4, exs, List.map_map]
    refine List.map_congr_left fun q _ => ?_
    show DictEntry.mk _ _ _ = DictEntry.mk _ _ _
    rw [keyT_N X.prog X.w q.1]⟩
  have rel0 : ∀ {l : List (List Key × V)} {m : List (List Key × Addr × Value)}, Paired (fun (p : List Key × V) (q : List Key × Addr × Value) => p.1 = q.1 ∧ H3 q.2.1 = some (.tup (p.1.map kV)) ∧ RelV p.2 q.2.2) l m →
      Paired (MRel H3) (l.map fun p => ((some p.1 : MKey), p.2)) (m.map fun q => (keyN (some q.1), Value.ref q.2.1, q.2.2)) := fun {l m} r => by
    induction r with
    | nil => exact .nil
    | @cons p q l m hr t ih => exact .cons ⟨(by show keyN (some q.1) = keyN (some p.1); rw [hr.1]), .inr ⟨_, _, rfl, rfl, hr.2.1⟩, hr.2.2⟩ ih
  have relM : Paired (MRel H3) (kvs.map fun p => ((some p.1 : MKey), p.2)) xs := by rw [exs]; exact rel0 rel
  have keysE : (kvs.map (·.1)) = ys.map (·.1) := by
    clear relM dm exs h4 h5 hl q3 hd z1
    induction rel with
    | nil => rfl
    | cons hr t ih => rw [List.map_cons, List.map_cons, ih, hr.1]
  have hn : ((kvs.map fun p => ((some p.1 : MKey), p.2)).map (·.1)).Nodup := by
    have : (kvs.map fun p => ((some p.1 : MKey), p.2)).map (·.1) = (kvs.map (·.1)).map some := by rw [List.map_map, List.map_map]; rfl
    rw [this, keysE, List.nodup_iff_pairwise_ne, List.pairwise_map]
    exact (List.nodup_iff_pairwise_ne.mp h5).imp fun h e => h (Option.some.inj e)
  have hno : (none : MKey) ∉ (kvs.map fun p => ((some p.1 : MKey), p.2)).map (·.1) := fun z => by
    obtain ⟨p, hp, e⟩ := List.mem_map.mp z
    obtain ⟨q, _, rfl⟩ := List.mem_map.mp hp
    cases e
  have hlen := Paired.length relM
  rw [List.length_map] at hlen
  have ka : KeyAt H3 none .none := .inl ⟨rfl, rfl⟩
  refine m_setNew (by omega) (ka.is I3.hok) dm (mrel_is I3.hok relM) (by rw [mrel_keys relM]; exact nodup_keyN hn) (fun z => ?_) (by rw [← hlen]; exact Nat.lt_of_lt_of_le hl (by decide)) fun h' tk dm' hs' => ?_
  · rw [mrel_keys relM] at z
    obtain ⟨k', hk', e⟩ := List.mem_map.mp z
    exact hno (keyN_inj e ▸ hk')
  have kt : ∀ b ys, H3 b = some (.tup ys) → upd H3 a (MixO X.w a (xs ++ [(keyN none, .none, r)])) b = some (.tup ys) := fun b ys e => by
    rw [upd_ne (ne_of e hd fun z => nomatch z)]
    exact e
  have he : ∃ q, h'.get? a = some q := let ⟨q, _, _, hq, _⟩ := dm'; ⟨q, hq⟩
  refine ⟨σ, _, I3.write (t' := tk) (x := a) (e := a) (o := MixO X.w a (xs ++ [(keyN none, .none, r)])) (by rw [hd]; exact True.intro) (.inl rfl) (fun b u hb e => (hs'.2 b hb).trans e) he (mix_ok dm'), q3 _ ⟨_, upd_same, ?_, ?_, ?_⟩⟩
  · rw [List.length_append, List.length_map]
    exact hl
  · rw [List.map_append, List.nodup_append]
    refine ⟨hn, by simp, fun x hx y hy => ?_⟩
    cases List.mem_singleton.mp hy
    exact fun e => hno (by rw [e] at hx; exact hx)
  · exact mrel_snoc (L2.Paired.mapP relM fun p q ⟨a, b, c⟩ => ⟨a, b.keep kt, c⟩) ⟨rfl, ka.keep kt, rv⟩
end
end Fw

set_option Elab.async false
set_option linter.all false
set_option maxRecDepth 100000
set_option maxHeartbeats 400000
/-! own == and own len -/
namespace Fw
open PySem PySem.Spec PyProof.Rows L2
section
variable {X : Cx} {CX : CXT} {k : Nat} {f C : Addr} {fd : FuncData} {ps : List Str} {sp : Sp} {E : XK}
def rEqI (C : Addr) (sp : Sp) (E : XK) : R2 := fun x y H Q => ∃ a b dx dy fs gs, x = .ref a ∧ y = .ref b ∧ H a = some (.ins C dx fs) ∧ H b = some (.ins C dy gs) ∧ sp [.ref a, .ref b] H (fun v H' => (∃ k, v = .bl k) ∧ Q v H') E
theorem op_eqI (F : FnOk X.prog X.w X.K X.mg X.base CX k f fd ps sp) (hr : Room k X.A) (hs : PySem.W.findIn X.K (.ref C) "__eq__" = some (some (.ref f))) (hf : PySem.W.isFn X.K (.ref f) = true) (hb : Binds X.K fd ps []) (hx : Passes CX X E) : OpR X (compareOp .Eq) (rEqI C sp E) := by
  intro pins s σ H x y u v Q I rx ry h
  obtain ⟨a, b, dx, dy, fs, gs, rfl, rfl, ha, hb', hsp⟩ := h
  cases rx
  cases ry
  show wpAny (model X.prog X.w) X.A (richCompare .Eq (.ref a) (.ref b)) (EP X pins σ Q) X.xe s
  obtain ⟨mA, J, _⟩ := ins_get I.hok ha
  obtain ⟨mB, J', _⟩ := ins_get I.hok hb'
  obtain ⟨od, J, _⟩ := J.look
  obtain ⟨od', J', _⟩ := J'.look
  obtain ⟨m, hF⟩ := I.fr
  refine PySem.W.cmp_K (op := .Eq) (tb := .ref C) hr.units0 hF I.ok.mod.kin J J'.type (by simp [PySem.W.notFirst]) hs hf ?_
  refine wpAny_mono (run_fn (us := [.ref a, .ref b]) (vs := [.ref a, .ref b]) F hr hb .nil hx I (.cons rfl (.cons rfl .nil)) hsp) (fun w s' hq => ?_) fun _ _ e => e
  obtain ⟨z, H', I', rz, ⟨kk, ek⟩, q⟩ := hq
  subst ek
  cases rz
  exact ⟨.bl kk, H', I', rfl, q⟩
def rLenI (C : Addr) (sp : Sp) (E : XK) : List V → Hp → VK → Prop := fun vs H Q => ∃ a dx fs, vs = [.ref a] ∧ H a = some (.ins C dx fs) ∧ sp [.ref a] H (fun v H' => (∃ n : Int, v = .int n ∧ 0 ≤ n ∧ n < 2 ^ 63) ∧ Q v H') E
theorem call_lenI (F : FnOk X.prog X.w X.K X.mg X.base CX k f fd ps sp) (hr : Room (k + 1) X.A) (hs : PySem.W.findIn X.K (.ref C) "__len__" = some (some (.ref f))) (hf : PySem.W.isFn X.K (.ref f) = true) (hb : Binds X.K fd ps []) (hx : Passes CX X E) : CallR X (.builtin "len") (rLenI C sp E) := by
  intro pins s σ H xs us Q I r h
  obtain ⟨a, dx, fs, rfl, ha, hsp⟩ := h
  cases r with | @cons _ u _ _ ru r0 =>
  cases r0
  cases ru
  obtain ⟨mA, J, _⟩ := ins_get I.hok ha
  obtain ⟨od, J, _⟩ := J.look
  obtain ⟨m, hF⟩ := I.fr
  refine PySem.W.len_K hF I.ok.mod.kin J hs hf ?_
  have e0 : Env0 X.prog X.w X.K X.mg X.base X.A.in1 X.stack s H := by
    have e := I.env0
    exact ⟨e.frames, e.mod, e.bs, e.bsz, e.funs, e.frf, e.hok, e.bare⟩
  have hl := F.len _ _ _ _ hsp
  refine wpAny_call (codeAny_mono (F.run X.A.in1 X.stack s H ⟨[.ref a], []⟩ [.ref a] [.ref a] _ E hr.in1 e0 (by
    have := hb s [.ref a] I.kIn (by simpa using hl)
    simpa using this) (.cons rfl .nil) hsp) fun r s' hq => ?_)
  cases r with
  | error e => exact hx pins σ H s e s' I hq
  | ok fl =>
    cases fl with
    | ret w =>
      obtain ⟨z, H', I', rz, ⟨n, en, h0, h1⟩, q⟩ := I.after hq
      subst en
      obtain ⟨t, rfl⟩ := rz
      exact ⟨⟨h0, h1⟩, .int n, H', I'.tok _, ⟨_, rfl⟩, q⟩
    | next => exact False.elim hq
    | brk => exact False.elim hq
    | cont => exact False.elim hq
end
end Fw

set_option Elab.async false
set_option linter.all false
set_option maxRecDepth 100000
set_option maxHeartbeats 1000000
/-! dict comprehensions, whatever the keys are: what a store does is told by put -/
namespace Fw
open PySem PySem.Spec PyProof.Rows L2
/-- y: z is stored at D; N is wanted of the heap behind -/
abbrev PutT := Addr → V → V → Hp → (Hp → Prop) → Prop
/-- put tells what a store does -/
def PutOk (put : PutT) : Prop := ∀ (Y : Cx) (pins : List (Addr × Obj)) (σ : L2.St) (H : Hp) (s : Shared) (D : Addr) (y z : V) (u r : Value) (N : Hp → Prop) (E : Value → Shared → Prop), Inv Y pins σ H s → RelV y u → RelV z r → Y.A.units + 1 < cLine → put D y z H N →
  wpAny (model Y.prog Y.w) Y.A (dictSet D u r) (fun _ s' => ∃ H', Inv Y pins σ H' s' ∧ N H') E s
/-- keys are tuples -/
def putT : PutT := fun D y z H N => ∃ (kvs : List (List Key × V)) (k : List Key) (b : Addr), y = .ref b ∧ H b = some (.tup (k.map kV)) ∧ H D = some (.dT kvs) ∧ kvs.length < sizeLine ∧ N (upd H D (.dT (putK kvs k z)))
theorem putT_ok : PutOk putT := by
  rintro Y pins σ H s D y z u r N E I ry rz hu ⟨kvs, k, b, rfl, eb, eD, hl, n⟩
  obtain rfl : u = Value.ref b := ry
  obtain ⟨_, sys, xs, rel, dd⟩ := dt_of I.hok eD
  have hz : xs.length ≤ sizeLine := by
    rw [← Paired.length rel]
    exact Nat.le_of_lt hl
  have big : (putK kvs k z).length ≤ sizeLine := by
    have := length_putK kvs k z
    omega
  refine wpAny_dictSet_heap (hsz := hz) (show Y.A.units < cLine by omega) (key_of I.hok eb) dd fun h' ⟨q, es, ep, h1, h2, h3, h4, _, h5⟩ sb => ⟨upd H D (.dT (putK kvs k z)), d_write I (by rw [eD]; trivial) sb ⟨q, h1⟩ ?_, n⟩
  refine (show ObjOk Y.prog Y.w (upd H D (.dT (putK kvs k z))) h' D (.dT (putK kvs k z)) from ⟨big, sys, _, (rel.put k eb rz).keeps fun c ys e => ?_, q, es, ep, h1, h2, h3, h4, h5⟩)
  rwa [upd_ne (ne_of e eD nofun)]
abbrev DcBody (put : PutT) (D : Addr) (g : TG) (tt : TT) (tk tv : TE) (vs : List Nat) (σ : L2.St) (x : V) (H : Hp) (Nx : Hp → Prop) : Prop :=
  g x (wipe σ vs) H fun σ2 H2 => wipe σ2 vs = wipe σ vs ∧ tt σ2 H2 fun b H3 => if b = true then tk σ2 H3 fun y H4 => tv σ2 H4 fun z H5 => put D y z H5 Nx else Nx H3
def tDcG (o0 : HO) (put : PutT) (wi : TI) (g : TG) (tt : TT) (tk tv : TE) (vs : List Nat) : TE := fun σ H Q => wi σ H fun J H1 => ∀ D, H1 D = none → ∃ W : Nat → Nat → Hp → Prop, (∃ m, W 0 m (upd H1 D o0)) ∧
  ∀ i m H, W i m H → (J.stop i H ∧ Q (.ref D) H) ∨ (J.go i H ∧ ∃ Nx : Hp → Prop, (∀ H', Nx H' → ∃ m', m' < m ∧ W (i + 1) m' H') ∧ ∀ x H', J.yld i H x H' → DcBody put D g tt tk tv vs σ x H' Nx)
theorem dcg_it {J : It} {n : Nat} {G : Hp → Prop} {Y : Nat → Hp → V → Hp → Prop} (wk : Walk J n G Y) {o0 : HO} {put : PutT} {g : TG} {tt : TT} {tk tv : TE} {vs : List Nat} {σ : L2.St} {H1 : Hp} {D : Addr} {Qd : Hp → Prop} (Pv : Nat → Hp → Prop) (first : Pv 0 (upd H1 D o0))
    (stays : ∀ i H, i ≤ n → Pv i H → G H) (turn : ∀ i x H H', i < n → Pv i H → Y i H x H' → DcBody put D g tt tk tv vs σ x H' (Pv (i + 1))) (last : ∀ H, Pv n H → Qd H) :
    ∃ W : Nat → Nat → Hp → Prop, (∃ m, W 0 m (upd H1 D o0)) ∧ ∀ i m H, W i m H → (J.stop i H ∧ Qd H) ∨ (J.go i H ∧ ∃ Nx : Hp → Prop, (∀ H', Nx H' → ∃ m', m' < m ∧ W (i + 1) m' H') ∧ ∀ x H', J.yld i H x H' → DcBody put D g tt tk tv vs σ x H' Nx) := by
  refine ⟨fun i m H => i + m = n ∧ Pv i H, ⟨n, Nat.zero_add n, first⟩, fun i m H ⟨e, p⟩ => ?_⟩
  have ok := stays i H (by omega) p
  cases m with
  | zero =>
    obtain rfl : i = n := e
    exact .inl ⟨wk.stops H ok, last H p⟩
  | succ m => exact .inr ⟨wk.goes i H (by omega) ok, Pv (i + 1), fun H' p' => ⟨m, Nat.lt_succ_self m, by omega, p'⟩, fun x H' y => turn i x H H' (by omega) p (wk.yields i H x H' (by omega) ok y)⟩
section
variable {X : Cx}
theorem pe_dcg {o0 : HO} {put : PutT} {kx vx tg iter : Expr} {ifs : List Expr} {scope : Scope} {own : List (Str × Nat)} {pos : Pos} {wi : TI} {g : TG} {tt : TT} {tk tv : TE} (hput : PutOk put) (hu : X.A.units + 1 < cLine)
    (ho : ∀ (P : Program) (w : World) (H : Hp) (h : Heap), sysModules < h.objs.size → ObjOk P w H (h.push { cls := .type "dict", data := .dict #[] }) h.objs.size o0)
    (hc : X.calm = true) (hN : X.N.Nodup) (hi : PI X tg iter wi) (ok : BlkOk X.N X.env.scope scope own)
    (hg : ∀ s H C cl fp, PG (X.blk s H scope (compEnvC scope cl C X.env) fp) tg g) (ht : ∀ s H C cl fp, PTs (X.blk s H scope (compEnvC scope cl C X.env) fp) ifs tt) (hk : ∀ s H C cl fp, PE (X.blk s H scope (compEnvC scope cl C X.env) fp) kx tk)
    (he : ∀ s H C cl fp, PE (X.blk s H scope (compEnvC scope cl C X.env) fp) vx tv) (hs : ∀ x, foldedSetIterable iter X.env x = pure x := by intro _; rfl) :
    PE X (.DictComp kx vx [⟨tg, iter, ifs, 0⟩] scope pos) (tDcG o0 put wi g tt tk tv (own.map (·.2))) := by
  refine ⟨fun pins s σ H Q I h => ?_⟩
  have caught : ∀ y ∈ scope.names, y.2 = .free → ∃ c, X.env.cells.lookup y.1 = some c := fun y hy e => I.ok.has _ (ok.free y hy e)
  rw [arm_eval_DictComp]
  refine wpAny_comprehension_free (use := none) rfl hs (closure_ok caught) ok.kind (fun y hy e => (ok.uniq y hy).trans (congrArg some e)) (thn (hi.run pins s σ H _ I h) fun _ s1 h1 => thn h1 fun _ s2 ⟨it, fp, tn, J, H2, eit, I2, T, tn2, fresh2, q⟩ => ?_)
  subst eit
  refine wpAny_newObj_type (newEnv_comp ?_)
  -- the dict is laid
  have I3 : Inv X pins σ (upd H2 s2.heap.objs.size o0) { s2 with heap := s2.heap.push { cls := .type "dict", data := .dict #[] } } := I2.laid (t' := s2.toks) (fun _ _ e => Heap.get?_push_of_some _ e) (Nat.le_refl _) (ho _ _ _ _ I2.big)
  obtain ⟨W, ⟨m0, w0⟩, turns⟩ := q s2.heap.objs.size (I2.hok.fresh (Nat.le_refl _))
  have own2 : ∀ b ∈ fp, b < s2.heap.objs.size := fun b hb => (T.obj _ _ tn2 b hb).elim fun o e => Heap.lt_size e.1
  generalize eD : s2.heap.objs.size = D at *
  generalize eH : upd H2 D o0 = H3 at *
  obtain ⟨s3, e3⟩ : ∃ s3 : Shared, s3 = { s2 with heap := s2.heap.push { cls := .type "dict", data := .dict #[] } } := ⟨_, rfl⟩
  rw [← e3] at I3 ⊢
  have up : ∀ b o, s2.heap.get? b = some o → s3.heap.get? b = some o := fun b o e => by rw [e3]; exact Heap.get?_push_of_some _ e
  have few : s3.heap.objs.size = D + 1 := by rw [e3, ← eD]; exact Heap.size_push ..
  have fp3 : ∀ b ∈ fp, FpOk X pins H3 b ∧ b < s3.heap.objs.size := fun b hb => by
    have lt := own2 b hb
    obtain ⟨z, rest⟩ := fresh2 b hb
    exact ⟨⟨by rw [← eH, upd_ne (Nat.ne_of_lt lt)]; exact z, rest⟩, by rw [few]; exact Nat.lt_succ_of_lt lt⟩
  have tn3 : tn 0 s3.heap := T.keep _ _ _ tn2 fun b _ o e => up b o e
  have blk := block_start I3 ok hN fp3
  obtain ⟨cl, ecl⟩ : ∃ cl, cl = cellsFrom (s3.heap.objs.size + 1) scope.names (cloFrom X.env.cells scope.names []) := ⟨_, rfl⟩
  rw [← ecl] at blk
  have pg := hg s3 H3 s3.heap.objs.size cl fp
  have pt := ht s3 H3 s3.heap.objs.size cl fp
  have pk := hk s3 H3 s3.heap.objs.size cl fp
  have pv := he s3 H3 s3.heap.objs.size cl fp
  obtain ⟨ce, ece⟩ : ∃ ce, ce = compEnvC scope cl s3.heap.objs.size X.env := ⟨_, rfl⟩
  rw [← ece] at blk pg pt pk pv
  have loc : ce.locals = s3.heap.objs.size := by rw [ece]; rfl
  obtain ⟨s4, e4⟩ : ∃ s4 : Shared, s4 = { s3 with heap := pushCells (s3.heap.push { cls := .type "dict", data := .dict #[] }) scope.names } := ⟨_, rfl⟩
  rw [← e4] at blk
  have tn4 : tn 0 s4.heap := T.keep _ _ _ tn3 fun b _ o e => by rw [e4]; exact pushCells_keeps _ _ _ _ (Heap.get?_push_of_some _ e)
  have goal : codeAny (model X.prog X.w) X.A (.compStart (.DictComp kx vx [⟨tg, iter, ifs, 0⟩] scope pos) 0 (.ref it) (.ref D) ce) (compPost (model X.prog X.w) X.A X.xe none (EP X pins σ Q) (.ref D) s3.heap.objs.size) s4 := by
    refine codeAny_compStart_dict ?_ (T.self X.A 0 _ _ _ tn4 ?_)
    all_goals
      refine compLoop_anyD (fun n s' => ∃ i H', Inv (X.blk s3 H3 scope ce fp) [] (wipe σ (own.map (·.2))) H' s' ∧ tn i s'.heap ∧ (∀ b ∈ fp, H' b = none) ∧ W i n H') ?_ m0 ⟨0, H3, blk, tn4, fun b hb => (fp3 b hb).1.1, w0⟩
      rintro n s5 ⟨i, H5, I5, tn5, none5, w5⟩
      have fpB : ∀ {σ' : L2.St} {H' : Hp} {s' : Shared}, Inv (X.blk s3 H3 scope ce fp) [] σ' H' s' → (∀ b ∈ fp, H' b = none) → ∀ b ∈ fp, FpOk (X.blk s3 H3 scope ce fp) [] H' b := fun I' z b hb =>
        ⟨z b hb, (I'.ok.exf b hb).1, I'.ok.exfs b hb, .inl hb, (I'.ok.exf b hb).2, fun p hp => nomatch (show p ∈ ([] : List (Addr × Obj)) from hp)⟩
      rcases turns i n H5 w5 with ⟨stop, fin⟩ | ⟨go, Nx, next, body⟩
      · refine thnF (T.done (X.blk s3 H3 scope ce fp) rfl rfl rfl hc i [] s5 _ H5 (fun _ _ => False) I5 (fpB I5 none5) tn5 stop) fun r s6 ⟨er, I6⟩ => ?_
        subst er
        have back : Inv X pins σ H5 s6 := I3.call' (ch := fp) I6.os I6.base I6.hok I6.bare fun b hb => by
          obtain ⟨_, f1, _, f3, f4, f5⟩ := (fp3 b hb).1
          exact ⟨f3, f1, f4, f5⟩
        obtain ⟨m, ns, _⟩ := I6.loc
        have nsC : s6.heap.Ns s3.heap.objs.size m := loc ▸ (show s6.heap.Ns ce.locals m from ns)
        have noC : H5 s3.heap.objs.size = none := loc ▸ (show H5 ce.locals = none from I6.free)
        refine ⟨m, nsC, fun h' sb => ?_⟩
        obtain ⟨g0, g1, g2, g3, g4, g5⟩ := I3.fpOk (b := s3.heap.objs.size) (Nat.le_refl _) noC
        exact ⟨.ref D, H5, back.turned (t' := s6.toks) (fun b o nb e => (sb.2 b nb).trans e) g0 g1 g3 g4 g5, rfl, fin⟩
      · refine thnF (T.item (X.blk s3 H3 scope ce fp) rfl rfl rfl hc i [] s5 _ H5 (fun _ _ => False) I5 (fpB I5 none5) tn5 go) fun r s6 ⟨u, er, h6⟩ => ?_
        subst er
        refine thnF h6 fun _ s7 ⟨x, H7, I7, r7, y7, tn7, none7⟩ => ?_
        have ends : ∀ {σ' : L2.St} {H' : Hp} {s' : Shared}, Inv (X.blk s3 H3 scope ce fp) ([] ++ pinsAt fp s7.heap) σ' H' s' → wipe σ' (own.map (·.2)) = wipe σ (own.map (·.2)) → Nx H' →
            ∃ m, m < n ∧ ∃ i H', Inv (X.blk s3 H3 scope ce fp) [] (wipe σ (own.map (·.2))) H' s' ∧ tn i s'.heap ∧ (∀ b ∈ fp, H' b = none) ∧ W i m H' := fun {σ' H' s'} I' same nx => by
          obtain ⟨m, lt, w⟩ := next H' nx
          have pinned : ∀ b ∈ fp, ∀ o, s7.heap.get? b = some o → s'.heap.get? b = some o ∧ H' b = none := fun b hb o e => by
            have z := I'.pin (b, o) (List.mem_append_right _ (List.mem_append_right [] (mem_pinsAt hb e)))
            exact ⟨z.1, z.2.1⟩
          have len : (wipe σ (own.map (·.2))).length = σ'.length := by rw [← same]; exact wipe_length ..
          refine ⟨m, lt, i + 1, H', (Inv.unpinned (pins := []) I').weak len fun j v e => ?_, T.keep _ _ _ tn7 fun b hb o e => (pinned b hb o e).1, fun b hb => ?_, w⟩
          · exact (wipe_some (by rw [same]; exact e)).1
          · obtain ⟨o, e, _⟩ := T.obj _ _ tn7 b hb
            exact (pinned b hb o e).2
        have I8 := I7.pinned (fpB I7 none7) (T.obj _ _ tn7)
        refine thnF (pg.run _ s7 _ H7 x u _ I8 r7 (body x H7 y7)) fun _ s8 ⟨σ8, H8, I9, same, rest⟩ => ?_
        refine thnF (pt.run _ s8 σ8 H8 _ I9 rest) fun b s9 ⟨H9, I10, asks⟩ => ?_
        cases b with
        | false => exact ends I10 same asks
        | true =>
          refine thnF (pk.run _ s9 σ8 H9 _ I10 asks) fun ku s10 ⟨k1, H10, I11, rk, asks2⟩ => ?_
          refine thnF (pv.run _ s10 σ8 H10 _ I11 asks2) fun vu s11 ⟨v1, H11, I12, rv, asks3⟩ => ?_
          exact thnF (hput (X.blk s3 H3 scope ce fp) _ _ _ _ D k1 v1 ku vu Nx _ I12 rk rv hu asks3) fun _ s12 ⟨H12, I13, nx⟩ => ends I13 same nx
  rw [ece, e4, ecl] at goal
  exact goal
end
end Fw

set_option Elab.async false
set_option linter.all false
set_option maxRecDepth 100000
set_option maxHeartbeats 400000
/-! methods called by keywords -/
namespace Fw
open PySem PySem.Spec PyProof.Rows L2
def tMethK (C : Addr) (m : Str) (n l : Nat) (sp : Sp) (gV : List V → List V → List V) (E : XK) (ta : TE) (t tk : TA) : TE := fun σ H Q => ta σ H fun x H1 => ∃ a dx fs, x = .ref a ∧ H1 a = some (.ins C dx fs) ∧ fs.lookup m = none ∧
  t σ H1 fun vs H2 => tk σ H2 fun zs H3 => vs.length = n ∧ zs.length = l ∧ sp (gV (x :: vs) zs) H3 Q E
section
variable {X : Cx} {CX : CXT} {k n : Nat} {f C : Addr} {fd : FuncData} {ps ks : List Str} {sp : Sp} {E : XK} {m : Str} {apos pos : Pos} {o e : Expr} {es : List Expr} {kws : List Keyword} {ta : TE} {t tk : TA} {g : List Value → List Value → List Value} {gV : List V → List V → List V}
/-- o.m(k = v, ..) -/
theorem pe_methK0 {pl : Sem Bool} (he : PE X o ta) (c : Cls X.K C) (hm : Meth X.K C m f) (F : FnOk X.prog X.w X.K X.mg X.base CX k f fd ps sp) (hr : Room k X.A) (hb : KBn X.K fd ps 1 ks g gV) (hx : Passes CX X E) (hkw : PK X kws tk)
    (ht : eval (.Call (.Attribute o m apos) [] kws pos) X.env = (do
      let v ← eval o X.env
      standAt apos.atName
      let (f, first) ← holding [v] (getMethod v m pl)
      callWith pos f first (backTo pos (starEach [] X.env)) (backToKw pos (keywordEach kws X.env))) := by rfl)
    (hall : (backToKw pos (keywordEach kws X.env)).all (·.1.isSome) = true := by rfl) (hks : (backToKw pos (keywordEach kws X.env)).filterMap (·.1) = ks := by rfl)
    (hpl : ((backTo pos (starEach [] X.env)).any (·.1) || (backToKw pos (keywordEach kws X.env)).any (·.1.isNone)) = false := by rfl) :
    PE X (.Call (.Attribute o m apos) [] kws pos) (tMethK C m 0 ks.length sp gV E ta tNil tk) := by
  refine ⟨fun pins s σ H Q I h => ?_⟩
  refine PySem.W.methodCall_KW (pl := pl) (thn (he.run pins s σ H _ I h) fun u s1 ⟨x, H1, I1, rx, a, dx, fs, ex, ea, l, q⟩ => ?_) ht
  subst ex
  cases rx
  refine getmeth_ok I1 ea c hm l ?_
  refine PySem.W.callWith_KW0 (first := [.ref a]) (h₀ := X.base) I1.ok.mod.kin hm.kp hall (thn (hkw.run pos pins s1 σ H1 _ I1 q) fun ws s2 ⟨zs, H2, I2, rz, l1, l2, q2⟩ => ⟨I2.kIn, ?_⟩) hpl
  rw [hks]
  exact run_fnN (us := [.ref a]) (vs := [.ref a]) F hr hb hx I2 (.cons rfl .nil) rz rfl l2 q2
/-- o.m(e, .., k = v, ..) -/
theorem pe_methK {pl : Sem Bool} (he : PE X o ta) (c : Cls X.K C) (hm : Meth X.K C m f) (F : FnOk X.prog X.w X.K X.mg X.base CX k f fd ps sp) (hr : Room k X.A) (hb : KBn X.K fd ps (n + 1) ks g gV) (hx : Passes CX X E) (ha : PA X (e :: es) t) (hkw : PK X kws tk)
    (ht : eval (.Call (.Attribute o m apos) (e :: es) kws pos) X.env = (do
      let v ← eval o X.env
      standAt apos.atName
      let (f, first) ← holding [v] (getMethod v m pl)
      callWith pos f first (backTo pos (starEach (e :: es) X.env)) (backToKw pos (keywordEach kws X.env))) := by rfl)
    (hst : starEach (e :: es) X.env = (false, eval e X.env) :: starEach es X.env := by rfl)
    (hall : (backToKw pos (keywordEach kws X.env)).all (·.1.isSome) = true := by rfl) (hks : (backToKw pos (keywordEach kws X.env)).filterMap (·.1) = ks := by rfl)
    (hpl : ((backTo pos (starEach (e :: es) X.env)).any (·.1) || (backToKw pos (keywordEach kws X.env)).any (·.1.isNone)) = false := by rfl) :
    PE X (.Call (.Attribute o m apos) (e :: es) kws pos) (tMethK C m n ks.length sp gV E ta t tk) := by
  refine ⟨fun pins s σ H Q I h => ?_⟩
  refine PySem.W.methodCall_KW (pl := pl) (thn (he.run pins s σ H _ I h) fun u s1 ⟨x, H1, I1, rx, a, dx, fs, ex, ea, l, q⟩ => ?_) ht
  subst ex
  cases rx
  refine getmeth_ok I1 ea c hm l ?_
  refine PySem.W.callWith_KW (first := [.ref a]) (h₀ := X.base) I1.ok.mod.kin hm.kp hall (thn (ha.run pos pins s1 σ H1 _ I1 q) fun us s2 ⟨vs, H2, I2, r, q1⟩ => thn (hkw.run pos pins s2 σ H2 _ I2 q1) fun ws s3 ⟨zs, H3, I3, rz, l1, l2, q2⟩ => ⟨I3.kIn, ?_⟩) hpl hst
  rw [hks]
  exact run_fnN (us := .ref a :: us) (vs := .ref a :: vs) F hr hb hx I3 (.cons rfl r) rz (by rw [List.length_cons, l1]) l2 q2
end
end Fw

set_option Elab.async false
set_option linter.all false
set_option maxRecDepth 100000
/-! an attribute as a target among others -/
namespace Fw
open PySem PySem.Spec PyProof.Rows L2
def gFld (K : PySem.W.Frag) (ta : TE) (f : Str) : TG := fun v σ H Q => ta σ H fun x H1 => ∃ a C dx fs, x = .ref a ∧ H1 a = some (.ins C dx fs) ∧ Cls K C ∧ NoAttr K C f ∧ fs.length < 1000 ∧ Q σ (upd H1 a (.ins C dx (putF f v fs)))
theorem pg_fld {X : Cx} {o : Expr} {ta : TE} {f : Str} {pos : Pos} (ho : PE X o ta) : PG X (.Attribute o f pos) (gFld X.K ta f) := by
  refine ⟨fun pins s σ H v u Q I r h => ?_⟩
  unfold assign
  refine wpAny_bind (wpAny_holding (thn (ho.run pins s σ H _ I h) fun ov s1 ⟨x, H1, I1, r1, a, C, dx, fs, ex, ea, c, n, l, q⟩ => ?_))
  subst ex
  cases r1
  refine wpAny_bind (wpAny_standAt (wpAny_bind (wpAny_holding (setattr_ok I1 ea c n l r fun s2 I2 => ?_))))
  exact wpAny_release ⟨σ, _, I2, q⟩
end Fw

set_option Elab.async false
set_option linter.all false
set_option maxRecDepth 100000
set_option maxHeartbeats 1000000
namespace Fd
open PySem PySem.Spec PyProof.Rows L2 RZ Fw
def top (i : Nat) : Stmt := PySem.Challenge.pw_figuredeeds_k18_spots_and_ways.main.body.getD i (.Pass ⟨0, 0, 0, 0⟩)
/-! ### defs by their names -/
structure Df (K : PySem.W.Frag) (mg : Str → Option Value) (x : Str) (st : Stmt) (ps : List Str) (f : Addr) (fd : FuncData) : Prop where
  F : Fun K x x st f fd
  m : mg x = some (.ref f)
  b : Binds K fd ps []
/-- the def that the module's name x holds keeps sp -/
def FnG (P : Program) (w : World) (K : PySem.W.Frag) (mg : Str → Option Value) (base : Heap) (CX : CXT) (k : Nat) (x : Str) (ps : List Str) (sp : Sp) : Prop :=
  ∃ f fd, FnOk P w K mg base CX k f fd ps sp ∧ mg x = some (.ref f) ∧ PySem.W.keepIn K (.ref f) = true ∧ Binds K fd ps []
theorem Df.g {P : Program} {w : World} {K : PySem.W.Frag} {mg : Str → Option Value} {base : Heap} {CX : CXT} {k : Nat} {x : Str} {st : Stmt} {ps : List Str} {f : Addr} {fd : FuncData} {sp : Sp}
    (D : Df K mg x st ps f fd) (G : FnOk P w K mg base CX k f fd ps sp) : FnG P w K mg base CX k x ps sp := ⟨f, fd, G, D.m, D.F.kp, D.b⟩
/-! ### heaps -/
/-- all that was tracked stands, but for what is at a -/
def But (a : Addr) (H H' : Hp) : Prop := ∀ b o, b ≠ a → H b = some o → H' b = some o
theorem But.refl (a : Addr) (H : Hp) : But a H H := fun _ _ _ h => h
theorem But.trans {a : Addr} {H H1 H2 : Hp} (x : But a H H1) (y : But a H1 H2) : But a H H2 := fun b o n h => y b o n (x b o n h)
theorem But.of {a : Addr} {H H' : Hp} (s : Same H H') : But a H H' := fun b o _ h => s b o h
theorem But.upd {a : Addr} {H : Hp} {o : HO} : But a H (upd H a o) := fun b u n h => by rw [upd_ne n]; exact h
theorem same_upd {H : Hp} {p : Addr} {o : HO} (h : H p = none) : Same H (upd H p o) := fun b x e => by
  rw [upd_ne (ne_of_none e h)]
  exact e
theorem But.get {a b : Addr} {H H' : Hp} {o u : HO} (s : But a H H') (ha : H a = some u) (hb : H b = some o) (d : o ≠ u) : H' b = some o := s b o (ne_of hb ha d) hb
/-- an if whose both ways come to a value of which R holds, the heap as it was -/
theorem ifE {c : Prop} [Decidable c] {ta tb : TE} {σ : L2.St} {H : Hp} {Q : VK} (R : V → Prop) (h1 : c → ∃ v, R v ∧ ∀ Q' : VK, Q' v H → ta σ H Q') (h2 : ¬ c → ∃ v, R v ∧ ∀ Q' : VK, Q' v H → tb σ H Q')
    (h : ∀ v, R v → Q v H) : if c then ta σ H Q else tb σ H Q := by
  by_cases hc : c
  · rw [if_pos hc]
    obtain ⟨v, r, k⟩ := h1 hc
    exact k Q (h v r)
  · rw [if_neg hc]
    obtain ⟨v, r, k⟩ := h2 hc
    exact k Q (h v r)
theorem ixN_is {n j : Nat} (h : j < n) : ixN n (j : Int) = some j := by
  unfold ixN
  rw [if_pos (by omega), if_pos (by omega), Int.toNat_natCast]
theorem cut_to (xs : List V) (m : Nat) : cutV xs none (some (m : Int)) = xs.take m := by
  unfold cutV
  rw [HT.sIx_none, HT.sIx_nat, List.drop_zero, Nat.sub_zero]
  by_cases h : m ≤ xs.length
  · rw [Nat.min_eq_left h]
  · rw [Nat.min_eq_right (by omega), List.take_of_length_le (Nat.le_refl _), List.take_of_length_le (by omega)]
theorem cut_mid (xs : List V) (m n : Nat) : cutV xs (some (m : Int)) (some (n : Int)) = (xs.drop m).take (min n xs.length - min m xs.length) := by
  unfold cutV
  rw [HT.sIx_nat, HT.sIx_nat]
  by_cases h : m ≤ xs.length
  · rw [Nat.min_eq_left h]
  · rw [Nat.min_eq_right (by omega : xs.length ≤ m), List.drop_eq_nil_of_le (Nat.le_refl _), List.drop_eq_nil_of_le (by omega)]
theorem dpAll_ints {K : PySem.W.Frag} {H : Hp} : ∀ ms : List Int, DpAll K H (ms.map V.int) (ms.map PyData.int)
  | [] => .nil
  | m :: r => .cons (.int m) (dpAll_ints r)
theorem lay_ints : ∀ ms : List Int, PyData.canLayAll0 (ms.map PyData.int) = true
  | [] => rfl
  | m :: r => by show (true && PyData.canLayAll0 (r.map PyData.int)) = true; rw [lay_ints r]; rfl
theorem deep_ints : ∀ ms : List Int, PyData.depthAll (ms.map PyData.int) = 0
  | [] => rfl
  | m :: r => by show max 0 (PyData.depthAll (r.map PyData.int)) = 0; rw [deep_ints r]; rfl
theorem shaped_ints (ms : List Int) : SeqAt.shaped (.list (ms.map PyData.int)) = true := by
  unfold SeqAt.shaped
  rw [show (PyData.list (ms.map PyData.int)).canLay0 = PyData.canLayAll0 (ms.map PyData.int) from rfl, lay_ints,
    show (PyData.list (ms.map PyData.int)).depth = PyData.depthAll (ms.map PyData.int) + 1 from rfl, deep_ints]
  rfl
/-! ### the heap without some -/
def rmL (as : List Addr) (H : Hp) : Hp := fun b => if b ∈ as then none else H b
theorem rmL_at {as : List Addr} {b : Addr} {H : Hp} (h : b ∉ as) : rmL as H b = H b := if_neg h
theorem rmL_in {as : List Addr} {b : Addr} {H : Hp} (h : b ∈ as) : rmL as H b = none := if_pos h
theorem rmL_less {as bs : List Addr} {H : Hp} (h : ∀ b ∈ as, b ∈ bs) : Same (rmL bs H) (rmL as H) := fun b o q => by
  by_cases e : b ∈ bs
  · rw [rmL_in e] at q; cases q
  · rw [rmL_at e] at q
    rw [rmL_at (fun z => e (h b z))]
    exact q
theorem rmL_upd {as : List Addr} {D : Addr} {o : HO} {H : Hp} (h : D ∈ as) : rmL as (upd H D o) = rmL as H := funext fun b => by
  by_cases e : b ∈ as
  · rw [rmL_in e, rmL_in e]
  · rw [rmL_at e, rmL_at e, upd_ne (fun z => e (by rw [z]; exact h))]
/-- all that was tracked stands, but for some -/
def ButL (as : List Addr) (H H' : Hp) : Prop := ∀ b o, b ∉ as → H b = some o → H' b = some o
theorem ButL.trans {as : List Addr} {H H1 H2 : Hp} (x : ButL as H H1) (y : ButL as H1 H2) : ButL as H H2 := fun b o n h => y b o n (x b o n h)
theorem ButL.of {a : Addr} {as : List Addr} {H H' : Hp} (s : But a H H') (h : a ∈ as) : ButL as H H' := fun b o n q => s b o (fun z => n (by rw [z]; exact h)) q
theorem ButL.same {as : List Addr} {H H' : Hp} (s : Same H H') : ButL as H H' := fun b o _ q => s b o q
theorem ButL.more {as bs : List Addr} {H H' : Hp} (s : ButL as H H') (h : ∀ b ∈ as, b ∈ bs) : ButL bs H H' := fun b o n q => s b o (fun z => n (h b z)) q
theorem ButL.one {a : Addr} {H H' : Hp} (s : ButL [a] H H') : But a H H' := fun b o n q => s b o (fun z => n (List.mem_singleton.mp z)) q
theorem rmL_but {as : List Addr} {H H' : Hp} (s : ButL as H H') : Same (rmL as H) (rmL as H') := fun b o q => by
  by_cases e : b ∈ as
  · rw [rmL_in e] at q; cases q
  · rw [rmL_at e] at q ⊢
    exact s b o e q

theorem seqT {K : PySem.W.Frag} {H H' : Hp} {a : Addr} {xs : List V} (e : Same H H') (h : SqT K H a xs) : SqT K H' a xs := by
  rcases h with (h | ⟨o, h⟩) | h
  · exact .inl (.inl (e _ _ h))
  · exact .inl (.inr ⟨o, e _ _ h⟩)
  · exact .inr h
mutual
theorem dp_same {K : PySem.W.Frag} {H H' : Hp} (s : Same H H') : ∀ (d : PyData) (v : V), Dp K H v d → Dp K H' v d
  | .none, _, h => by cases h; exact .non
  | .bool b, _, h => by cases h; exact .bl b
  | .int i, _, h => by cases h; exact .int i
  | .str x, _, h => by cases h; exact .str x
  | .list ds, _, h => by cases h with | lst q r => exact .lst (s.seq q) (dpAll_same s ds _ r)
  | .tuple ds, _, h => by cases h with | tup q r => exact .tup (seqT s q) (dpAll_same s ds _ r)
  | .dict _, _, h => by cases h
theorem dpAll_same {K : PySem.W.Frag} {H H' : Hp} (s : Same H H') : ∀ (ds : List PyData) (vs : List V), DpAll K H vs ds → DpAll K H' vs ds
  | [], _, h => by cases h; exact .nil
  | d :: ds, _, h => by cases h with | cons q r => exact .cons (dp_same s d _ q) (dpAll_same s ds _ r)
end
theorem dpAll_len {K : PySem.W.Frag} {H : Hp} : ∀ {ds : List PyData} {vs : List V}, DpAll K H vs ds → vs.length = ds.length
  | [], _, h => by cases h; rfl
  | d :: ds, _, h => by cases h with | cons q r => rw [List.length_cons, List.length_cons, dpAll_len r]
theorem dpAll_at {K : PySem.W.Frag} {H : Hp} : ∀ {ds : List PyData} {vs : List V} {i : Nat} {v : V}, DpAll K H vs ds → vs[i]? = some v → ∃ d, ds[i]? = some d ∧ Dp K H v d
  | [], _, i, v, h, e => by cases h; simp at e
  | d :: ds, _, 0, v, h, e => by cases h with | cons q r => cases (Option.some.inj e); exact ⟨d, rfl, q⟩
  | d :: ds, _, i + 1, v, h, e => by cases h with | cons q r => exact dpAll_at (i := i) r e
/-- data without dicts, less than n deep, lists of at most 1000 -/
def OkD : Nat → PyData → Prop
  | 0, _ => False
  | _ + 1, .none => True
  | _ + 1, .bool _ => True
  | _ + 1, .int _ => True
  | _ + 1, .str _ => True
  | n + 1, .list ds => ds.length ≤ 1000 ∧ ∀ d ∈ ds, OkD n d
  | n + 1, .tuple ds => ds.length ≤ 1000 ∧ ∀ d ∈ ds, OkD n d
  | _ + 1, .dict _ => False
theorem qd {Q : VK} {H : Hp} {x : V} (h : Q (.bl true) H) : Q (.bl (decide (x = x))) H := by
  rw [decide_eq_true rfl]
  exact h
theorem all_rep : ∀ n : Nat, (List.replicate n true).all id = true
  | 0 => rfl
  | n + 1 => by rw [List.replicate_succ, List.all_cons, all_rep n]; rfl
theorem ty_lst {K : PySem.W.Frag} {H : Hp} {a : Addr} {xs : List V} (h : SqL K H a xs) : TyX K H (.ref a) (.type "list") := by
  rcases h with (h | ⟨o, h⟩) | ⟨o, _, _, h, c, _⟩
  · exact .base (.lst h)
  · exact .base (.frz h)
  · exact .kList h c
theorem ty_tup {K : PySem.W.Frag} {H : Hp} {a : Addr} {xs : List V} (h : SqT K H a xs) : TyX K H (.ref a) (.type "tuple") := by
  rcases h with (h | ⟨o, h⟩) | ⟨o, _, _, h, c, _⟩
  · exact .base (.tup h)
  · exact .fTuple h
  · exact .kTuple h c
theorem kitLT {K : PySem.W.Frag} {t : String} {b1 b2 : Bool} (h1 : kitB t "list" = some b1) (h2 : kitB t "tuple" = some b2) : PySem.W.kitAny K (.type t) [.type "list", .type "tuple"] = some (b1 || b2) := by
  cases b1 with
  | true => exact kitAny_cons (kit_ty h1) (fun z => nomatch z) (fun _ => rfl)
  | false =>
    refine kitAny_cons (kit_ty h1) (fun _ => ?_) (fun z => nomatch z)
    cases b2 with
    | true => exact kitAny_cons (kit_ty h2) (fun z => nomatch z) (fun _ => rfl)
    | false => exact kitAny_cons (kit_ty h2) (fun _ => rfl) (fun z => nomatch z)
theorem walk_zipT {K : PySem.W.Frag} {a b : Addr} {xs ys : List V} {n : Nat} (hn : n = min xs.length ys.length) : Walk (ItzT K a b) n (fun H => SqT K H a xs ∧ SqT K H b ys) (YPair (fun i => xs[i]?) (fun i => ys[i]?)) := by
  subst hn
  refine ⟨fun i _ hi q => ⟨xs, ys, xs[i]'(by omega), ys[i]'(by omega), q.1, q.2, List.getElem?_eq_getElem _, List.getElem?_eq_getElem _⟩, fun _ q => ⟨xs, ys, q.1, q.2, by omega⟩, fun i H v H' _ q y => ?_⟩
  obtain ⟨T, x, z, g1, g2, g3, g4, g5⟩ := y
  exact ⟨T, x, z, g1, g2, g3, g4 xs q.1, g5 ys q.2⟩
theorem pi_or {X : Cx} {tg it : Expr} {w w' : TI} (h : PI X tg it w) (h' : PI X tg it w') : PI X tg it (fun σ H R => w σ H R ∨ w' σ H R) := ⟨fun pins s σ H R I q => q.elim (h.run pins s σ H R I) (h'.run pins s σ H R I)⟩
theorem dpAll_app {K : PySem.W.Frag} {H : Hp} : ∀ {ds es : List PyData} {xs ys : List V}, DpAll K H xs ds → DpAll K H ys es → DpAll K H (xs ++ ys) (ds ++ es)
  | [], _, _, _, h, g => by cases h; exact g
  | _ :: _, _, _, _, h, g => by cases h with | cons q r => exact .cons q (dpAll_app r g)
/-! ### what is asked of a play's parts -/
/-! ### either way -/
def gOr (g g' : TG) : TG := fun v σ H Q => g v σ H Q ∨ g' v σ H Q
theorem pg_or {X : Cx} {tg : Expr} {g g' : TG} (h : PG X tg g) (h' : PG X tg g') : PG X tg (gOr g g') := ⟨fun pins s σ H v u Q I r q => q.elim (h.run pins s σ H v u Q I r) (h'.run pins s σ H v u Q I r)⟩
def rOr (r r' : R2) : R2 := fun x y H Q => r x y H Q ∨ r' x y H Q
theorem ixr_or {X : Cx} {r r' : R2} (h : IxR X r) (h' : IxR X r') : IxR X (rOr r r') := fun a b pins s σ H x y v u Q I rx ry q hs => q.elim (fun q => h a b pins s σ H x y v u Q I rx ry q hs) fun q => h' a b pins s σ H x y v u Q I rx ry q hs
/-- a list or a tuple -/
def Sq (K : PySem.W.Frag) (G : Hp) (t : Addr) (xs : List V) : Prop := SqL K G t xs ∨ SqT K G t xs
theorem Sq.same {K : PySem.W.Frag} {G G' : Hp} {t : Addr} {xs : List V} (h : Sq K G t xs) (s : Same G G') : Sq K G' t xs := h.imp (fun h => s.seq h) (fun h => seqT s h)
theorem walkL {K : PySem.W.Frag} {H0 : Hp} {a : Addr} {xs : List V} (h : SqL K H0 a xs) : Walk (Itl K a) xs.length (Same H0) (YAt xs) :=
  ⟨fun i H hi s => walk_list.goes i H hi (s.seq h), fun H s => walk_list.stops H (s.seq h), fun i H x H' hi s y => walk_list.yields i H x H' hi (s.seq h) y⟩
theorem walkT {K : PySem.W.Frag} {H0 : Hp} {a : Addr} {xs : List V} (h : SqT K H0 a xs) : Walk (Itt K a) xs.length (Same H0) (YAt xs) :=
  ⟨fun i H hi s => walk_tup.goes i H hi (seqT s h), fun H s => walk_tup.stops H (seqT s h), fun i H x H' hi s y => walk_tup.yields i H x H' hi (seqT s h) y⟩
/-- a walk over a list or a tuple -/
theorem sq_it {K : PySem.W.Frag} {σ : L2.St} {H : Hp} {i : Nat} {a : Addr} {xs : List V} {R : It → Hp → Prop} (e : σ[i]? = some (some (.ref a))) (h : Sq K H a xs) (k : ∀ J, Walk J xs.length (Same H) (YAt xs) → R J H) : iList K (tVar i) σ H R ∨ iTup K (tVar i) σ H R := by
  rcases h with h | h
  · exact .inl ⟨_, e, a, rfl, ⟨_, h⟩, k _ (walkL h)⟩
  · exact .inr ⟨_, e, a, rfl, ⟨_, h⟩, k _ (walkT h)⟩
theorem sq_or {K : PySem.W.Frag} {n : Nat} {t : List V → L2.St → Hp → (L2.St → Hp → Prop) → Prop} {σ : L2.St} {H : Hp} {Q : L2.St → Hp → Prop} {b : Addr} {xs : List V} (h : Sq K H b xs) (hl : xs.length = n) (k : t xs σ H Q) : gOr (gTup K n t) (gLst K n t) (.ref b) σ H Q := by
  rcases h with h | h
  · exact .inr ⟨b, xs, rfl, h, hl, k⟩
  · exact .inl ⟨b, xs, rfl, h, hl, k⟩
/-- an instance is written: lists and tuples stay -/
theorem Sq.but {K : PySem.W.Frag} {H H' : Hp} {a p : Addr} {xs : List V} {C dx : Addr} {fs : List (Str × V)} (h : Sq K H a xs) (hp : H p = some (.ins C dx fs)) (s : ButL [p] H H') : Sq K H' a xs := by
  have ne : ∀ {o}, H a = some o → o ≠ .ins C dx fs → H' a = some o := fun {o} e n => s a o (fun z => by
    rw [List.mem_singleton.mp z, hp] at e
    exact n (Option.some.inj e).symm) e
  rcases h with ((h | ⟨o, h⟩) | h) | ((h | ⟨o, h⟩) | h)
  · exact .inl (.inl (.inl (ne h nofun)))
  · exact .inl (.inl (.inr ⟨o, ne h nofun⟩))
  · exact .inl (.inr h)
  · exact .inr (.inl (.inl (ne h nofun)))
  · exact .inr (.inl (.inr ⟨o, ne h nofun⟩))
  · exact .inr (.inr h)
theorem Same.putN {H H1 : Hp} {p : Addr} {o : HO} (s : Same H H1) (n : H p = none) : Same H (upd H1 p o) := fun b u e => by
  rw [upd_ne (ne_of_none e n)]
  exact s b u e
theorem paired_snoc {α β : Type} {F : α → β → Prop} : ∀ {l : List α} {m : List β} {x : α} {y : β}, Paired F l m → F x y → Paired F (l ++ [x]) (m ++ [y])
  | _, _, _, _, .nil, r => .cons r .nil
  | _, _, _, _, .cons a t, r => .cons a (paired_snoc t r)
theorem paired_mem {α β : Type} {F G : α → β → Prop} : ∀ {l : List α} {m : List β}, Paired F l m → (∀ a ∈ l, ∀ b, F a b → G a b) → Paired G l m
  | _, _, .nil, _ => .nil
  | _, _, .cons r t, f => .cons (f _ (List.mem_cons_self ..) _ r) (paired_mem t fun a ha b => f a (List.mem_cons_of_mem _ ha) b)
/-- what a dict comprehension with names as keys stores -/
def putS : PutT := fun D y z H N => ∃ kvs k, y = kV k ∧ H D = some (.dK kvs) ∧ kvs.length < sizeLine ∧ N (upd H D (.dK (putK kvs k z)))
/-- list(..) of a list or a tuple -/
def rListO (K : PySem.W.Frag) : List V → Hp → VK → Prop := fun xs H Q => ∃ p ys, xs = [V.ref p] ∧ (SqL K H p ys ∨ SqT K H p ys) ∧ ∀ l, H l = none → Q (.ref l) (upd H l (.lst ys))
/-- the class's place in the top: its j-th statement -/
def inC (i j : Nat) : Stmt := match top i with
  | .ClassDef _ _ _ b .. => b.getD j (.Pass ⟨0, 0, 0, 0⟩)
  | _ => .Pass ⟨0, 0, 0, 0⟩
end Fd

set_option Elab.async false
set_option linter.all false
set_option maxRecDepth 100000
set_option maxHeartbeats 1000000
namespace Fd
open PySem PySem.Spec PyProof.Rows L2 RZ Fw
/-! ### Holding: names with values, lists -/
abbrev sHI : Stmt := inC 21 0
abbrev sHN : Stmt := inC 21 1
abbrev sHL : Stmt := inC 21 2
theorem kRN : ¬ (("numbers" : Str) = "rows") := by decide +kernel
theorem kNR : ¬ (("rows" : Str) = "numbers") := by decide +kernel
theorem kNR' : ¬ (("numbers" : Str) = "rows") := by decide +kernel
def fldH (dn dr : Addr) : List (Str × V) := [("numbers", .ref dn), ("rows", .ref dr)]
theorem fldH_n (dn dr : Addr) : (fldH dn dr).lookup ("numbers" : Str) = some (.ref dn) := by
  unfold fldH
  rw [List.lookup_cons, beq_self_eq_true]
theorem fldH_r (dn dr : Addr) : (fldH dn dr).lookup ("rows" : Str) = some (.ref dr) := by
  unfold fldH
  rw [List.lookup_cons, show (("rows" : Str) == "numbers") = false from by decide +kernel, List.lookup_cons, beq_self_eq_true]
/-- names with whole numbers; lists of them -/
abbrev Nms := List (Str × Int)
abbrev Rws := List (Str × List Int)
def nmK (nm : Nms) : List (L2.Key × V) := nm.map fun q => (Sum.inr q.1, .int q.2)
def rwK (ks : List Str) (rs : List Addr) : List (L2.Key × V) := (ks.zip rs).map fun q => (Sum.inr q.1, .ref q.2)
/-- a Holding stands at p -/
structure HoldAt (C : Addr) (H : Hp) (p : Addr) (nm : Nms) (rw : Rws) : Prop where
  ob : ∃ dx dn dr rs, H p = some (.ins C dx (fldH dn dr)) ∧ H dn = some (.dK (nmK nm)) ∧ H dr = some (.dK (rwK (rw.map (·.1)) rs)) ∧ Paired (fun a (q : Str × List Int) => H a = some (.lst (q.2.map V.int))) rs rw
  n1 : (nm.map (·.1)).Nodup
  n2 : (rw.map (·.1)).Nodup
  l1 : nm.length ≤ 100
  l2 : rw.length ≤ 100
  l3 : ∀ q ∈ rw, q.2.length ≤ 100
theorem HoldAt.same {C : Addr} {H H' : Hp} {p : Addr} {nm : Nms} {rw : Rws} (h : HoldAt C H p nm rw) (s : Same H H') : HoldAt C H' p nm rw := by
  obtain ⟨⟨dx, dn, dr, rs, h1, h2, h3, h4⟩, n1, n2, l1, l2, l3⟩ := h
  exact ⟨⟨dx, dn, dr, rs, s _ _ h1, s _ _ h2, s _ _ h3, L2.Paired.mapP h4 fun a q e => s _ _ e⟩, n1, n2, l1, l2, l3⟩
/-- what the class must be -/
structure HCls (K : PySem.W.Frag) (C : Addr) : Prop where
  cl : Cls K C
  nN : NoAttr K C "numbers"
  nR : NoAttr K C "rows"
/-- pairs of names and values, as lists or as tuples -/
def Pn (K : PySem.W.Frag) (H : Hp) (x : V) (nm : Nms) : Prop := ∃ a xs, x = .ref a ∧ Sq K H a xs ∧ Paired (fun (v : V) (q : Str × Int) => ∃ b, v = .ref b ∧ Sq K H b [.str q.1, .int q.2]) xs nm
def Pr (K : PySem.W.Frag) (H : Hp) (x : V) (rw : Rws) : Prop := ∃ a xs, x = .ref a ∧ Sq K H a xs ∧ Paired (fun (v : V) (q : Str × List Int) => ∃ b c, v = .ref b ∧ Sq K H b [.str q.1, .ref c] ∧ Sq K H c (q.2.map V.int)) xs rw
theorem Pn.same {K : PySem.W.Frag} {H H' : Hp} {x : V} {nm : Nms} (h : Pn K H x nm) (s : Same H H') : Pn K H' x nm := by
  obtain ⟨a, xs, rfl, h1, h2⟩ := h
  exact ⟨a, xs, rfl, h1.same s, L2.Paired.mapP h2 fun v q ⟨b, e, z⟩ => ⟨b, e, z.same s⟩⟩
theorem Pr.same {K : PySem.W.Frag} {H H' : Hp} {x : V} {rw : Rws} (h : Pr K H x rw) (s : Same H H') : Pr K H' x rw := by
  obtain ⟨a, xs, rfl, h1, h2⟩ := h
  exact ⟨a, xs, rfl, h1.same s, L2.Paired.mapP h2 fun v q ⟨b, c, e, z, y⟩ => ⟨b, c, e, z.same s, y.same s⟩⟩
theorem paired_at {α β : Type} {F : α → β → Prop} : ∀ {l : List α} {m : List β} {i : Nat} {x : α}, Paired F l m → l[i]? = some x → ∃ y, m[i]? = some y ∧ F x y
  | _, _, i, x, .nil, h => by simp at h
  | _, _, 0, x, .cons r t, h => by cases (Option.some.inj h); exact ⟨_, rfl, r⟩
  | _, _, i + 1, x, .cons r t, h => paired_at (i := i) t h
theorem paired_len {α β : Type} {F : α → β → Prop} : ∀ {l : List α} {m : List β}, Paired F l m → l.length = m.length
  | _, _, .nil => rfl
  | _, _, .cons r t => congrArg (· + 1) (paired_len t)
/-- a key that is not there goes behind -/
theorem putK_fresh {kvs : List (L2.Key × V)} {z : Str} {v : V} (h : ∀ q ∈ kvs, q.1 ≠ Sum.inr z) : putK kvs (Sum.inr z) v = kvs ++ [(Sum.inr z, v)] := by
  refine putK_new _ ?_
  unfold valV
  rw [List.find?_eq_none.mpr fun q hq c => h q hq (of_decide_eq_true c)]
  rfl
theorem nm_new {α : Type} {nm : List (Str × α)} {i : Nat} {z : Str × α} {g : α → V} (nd : (nm.map (·.1)).Nodup) (e : nm[i]? = some z) : ∀ q ∈ (nm.take i).map (fun q => ((Sum.inr q.1 : L2.Key), g q.2)), q.1 ≠ Sum.inr z.1 := fun q hq c => by
  obtain ⟨y, hy, rfl⟩ := List.mem_map.mp hq
  obtain ⟨j, ej⟩ := List.mem_iff_getElem?.mp hy
  have hj : j < i := by
    have := (List.getElem?_eq_some_iff.mp ej).1
    rw [List.length_take] at this
    omega
  rw [List.getElem?_take, if_pos hj] at ej
  have c : y.1 = z.1 := Sum.inr.inj c
  have e1 : (nm.map (·.1))[j]? = some z.1 := by rw [List.getElem?_map, ej]; exact congrArg some c
  have e2 : (nm.map (·.1))[i]? = some z.1 := by rw [List.getElem?_map, e]; rfl
  have := (List.getElem?_inj (List.getElem?_eq_some_iff.mp e1).1 nd).mp (e1.trans e2.symm)
  omega
section
variable {P : Program} {w : World} {K : PySem.W.Frag} {mg : Str → Option Value} {base : Heap} {f : Addr} {fd : FuncData} {C : Addr}
def spHI (K : PySem.W.Frag) (C : Addr) : Sp := fun vs H Q _ => ∃ (p dx : Addr) (x y : V) (nm : Nms) (rw : Rws), vs = [.ref p, x, y] ∧ H p = some (.ins C dx []) ∧ Pn K H x nm ∧ Pr K H y rw ∧ (nm.map (·.1)).Nodup ∧ (rw.map (·.1)).Nodup ∧ nm.length ≤ 100 ∧ rw.length ≤ 100 ∧ (∀ q ∈ rw, q.2.length ≤ 100) ∧
  ∀ H', ButL [p] H H' → HoldAt C H' p nm rw → Q .non H'
theorem scHI : FnScope ["self", "names", "lists", "name", "value", "row"] ["self", "names", "lists"] (defScope sHI) := ⟨rfl, rfl, rfl, by decide +kernel, rfl, by decide +kernel, by decide +kernel⟩
theorem ok_hi {k : Nat} (F : Fun K "__init__" "Holding.__init__" sHI f fd) (c : HCls K C) (m_list : mg "list" = none) : FnOk P w K mg base CX0 (k + 1) f fd ["self", "names", "lists"] (spHI K C) := by
  have sc := scHI
  refine F.ok sc (fun vs H Q E h => ?_) (fun cdv A outer s H vs Q E hr h => ?_)
  · obtain ⟨p, dx, x, y, nm, rw, rfl, _⟩ := h
    rfl
  obtain ⟨p, dx, x, y, nm, rw, rfl, hp, hx, hy, n1, n2, l1, l2, l3, q⟩ := h
  refine ⟨_, (pss_cons (ps_fld (pv 0) (pe_dc (own := [("name", 3), ("value", 4)]) (g := gOr (gTup K 2 (gCons (gName 3) (gCons (gName 4) gNil))) (gLst K 2 (gCons (gName 3) (gCons (gName 4) gNil)))) (by rfl) sc.nd (pi_or (pi_list (pv 1)) (pi_tup (pv 1))) (blkOk_by (own := [("name", 3), ("value", 4)]) (N := ["self", "names", "lists", "name", "value", "row"]) (sc := defScope sHI) (by decide +kernel)) (fun _ _ _ _ _ => (pg_or (pg_tup (by rfl) (pgs_cons (pg_name (i := 3) sc.nd rfl (.inl rfl)) (pgs_cons (pg_name (i := 4) sc.nd rfl (.inl rfl)) pgs_nil))) (pg_lst (by rfl) (pgs_cons (pg_name (i := 3) sc.nd rfl (.inl rfl)) (pgs_cons (pg_name (i := 4) sc.nd rfl (.inl rfl)) pgs_nil))))) (fun _ _ _ _ _ => pts_nil) (fun _ _ _ _ _ => (pv 3)) (fun _ _ _ _ _ => (pv 4))) rfl)
      (pss_one (ps_fld (pv 0) (pe_dc (own := [("name", 3), ("row", 5)]) (g := gOr (gTup K 2 (gCons (gName 3) (gCons (gName 5) gNil))) (gLst K 2 (gCons (gName 3) (gCons (gName 5) gNil)))) (by rfl) sc.nd (pi_or (pi_list (pv 2)) (pi_tup (pv 2))) (blkOk_by (own := [("name", 3), ("row", 5)]) (N := ["self", "names", "lists", "name", "value", "row"]) (sc := defScope sHI) (by decide +kernel)) (fun _ _ _ _ _ => (pg_or (pg_tup (by rfl) (pgs_cons (pg_name (i := 3) sc.nd rfl (.inl rfl)) (pgs_cons (pg_name (i := 5) sc.nd rfl (.inl rfl)) pgs_nil))) (pg_lst (by rfl) (pgs_cons (pg_name (i := 3) sc.nd rfl (.inl rfl)) (pgs_cons (pg_name (i := 5) sc.nd rfl (.inl rfl)) pgs_nil))))) (fun _ _ _ _ _ => pts_nil) (fun _ _ _ _ _ => (pv 3)) (fun _ _ _ _ _ => (pe_callTy (show CallR _ (.type "list") (rListO K) from call_list_of) (by rfl) m_list (by decide +kernel) (pa_cons (pv 5) pa_nil)))) rfl))), ?_⟩
  obtain ⟨xa, xs, rfl, hxs, px⟩ := hx
  have lx := paired_len px
  refine sq_it rfl hxs fun J wk D nD => dcg_it (put := putS) wk (fun i HB => Same H HB ∧ HB D = some (.dK (nmK (nm.take i)))) ⟨same_upd nD, upd_same⟩ (fun i HB _ h => h.1) ?_ ?_
  · rintro i v _ HB hi ⟨sm, hD⟩ ⟨rfl, ex⟩
    obtain ⟨z, ez, b, rfl, hb⟩ := paired_at px ex
    refine sq_or (hb.same sm) rfl ⟨_, _, rfl, _, _, rfl, rfl, rfl, ?_⟩
    unfold tYes
    refine iteT ⟨_, rfl, _, rfl, nmK (nm.take i), Sum.inr z.1, rfl, hD, ?_, Fd.Same.putN sm nD, ?_⟩
    · unfold nmK
      rw [List.length_map, List.length_take]
      exact small1000 (by omega)
    · rw [upd_same, putK_fresh, List.take_succ, ez]
      · unfold nmK
        rw [List.map_append]
        rfl
      · exact nm_new n1 ez
  rintro HB ⟨sm, hD⟩
  rw [List.take_of_length_le (by rw [lx]; exact Nat.le_refl _)] at hD
  have hp1 := sm _ _ hp
  refine ⟨_, rfl, p, C, dx, [], rfl, hp1, c.cl, c.nN, by decide, ?_⟩
  have b1 : ButL [p] H (upd HB p (.ins C dx (putF "numbers" (.ref D) []))) := fun b o nb hb => by
    rw [upd_ne fun z => nb (List.mem_singleton.mpr z)]
    exact sm _ _ hb
  have hp2 : (upd HB p (.ins C dx (putF "numbers" (.ref D) []))) p = some (.ins C dx [("numbers", .ref D)]) := upd_same
  have npD : D ≠ p := fun z => by rw [z, hp1] at hD; cases hD
  have hD2 : (upd HB p (.ins C dx (putF "numbers" (.ref D) []))) D = some (.dK (nmK nm)) := by rw [upd_ne npD]; exact hD
  generalize upd HB p (.ins C dx (putF "numbers" (.ref D) [])) = H2 at *
  have fr : H D = none := nD
  clear nD hD sm hp1
  obtain ⟨ya, ys, rfl, hys, py⟩ := hy
  have ly := paired_len py
  have hy2 := hys.but hp b1
  refine sq_it rfl hy2 fun J wk Dr nDr => dcg_it (put := putS) wk (fun i HB => Same H2 HB ∧ ∃ rs, HB Dr = some (.dK (rwK ((rw.take i).map (·.1)) rs)) ∧ Paired (fun a (q : Str × List Int) => HB a = some (.lst (q.2.map V.int))) rs (rw.take i) ∧ ∀ a ∈ rs, a ≠ Dr) ⟨same_upd nDr, [], upd_same, .nil, fun a h => nomatch h⟩ (fun i HB _ h => h.1) ?_ ?_
  · rintro i v _ HB hi ⟨sm, rs, hD, pr, nr⟩ ⟨rfl, ex⟩
    obtain ⟨z, ez, b, cc, rfl, hb, hc⟩ := paired_at py ex
    have lrs := paired_len pr
    refine sq_or ((hb.but hp b1).same sm) rfl ⟨_, _, rfl, _, _, rfl, rfl, rfl, ?_⟩
    unfold tYes
    refine iteT ⟨_, rfl, _, rfl, cc, _, rfl, (hc.but hp b1).same sm, fun l nl => ?_⟩
    have sl := same_upd (o := .lst (z.2.map V.int)) nl
    have hl := upd_same (H := HB) (a := l) (o := .lst (z.2.map V.int))
    have lD : l ≠ Dr := fun e => by rw [e, hD] at nl; cases nl
    have hD' := sl _ _ hD
    have pr' := L2.Paired.mapP pr fun a q e => sl _ _ e
    generalize upd HB l (.lst (z.2.map V.int)) = HC at *
    refine ⟨_, Sum.inr z.1, rfl, hD', ?_, Fd.Same.putN (sm.trans sl) nDr, rs ++ [l], ?_, ?_, ?_⟩
    · unfold rwK
      rw [List.length_map, List.length_zip, List.length_map, List.length_take]
      exact small1000 (by omega)
    · rw [upd_same, putK_fresh]
      · rw [List.take_succ, ez]
        unfold rwK
        rw [List.map_append, List.zip_append (by rw [List.length_map]; exact lrs.symm), List.map_append]
        rfl
      · intro q hq
        unfold rwK at hq
        obtain ⟨y, hy, rfl⟩ := List.mem_map.mp hq
        have hm := (List.of_mem_zip (show (y.1, y.2) ∈ _ from hy)).1
        intro c
        obtain ⟨u, hu, e⟩ := List.mem_map.mp hm
        exact nm_new (g := fun _ => V.non) n2 ez _ (List.mem_map.mpr ⟨u, hu, rfl⟩) (by rw [← c, e])
    · rw [List.take_succ, ez]
      refine paired_snoc (paired_mem pr' fun a ha q e => ?_) ?_
      · rw [upd_ne (nr a ha)]
        exact e
      · rw [upd_ne lD]
        exact hl
    · intro a ha
      rcases List.mem_append.mp ha with ha | ha
      · exact nr a ha
      · rw [List.mem_singleton.mp ha]
        exact lD
  rintro HB ⟨sm, rs, hD, pr, nr⟩
  rw [List.take_of_length_le (by rw [ly]; exact Nat.le_refl _)] at hD pr
  have hp3 := sm _ _ hp2
  refine ⟨_, rfl, p, C, dx, _, rfl, hp3, c.cl, c.nR, (show 1 < 1000 by decide), ?_⟩
  have ef : putF "rows" (.ref Dr) [(("numbers" : Str), V.ref D)] = fldH D Dr := by
    show (if ("numbers" : Str) = "rows" then _ else _) = _
    rw [if_neg kNR']
    rfl
  rw [ef]
  have ne : ∀ {b o}, HB b = some o → o ≠ .ins C dx [("numbers", .ref D)] → b ≠ p := fun {b o} e n z => by
    rw [z, hp3] at e
    exact n (Option.some.inj e).symm
  refine q _ (fun b o nb hb => ?_) ⟨⟨dx, D, Dr, rs, upd_same, ?_, ?_, ?_⟩, n1, n2, l1, l2, l3⟩
  · rw [upd_ne fun z => nb (List.mem_singleton.mpr z)]
    exact sm _ _ (b1 b o nb hb)
  · rw [upd_ne npD]
    exact sm _ _ hD2
  · rw [upd_ne (ne hD nofun)]
    exact hD
  · exact L2.Paired.mapP pr fun a q e => by rw [upd_ne (ne e nofun)]; exact e
end
end Fd

set_option Elab.async false
set_option linter.all false
set_option maxRecDepth 100000
set_option maxHeartbeats 1000000
namespace Fd
open PySem PySem.Spec PyProof.Rows L2 RZ Fw LamX
/-! v stands for d, its lists at the addresses as, no two alike -/
mutual
inductive Tr (K : PySem.W.Frag) (H : Hp) : V → PyData → List Addr → Prop
  | none : Tr K H .non .none []
  | bool (b : Bool) : Tr K H (.bl b) (.bool b) []
  | int (i : Int) : Tr K H (.int i) (.int i) []
  | str (x : Str) : Tr K H (.str x) (.str x) []
  | lst {a : Addr} {xs : List V} {ds : List PyData} {as : List Addr} : H a = some (.lst xs) → TrA K H xs ds as → a ∉ as → Tr K H (.ref a) (.list ds) (a :: as)
  | tup {a : Addr} {xs : List V} {ds : List PyData} {as : List Addr} : SqT K H a xs → TrA K H xs ds as → Tr K H (.ref a) (.tuple ds) as
inductive TrA (K : PySem.W.Frag) (H : Hp) : List V → List PyData → List Addr → Prop
  | nil : TrA K H [] [] []
  | cons {v : V} {d : PyData} {as bs : List Addr} {vs : List V} {ds : List PyData} : Tr K H v d as → TrA K H vs ds bs → (∀ b ∈ as, b ∉ bs) → TrA K H (v :: vs) (d :: ds) (as ++ bs)
end
/-- H' keeps what the tree stands on -/
structure Kp (as : List Addr) (H H' : Hp) : Prop where
  l : ∀ b xs, H b = some (.lst xs) → b ∈ as → H' b = some (.lst xs)
  t : ∀ b xs, H b = some (.tup xs) → H' b = some (.tup xs)
  f : ∀ b o xs, H b = some (.frz o (.tup xs)) → H' b = some (.frz o (.tup xs))
theorem Kp.sub {as bs : List Addr} {H H' : Hp} (h : Kp as H H') (s : ∀ b ∈ bs, b ∈ as) : Kp bs H H' := ⟨fun b o e c => h.l b o e (s b c), h.t, h.f⟩
theorem Kp.same {as : List Addr} {H H' : Hp} (s : Same H H') : Kp as H H' := ⟨fun b o e _ => s b _ e, fun b o e => s b _ e, fun b o xs e => s b _ e⟩
theorem Kp.ext {as : List Addr} {H H' : Hp} (s : ExtN H H') : Kp as H H' := ⟨fun b o e _ => s b _ e nofun, fun b o e => s b _ e nofun, fun b o xs e => s b _ e nofun⟩
theorem sqT_kp {K : PySem.W.Frag} {as : List Addr} {H H' : Hp} {a : Addr} {xs : List V} (s : Kp as H H') (h : SqT K H a xs) : SqT K H' a xs := by
  rcases h with (h | ⟨o, h⟩) | h
  · exact .inl (.inl (s.t _ _ h))
  · exact .inl (.inr ⟨o, s.f _ _ _ h⟩)
  · exact .inr h
mutual
theorem tr_kp {K : PySem.W.Frag} {H H' : Hp} : ∀ (d : PyData) (v : V) (as : List Addr), Kp as H H' → Tr K H v d as → Tr K H' v d as
  | .none, _, _, _, h => by cases h; exact .none
  | .bool _, _, _, _, h => by cases h; exact .bool _
  | .int _, _, _, _, h => by cases h; exact .int _
  | .str _, _, _, _, h => by cases h; exact .str _
  | .dict _, _, _, _, h => by cases h
  | .tuple ds, _, _, s, h => by
    cases h with
    | tup h1 h2 => exact .tup (sqT_kp s h1) (trA_kp ds _ _ s h2)
  | .list ds, _, _, s, h => by
    cases h with
    | lst h1 h2 h3 => exact .lst (s.l _ _ h1 (List.mem_cons_self ..)) (trA_kp ds _ _ (s.sub fun b hb => List.mem_cons_of_mem _ hb) h2) h3
theorem trA_kp {K : PySem.W.Frag} {H H' : Hp} : ∀ (ds : List PyData) (vs : List V) (as : List Addr), Kp as H H' → TrA K H vs ds as → TrA K H' vs ds as
  | [], _, _, _, h => by cases h; exact .nil
  | d :: ds, _, _, s, h => by
    cases h with
    | cons h1 h2 h3 => exact .cons (tr_kp d _ _ (s.sub fun b hb => List.mem_append_left _ hb) h1) (trA_kp ds _ _ (s.sub fun b hb => List.mem_append_right _ hb) h2) h3
end
mutual
theorem tr_dp {K : PySem.W.Frag} {H : Hp} : ∀ (d : PyData) (v : V) (as : List Addr), Tr K H v d as → Dp K H v d
  | .none, _, _, h => by cases h; exact .non
  | .bool _, _, _, h => by cases h; exact .bl _
  | .int _, _, _, h => by cases h; exact .int _
  | .str _, _, _, h => by cases h; exact .str _
  | .dict _, _, _, h => by cases h
  | .tuple ds, _, _, h => by
    cases h with
    | tup h1 h2 => exact .tup h1 (trA_dp ds _ _ h2)
  | .list ds, _, _, h => by
    cases h with
    | lst h1 h2 h3 => exact .lst (SqL.of h1) (trA_dp ds _ _ h2)
theorem trA_dp {K : PySem.W.Frag} {H : Hp} : ∀ (ds : List PyData) (vs : List V) (as : List Addr), TrA K H vs ds as → DpAll K H vs ds
  | [], _, _, h => by cases h; exact .nil
  | d :: ds, _, _, h => by
    cases h with
    | cons h1 h2 h3 => exact .cons (tr_dp d _ _ h1) (trA_dp ds _ _ h2)
end
mutual
theorem tr_in {K : PySem.W.Frag} {H : Hp} : ∀ (d : PyData) (v : V) (as : List Addr), Tr K H v d as → ∀ b ∈ as, ∃ u, H b = some (.lst u)
  | .none, _, _, h => by cases h; intro b hb; cases hb
  | .bool _, _, _, h => by cases h; intro b hb; cases hb
  | .int _, _, _, h => by cases h; intro b hb; cases hb
  | .str _, _, _, h => by cases h; intro b hb; cases hb
  | .dict _, _, _, h => by cases h
  | .tuple ds, _, _, h => by
    cases h with
    | tup h1 h2 => exact trA_in ds _ _ h2
  | .list ds, _, _, h => by
    cases h with
    | lst h1 h2 h3 =>
      intro b hb
      rcases List.mem_cons.mp hb with z | z
      · rw [z]; exact ⟨_, h1⟩
      · exact trA_in ds _ _ h2 b z
theorem trA_in {K : PySem.W.Frag} {H : Hp} : ∀ (ds : List PyData) (vs : List V) (as : List Addr), TrA K H vs ds as → ∀ b ∈ as, ∃ u, H b = some (.lst u)
  | [], _, _, h => by cases h; intro b hb; cases hb
  | d :: ds, _, _, h => by
    cases h with
    | cons h1 h2 h3 =>
      intro b hb
      rcases List.mem_append.mp hb with z | z
      · exact tr_in d _ _ h1 b z
      · exact trA_in ds _ _ h2 b z
end
theorem trA_app {K : PySem.W.Frag} {H : Hp} {ws : List V} {es : List PyData} {bs : List Addr} (hw : TrA K H ws es bs) : ∀ {vs : List V} {ds : List PyData} {as : List Addr}, TrA K H vs ds as → (∀ b ∈ as, b ∉ bs) → TrA K H (vs ++ ws) (ds ++ es) (as ++ bs)
  | [], _, _, h, _ => by
    cases h
    exact hw
  | x :: vs, _, _, h, e => by
    cases h with
    | cons h1 h2 h3 =>
      rw [List.append_assoc]
      exact .cons h1 (trA_app hw h2 fun b hb => e b (List.mem_append_right _ hb)) fun b hb z => by
        rcases List.mem_append.mp z with z | z
        · exact h3 b hb z
        · exact e b (List.mem_append_left _ hb) z
theorem trA_snoc {K : PySem.W.Frag} {H : Hp} {v : V} {d : PyData} {bs : List Addr} (hv : Tr K H v d bs) {vs : List V} {ds : List PyData} {as : List Addr} (h : TrA K H vs ds as) (e : ∀ b ∈ as, b ∉ bs) : TrA K H (vs ++ [v]) (ds ++ [d]) (as ++ bs) := by
  have := TrA.cons hv .nil (fun b _ z => by cases z)
  rw [List.append_nil] at this
  exact trA_app this h e
theorem trA_ints {K : PySem.W.Frag} {H : Hp} : ∀ ms : List Int, TrA K H (ms.map V.int) (ms.map PyData.int) []
  | [] => .nil
  | m :: r => .cons (as := []) (bs := []) (.int m) (trA_ints r) (fun b z => by cases z)
theorem trA_strs {K : PySem.W.Frag} {H : Hp} : ∀ ms : List Str, TrA K H (ms.map V.str) (ms.map PyData.str) []
  | [] => .nil
  | m :: r => .cons (as := []) (bs := []) (.str m) (trA_strs r) (fun b z => by cases z)
theorem same_free {H H' : Hp} (s : Same H H') {b : Addr} (h : H' b = none) : H b = none := by
  cases e : H b with
  | none => rfl
  | some u => rw [s _ _ e] at h; cases h
/-- things being gathered in a list at D -/
def BldT (K : PySem.W.Frag) (D : Addr) (H : Hp) (ds : List PyData) (H' : Hp) : Prop := Same H H' ∧ ∃ vs as, H' D = some (.lst vs) ∧ TrA K H' vs ds as ∧ D ∉ as ∧ ∀ b ∈ as, H b = none
theorem BldT.nil {K : PySem.W.Frag} {D : Addr} {H : Hp} (n : H D = none) : BldT K D H [] (upd H D (.lst [])) := ⟨same_upd n, [], [], upd_same, .nil, (fun z => by cases z), fun b z => by cases z⟩
theorem BldT.push {K : PySem.W.Frag} {D : Addr} {H H1 H2 : Hp} {ds : List PyData} {y : V} {d : PyData} {bs : List Addr} (B : BldT K D H ds H1) (nD : H D = none) (s : Same H1 H2) (hy : Tr K H2 y d bs) (fr : ∀ b ∈ bs, H1 b = none) (hl : ds.length ≤ 999) :
    ∃ acc, H2 D = some (.lst acc) ∧ acc.length < sizeLine ∧ BldT K D H (ds ++ [d]) (upd H2 D (.lst (acc ++ [y]))) := by
  obtain ⟨sB, vs, as, hD, hT, nd, fa⟩ := B
  have i1 := trA_in _ _ _ hT
  have len : vs.length = ds.length := dpAll_len (trA_dp _ _ _ hT)
  have Db : D ∉ bs := fun z => by rw [fr D z] at hD; cases hD
  have hD2 := s _ _ hD
  have kp : ∀ {cs : List Addr}, D ∉ cs → Kp cs H2 (upd H2 D (.lst (vs ++ [y]))) := fun {cs} n => ⟨fun b o e c => by rw [upd_ne (fun z => n (by rw [← z]; exact c))]; exact e, fun b o e => by rw [upd_ne (ne_of e hD2 nofun)]; exact e, fun b o xs e => by rw [upd_ne (ne_of e hD2 nofun)]; exact e⟩
  have hT2 := trA_kp _ _ _ (kp nd) (trA_kp _ _ _ (Kp.same s) hT)
  have hy2 := tr_kp _ _ _ (kp Db) hy
  refine ⟨vs, hD2, small1000 (by omega), fun b o h => ?_, vs ++ [y], as ++ bs, upd_same, trA_snoc hy2 hT2 fun b hb z => ?_, fun z => ?_, fun b hb => ?_⟩
  · rw [upd_ne (ne_of_none h nD)]
    exact s _ _ (sB _ _ h)
  · obtain ⟨u, hu⟩ := i1 b hb
    rw [fr b z] at hu
    cases hu
  · rcases List.mem_append.mp z with z | z
    · exact nd z
    · exact Db z
  · rcases List.mem_append.mp hb with z | z
    · exact fa b z
    · exact same_free sB (fr b z)
/-- the list that was gathered -/
theorem BldT.tr {K : PySem.W.Frag} {D : Addr} {H H' : Hp} {ds : List PyData} (B : BldT K D H ds H') (nD : H D = none) : ∃ as, Tr K H' (.ref D) (.list ds) as ∧ ∀ b ∈ as, H b = none := by
  obtain ⟨sB, vs, as, hD, hT, nd, fa⟩ := B
  refine ⟨D :: as, .lst hD hT nd, fun b hb => ?_⟩
  rcases List.mem_cons.mp hb with z | z
  · rw [z]; exact nD
  · exact fa b z
/-- a new thing comes back that stands for d -/
def RetT (K : PySem.W.Frag) (H : Hp) (d : PyData) (Q : VK) : Prop := ∀ v H' as, Same H H' → Tr K H' v d as → (∀ b ∈ as, H b = none) → Q v H'
def prD (q : Str × Int) : PyData := .tuple [.str q.1, .int q.2]
def nmD (nm : Nms) : PyData := .list (nm.map prD)
def rpD (q : Str × List Int) : PyData := .tuple [.str q.1, .list (q.2.map .int)]
def rwD (rw : Rws) : PyData := .list (rw.map rpD)
end Fd

set_option Elab.async false
set_option linter.all false
set_option maxRecDepth 100000
set_option maxHeartbeats 1000000
namespace Fd
open PySem PySem.Spec PyProof.Rows L2 RZ Fw
theorem nmK_at {nm : Nms} {i : Nat} {k : L2.Key} {v : V} (e : (nmK nm)[i]? = some (k, v)) : ∃ q, nm[i]? = some q ∧ k = Sum.inr q.1 ∧ v = .int q.2 := by
  unfold nmK at e
  rw [List.getElem?_map] at e
  obtain ⟨q, eq, h⟩ := Option.map_eq_some_iff.mp e
  cases h
  exact ⟨q, eq, rfl, rfl⟩
theorem val_map {α : Type} {g : α → V} : ∀ {l : List (Str × α)} {i : Nat} {q : Str × α}, (l.map (·.1)).Nodup → l[i]? = some q → valV (l.map fun q => ((Sum.inr q.1 : L2.Key), g q.2)) (Sum.inr q.1) = some (g q.2)
  | [], i, q, _, e => by simp at e
  | x :: l, 0, q, _, e => by
    cases (Option.some.inj e)
    unfold valV
    rw [List.map_cons, List.find?_cons, decide_eq_true rfl]
    rfl
  | x :: l, i + 1, q, nd, e => by
    obtain ⟨n1, n2⟩ := List.nodup_cons.mp nd
    have ih := val_map (g := g) (i := i) n2 e
    have ne : (Sum.inr x.1 : L2.Key) ≠ Sum.inr q.1 := fun c => n1 (List.mem_map.mpr ⟨q, List.mem_of_getElem? e, (Sum.inr.inj c).symm⟩)
    unfold valV at *
    rw [List.map_cons, List.find?_cons, decide_eq_false ne]
    exact ih
theorem rwK_at {ks : List Str} {rs : List Addr} {i : Nat} {k : L2.Key} {v : V} (e : (rwK ks rs)[i]? = some (k, v)) : ∃ z a, ks[i]? = some z ∧ rs[i]? = some a ∧ k = Sum.inr z ∧ v = .ref a := by
  unfold rwK at e
  rw [List.getElem?_map] at e
  obtain ⟨q, eq, h⟩ := Option.map_eq_some_iff.mp e
  cases h
  rw [List.getElem?_zip_eq_some] at eq
  exact ⟨q.1, q.2, eq.1, eq.2, rfl, rfl⟩
theorem val_zip {ks : List Str} {rs : List Addr} {i : Nat} {z : Str} {a : Addr} (nd : ks.Nodup) (hl : ks.length = rs.length) (e1 : ks[i]? = some z) (e2 : rs[i]? = some a) : valV (rwK ks rs) (Sum.inr z) = some (.ref a) := by
  have h : (ks.zip rs)[i]? = some (z, a) := by rw [List.getElem?_zip_eq_some]; exact ⟨e1, e2⟩
  exact val_map (g := V.ref) (l := ks.zip rs) (q := (z, a)) (by rw [List.map_fst_zip (Nat.le_of_eq hl)]; exact nd) h
/-- what a locked dict's walk leaves behind -/
theorem same_unlock {H HB : Hp} {d : Addr} {u : HO} {o : Obj} (hd : H d = some u) (s : Same (upd H d (.frz o u)) HB) : Same H (upd HB d u) := fun b x hb => by
  by_cases e : b = d
  · subst e
    rw [hd] at hb
    cases hb
    exact upd_same
  · rw [upd_ne e]
    exact s _ _ (by rw [upd_ne e]; exact hb)
section
variable {P : Program} {w : World} {K : PySem.W.Frag} {mg : Str → Option Value} {base : Heap} {f : Addr} {fd : FuncData} {C : Addr}
def spHN (K : PySem.W.Frag) (C : Addr) : Sp := fun vs H Q _ => ∃ (p : Addr) (nm : Nms) (rw : Rws), vs = [.ref p] ∧ HoldAt C H p nm rw ∧ RetT K H (nmD nm) Q
theorem scHN : FnScope ["self", "name"] ["self"] (defScope sHN) := ⟨rfl, rfl, rfl, by decide +kernel, rfl, by decide +kernel, by decide +kernel⟩
theorem tr_unlock {K : PySem.W.Frag} {HB : Hp} {d : Addr} {u : HO} {o : Obj} {x : V} {e : PyData} {as : List Addr} (hd : HB d = some (.frz o u)) (n : ∀ xs, u ≠ .tup xs) (t : Tr K HB x e as) : Tr K (upd HB d u) x e as :=
  tr_kp _ _ _ ⟨fun b xs e _ => by rw [upd_ne (ne_of e hd nofun)]; exact e, fun b xs e => by rw [upd_ne (ne_of e hd nofun)]; exact e, fun b o xs e => by rw [upd_ne (ne_of e hd fun z => n xs (by injection z with _ z; exact z.symm))]; exact e⟩ t
theorem ok_hn {k : Nat} (F : Fun K "name_pairs" "Holding.name_pairs" sHN f fd) (c : HCls K C) : FnOk P w K mg base CX0 (k + 1) f fd ["self"] (spHN K C) := by
  have sc := scHN
  refine F.ok sc (fun vs H Q E h => ?_) (fun cdv A outer s H vs Q E hr h => ?_)
  · obtain ⟨p, nm, rw, rfl, _⟩ := h
    rfl
  obtain ⟨p, nm, rw, rfl, hp, q⟩ := h
  refine ⟨_, (pss_one (ps_ret (pe_lock (pe_lc (own := [("name", 1)]) (by rfl) sc.nd  (pi_keys (pe_fld (pv 0) rfl)) (blkOk_by (own := [("name", 1)]) (N := ["self", "name"]) (sc := defScope sHN) (by decide +kernel)) (fun _ _ _ _ _ => (pg_name (i := 1) sc.nd rfl (.inl rfl))) (fun _ _ _ _ _ => pts_nil) (fun _ _ _ _ _ => (pe_tup (pa_cons (pv 1) (pa_cons (pe_dget (hu_of hr) (show PE _ _ (tFld K (tVar 0) "numbers") from pe_fld (pv 0) rfl) (pv 1) (fun _ _ => rfl)) pa_nil)))))))), ?_⟩
  obtain ⟨⟨dx, dn, dr, rs, h1, h2, h3, h4⟩, n1, n2, l1, l2, l3⟩ := hp
  refine ⟨dn, _, h2, trivial, fun od => ?_⟩
  have np : p ≠ dn := ne_of h1 h2 nofun
  have h1' : (upd H dn (.frz od (.dK (nmK nm)))) p = some (.ins C dx (fldH dn dr)) := by rw [upd_ne np]; exact h1
  have h2' : (upd H dn (.frz od (.dK (nmK nm)))) dn = some (.frz od (.dK (nmK nm))) := upd_same
  have un : ∀ {HB}, Same (upd H dn (.frz od (.dK (nmK nm)))) HB → Same H (upd HB dn (.dK (nmK nm))) := fun s => same_unlock h2 s
  have fr : ∀ b, (upd H dn (.frz od (.dK (nmK nm)))) b = none → H b = none := fun b e => by
    by_cases z : b = dn
    · rw [z, upd_same] at e; cases e
    · rw [upd_ne z] at e; exact e
  generalize upd H dn (.frz od (.dK (nmK nm))) = H0 at *
  have lk : (nmK nm).length = nm.length := by unfold nmK; exact List.length_map ..
  refine ⟨_, rfl, p, C, dx, _, _, rfl, h1', c.cl, c.nN, fldH_n _ _, dn, od, rfl, .inl ⟨nmK nm, h2', fun D nD => lc_it walk_keys (fun i HB => BldT K D H0 ((nm.take i).map prD) HB) (BldT.nil nD) (fun _ _ _ h => h.1 _ _ h2') ?_ ?_⟩⟩
  · rintro i x _ HB hi B ⟨rfl, kk, v, ek, rfl⟩
    obtain ⟨z, ez, rfl, rfl⟩ := nmK_at ek
    have sm := B.1
    refine ⟨rfl, ?_⟩
    unfold tYes
    refine iteT ⟨_, rfl, _, rfl, p, C, dx, _, _, rfl, sm _ _ h1', c.cl, c.nN, fldH_n _ _, _, rfl, dn, .int z.2, rfl, .inl ⟨nmK nm, Sum.inr z.1, .inr ⟨od, sm _ _ h2'⟩, rfl, (val_map (g := V.int) n1 ez).symm⟩, by show 2 ≤ sizeLine; decide, fun t nt => ?_⟩
    have st := same_upd (o := .tup [kV (Sum.inr z.1), .int z.2]) nt
    have ht := upd_same (H := HB) (a := t) (o := .tup [kV (Sum.inr z.1), .int z.2])
    generalize upd HB t (.tup [kV (Sum.inr z.1), .int z.2]) = HC at *
    have hy : Tr K HC (.ref t) (prD z) [] := .tup (.inl (.inl ht)) (.cons (as := []) (bs := []) (.str _) (.cons (as := []) (bs := []) (.int _) .nil (fun b z => by cases z)) (fun b z => by cases z))
    have := B.push nD st hy (fun b z => by cases z) (by rw [List.length_map, List.length_take]; omega)
    rw [List.take_succ, ez, List.map_append]
    exact this
  rintro HB B
  rw [List.take_of_length_le (by rw [lk]; exact Nat.le_refl _)] at B
  have hd := B.1 _ _ h2'
  obtain ⟨as, t, fa⟩ := B.tr nD
  exact ⟨hd, q _ _ as (un B.1) (tr_unlock hd nofun t) fun b hb => fr b (fa b hb)⟩
def spHL (K : PySem.W.Frag) (C : Addr) : Sp := fun vs H Q _ => ∃ (p : Addr) (nm : Nms) (rw : Rws), vs = [.ref p] ∧ HoldAt C H p nm rw ∧ RetT K H (rwD rw) Q
theorem scHL : FnScope ["self", "name"] ["self"] (defScope sHL) := ⟨rfl, rfl, rfl, by decide +kernel, rfl, by decide +kernel, by decide +kernel⟩
theorem ok_hl {k : Nat} (F : Fun K "list_pairs" "Holding.list_pairs" sHL f fd) (c : HCls K C) (m_list : mg "list" = none) : FnOk P w K mg base CX0 (k + 1) f fd ["self"] (spHL K C) := by
  have sc := scHL
  refine F.ok sc (fun vs H Q E h => ?_) (fun cdv A outer s H vs Q E hr h => ?_)
  · obtain ⟨p, nm, rw, rfl, _⟩ := h
    rfl
  obtain ⟨p, nm, rw, rfl, hp, q⟩ := h
  refine ⟨_, (pss_one (ps_ret (pe_lock (pe_lc (own := [("name", 1)]) (by rfl) sc.nd  (pi_keys (pe_fld (pv 0) rfl)) (blkOk_by (own := [("name", 1)]) (N := ["self", "name"]) (sc := defScope sHL) (by decide +kernel)) (fun _ _ _ _ _ => (pg_name (i := 1) sc.nd rfl (.inl rfl))) (fun _ _ _ _ _ => pts_nil) (fun _ _ _ _ _ => (pe_tup (pa_cons (pv 1) (pa_cons (pe_callTy (show CallR _ (.type "list") (rListO K) from call_list_of) (by rfl) m_list (by decide +kernel) (pa_cons (pe_dget (hu_of hr) (show PE _ _ (tFld K (tVar 0) "rows") from pe_fld (pv 0) rfl) (pv 1) (fun _ _ => rfl)) pa_nil)) pa_nil)))))))), ?_⟩
  obtain ⟨⟨dx, dn, dr, rs, h1, h2, h3, h4⟩, n1, n2, l1, l2, l3⟩ := hp
  have lrs := paired_len h4
  have lm : (rw.map (·.1)).length = rs.length := by rw [List.length_map]; exact lrs.symm
  have lk : (rwK (rw.map (·.1)) rs).length = rw.length := by unfold rwK; rw [List.length_map, List.length_zip, lm, Nat.min_self, lrs]
  have at_ : ∀ (i : Nat) (kk : L2.Key) (v : V), (rwK (rw.map (·.1)) rs)[i]? = some (kk, v) → ∃ (z : Str × List Int) (a : Addr), rw[i]? = some z ∧ rs[i]? = some a ∧ kk = Sum.inr z.1 ∧ v = V.ref a ∧ valV (rwK (rw.map (·.1)) rs) (Sum.inr z.1) = some (V.ref a) := fun i kk v e => by
    obtain ⟨y, a, e1, e2, rfl, rfl⟩ := rwK_at e
    have e1' := e1
    rw [List.getElem?_map] at e1'
    obtain ⟨z, ez, rfl⟩ := Option.map_eq_some_iff.mp e1'
    exact ⟨z, a, ez, e2, rfl, rfl, val_zip n2 lm e1 e2⟩
  generalize rwK (rw.map (·.1)) rs = kvs at *
  refine ⟨dr, _, h3, trivial, fun od => ?_⟩
  have np : p ≠ dr := ne_of h1 h3 nofun
  have h1' : (upd H dr (.frz od (.dK kvs))) p = some (.ins C dx (fldH dn dr)) := by rw [upd_ne np]; exact h1
  have h2' : (upd H dr (.frz od (.dK kvs))) dr = some (.frz od (.dK kvs)) := upd_same
  have h4' : Paired (fun a (q : Str × List Int) => (upd H dr (.frz od (.dK kvs))) a = some (.lst (q.2.map V.int))) rs rw := L2.Paired.mapP h4 fun a q e => by rw [upd_ne (ne_of e h3 nofun)]; exact e
  have un : ∀ {HB}, Same (upd H dr (.frz od (.dK kvs))) HB → Same H (upd HB dr (.dK kvs)) := fun s => same_unlock h3 s
  have fr : ∀ b, (upd H dr (.frz od (.dK kvs))) b = none → H b = none := fun b e => by
    by_cases z : b = dr
    · rw [z, upd_same] at e; cases e
    · rw [upd_ne z] at e; exact e
  generalize upd H dr (.frz od (.dK kvs)) = H0 at *
  refine ⟨_, rfl, p, C, dx, _, _, rfl, h1', c.cl, c.nR, fldH_r _ _, dr, od, rfl, .inl ⟨kvs, h2', fun D nD => lc_it walk_keys (fun i HB => BldT K D H0 ((rw.take i).map rpD) HB) (BldT.nil nD) (fun _ _ _ h => h.1 _ _ h2') ?_ ?_⟩⟩
  · rintro i x _ HB hi B ⟨rfl, kk, v, ek, rfl⟩
    obtain ⟨z, a, ez, ea, rfl, rfl, ev⟩ := at_ i kk v ek
    obtain ⟨z', ez', ha⟩ := paired_at h4' ea
    rw [ez] at ez'
    cases ez'
    have sm := B.1
    refine ⟨rfl, ?_⟩
    unfold tYes
    refine iteT ⟨_, rfl, _, rfl, p, C, dx, _, _, rfl, sm _ _ h1', c.cl, c.nR, fldH_r _ _, _, rfl, dr, .ref a, rfl, .inl ⟨kvs, Sum.inr z.1, .inr ⟨od, sm _ _ h2'⟩, rfl, ev.symm⟩, a, _, rfl, .inl (SqL.of (sm _ _ ha)), fun r nr => ⟨by show 2 ≤ sizeLine; decide, fun t nt => ?_⟩⟩
    have sr := same_upd (o := .lst (z.2.map V.int)) nr
    have er := upd_same (H := HB) (a := r) (o := .lst (z.2.map V.int))
    generalize upd HB r (.lst (z.2.map V.int)) = HC at *
    have st := same_upd (o := .tup [kV (Sum.inr z.1), .ref r]) nt
    have et := upd_same (H := HC) (a := t) (o := .tup [kV (Sum.inr z.1), .ref r])
    have er' := st _ _ er
    generalize upd HC t (.tup [kV (Sum.inr z.1), .ref r]) = HE at *
    have hy : Tr K HE (.ref t) (rpD z) [r] := .tup (.inl (.inl et)) (.cons (as := []) (bs := [r]) (.str _) (.cons (as := [r]) (bs := []) (.lst er' (trA_ints _) (fun z => by cases z)) .nil (fun b _ z => by cases z)) (fun b z => by cases z))
    have := B.push nD (sr.trans st) hy (fun b z => by rw [List.mem_singleton.mp z]; exact nr) (by rw [List.length_map, List.length_take]; omega)
    rw [List.take_succ, ez, List.map_append]
    exact this
  rintro HB B
  rw [List.take_of_length_le (by rw [lk]; exact Nat.le_refl _)] at B
  have hd := B.1 _ _ h2'
  obtain ⟨as, t, fa⟩ := B.tr nD
  exact ⟨hd, q _ _ as (un B.1) (tr_unlock hd nofun t) fun b hb => fr b (fa b hb)⟩
end
end Fd

set_option Elab.async false
set_option linter.all false
set_option maxRecDepth 100000
set_option maxHeartbeats 4000000
/-! texts of plain signs, how long -/
namespace Fw
open PySem PySem.Spec PyProof.Rows L2
structure Asc (m : Nat) (z : Str) : Prop where
  len : z.cps.size ≤ m
  lt : ∀ c ∈ z.cps.toList, c < 128
theorem Asc.le {m n : Nat} {z : Str} (h : Asc m z) (hn : m ≤ n) : Asc n z := ⟨Nat.le_trans h.len hn, h.lt⟩
theorem Asc.app {m n : Nat} {x y : Str} (h : Asc m x) (g : Asc n y) : Asc (m + n) (x ++ y) := by
  refine ⟨?_, fun c hc => ?_⟩
  · rw [Str.cps_append, Array.size_append]; exact Nat.add_le_add h.len g.len
  · rw [Str.cps_append, Array.toList_append] at hc
    exact (List.mem_append.mp hc).elim (h.lt c) (g.lt c)
theorem Asc.cut {m : Nat} {z : Str} (h : Asc m z) (lo hi : Option Int) : Asc m (cutS z lo hi) := by
  have e : (cutS z lo hi).cps.toList = (z.cps.toList.drop (HT.sIx z.length 0 lo)).take (HT.sIx z.length z.length hi - HT.sIx z.length 0 lo) := rfl
  refine ⟨?_, fun c hc => ?_⟩
  · rw [← Array.length_toList, e, List.length_take, List.length_drop, Array.length_toList]
    have := h.len
    omega
  · rw [e] at hc
    exact h.lt c (List.mem_of_mem_drop (List.mem_of_mem_take hc))
theorem up1 : ∀ c : Fin 128, ∃ d : Fin 128, Unicode.upperOf c.val = [d.val] := by decide +kernel
theorem up_list : ∀ l : List Nat, (∀ c ∈ l, c < 128) → (l.map fun c => (Unicode.upperOf c).toArray.toList).flatten.length = l.length ∧ ∀ c ∈ (l.map fun c => (Unicode.upperOf c).toArray.toList).flatten, c < 128
  | [], _ => ⟨rfl, fun _ h => nomatch h⟩
  | x :: r, h => by
    obtain ⟨i1, i2⟩ := up_list r fun c hc => h c (List.mem_cons_of_mem _ hc)
    obtain ⟨d, hd⟩ := up1 ⟨x, h x (List.mem_cons_self ..)⟩
    replace hd : Unicode.upperOf x = [d.val] := hd
    rw [List.map_cons, List.flatten_cons, hd]
    refine ⟨by rw [List.length_append, i1]; show 1 + r.length = r.length + 1; omega, fun c hc => ?_⟩
    rcases List.mem_append.mp hc with z | z
    · have : c = d.val := by simpa using z
      rw [this]; exact d.isLt
    · exact i2 c z
theorem map_zip {α : Type} (g : Nat → α) : ∀ (l : List Nat) (n : Nat), (l.zipIdx n).map (fun x => g x.1) = l.map g
  | [], _ => rfl
  | x :: r, n => by rw [List.zipIdx_cons, List.map_cons, List.map_cons, map_zip g r]
theorem Asc.upper {m : Nat} {z : Str} (h : Asc m z) : Asc m (Txt.upper z) := by
  have e : (Txt.upper z).cps.toList = (z.cps.toList.map fun c => (Unicode.upperOf c).toArray.toList).flatten := by
    show (placed z fun _ c => Unicode.upperOf c).toList = _
    unfold placed
    simp [List.mapIdx_eq_zipIdx_map]
    exact congrArg List.flatten (map_zip (fun c => Unicode.upperOf c) z.cps.toList 0)
  obtain ⟨i1, i2⟩ := up_list z.cps.toList h.lt
  refine ⟨?_, fun c hc => ?_⟩
  · rw [← Array.length_toList, e, i1, Array.length_toList]; exact h.len
  · rw [e] at hc; exact i2 c hc
theorem dig1 : ∀ k : Fin 10, (Nat.digitChar k.val).toNat < 128 := by decide +kernel
theorem dig_core : ∀ (fuel n : Nat) (ds : List Char), (∀ c ∈ ds, c.toNat < 128) → ∀ c ∈ Nat.toDigitsCore 10 fuel n ds, c.toNat < 128
  | 0, _, _, h => h
  | fuel + 1, n, ds, h => by
    intro c hc
    have hk : (Nat.digitChar (n % 10)).toNat < 128 := dig1 ⟨n % 10, Nat.mod_lt _ (by decide)⟩
    have h' : ∀ c ∈ Nat.digitChar (n % 10) :: ds, c.toNat < 128 := fun c hc => (List.mem_cons.mp hc).elim (fun z => z ▸ hk) (h c)
    unfold Nat.toDigitsCore at hc
    dsimp only at hc
    split at hc
    · exact h' c hc
    · exact dig_core fuel _ _ h' c hc
theorem asc_nat {m k : Nat} (hk : 1 ≤ k) (h : m < 10 ^ k) : Asc k ⟨((Nat.toDigits 10 m).map Char.toNat).toArray⟩ := by
  refine ⟨?_, fun c hc => ?_⟩
  · show (((Nat.toDigits 10 m).map Char.toNat).toArray).size ≤ k
    rw [List.size_toArray, List.length_map]
    exact digits10_le hk h
  · obtain ⟨d, hd, rfl⟩ := List.mem_map.mp (show c ∈ (Nat.toDigits 10 m).map Char.toNat by simpa using hc)
    exact dig_core _ _ [] (fun c h => absurd h (by simp)) d hd
theorem asc_int {i : Int} {k : Nat} (hk : 1 ≤ k) (h : i.natAbs < 10 ^ k) : Asc (k + 1) (Str.ofString (toString i)) := by
  cases i with
  | ofNat m =>
    rw [text_ofNat]
    exact (asc_nat hk h).le (Nat.le_succ _)
  | negSucc m =>
    have e : Str.ofString (toString (Int.negSucc m)) = Str.ofString "-" ++ Str.ofString (toString (Int.ofNat (m + 1))) := by
      refine Str.ext' ?_
      rw [Str.cps_append]
      simp [Str.ofString_eq_toList, toString, Int.repr, instToStringInt]
    rw [e, Nat.add_comm]
    refine Asc.app ⟨by decide +kernel, by decide +kernel⟩ ?_
    rw [text_ofNat]
    exact asc_nat hk h
end Fw

set_option Elab.async false
set_option linter.all false
set_option maxRecDepth 100000
set_option maxHeartbeats 1000000
namespace Fd
open PySem PySem.Spec PyProof.Rows L2 RZ Fw
/-! ### Ground: what is told of it -/
structure Fig where
  nm : Str
  x : Int
  y : Int
  w : Int
  ns : Nms
  rs : Rws
structure Gnd where
  wide : Int
  high : Int
  nm : Nms
  rw : Rws
  figs : List Fig
/-- names and lists as a Holding wants them -/
structure Hok (nm : Nms) (rw : Rws) : Prop where
  n1 : (nm.map (·.1)).Nodup
  n2 : (rw.map (·.1)).Nodup
  l1 : nm.length ≤ 100
  l2 : rw.length ≤ 100
  l3 : ∀ q ∈ rw, q.2.length ≤ 100
  s1 : ∀ q ∈ nm, Asc 8 q.1
  s2 : ∀ q ∈ rw, Asc 8 q.1
structure Gnd.Ok (G : Gnd) : Prop where
  h : Hok G.nm G.rw
  fh : ∀ f ∈ G.figs, Hok f.ns f.rs
  nd : (G.figs.map Fig.nm).Nodup
  st : ∀ f ∈ G.figs, Asc 8 f.nm
  ln : G.figs.length ≤ 100
def fgK (z : Str) : List L2.Key := [.inr z, .inl 0]
theorem fgK_inj {a b : Str} (h : fgK a = fgK b) : a = b := by
  injection h with h1 _
  exact Sum.inr.inj h1
def dkT (fs : List Fig) (vs : List V) : List (List L2.Key × V) := (fs.zip vs).map fun q => (fgK q.1.nm, q.2)
theorem dkT_len {fs : List Fig} {vs : List V} (h : fs.length = vs.length) : (dkT fs vs).length = fs.length := by
  unfold dkT
  rw [List.length_map, List.length_zip, h, Nat.min_self]
theorem dkT_snoc {fs : List Fig} {vs : List V} {z : Fig} {v : V} (h : fs.length = vs.length) : dkT (fs ++ [z]) (vs ++ [v]) = dkT fs vs ++ [(fgK z.nm, v)] := by
  unfold dkT
  rw [List.zip_append h, List.map_append]
  rfl
theorem dkT_at {fs : List Fig} {vs : List V} {i : Nat} {z : Fig} {v : V} (e1 : fs[i]? = some z) (e2 : vs[i]? = some v) : (dkT fs vs)[i]? = some (fgK z.nm, v) := by
  unfold dkT
  have q : (fs.zip vs)[i]? = some (z, v) := by rw [List.getElem?_zip_eq_some]; exact ⟨e1, e2⟩
  rw [List.getElem?_map, q]
  rfl
theorem dkT_in {fs : List Fig} {vs : List V} {i : Nat} {q : List L2.Key × V} (e : (dkT fs vs)[i]? = some q) : ∃ z v, fs[i]? = some z ∧ vs[i]? = some v ∧ q = (fgK z.nm, v) := by
  unfold dkT at e
  rw [List.getElem?_map] at e
  obtain ⟨p, ep, h⟩ := Option.map_eq_some_iff.mp e
  rw [List.getElem?_zip_eq_some] at ep
  exact ⟨p.1, p.2, ep.1, ep.2, h.symm⟩
/-- a key is found where it stands -/
theorem val_at {κ : Type} [DecidableEq κ] : ∀ {l : List (κ × V)} {i : Nat} {q : κ × V}, (l.map (·.1)).Nodup → l[i]? = some q → valV l q.1 = some q.2
  | [], i, q, _, e => by simp at e
  | x :: l, 0, q, _, e => by
    cases (Option.some.inj e)
    exact valV_pos rfl
  | x :: l, i + 1, q, nd, e => by
    obtain ⟨n1, n2⟩ := List.nodup_cons.mp nd
    rw [valV_neg fun c => n1 (List.mem_map.mpr ⟨q, List.mem_of_getElem? e, c.symm⟩)]
    exact val_at (i := i) n2 e
theorem val_none {κ : Type} [DecidableEq κ] {l : List (κ × V)} {k : κ} (h : k ∉ l.map (·.1)) : valV l k = none := by
  cases e : valV l k with
  | none => rfl
  | some v =>
    unfold valV at e
    obtain ⟨p, ep, _⟩ := Option.map_eq_some_iff.mp e
    have q := List.find?_some ep
    exact absurd (List.mem_map.mpr ⟨p, List.mem_of_find?_eq_some ep, of_decide_eq_true q⟩) h
theorem dkT_keys {fs : List Fig} {vs : List V} (h : fs.length = vs.length) : (dkT fs vs).map (·.1) = (fs.map Fig.nm).map fgK := by
  unfold dkT
  rw [List.map_map, List.map_map]
  have : (fs.zip vs).map (Prod.fst) = fs := List.map_fst_zip (Nat.le_of_eq h)
  conv => rhs; rw [← this, List.map_map]
  rfl
theorem nodup_fgK {l : List Str} (h : l.Nodup) : (l.map fgK).Nodup := by
  rw [List.nodup_iff_pairwise_ne, List.pairwise_map]
  exact (List.nodup_iff_pairwise_ne.mp h).imp fun n c => n (fgK_inj c)
theorem dkT_nd {fs : List Fig} {vs : List V} (h : fs.length = vs.length) (nd : (fs.map Fig.nm).Nodup) : ((dkT fs vs).map (·.1)).Nodup := by
  rw [dkT_keys h]
  exact nodup_fgK nd
/-- the next one's key is new -/
theorem dkT_put {fs : List Fig} {vs : List V} {i : Nat} {z : Fig} {v : V} (nd : (fs.map Fig.nm).Nodup) (e : fs[i]? = some z) (h : (fs.take i).length = vs.length) : putK (dkT (fs.take i) vs) (fgK z.nm) v = dkT (fs.take (i + 1)) (vs ++ [v]) := by
  rw [putK_new v (val_none ?_), List.take_succ, e]
  · exact (dkT_snoc h).symm
  · rw [dkT_keys h]
    intro c
    obtain ⟨y, hy, ey⟩ := List.mem_map.mp c
    obtain ⟨u, hu, eu⟩ := List.mem_map.mp hy
    obtain ⟨j, ej⟩ := List.mem_iff_getElem?.mp hu
    have hj : j < i := by
      have := (List.getElem?_eq_some_iff.mp ej).1
      rw [List.length_take] at this
      omega
    rw [List.getElem?_take, if_pos hj] at ej
    have c : u.nm = z.nm := eu.trans (fgK_inj ey)
    have e1 : (fs.map Fig.nm)[j]? = some z.nm := by rw [List.getElem?_map, ej]; exact congrArg some c
    have e2 : (fs.map Fig.nm)[i]? = some z.nm := by rw [List.getElem?_map, e]; rfl
    have := (List.getElem?_inj (List.getElem?_eq_some_iff.mp e1).1 nd).mp (e1.trans e2.symm)
    omega
/-! ### a play that is handed, of lists or of tuples -/
def FgIn (K : PySem.W.Frag) (H : Hp) (v : V) (f : Fig) : Prop := ∃ b p n l more, v = .ref b ∧ Sq K H b (.str f.nm :: .ref p :: n :: l :: more) ∧ Sq K H p [.int f.x, .int f.y, .int f.w] ∧ Pn K H n f.ns ∧ Pr K H l f.rs
def PlayIn (K : PySem.W.Frag) (H : Hp) (v : V) (G : Gnd) : Prop := ∃ a s n l f fs, v = .ref a ∧ Sq K H a [.ref s, n, l, .ref f] ∧ Sq K H s [.int G.wide, .int G.high] ∧ Pn K H n G.nm ∧ Pr K H l G.rw ∧ Sq K H f fs ∧ Paired (FgIn K H) fs G.figs
/-- what is a list or a tuple stays -/
def KS (K : PySem.W.Frag) (H H' : Hp) : Prop := ∀ a xs, Sq K H a xs → Sq K H' a xs
theorem KS.same {K : PySem.W.Frag} {H H' : Hp} (s : Same H H') : KS K H H' := fun _ _ h => h.same s
theorem KS.but {K : PySem.W.Frag} {H H' : Hp} {p C dx : Addr} {fs : List (Str × V)} (hp : H p = some (.ins C dx fs)) (s : ButL [p] H H') : KS K H H' := fun _ _ h => h.but hp s
theorem KS.trans {K : PySem.W.Frag} {H H1 H2 : Hp} (x : KS K H H1) (y : KS K H1 H2) : KS K H H2 := fun a xs h => y a xs (x a xs h)
theorem Pn.ks {K : PySem.W.Frag} {H H' : Hp} {x : V} {nm : Nms} (h : Pn K H x nm) (s : KS K H H') : Pn K H' x nm := by
  obtain ⟨a, xs, rfl, h1, h2⟩ := h
  exact ⟨a, xs, rfl, s _ _ h1, L2.Paired.mapP h2 fun v q ⟨b, e, z⟩ => ⟨b, e, s _ _ z⟩⟩
theorem Pr.ks {K : PySem.W.Frag} {H H' : Hp} {x : V} {rw : Rws} (h : Pr K H x rw) (s : KS K H H') : Pr K H' x rw := by
  obtain ⟨a, xs, rfl, h1, h2⟩ := h
  exact ⟨a, xs, rfl, s _ _ h1, L2.Paired.mapP h2 fun v q ⟨b, c, e, z, y⟩ => ⟨b, c, e, s _ _ z, s _ _ y⟩⟩
theorem FgIn.ks {K : PySem.W.Frag} {H H' : Hp} {v : V} {f : Fig} (h : FgIn K H v f) (s : KS K H H') : FgIn K H' v f := by
  obtain ⟨b, p, n, l, more, e, h1, h2, h3, h4⟩ := h
  exact ⟨b, p, n, l, more, e, s _ _ h1, s _ _ h2, h3.ks s, h4.ks s⟩
theorem figs_ks {K : PySem.W.Frag} {H H' : Hp} {vs : List V} {fs : List Fig} (h : Paired (FgIn K H) vs fs) (s : KS K H H') : Paired (FgIn K H') vs fs := L2.Paired.mapP h fun _ _ e => e.ks s
theorem PlayIn.ks {K : PySem.W.Frag} {H H' : Hp} {v : V} {G : Gnd} (h : PlayIn K H v G) (s : KS K H H') : PlayIn K H' v G := by
  obtain ⟨a, p, n, l, f, fs, e, h1, h2, h3, h4, h5, h6⟩ := h
  exact ⟨a, p, n, l, f, fs, e, s _ _ h1, s _ _ h2, h3.ks s, h4.ks s, s _ _ h5, figs_ks h6 s⟩
/-! ### a Ground stands -/
def fldG (wide high : Int) (dF dP dS dH : Addr) : List (Str × V) := [("wide", .int wide), ("high", .int high), ("figures", .ref dF), ("places", .ref dP), ("shown", .ref dS), ("held", .ref dH)]
theorem fldG_w (a b : Int) (c d e f : Addr) : (fldG a b c d e f).lookup ("wide" : Str) = some (.int a) := by kernel_rfl
theorem fldG_h (a b : Int) (c d e f : Addr) : (fldG a b c d e f).lookup ("high" : Str) = some (.int b) := by kernel_rfl
theorem fldG_f (a b : Int) (c d e f : Addr) : (fldG a b c d e f).lookup ("figures" : Str) = some (.ref c) := by kernel_rfl
theorem fldG_p (a b : Int) (c d e f : Addr) : (fldG a b c d e f).lookup ("places" : Str) = some (.ref d) := by kernel_rfl
theorem fldG_s (a b : Int) (c d e f : Addr) : (fldG a b c d e f).lookup ("shown" : Str) = some (.ref e) := by kernel_rfl
theorem fldG_d (a b : Int) (c d e f : Addr) : (fldG a b c d e f).lookup ("held" : Str) = some (.ref f) := by kernel_rfl
theorem putG (a b : V) (c d e f : V) : putF "held" f (putF "shown" e (putF "places" d (putF "figures" c (putF "high" b (putF "wide" a []))))) = [(("wide" : Str), a), ("high", b), ("figures", c), ("places", d), ("shown", e), ("held", f)] := by kernel_rfl
def heldK (G : Gnd) (hs : List Addr) (h0 : Addr) : List (MKey × V) := ((dkT G.figs (hs.map V.ref)).map fun p => (some p.1, p.2)) ++ [(none, .ref h0)]
structure GroundAt (w : World) (K : PySem.W.Frag) (C CH : Addr) (H : Hp) (g : Addr) (G : Gnd) : Prop where
  ob : ∃ dx dF dP dS dH ps hs h0, H g = some (.ins C dx (fldG G.wide G.high dF dP dS dH)) ∧ H dF = some (.lst (G.figs.map fun f => V.str f.nm)) ∧ H dP = some (.dT (dkT G.figs (ps.map V.ref))) ∧ Paired (fun a (f : Fig) => SqT K H a [.int f.x, .int f.y, .int f.w]) ps G.figs ∧
    H dS = some (.dT (dkT G.figs (G.figs.map fun _ => .bl true))) ∧ MixD w H dH (heldK G hs h0) ∧ Paired (fun a (f : Fig) => HoldAt CH H a f.ns f.rs) hs G.figs ∧ HoldAt CH H h0 G.nm G.rw
  ok : G.Ok
theorem GroundAt.same {w : World} {K : PySem.W.Frag} {C CH : Addr} {H H' : Hp} {g : Addr} {G : Gnd} (h : GroundAt w K C CH H g G) (s : Same H H') : GroundAt w K C CH H' g G := by
  obtain ⟨⟨dx, dF, dP, dS, dH, ps, hs, h0, h1, h2, h3, h4, h5, h6, h7, h8⟩, ok⟩ := h
  exact ⟨⟨dx, dF, dP, dS, dH, ps, hs, h0, s _ _ h1, s _ _ h2, s _ _ h3, L2.Paired.mapP h4 fun a q e => seqT s e, s _ _ h5, h6.same (fun o e => s _ _ e) (fun b xs e => s _ _ e), L2.Paired.mapP h7 fun a q e => e.same s, h8.same s⟩, ok⟩
structure GCls (K : PySem.W.Frag) (C : Addr) : Prop where
  cl : Cls K C
  nW : NoAttr K C "wide"
  nH : NoAttr K C "high"
  nF : NoAttr K C "figures"
  nP : NoAttr K C "places"
  nS : NoAttr K C "shown"
  nD : NoAttr K C "held"
end Fd

set_option Elab.async false
set_option linter.all false
set_option maxRecDepth 100000
set_option maxHeartbeats 1000000
namespace Fd
open PySem PySem.Spec PyProof.Rows L2 RZ Fw
/-- tuple(..) of a list or a tuple -/
def rTupO (K : PySem.W.Frag) : List V → Hp → VK → Prop := fun xs H Q => ∃ p ys, xs = [.ref p] ∧ ((SqL K H p ys ∧ ∀ l, H l = none → Q (.ref l) (upd H l (.tup ys))) ∨ (SqT K H p ys ∧ Q (.ref p) H))
theorem tup_or {K : PySem.W.Frag} {H : Hp} {p : Addr} {ys : List V} {Q : VK} (h : Sq K H p ys) (q : ∀ l H', Same H H' → (∀ b, H' b = none → H b = none) → SqT K H' l ys → Q (.ref l) H') : rTupO K [.ref p] H Q := by
  refine ⟨p, ys, rfl, ?_⟩
  rcases h with h | h
  · refine .inl ⟨h, fun l nl => q l _ (same_upd nl) (fun b e => ?_) (.inl (.inl upd_same))⟩
    by_cases z : b = l
    · rw [z, upd_same] at e; cases e
    · rw [upd_ne z] at e; exact e
  · exact .inr ⟨h, q p H (Same.refl _) (fun _ e => e) h⟩
theorem ix_or {K : PySem.W.Frag} {H : Hp} {p : Addr} {ys : List V} {i : Int} {v : V} {Q : VK} (h : Sq K H p ys) (e : atI ys i = some v) (q : Q v H) : rOr (rIxL K) (rIxT K) (.ref p) (.int i) H Q := by
  rcases h with h | h
  · exact .inl ⟨p, ys, i, v, rfl, rfl, h, e, q⟩
  · exact .inr ⟨p, ys, i, v, rfl, rfl, h, e, q⟩
theorem hu20 {k : Nat} {A : Around} (r : Room k A) : A.units + 20 < cLine := by have := r.un; omega
theorem fld_step {H Hc HB : Hp} {p : Addr} {o : HO} (bl : ButL [p] H Hc) (sm : Same Hc HB) : ButL [p] H (upd HB p o) := fun b u nb hb => by
  rw [upd_ne fun z => nb (List.mem_singleton.mpr z)]
  exact sm _ _ (bl b u nb hb)
theorem rmL_le {as : List Addr} {H : Hp} : Same (rmL as H) H := fun b o q => by
  by_cases e : b ∈ as
  · rw [rmL_in e] at q; cases q
  · rw [rmL_at e] at q; exact q
/-- what stands at HB stands without p, p written -/
theorem rm_put {HB : Hp} {p b : Addr} {o o' u : HO} (hp : HB p = some o) (hb : HB b = some u) (n : u ≠ o) : rmL [p] (upd HB p o') b = some u := by
  have e : b ≠ p := ne_of hb hp n
  rw [rmL_at (fun z => e (List.mem_singleton.mp z)), upd_ne e]
  exact hb
theorem rm_putT {K : PySem.W.Frag} {HB : Hp} {p a C dx : Addr} {fs : List (Str × V)} {o' : HO} {xs : List V} (hp : HB p = some (.ins C dx fs)) (h : SqT K HB a xs) : SqT K (rmL [p] (upd HB p o')) a xs := by
  rcases h with (h | ⟨o, h⟩) | h
  · exact .inl (.inl (rm_put hp h nofun))
  · exact .inl (.inr ⟨o, rm_put hp h nofun⟩)
  · exact .inr h
/-- a Holding stands where something else is written -/
theorem HoldAt.off {C : Addr} {H H' : Hp} {p d : Addr} {nm : Nms} {rw : Rws} {o : HO} (h : HoldAt C H p nm rw) (hd : H d = some o) (n1 : ∀ dx dn dr, HO.ins C dx (fldH dn dr) ≠ o) (n2 : ∀ k, HO.dK k ≠ o) (n3 : ∀ xs, HO.lst xs ≠ o) (s : ∀ b u, b ≠ d → H b = some u → H' b = some u) : HoldAt C H' p nm rw := by
  obtain ⟨⟨dx, dn, dr, rs, h1, h2, h3, h4⟩, a1, a2, a3, a4, a5⟩ := h
  exact ⟨⟨dx, dn, dr, rs, s _ _ (ne_of h1 hd (n1 _ _ _)) h1, s _ _ (ne_of h2 hd (n2 _)) h2, s _ _ (ne_of h3 hd (n2 _)) h3, L2.Paired.mapP h4 fun a q e => s _ _ (ne_of e hd (n3 _)) e⟩, a1, a2, a3, a4, a5⟩
theorem kNW : ¬ (("numbers" : Str) = "wide") := by decide +kernel
theorem rm_hold {CH : Addr} {HB : Hp} {p a C dx : Addr} {fs : List (Str × V)} {o' : HO} {nm : Nms} {rw : Rws} {v : V} (hp : HB p = some (.ins C dx (("wide", v) :: fs))) (h : HoldAt CH HB a nm rw) : HoldAt CH (rmL [p] (upd HB p o')) a nm rw :=
  h.off hp (fun dx dn dr e => by
    injection e with _ _ e
    injection e with e _
    exact kNW (congrArg Prod.fst e)) (fun _ => nofun) (fun _ => nofun) fun b u nb hb => by
    rw [rmL_at (fun z => nb (List.mem_singleton.mp z)), upd_ne nb]
    exact hb
abbrev sGI : Stmt := inC 37 0
section
variable {P : Program} {w : World} {K : PySem.W.Frag} {mg : Str → Option Value} {base : Heap} {f : Addr} {fd : FuncData} {C CH : Addr}
def spGI (w : World) (K : PySem.W.Frag) (C CH : Addr) : Sp := fun vs H Q _ => ∃ (p dx : Addr) (x : V) (G : Gnd), vs = [.ref p, x] ∧ H p = some (.ins C dx []) ∧ PlayIn K H x G ∧ G.Ok ∧ ∀ H', ButL [p] H H' → GroundAt w K C CH H' p G → Q .non H'
theorem scGI : FnScope ["self", "play", "size", "names", "lists", "figures", "figure"] ["self", "play"] (defScope sGI) := ⟨rfl, rfl, rfl, by decide +kernel, rfl, by decide +kernel, by decide +kernel⟩
theorem ok_gi {k kH : Nat} {fH : Addr} {fdH : FuncData} {psH : List Str} (F : Fun K "__init__" "Ground.__init__" sGI f fd) (c : GCls K C) (m_tuple : mg "tuple" = none) (M_H : Mk K CH fH) (G_H : FnOk P w K mg base CX0 kH fH fdH psH (spHI K CH)) (hk : kH + 1 ≤ k) (m_Holding : mg "Holding" = some (.ref CH)) (b_H : Binds K fdH psH []) : FnOk P w K mg base CX0 (k + 1) f fd ["self", "play"] (spGI w K C CH) := by
  have sc := scGI
  refine F.ok sc (fun vs H Q E h => ?_) (fun cdv A outer s H vs Q E hr h => ?_)
  · obtain ⟨p, dx, x, G, rfl, _⟩ := h
    rfl
  obtain ⟨p, dx, x, G, rfl, hp, hx, ok, q⟩ := h
  refine ⟨_, (pss_cons (ps_asg (pv 1) (pg_or (pg_tup (by rfl) (pgs_cons (pg_name (i := 2) sc.nd rfl (.inl rfl)) (pgs_cons (pg_name (i := 3) sc.nd rfl (.inl rfl)) (pgs_cons (pg_name (i := 4) sc.nd rfl (.inl rfl)) (pgs_cons (pg_name (i := 5) sc.nd rfl (.inl rfl)) pgs_nil))))) (pg_lst (by rfl) (pgs_cons (pg_name (i := 2) sc.nd rfl (.inl rfl)) (pgs_cons (pg_name (i := 3) sc.nd rfl (.inl rfl)) (pgs_cons (pg_name (i := 4) sc.nd rfl (.inl rfl)) (pgs_cons (pg_name (i := 5) sc.nd rfl (.inl rfl)) pgs_nil)))))))
      (pss_cons (ps_asg (pv 2) (pg_or (pg_tup (by rfl) (pgs_cons (Fw.pg_fld (pv 0)) (pgs_cons (Fw.pg_fld (pv 0)) pgs_nil))) (pg_lst (by rfl) (pgs_cons (Fw.pg_fld (pv 0)) (pgs_cons (Fw.pg_fld (pv 0)) pgs_nil)))))
      (pss_cons (ps_fld (pv 0) (pe_lc (own := [("figure", 6)]) (by rfl) sc.nd  (pi_or (pi_list (pv 5)) (pi_tup (pv 5))) (blkOk_by (own := [("figure", 6)]) (N := ["self", "play", "size", "names", "lists", "figures", "figure"]) (sc := defScope sGI) (by decide +kernel)) (fun _ _ _ _ _ => (pg_name (i := 6) sc.nd rfl (.inl rfl))) (fun _ _ _ _ _ => pts_nil) (fun _ _ _ _ _ => (pe_ix (ixr_or (show IxR _ (rIxL K) from ix_list) (show IxR _ (rIxT K) from ix_tup)) (pv 6) pe_int (fun _ _ => rfl)))) rfl)
      (pss_cons (ps_fld (pv 0) (Fw.pe_dcg (o0 := .dT []) (own := [("figure", 6)]) Fw.putT_ok (hu_of hr) (fun _ _ _ _ hb => dt_empty _ hb) (by rfl) sc.nd (pi_or (pi_list (pv 5)) (pi_tup (pv 5))) (blkOk_by (own := [("figure", 6)]) (N := ["self", "play", "size", "names", "lists", "figures", "figure"]) (sc := defScope sGI) (by decide +kernel)) (fun _ _ _ _ _ => (pg_name (i := 6) sc.nd rfl (.inl rfl))) (fun _ _ _ _ _ => pts_nil) (fun _ _ _ _ _ => (pe_tup (pa_cons (pe_ix (ixr_or (show IxR _ (rIxL K) from ix_list) (show IxR _ (rIxT K) from ix_tup)) (pv 6) pe_int (fun _ _ => rfl)) (pa_cons pe_int pa_nil)))) (fun _ _ _ _ _ => (pe_callTy (show CallR _ (.type "tuple") (rTupO K) from call_tuple_of) (by rfl) m_tuple (by decide +kernel) (pa_cons (pe_ix (ixr_or (show IxR _ (rIxL K) from ix_list) (show IxR _ (rIxT K) from ix_tup)) (pv 6) pe_int (fun _ _ => rfl)) pa_nil)))) rfl)
      (pss_cons (ps_fld (pv 0) (Fw.pe_dcg (o0 := .dT []) (own := [("figure", 6)]) Fw.putT_ok (hu_of hr) (fun _ _ _ _ hb => dt_empty _ hb) (by rfl) sc.nd (pi_or (pi_list (pv 5)) (pi_tup (pv 5))) (blkOk_by (own := [("figure", 6)]) (N := ["self", "play", "size", "names", "lists", "figures", "figure"]) (sc := defScope sGI) (by decide +kernel)) (fun _ _ _ _ _ => (pg_name (i := 6) sc.nd rfl (.inl rfl))) (fun _ _ _ _ _ => pts_nil) (fun _ _ _ _ _ => (pe_tup (pa_cons (pe_ix (ixr_or (show IxR _ (rIxL K) from ix_list) (show IxR _ (rIxT K) from ix_tup)) (pv 6) pe_int (fun _ _ => rfl)) (pa_cons pe_int pa_nil)))) (fun _ _ _ _ _ => pe_bl)) rfl)
      (pss_cons (ps_fld (pv 0) (Fw.pe_dcg (o0 := .dT []) (own := [("figure", 6)]) Fw.putT_ok (hu_of hr) (fun _ _ _ _ hb => dt_empty _ hb) (by rfl) sc.nd (pi_or (pi_list (pv 5)) (pi_tup (pv 5))) (blkOk_by (own := [("figure", 6)]) (N := ["self", "play", "size", "names", "lists", "figures", "figure"]) (sc := defScope sGI) (by decide +kernel)) (fun _ _ _ _ _ => (pg_name (i := 6) sc.nd rfl (.inl rfl))) (fun _ _ _ _ _ => pts_nil) (fun _ _ _ _ _ => (pe_tup (pa_cons (pe_ix (ixr_or (show IxR _ (rIxL K) from ix_list) (show IxR _ (rIxT K) from ix_tup)) (pv 6) pe_int (fun _ _ => rfl)) (pa_cons pe_int pa_nil)))) (fun _ _ _ _ _ => (pe_make M_H G_H (hr.mono (by omega)) (by rfl) m_Holding b_H .nil pass0 (pa_cons (pe_ix (ixr_or (show IxR _ (rIxL K) from ix_list) (show IxR _ (rIxT K) from ix_tup)) (pv 6) pe_int (fun _ _ => rfl)) (pa_cons (pe_ix (ixr_or (show IxR _ (rIxL K) from ix_list) (show IxR _ (rIxT K) from ix_tup)) (pv 6) pe_int (fun _ _ => rfl)) pa_nil))))) rfl)
      (pss_one (Fw.ps_mputT (hu20 hr) (pe_fld (pv 0) rfl) pe_non (pe_make M_H G_H (hr.mono (by omega)) (by rfl) m_Holding b_H .nil pass0 (pa_cons (pv 3) (pa_cons (pv 4) pa_nil))) rfl)))))))), ?_⟩
  obtain ⟨a, ss, n, l, fa, fs, rfl, h1, h2, h3, h4, h5, h6⟩ := hx
  refine ⟨_, rfl, sq_or h1 rfl ⟨_, _, rfl, _, _, rfl, _, _, rfl, _, _, rfl, rfl, ?_⟩⟩
  refine ⟨_, rfl, sq_or h2 rfl ⟨_, _, rfl, _, rfl, p, C, dx, [], rfl, hp, c.cl, c.nW, by decide, _, _, rfl, _, rfl, p, C, dx, _, rfl, upd_same, c.cl, c.nH, (show 1 < 1000 by decide), rfl, ?_⟩⟩
  rw [show putF "high" (.int G.high) (putF "wide" (.int G.wide) []) = [(("wide" : Str), V.int G.wide), ("high", .int G.high)] from by kernel_rfl]
  have b2 : ButL [p] H (upd (upd H p (.ins C dx (putF "wide" (.int G.wide) []))) p (.ins C dx [(("wide" : Str), V.int G.wide), ("high", .int G.high)])) := fld_step (fld_step (fun _ _ _ e => e) (Same.refl H)) (Same.refl _)
  have p2 : (upd (upd H p (.ins C dx (putF "wide" (.int G.wide) []))) p (.ins C dx [(("wide" : Str), V.int G.wide), ("high", .int G.high)])) p = some (.ins C dx [(("wide" : Str), V.int G.wide), ("high", .int G.high)]) := upd_same
  generalize upd (upd H p (.ins C dx (putF "wide" (.int G.wide) []))) p (.ins C dx [(("wide" : Str), V.int G.wide), ("high", .int G.high)]) = H2 at *
  have k2 : KS K H H2 := KS.but hp b2
  have h5' := k2 _ _ h5
  have h6' := figs_ks h6 k2
  have l6 := paired_len h6
  refine sq_it rfl h5' fun J wk dF nF => lc_it wk (fun i HB => Same H2 HB ∧ HB dF = some (.lst ((G.figs.take i).map fun f => V.str f.nm))) ⟨same_upd nF, upd_same⟩ (fun i HB _ h => h.1) ?_ ?_
  · rintro i v _ HB hi ⟨sm, hD⟩ ⟨rfl, ex⟩
    obtain ⟨z, ez, b, sp, nn, ll, more, rfl, e1, e2, e3, e4⟩ := paired_at h6' ex
    refine ⟨rfl, ?_⟩
    unfold tYes
    refine iteT ⟨_, rfl, ix_or (e1.same sm) (atI_nat (j := 0) rfl) ⟨_, hD, ?_, Fd.Same.putN sm nF, ?_⟩⟩
    · rw [List.length_map, List.length_take]
      exact small1000 (by have := ok.ln; omega)
    · rw [upd_same, List.take_succ, ez, List.map_append]
      rfl
  rintro HB ⟨sm, hD⟩
  rw [List.take_of_length_le (by rw [l6]; exact Nat.le_refl _)] at hD
  have p2' := sm _ _ p2
  refine ⟨_, rfl, p, C, dx, _, rfl, p2', c.cl, c.nF, (show 2 < 1000 by decide), ?_⟩
  rw [show putF "figures" (.ref dF) [(("wide" : Str), V.int G.wide), ("high", .int G.high)] = [(("wide" : Str), V.int G.wide), ("high", .int G.high), ("figures", .ref dF)] from by kernel_rfl]
  have b3 : ButL [p] H (upd HB p (.ins C dx [(("wide" : Str), V.int G.wide), ("high", .int G.high), ("figures", .ref dF)])) := fld_step b2 sm
  have p3 : (upd HB p (.ins C dx [(("wide" : Str), V.int G.wide), ("high", .int G.high), ("figures", .ref dF)])) p = _ := upd_same
  have rF : rmL [p] (upd HB p (.ins C dx [(("wide" : Str), V.int G.wide), ("high", .int G.high), ("figures", .ref dF)])) dF = _ := rm_put p2' hD nofun
  generalize upd HB p (.ins C dx [(("wide" : Str), V.int G.wide), ("high", .int G.high), ("figures", .ref dF)]) = H3 at *
  clear sm hD p2' nF b2 p2 k2 h5' h6' wk J HB H2
  have k3 : KS K H H3 := KS.but hp b3
  have h5' := k3 _ _ h5
  have h6' := figs_ks h6 k3
  refine sq_it rfl h5' fun J wk dP nP => dcg_it (put := putT) wk (fun i HB => Same H3 HB ∧ ∃ ps, HB dP = some (.dT (dkT (G.figs.take i) (ps.map V.ref))) ∧ Paired (fun a (f : Fig) => SqT K HB a [.int f.x, .int f.y, .int f.w]) ps (G.figs.take i)) ⟨same_upd nP, [], upd_same, .nil⟩ (fun i HB _ h => h.1) ?_ ?_
  · rintro i v _ HB hi ⟨sm, ps, hD, pr⟩ ⟨rfl, ex⟩
    obtain ⟨z, ez, b, sp, nn, ll, more, rfl, e1, e2, e3, e4⟩ := paired_at h6' ex
    have lps := paired_len pr
    refine ⟨rfl, ?_⟩
    unfold tYes
    refine iteT ⟨_, rfl, ix_or (e1.same sm) (atI_nat (j := 0) rfl) ⟨by show 2 ≤ sizeLine; decide, fun t nt => ?_⟩⟩
    have st := same_upd (o := .tup [V.str z.nm, .int 0]) nt
    have ht := upd_same (H := HB) (a := t) (o := .tup [V.str z.nm, .int 0])
    generalize upd HB t (.tup [V.str z.nm, .int 0]) = HC at *
    refine ⟨_, rfl, ix_or (e1.same (sm.trans st)) (atI_nat (j := 1) rfl) ?_⟩
    unfold tNil
    refine tup_or (e2.same (sm.trans st)) fun l HE se _ hl => ?_
    have hDE := se _ _ (st _ _ hD)
    have pr' := L2.Paired.mapP pr fun a q e => seqT (st.trans se) e
    refine ⟨_, fgK z.nm, t, rfl, se _ _ ht, hDE, ?_, Fd.Same.putN ((sm.trans st).trans se) nP, ps ++ [l], ?_, ?_⟩
    · rw [dkT_len (by rw [List.length_map]; exact lps.symm), List.length_take]
      exact small1000 (by have := ok.ln; omega)
    · rw [upd_same, dkT_put ok.nd ez (by rw [List.length_map]; exact lps.symm), List.map_append]
      rfl
    · have keep : ∀ {a xs}, SqT K HE a xs → SqT K (upd HE dP (.dT (putK (dkT (G.figs.take i) (ps.map V.ref)) (fgK z.nm) (.ref l)))) a xs := fun {a xs} e => by
        rcases e with (e | ⟨o, e⟩) | e
        · exact .inl (.inl (by rw [upd_ne (ne_of e hDE nofun)]; exact e))
        · exact .inl (.inr ⟨o, by rw [upd_ne (ne_of e hDE nofun)]; exact e⟩)
        · exact .inr e
      rw [List.take_succ, ez]
      exact paired_snoc (L2.Paired.mapP pr' fun a q e => keep e) (keep hl)
  rintro HB ⟨sm, ps, hD, pr⟩
  rw [List.take_of_length_le (by rw [l6]; exact Nat.le_refl _)] at hD pr
  have p3' := sm _ _ p3
  refine ⟨_, rfl, p, C, dx, _, rfl, p3', c.cl, c.nP, (show 3 < 1000 by decide), ?_⟩
  rw [show putF "places" (.ref dP) [(("wide" : Str), V.int G.wide), ("high", .int G.high), ("figures", .ref dF)] = [(("wide" : Str), V.int G.wide), ("high", .int G.high), ("figures", .ref dF), ("places", .ref dP)] from by kernel_rfl]
  have b4 : ButL [p] H (upd HB p (.ins C dx [(("wide" : Str), V.int G.wide), ("high", .int G.high), ("figures", .ref dF), ("places", .ref dP)])) := fld_step b3 sm
  have r4 : Same (rmL [p] H3) (rmL [p] (upd HB p (.ins C dx [(("wide" : Str), V.int G.wide), ("high", .int G.high), ("figures", .ref dF), ("places", .ref dP)]))) := rmL_but (fld_step (fun _ _ _ e => e) sm)
  have p4 : (upd HB p (.ins C dx [(("wide" : Str), V.int G.wide), ("high", .int G.high), ("figures", .ref dF), ("places", .ref dP)])) p = _ := upd_same
  have rP : rmL [p] (upd HB p (.ins C dx [(("wide" : Str), V.int G.wide), ("high", .int G.high), ("figures", .ref dF), ("places", .ref dP)])) dP = _ := rm_put p3' hD nofun
  have rp : Paired (fun a (f : Fig) => SqT K (rmL [p] (upd HB p (.ins C dx [(("wide" : Str), V.int G.wide), ("high", .int G.high), ("figures", .ref dF), ("places", .ref dP)]))) a [.int f.x, .int f.y, .int f.w]) ps G.figs := L2.Paired.mapP pr fun a q e => rm_putT p3' e
  generalize upd HB p (.ins C dx [(("wide" : Str), V.int G.wide), ("high", .int G.high), ("figures", .ref dF), ("places", .ref dP)]) = H4 at *
  replace rF := r4 _ _ rF
  clear sm hD p3' nP b3 p3 k3 h5' h6' wk J HB r4 pr H3
  have k4 : KS K H H4 := KS.but hp b4
  have h5' := k4 _ _ h5
  have h6' := figs_ks h6 k4
  refine sq_it rfl h5' fun J wk dS nS => dcg_it (put := putT) wk (fun i HB => Same H4 HB ∧ HB dS = some (.dT (dkT (G.figs.take i) ((G.figs.take i).map fun _ => .bl true)))) ⟨same_upd nS, upd_same⟩ (fun i HB _ h => h.1) ?_ ?_
  · rintro i v _ HB hi ⟨sm, hD⟩ ⟨rfl, ex⟩
    obtain ⟨z, ez, b, sp, nn, ll, more, rfl, e1, e2, e3, e4⟩ := paired_at h6' ex
    refine ⟨rfl, ?_⟩
    unfold tYes
    refine iteT ⟨_, rfl, ix_or (e1.same sm) (atI_nat (j := 0) rfl) ⟨by show 2 ≤ sizeLine; decide, fun t nt => ?_⟩⟩
    have st := same_upd (o := .tup [V.str z.nm, .int 0]) nt
    have ht := upd_same (H := HB) (a := t) (o := .tup [V.str z.nm, .int 0])
    generalize upd HB t (.tup [V.str z.nm, .int 0]) = HC at *
    have hDE := st _ _ hD
    refine ⟨_, fgK z.nm, t, rfl, ht, hDE, ?_, Fd.Same.putN (sm.trans st) nS, ?_⟩
    · rw [dkT_len (by rw [List.length_map]), List.length_take]
      exact small1000 (by have := ok.ln; omega)
    · rw [upd_same, dkT_put ok.nd ez (by rw [List.length_map])]
      refine congrArg (fun l => some (HO.dT (dkT _ l))) ?_
      rw [List.take_succ, ez, List.map_append]
      rfl
  rintro HB ⟨sm, hD⟩
  rw [List.take_of_length_le (by rw [l6]; exact Nat.le_refl _)] at hD
  have p4' := sm _ _ p4
  refine ⟨_, rfl, p, C, dx, _, rfl, p4', c.cl, c.nS, (show 4 < 1000 by decide), ?_⟩
  rw [show putF "shown" (.ref dS) [(("wide" : Str), V.int G.wide), ("high", .int G.high), ("figures", .ref dF), ("places", .ref dP)] = [(("wide" : Str), V.int G.wide), ("high", .int G.high), ("figures", .ref dF), ("places", .ref dP), ("shown", .ref dS)] from by kernel_rfl]
  have b5 : ButL [p] H (upd HB p (.ins C dx [(("wide" : Str), V.int G.wide), ("high", .int G.high), ("figures", .ref dF), ("places", .ref dP), ("shown", .ref dS)])) := fld_step b4 sm
  have r5 : Same (rmL [p] H4) (rmL [p] (upd HB p (.ins C dx [(("wide" : Str), V.int G.wide), ("high", .int G.high), ("figures", .ref dF), ("places", .ref dP), ("shown", .ref dS)]))) := rmL_but (fld_step (fun _ _ _ e => e) sm)
  have p5 : (upd HB p (.ins C dx [(("wide" : Str), V.int G.wide), ("high", .int G.high), ("figures", .ref dF), ("places", .ref dP), ("shown", .ref dS)])) p = _ := upd_same
  have rS : rmL [p] (upd HB p (.ins C dx [(("wide" : Str), V.int G.wide), ("high", .int G.high), ("figures", .ref dF), ("places", .ref dP), ("shown", .ref dS)])) dS = _ := rm_put p4' hD nofun
  generalize upd HB p (.ins C dx [(("wide" : Str), V.int G.wide), ("high", .int G.high), ("figures", .ref dF), ("places", .ref dP), ("shown", .ref dS)]) = H5 at *
  replace rF := r5 _ _ rF
  replace rP := r5 _ _ rP
  replace rp := L2.Paired.mapP rp fun a q e => seqT r5 e
  clear sm hD p4' nS b4 p4 k4 h5' h6' wk J HB r5 H4
  have k5 : KS K H H5 := KS.but hp b5
  have h5' := k5 _ _ h5
  have h6' := figs_ks h6 k5
  refine sq_it rfl h5' fun J wk dH nH => dcg_it (put := putT) wk (fun i HB => Same H5 HB ∧ ∃ hs, HB dH = some (.dT (dkT (G.figs.take i) (hs.map V.ref))) ∧ Paired (fun a (f : Fig) => HoldAt CH HB a f.ns f.rs) hs (G.figs.take i)) ⟨same_upd nH, [], upd_same, .nil⟩ (fun i HB _ h => h.1) ?_ ?_
  · rintro i v _ HB hi ⟨sm, hs, hD, pr⟩ ⟨rfl, ex⟩
    obtain ⟨z, ez, b, sp, nn, ll, more, rfl, e1, e2, e3, e4⟩ := paired_at h6' ex
    have lps := paired_len pr
    refine ⟨rfl, ?_⟩
    unfold tYes
    refine iteT ⟨_, rfl, ix_or (e1.same sm) (atI_nat (j := 0) rfl) ⟨by show 2 ≤ sizeLine; decide, fun t nt => ?_⟩⟩
    have st := same_upd (o := .tup [V.str z.nm, .int 0]) nt
    have ht := upd_same (H := HB) (a := t) (o := .tup [V.str z.nm, .int 0])
    generalize upd HB t (.tup [V.str z.nm, .int 0]) = HC at *
    refine ⟨_, rfl, ix_or (e1.same (sm.trans st)) (atI_nat (j := 2) rfl) ⟨_, rfl, ix_or (e1.same (sm.trans st)) (atI_nat (j := 3) rfl) fun y dy ny ndy nyd => ?_⟩⟩
    have sn := (same_upd (o := .own y) ndy).trans (same_upd (H := upd HC dy (.own y)) (p := y) (o := .ins CH dy []) (by rw [upd_ne (Ne.symm nyd)]; exact ny))
    have yn := upd_same (H := upd HC dy (.own y)) (a := y) (o := .ins CH dy [])
    have hk := ok.fh z (List.mem_of_getElem? ez)
    have nyD : dH ≠ y := ne_of_none (st _ _ hD) ny
    generalize upd (upd HC dy (.own y)) y (.ins CH dy []) = HE at *
    refine ⟨y, dy, nn, ll, z.ns, z.rs, rfl, yn, e3.same ((sm.trans st).trans sn), e4.same ((sm.trans st).trans sn), hk.n1, hk.n2, hk.l1, hk.l2, hk.l3, fun HF bf hf => ⟨rfl, ?_⟩⟩
    have sf : Same HC HF := fun b' o e => bf b' o (fun c => (ne_of_none e ny) (List.mem_singleton.mp c)) (sn _ _ e)
    have hDE := sf _ _ (st _ _ hD)
    refine ⟨_, fgK z.nm, t, rfl, sf _ _ ht, hDE, ?_, Fd.Same.putN ((sm.trans st).trans sf) nH, hs ++ [y], ?_, ?_⟩
    · rw [dkT_len (by rw [List.length_map]; exact lps.symm), List.length_take]
      exact small1000 (by have := ok.ln; omega)
    · rw [upd_same, dkT_put ok.nd ez (by rw [List.length_map]; exact lps.symm), List.map_append]
      rfl
    · rw [List.take_succ, ez]
      exact paired_snoc (L2.Paired.mapP pr fun a q e => (e.same (st.trans sf)).off hDE (fun _ _ _ => nofun) (fun _ => nofun) (fun _ => nofun) fun b u n e => by rw [upd_ne n]; exact e) (hf.off hDE (fun _ _ _ => nofun) (fun _ => nofun) (fun _ => nofun) fun b u n e => by rw [upd_ne n]; exact e)
  rintro HB ⟨sm, hs, hD, pr⟩
  rw [List.take_of_length_le (by rw [l6]; exact Nat.le_refl _)] at hD pr
  have p5' := sm _ _ p5
  refine ⟨_, rfl, p, C, dx, _, rfl, p5', c.cl, c.nD, (show 5 < 1000 by decide), ?_⟩
  rw [show putF "held" (.ref dH) [(("wide" : Str), V.int G.wide), ("high", .int G.high), ("figures", .ref dF), ("places", .ref dP), ("shown", .ref dS)] = fldG G.wide G.high dF dP dS dH from by kernel_rfl]
  have nP : dP ≠ dH := ne_of_none (rmL_le _ _ rP) nH
  have nS : dS ≠ dH := ne_of_none (rmL_le _ _ rS) nH
  have b6 : ButL [p] H (upd HB p (.ins C dx (fldG G.wide G.high dF dP dS dH))) := fld_step b5 sm
  have r6 : Same (rmL [p] H5) (rmL [p] (upd HB p (.ins C dx (fldG G.wide G.high dF dP dS dH)))) := rmL_but (fld_step (fun _ _ _ e => e) sm)
  have p6 : (upd HB p (.ins C dx (fldG G.wide G.high dF dP dS dH))) p = _ := upd_same
  have rH : rmL [p] (upd HB p (.ins C dx (fldG G.wide G.high dF dP dS dH))) dH = _ := rm_put p5' hD nofun
  have rh : Paired (fun a (f : Fig) => HoldAt CH (rmL [p] (upd HB p (.ins C dx (fldG G.wide G.high dF dP dS dH)))) a f.ns f.rs) hs G.figs := L2.Paired.mapP pr fun a q e => rm_hold p5' e
  generalize upd HB p (.ins C dx (fldG G.wide G.high dF dP dS dH)) = H6 at *
  replace rF := rmL_le _ _ (r6 _ _ rF)
  replace rP := rmL_le _ _ (r6 _ _ rP)
  replace rS := rmL_le _ _ (r6 _ _ rS)
  replace rH := rmL_le _ _ rH
  replace rh := L2.Paired.mapP rh fun a q e => e.same rmL_le
  replace rp := L2.Paired.mapP rp fun a q e => seqT rmL_le (seqT r6 e)
  have fD : H dH = none := by
    cases e : H dH with
    | none => rfl
    | some u =>
      by_cases z : dH = p
      · rw [z, p5] at nH; cases nH
      · rw [b5 dH u (fun c => z (List.mem_singleton.mp c)) e] at nH; cases nH
  clear sm hD p5' nH b5 p5 k5 h5' h6' wk J HB r6 pr H5
  have k6 : KS K H H6 := KS.but hp b6
  refine ⟨_, rfl, _, rfl, fun y dy ny ndy nyd => ?_⟩
  have sn := (same_upd (o := .own y) ndy).trans (same_upd (H := upd H6 dy (.own y)) (p := y) (o := .ins CH dy []) (by rw [upd_ne (Ne.symm nyd)]; exact ny))
  have yn := upd_same (H := upd H6 dy (.own y)) (a := y) (o := .ins CH dy [])
  generalize upd (upd H6 dy (.own y)) y (.ins CH dy []) = HE at *
  refine ⟨y, dy, n, l, G.nm, G.rw, rfl, yn, (h3.ks k6).same sn, (h4.ks k6).same sn, ok.h.n1, ok.h.n2, ok.h.l1, ok.h.l2, ok.h.l3, fun HF bf hf => ⟨rfl, ?_⟩⟩
  have sf : Same H6 HF := fun b' o e => bf b' o (fun c => (ne_of_none e ny) (List.mem_singleton.mp c)) (sn _ _ e)
  have hDE := sf _ _ rH
  have lhs := paired_len rh
  refine ⟨_, rfl, p, C, dx, _, _, rfl, sf _ _ p6, c.cl, c.nD, fldG_d _ _ _ _ _ _, dH, _, rfl, rfl, hDE, ?_, fun o hm => ?_⟩
  · rw [dkT_len (by rw [List.length_map]; exact lhs.symm)]
    have := ok.ln
    omega
  have ne : ∀ {b u}, H6 b = some u → u ≠ .dT (dkT G.figs (hs.map V.ref)) → (upd HF dH o) b = some u := fun {b u} e n => by
    rw [upd_ne (ne_of (sf _ _ e) hDE n)]
    exact sf _ _ e
  have off : ∀ {a nm rw}, HoldAt CH HF a nm rw → HoldAt CH (upd HF dH o) a nm rw := fun h => h.off hDE (fun _ _ _ => nofun) (fun _ => nofun) (fun _ => nofun) fun b u n e => by rw [upd_ne n]; exact e
  refine q _ (fun b u nb hb => ?_) ⟨⟨dx, dF, dP, dS, dH, ps, hs, y, ne p6 nofun, ne rF nofun, ?_, L2.Paired.mapP rp fun a f e => ?_, ?_, hm, L2.Paired.mapP rh fun a f e => off (e.same sf), off hf⟩, ok⟩
  · rw [upd_ne (ne_of_none hb fD)]
    exact sf _ _ (b6 b u nb hb)
  · rw [upd_ne nP]
    exact sf _ _ rP
  · rcases e with (e | ⟨o, e⟩) | e
    · exact .inl (.inl (ne e nofun))
    · exact .inl (.inr ⟨o, ne e nofun⟩)
    · exact .inr e
  · rw [upd_ne nS]
    exact sf _ _ rS
end
end Fd

set_option Elab.async false
set_option linter.all false
set_option maxRecDepth 100000
set_option maxHeartbeats 1000000
namespace Fd
open PySem PySem.Spec PyProof.Rows L2 RZ Fw LamX
theorem hu70 {k : Nat} {A : Around} (r : Room k A) : A.units + 70 < cLine := by have := r.un; omega
abbrev sGO : Stmt := inC 37 6
/-- the table in which the lambda of ones stands -/
def TT (P0 : Addr) : List (Addr × Str) := [(P0, ("Ground.ones.<locals>.<lambda>" : Str))]
/-- what stands at l was not known, but for tables -/
def NewL (H : Hp) (l : Addr) : Prop := ∀ o, H l = some o → ∃ ps, o = .tbl ps
theorem NewL.of {H : Hp} {l : Addr} (h : H l = none) : NewL H l := fun o e => by rw [h] at e; cases e
theorem NewL.ne {H : Hp} {l a : Addr} {o : HO} (h : NewL H l) (e : H a = some o) (n : ∀ ps, o ≠ .tbl ps) : a ≠ l := fun z => by
  obtain ⟨ps, x⟩ := h o (by rw [← z]; exact e)
  exact n ps x
theorem newL_ext {H H' : Hp} {l : Addr} (s : ExtN H H') (h : H' l = none) : NewL H l := fun o e => by
  by_cases t : ∃ ps, o = .tbl ps
  · exact t
  · have := s l o e (fun ps z => t ⟨ps, z⟩)
    rw [h] at this
    cases this
/-- the figures' names with their places -/
def ixF (fs : List Fig) : Nms := fs.mapIdx fun i f => (f.nm, (i : Int))
theorem ixF_at {fs : List Fig} {i : Nat} {z : Fig} (e : fs[i]? = some z) : (ixF fs)[i]? = some (z.nm, (i : Int)) := by
  unfold ixF
  rw [List.getElem?_mapIdx, e]
  rfl
theorem ixF_len (fs : List Fig) : (ixF fs).length = fs.length := List.length_mapIdx
theorem ixF_nm (fs : List Fig) : (ixF fs).map (·.1) = fs.map Fig.nm := by
  refine List.ext_getElem? fun i => ?_
  unfold ixF
  rw [List.getElem?_map, List.getElem?_mapIdx, List.getElem?_map]
  cases fs[i]? <;> rfl
/-- the ones, to be sorted -/
def kiL : Int → List Addr → List Fig → List KI
  | r, a :: as, f :: fs => ⟨a, f.nm, 0, r⟩ :: kiL (r + 1) as fs
  | _, _, _ => []
theorem kiL_a : ∀ {as : List Addr} {fs : List Fig} {r : Int}, as.length = fs.length → (kiL r as fs).map (fun it => V.ref it.a) = as.map V.ref
  | [], [], _, _ => rfl
  | a :: as, f :: fs, r, h => by
    unfold kiL
    rw [List.map_cons, List.map_cons, kiL_a (Nat.succ.inj h)]
  | [], _ :: _, _, h => nomatch h
  | _ :: _, [], _, h => nomatch h
theorem kiL_len : ∀ {as : List Addr} {fs : List Fig} {r : Int}, (kiL r as fs).length ≤ fs.length
  | [], _, _ => Nat.zero_le _
  | a :: as, f :: fs, r => Nat.succ_le_succ kiL_len
  | _ :: _, [], _ => Nat.zero_le _
theorem kiL_in : ∀ {as : List Addr} {fs : List Fig} {r : Int} {it : KI}, it ∈ kiL r as fs → ∃ i f, as[i]? = some it.a ∧ fs[i]? = some f ∧ it.z = f.nm ∧ it.n = 0 ∧ it.r = r + (i : Nat)
  | a :: as, f :: fs, r, it, h => by
    rcases List.mem_cons.mp h with rfl | h
    · exact ⟨0, f, rfl, rfl, rfl, rfl, by show r = r + 0; omega⟩
    · obtain ⟨i, g, h1, h2, h3, h4, h5⟩ := kiL_in h
      exact ⟨i + 1, g, h1, h2, h3, h4, by rw [h5]; push_cast; omega⟩
  | [], _, _, _, h => nomatch h
  | _ :: _, [], _, _, h => nomatch h
theorem kiL_up : ∀ {as : List Addr} {fs : List Fig} {r : Int}, (kiL r as fs).Pairwise fun a b => a.r < b.r ∨ a.r = b.r ∧ a.n ≤ b.n
  | a :: as, f :: fs, r => by
    unfold kiL
    refine List.pairwise_cons.mpr ⟨fun it h => ?_, kiL_up⟩
    obtain ⟨i, g, _, _, _, _, h5⟩ := kiL_in h
    exact .inl (by show r < it.r; rw [h5]; omega)
  | [], _, _ => .nil
  | _ :: _, [], _ => .nil
theorem keys_fig {H : Hp} : ∀ {fs : List Fig} {vs : List V} {bs : List Addr}, fs.length = vs.length → IsKeys H (dkT fs vs) bs → Paired (fun b (f : Fig) => H b = some (.tup [.str f.nm, .int 0])) bs fs
  | [], [], _, _, h => by
    cases h
    exact .nil
  | f :: fs, v :: vs, _, hl, h => by
    cases h with | cons r t => exact .cons r (keys_fig (Nat.succ.inj hl) t)
  | [], _ :: _, _, h, _ => nomatch h
  | _ :: _, [], _, h, _ => nomatch h
section
variable {P : Program} {w : World} {K : PySem.W.Frag} {mg : Str → Option Value} {base : Heap} {f : Addr} {fd : FuncData} {C CH : Addr}
/-- a def's body, its code object's value known -/
theorem fun_okC {x qual : Str} {st : Stmt} {N ps : List Str} {k : Nat} {sp : Sp} (F : Fun K x qual st f fd) (S : FnScope N ps (defScope st)) (len : ∀ vs H Q E, sp vs H Q E → vs.length = ps.length)
    (go : ∀ (A : Around) (outer : List Env) (s : Shared) (H : Hp) (vs : List V) (Q : VK) (E : XK), Room k (A.deeper (envOfC qual (defScope st) s.heap.objs.size f fd.code)) → sp vs H Q E →
      ∃ t, PSs (cxOf CX0 P w K mg base N qual (defScope st) f fd.code A outer s H E).nox (defBody st) t ∧ t { nx := fun _ H' => Q .non H', rt := Q } (start N vs) H) : FnOk P w K mg base CX0 (k + 1) f fd ps sp := by
  obtain ⟨oc, od, kV, doc, pm, an, cdv, ct, osl, e, lk, hcd⟩ := F.ex
  subst e
  exact fn_of lk hcd S len fun A outer s H vs Q E hr h => match go A outer s H vs Q E hr h with
    | ⟨t, h1, h2⟩ => ⟨t, h1.nox, h2⟩
def spGO (w : World) (K : PySem.W.Frag) (C CH P0 : Addr) : Sp := fun vs H Q _ => ∃ (p : Addr) (G : Gnd), vs = [.ref p] ∧ GroundAt w K C CH H p G ∧ Tabs (TT P0) H ∧ ∀ l H' as, ExtN H H' → Tabs (TT P0) H' → NewL H l → H' l = some (.lst (as.map V.ref)) → Paired (fun a (f : Fig) => H' a = some (.tup [.str f.nm, .int 0])) as G.figs → Q (.ref l) H'
theorem scGO : FnScope ["self", "ranks", "rank", "figure"] ["self"] (defScope sGO) := ⟨rfl, rfl, rfl, by decide +kernel, rfl, by decide +kernel, by decide +kernel⟩
theorem ok_go {k : Nat} {c0 P0 : Addr} (F : Fun K "ones" "Ground.ones" sGO f fd) (c : GCls K C) (hc0 : fd.code = .ref c0) (TB : TabB base mg c0 P0) (m_enumerate : mg "enumerate" = none) (m_sorted : mg "sorted" = none) (m_list : mg "list" = none) : FnOk P w K mg base CX0 (k + 1) f fd ["self"] (spGO w K C CH P0) := by
  have sc := scGO
  refine fun_okC F sc (fun vs H Q E h => ?_) (fun A outer s H vs Q E hr h => ?_)
  · obtain ⟨p, G, rfl, _⟩ := h
    rfl
  obtain ⟨p, G, rfl, hp, hT, q⟩ := h
  have hcode : (cxOf CX0 P w K mg base ["self", "ranks", "rank", "figure"] "Ground.ones" (defScope sGO) f fd.code A outer s H E).nox.env.code = .ref c0 := hc0
  have mem_TT : (P0, (cxOf CX0 P w K mg base ["self", "ranks", "rank", "figure"] "Ground.ones" (defScope sGO) f fd.code A outer s H E).nox.env.qual ++ "<lambda>") ∈ TT P0 := by
    refine List.mem_singleton.mpr ?_
    kernel_rfl
  refine ⟨_, (pss_cons (ps_set (i := 1) sc.nd rfl (.inr rfl) (pe_dc (own := [("rank", 2), ("figure", 3)]) (g := gTup K 2 (gCons (gName 2) (gCons (gName 3) gNil))) (by rfl) sc.nd (pi_enum (by rfl) m_enumerate (pa_cons (pe_fld (pv 0) rfl) pa_nil)) (blkOk_by (own := [("rank", 2), ("figure", 3)]) (N := ["self", "ranks", "rank", "figure"]) (sc := defScope sGO) (by decide +kernel)) (fun _ _ _ _ _ => (pg_tup (by rfl) (pgs_cons (pg_name (i := 2) sc.nd rfl (.inl rfl)) (pgs_cons (pg_name (i := 3) sc.nd rfl (.inl rfl)) pgs_nil)))) (fun _ _ _ _ _ => pts_nil) (fun _ _ _ _ _ => (pv 3)) (fun _ _ _ _ _ => (pv 2))))
      (pss_one (ps_ret (Fw.pe_srtL (T := TT P0) (i := 1) (x := "one") (y := "ranks") (pa_cons (pe_callTy (call_list_dT (by rfl)) (by rfl) m_list (by decide +kernel) (pa_cons (pe_fld (pv 0) rfl) pa_nil)) pa_nil) (by rfl) m_sorted TB hcode mem_TT (fun p hp _ => (congrArg Prod.snd (List.mem_singleton.mp hp)).trans rfl) rfl (fun _ _ _ _ _ _ => rfl) rfl rfl rfl (by decide +kernel) rfl rfl (by decide +kernel) rfl rfl hr.depth (hu70 hr))))), ?_⟩
  obtain ⟨⟨dx, dF, dP, dS, dH, ps, hs, h0, h1, h2, h3, h4, h5, h6, h7, h8⟩, ok⟩ := hp
  have lps := paired_len h4
  refine ⟨_, rfl, p, C, dx, _, _, rfl, h1, c.cl, c.nF, fldG_f _ _ _ _ _ _, dF, _, rfl, SqL.of h2, fun D nD => dcg_it (put := putS) walk_enum (fun i HB => Same H HB ∧ HB D = some (.dK (nmK ((ixF G.figs).take i)))) ⟨same_upd nD, upd_same⟩ (fun i HB _ h => SqL.of (h.1 _ _ h2)) ?_ ?_⟩
  · rintro i v HB HC hi ⟨sm, hD⟩ ⟨T, x, z, rfl, nT, rfl, ex, ez⟩
    cases (Option.some.inj ex)
    dsimp only at ez
    rw [List.getElem?_map] at ez
    obtain ⟨g, eg, rfl⟩ := Option.map_eq_some_iff.mp ez
    have st := same_upd (o := .tup [V.int (i : Nat), .str g.nm]) nT
    have hT2 := upd_same (H := HB) (a := T) (o := .tup [V.int (i : Nat), .str g.nm])
    generalize upd HB T (.tup [V.int (i : Nat), .str g.nm]) = HC at *
    refine ⟨T, _, rfl, .inl (.inl hT2), rfl, _, _, rfl, _, _, rfl, rfl, rfl, ?_⟩
    unfold tYes
    refine iteT ⟨_, rfl, _, rfl, _, Sum.inr g.nm, rfl, st _ _ hD, ?_, Fd.Same.putN (sm.trans st) nD, ?_⟩
    · unfold nmK
      rw [List.length_map, List.length_take, ixF_len]
      exact small1000 (by have := ok.ln; omega)
    · rw [upd_same, putK_fresh, List.take_succ, ixF_at eg]
      · unfold nmK
        rw [List.map_append]
        rfl
      · exact nm_new (by rw [ixF_nm]; exact ok.nd) (ixF_at eg)
  rintro HB ⟨sm, hD⟩
  rw [List.take_of_length_le (by rw [ixF_len, List.length_map]; exact Nat.le_refl _)] at hD
  refine ⟨_, rfl, p, C, dx, _, _, rfl, sm _ _ h1, c.cl, c.nP, fldG_p _ _ _ _ _ _, dP, _, rfl, .inl (sm _ _ h3), fun l0 bs nl hb => ?_⟩
  have hb' := keys_fig (by rw [List.length_map]; exact lps.symm) hb
  have lb := paired_len hb'
  have s0 := same_upd (o := .lst (bs.map V.ref)) nl
  have e0 := upd_same (H := HB) (a := l0) (o := .lst (bs.map V.ref))
  generalize upd HB l0 (.lst (bs.map V.ref)) = HC at *
  refine ⟨l0, D, kiL 0 bs G.figs, _, rfl, by rw [kiL_a lb]; exact SqL.of e0, Nat.le_trans kiL_len (by have := ok.ln; omega), rfl, s0 _ _ hD, fun it hit => ?_, (hT.ext sm).ext s0, fun H2 l ex T2 nl2 => ?_⟩
  · obtain ⟨i, g, ea, eg, ez, en, er⟩ := kiL_in hit
    obtain ⟨g', eg', hg⟩ := paired_at hb' ea
    rw [eg] at eg'
    cases eg'
    refine ⟨.inl (.inl (s0 _ _ (by rw [hg, ez, en]))), ?_⟩
    rw [ez, er]
    have := val_map (g := V.int) (l := ixF G.figs) (by rw [ixF_nm]; exact ok.nd) (ixF_at eg)
    rw [show (0 : Int) + ((i : Nat) : Int) = (i : Int) from by omega]
    exact this
  · rw [ki_sorted kiL_up, kiL_a lb]
    have ex0 : ExtN H H2 := ((ExtN.of sm).trans (ExtN.of s0)).trans ex
    have su := same_upd (o := .lst (bs.map V.ref)) nl2
    refine q l _ bs (ex0.trans (ExtN.of su)) (T2.ext su) (newL_ext ex0 nl2) upd_same (L2.Paired.mapP hb' fun a g e => ?_)
    exact su _ _ (ex _ _ (s0 _ _ e) nofun)
end
end Fd

set_option Elab.async false
set_option linter.all false
set_option maxRecDepth 100000
set_option maxHeartbeats 1000000
namespace Fd
open PySem PySem.Spec PyProof.Rows L2 RZ Fw LamX
/-! ### a Ground as it stands behind deeds: ones with numbers, shown or not -/
structure One where
  f : Fig
  no : Int
  sh : Bool
def One.key (o : One) : List L2.Key := [.inr o.f.nm, .inl o.no]
structure Gs where
  wide : Int
  high : Int
  nm : Nms
  rw : Rws
  ord : List Str
  ones : List One
structure Gs.Ok (G : Gs) : Prop where
  h : Hok G.nm G.rw
  fh : ∀ o ∈ G.ones, Hok o.f.ns o.f.rs
  nd : (G.ones.map One.key).Nodup
  st : ∀ o ∈ G.ones, Asc 8 o.f.nm
  ln : G.ones.length ≤ 100
  on : G.ord.Nodup
  ol : G.ord.length ≤ 100
  os : ∀ z ∈ G.ord, Asc 8 z
theorem key_inj {a b : One} (h : a.key = b.key) : a.f.nm = b.f.nm ∧ a.no = b.no := by
  injection h with h1 h2
  injection h2 with h2 _
  exact ⟨Sum.inr.inj h1, Sum.inl.inj h2⟩
def dkO (os : List One) (vs : List V) : List (List L2.Key × V) := (os.zip vs).map fun q => (q.1.key, q.2)
theorem dkO_len {os : List One} {vs : List V} (h : os.length = vs.length) : (dkO os vs).length = os.length := by
  unfold dkO
  rw [List.length_map, List.length_zip, h, Nat.min_self]
theorem dkO_snoc {os : List One} {vs : List V} {z : One} {v : V} (h : os.length = vs.length) : dkO (os ++ [z]) (vs ++ [v]) = dkO os vs ++ [(z.key, v)] := by
  unfold dkO
  rw [List.zip_append h, List.map_append]
  rfl
theorem dkO_at {os : List One} {vs : List V} {i : Nat} {z : One} {v : V} (e1 : os[i]? = some z) (e2 : vs[i]? = some v) : (dkO os vs)[i]? = some (z.key, v) := by
  unfold dkO
  have q : (os.zip vs)[i]? = some (z, v) := by rw [List.getElem?_zip_eq_some]; exact ⟨e1, e2⟩
  rw [List.getElem?_map, q]
  rfl
theorem dkO_in {os : List One} {vs : List V} {i : Nat} {q : List L2.Key × V} (e : (dkO os vs)[i]? = some q) : ∃ z v, os[i]? = some z ∧ vs[i]? = some v ∧ q = (z.key, v) := by
  unfold dkO at e
  rw [List.getElem?_map] at e
  obtain ⟨p, ep, h⟩ := Option.map_eq_some_iff.mp e
  rw [List.getElem?_zip_eq_some] at ep
  exact ⟨p.1, p.2, ep.1, ep.2, h.symm⟩
theorem dkO_keys {os : List One} {vs : List V} (h : os.length = vs.length) : (dkO os vs).map (·.1) = os.map One.key := by
  unfold dkO
  rw [List.map_map]
  have : (os.zip vs).map (Prod.fst) = os := List.map_fst_zip (Nat.le_of_eq h)
  conv => rhs; rw [← this, List.map_map]
  rfl
theorem dkO_nd {os : List One} {vs : List V} (h : os.length = vs.length) (nd : (os.map One.key).Nodup) : ((dkO os vs).map (·.1)).Nodup := by
  rw [dkO_keys h]
  exact nd
def shO (G : Gs) : List V := G.ones.map fun o => .bl o.sh
/-- the entries of held: None stands where it was put -/
def heldAll (n : Nat) (os : List One) (hs : List Addr) (h0 : Addr) : List (MKey × V) := ((dkO (os.take n) ((hs.take n).map V.ref)).map fun p => (some p.1, p.2)) ++ (none, .ref h0) :: ((dkO (os.drop n) ((hs.drop n).map V.ref)).map fun p => (some p.1, p.2))
structure GsAt (w : World) (K : PySem.W.Frag) (C CH : Addr) (H : Hp) (g : Addr) (G : Gs) : Prop where
  ob : ∃ dx dF dP dS dH ps hs h0 n, H g = some (.ins C dx (fldG G.wide G.high dF dP dS dH)) ∧ H dF = some (.lst (G.ord.map V.str)) ∧ H dP = some (.dT (dkO G.ones (ps.map V.ref))) ∧ Paired (fun a (o : One) => SqT K H a [.int o.f.x, .int o.f.y, .int o.f.w]) ps G.ones ∧
    H dS = some (.dT (dkO G.ones (shO G))) ∧ MixD w H dH (heldAll n G.ones hs h0) ∧ Paired (fun a (o : One) => HoldAt CH H a o.f.ns o.f.rs) hs G.ones ∧ HoldAt CH H h0 G.nm G.rw ∧ dP ≠ dS ∧ n ≤ G.ones.length
  ok : G.Ok
theorem GsAt.ext {w : World} {K : PySem.W.Frag} {C CH : Addr} {H H' : Hp} {g : Addr} {G : Gs} (h : GsAt w K C CH H g G) (s : ExtN H H') : GsAt w K C CH H' g G := by
  obtain ⟨⟨dx, dF, dP, dS, dH, ps, hs, h0, n, h1, h2, h3, h4, h5, h6, h7, h8, h9⟩, ok⟩ := h
  have hx : ∀ {a nm rw}, HoldAt CH H a nm rw → HoldAt CH H' a nm rw := fun h => by
    obtain ⟨⟨dx, dn, dr, rs, h1, h2, h3, h4⟩, a1, a2, a3, a4, a5⟩ := h
    exact ⟨⟨dx, dn, dr, rs, s _ _ h1 nofun, s _ _ h2 nofun, s _ _ h3 nofun, L2.Paired.mapP h4 fun a q e => s _ _ e nofun⟩, a1, a2, a3, a4, a5⟩
  refine ⟨⟨dx, dF, dP, dS, dH, ps, hs, h0, n, s _ _ h1 nofun, s _ _ h2 nofun, s _ _ h3 nofun, L2.Paired.mapP h4 fun a q e => sqT_extN e s, s _ _ h5 nofun, ?_, L2.Paired.mapP h7 fun a q e => hx e, hx h8, h9⟩, ok⟩
  exact h6.same (fun o e => by
    obtain ⟨xs, e', _⟩ := h6
    rw [e'] at e
    cases e
    exact s _ _ e' fun ps => by unfold MixO; nofun) fun b xs e => s _ _ e nofun
theorem GsAt.same {w : World} {K : PySem.W.Frag} {C CH : Addr} {H H' : Hp} {g : Addr} {G : Gs} (h : GsAt w K C CH H g G) (s : Same H H') : GsAt w K C CH H' g G := h.ext (ExtN.of s)
theorem GsAt.get {w : World} {K : PySem.W.Frag} {C CH : Addr} {H : Hp} {p : Addr} {G : Gs} (h : GsAt w K C CH H p G) : ∃ dx a b c d, H p = some (.ins C dx (fldG G.wide G.high a b c d)) := by
  obtain ⟨⟨dx, dF, dP, dS, dH, ps, hs, h0, n, h1, _⟩, _⟩ := h
  exact ⟨dx, dF, dP, dS, dH, h1⟩
theorem HoldAt.get {C : Addr} {H : Hp} {p : Addr} {nm : Nms} {rw : Rws} (h : HoldAt C H p nm rw) : ∃ dx a b, H p = some (.ins C dx (fldH a b)) := by
  obtain ⟨⟨dx, dn, dr, rs, h1, _⟩, _⟩ := h
  exact ⟨dx, dn, dr, h1⟩
/-- a ground that has just been made -/
def gs0 (G : Gnd) : Gs := ⟨G.wide, G.high, G.nm, G.rw, G.figs.map Fig.nm, G.figs.map fun f => ⟨f, 0, true⟩⟩
theorem dkO_0 {vs : List V} : ∀ {fs : List Fig}, dkO (fs.map fun f => (⟨f, 0, true⟩ : One)) vs = dkT fs vs := fun {fs} => by
  unfold dkO dkT
  rw [List.zip_map_left, List.map_map]
  rfl
theorem paired_mapR {α β γ : Type} {F : α → β → Prop} {g : γ → β} : ∀ {l : List α} {m : List γ}, Paired (fun a c => F a (g c)) l m → Paired F l (m.map g)
  | _, _, .nil => .nil
  | _, _, .cons r t => .cons r (paired_mapR t)
theorem GsAt.of {w : World} {K : PySem.W.Frag} {C CH : Addr} {H : Hp} {p : Addr} {G : Gnd} (h : GroundAt w K C CH H p G) (ne : G.figs ≠ []) : GsAt w K C CH H p (gs0 G) := by
  obtain ⟨⟨dx, dF, dP, dS, dH, ps, hs, h0, h1, h2, h3, h4, h5, h6, h7, h8⟩, ok⟩ := h
  have l4 := paired_len h4
  have l7 := paired_len h7
  refine ⟨⟨dx, dF, dP, dS, dH, ps, hs, h0, G.figs.length, h1, ?_, ?_, paired_mapR h4, ?_, ?_, paired_mapR h7, h8, ?_, ?_⟩, ?_⟩
  · rw [h2]
    unfold gs0
    rw [List.map_map]
    rfl
  · show H dP = some (.dT (dkO (G.figs.map _) _))
    rw [dkO_0]
    exact h3
  · show H dS = some (.dT (dkO (G.figs.map _) ((G.figs.map _).map _)))
    rw [dkO_0, List.map_map]
    exact h5
  · have : heldAll G.figs.length (gs0 G).ones hs h0 = heldK G hs h0 := by
      unfold heldAll heldK gs0
      dsimp only
      rw [List.take_of_length_le (by rw [List.length_map]; exact Nat.le_refl _), List.take_of_length_le (by rw [l7]; exact Nat.le_refl _), dkO_0, List.drop_of_length_le (by rw [List.length_map]; exact Nat.le_refl _)]
      rfl
    rw [this]
    exact h6
  · rintro rfl
    rw [h3] at h5
    have e := HO.dT.inj (Option.some.inj h5)
    cases hf : G.figs with
    | nil => exact ne hf
    | cons f fs =>
      rw [hf] at e l4
      cases ps with
      | nil => cases l4
      | cons a ps =>
        unfold dkT at e
        rw [List.map_cons, List.map_cons, List.zip_cons_cons, List.zip_cons_cons, List.map_cons, List.map_cons] at e
        injection e with e _
        injection e with _ e
        cases e
  · show G.figs.length ≤ (G.figs.map _).length
    rw [List.length_map]
    exact Nat.le_refl _
  · refine ⟨ok.h, fun o ho => ?_, ?_, fun o ho => ?_, ?_, ok.nd, ?_, fun z hz => ?_⟩
    · obtain ⟨f, hf, rfl⟩ := List.mem_map.mp ho
      exact ok.fh f hf
    · show ((G.figs.map _).map One.key).Nodup
      rw [List.map_map]
      have := nodup_fgK ok.nd
      rw [List.map_map] at this
      exact this
    · obtain ⟨f, hf, rfl⟩ := List.mem_map.mp ho
      exact ok.st f hf
    · show (G.figs.map _).length ≤ 100
      rw [List.length_map]
      exact ok.ln
    · show (G.figs.map _).length ≤ 100
      rw [List.length_map]
      exact ok.ln
    · obtain ⟨f, hf, rfl⟩ := List.mem_map.mp hz
      exact ok.st f hf
/-- b is a one: a tuple, or a list -/
def OneV (K : PySem.W.Frag) (H : Hp) (b : Addr) (o : One) : Prop := H b = some (.tup [.str o.f.nm, .int o.no]) ∨ SqL K H b [.str o.f.nm, .int o.no]
theorem OneV.ext {K : PySem.W.Frag} {H H' : Hp} {b : Addr} {o : One} (h : OneV K H b o) (s : ExtN H H') : OneV K H' b o := h.imp (fun e => s _ _ e nofun) fun e => sqL_extN e s
theorem OneV.same {K : PySem.W.Frag} {H H' : Hp} {b : Addr} {o : One} (h : OneV K H b o) (s : Same H H') : OneV K H' b o := h.ext (ExtN.of s)
theorem OneV.sq {K : PySem.W.Frag} {H : Hp} {b : Addr} {o : One} (h : OneV K H b o) : Sq K H b [.str o.f.nm, .int o.no] := h.elim (fun e => .inr (.inl (.inl e))) .inl
/-- tuple(..) of it -/
theorem key_or {K : PySem.W.Frag} {H : Hp} {b : Addr} {o : One} {Q : VK} (h : OneV K H b o) (q : ∀ l H', Same H H' → (∀ b, H' b = none → H b = none) → H' l = some (.tup [.str o.f.nm, .int o.no]) → Q (.ref l) H') : rTupO K [.ref b] H Q := by
  refine ⟨b, [.str o.f.nm, .int o.no], rfl, ?_⟩
  rcases h with h | h
  · exact .inr ⟨.inl (.inl h), q b H (Same.refl _) (fun _ e => e) h⟩
  · refine .inl ⟨h, fun l nl => q l _ (same_upd nl) (fun b e => ?_) upd_same⟩
    by_cases z : b = l
    · rw [z, upd_same] at e; cases e
    · rw [upd_ne z] at e; exact e
theorem paired_idx {α β : Type} {F : α → β → Prop} : ∀ {l : List α} {m : List β} {i : Nat} {y : β}, Paired F l m → m[i]? = some y → ∃ x, l[i]? = some x ∧ F x y
  | _, _, i, y, .nil, h => by simp at h
  | _, _, 0, y, .cons r t, h => by cases (Option.some.inj h); exact ⟨_, rfl, r⟩
  | _, _, i + 1, y, .cons r t, h => paired_idx (i := i) t h
theorem held_in {n : Nat} {os : List One} {hs : List Addr} {h0 : Addr} {i : Nat} {o : One} {a : Addr} (e1 : os[i]? = some o) (e2 : hs[i]? = some a) : (some o.key, V.ref a) ∈ heldAll n os hs h0 := by
  unfold heldAll
  by_cases h : i < n
  · refine List.mem_append.mpr (.inl (List.mem_map.mpr ⟨(o.key, .ref a), List.mem_of_getElem? (dkO_at (i := i) (by rw [List.getElem?_take, if_pos h]; exact e1) (by rw [List.getElem?_map, List.getElem?_take, if_pos h, e2]; rfl)), rfl⟩))
  · refine List.mem_append.mpr (.inr (List.mem_cons_of_mem _ (List.mem_map.mpr ⟨(o.key, .ref a), List.mem_of_getElem? (dkO_at (i := i - n) (by rw [List.getElem?_drop, Nat.add_sub_cancel' (Nat.le_of_not_lt h)]; exact e1) (by rw [List.getElem?_map, List.getElem?_drop, Nat.add_sub_cancel' (Nat.le_of_not_lt h), e2]; rfl)), rfl⟩)))
theorem held_none {n : Nat} {os : List One} {hs : List Addr} {h0 : Addr} : ((none : MKey), V.ref h0) ∈ heldAll n os hs h0 := List.mem_append.mpr (.inr (List.mem_cons_self ..))
/-- x is None or a one; what is held under it -/
def OwnS (K : PySem.W.Frag) (G : Gs) (H : Hp) (x : V) (nm : Nms) (rw : Rws) : Prop := (x = .non ∧ nm = G.nm ∧ rw = G.rw) ∨ ∃ (b : Addr) (o : One), x = .ref b ∧ OneV K H b o ∧ o ∈ G.ones ∧ nm = o.f.ns ∧ rw = o.f.rs
theorem retT_same {K : PySem.W.Frag} {H H' : Hp} {d : PyData} {Q : VK} (s : Same H H') (q : RetT K H d Q) : RetT K H' d Q := fun v H2 as s2 t fr => q v H2 as (s.trans s2) t fun b hb => same_free s (fr b hb)
abbrev sGS : Stmt := inC 37 7
abbrev sGB : Stmt := inC 37 11
abbrev sGN : Stmt := inC 37 9
abbrev sGR : Stmt := inC 37 10
section
variable {P : Program} {w : World} {K : PySem.W.Frag} {mg : Str → Option Value} {base : Heap} {f : Addr} {fd : FuncData} {C CH : Addr}
def spGS (w : World) (K : PySem.W.Frag) (C CH : Addr) : Sp := fun vs H Q _ => ∃ (p b : Addr) (G : Gs) (o : One), vs = [.ref p, .ref b] ∧ GsAt w K C CH H p G ∧ OneV K H b o ∧ o ∈ G.ones ∧ ∀ a H', Same H H' → SqT K H' a [.int o.f.x, .int o.f.y, .int o.f.w] → Q (.ref a) H'
theorem scGS : FnScope ["self", "one"] ["self", "one"] (defScope sGS) := ⟨rfl, rfl, rfl, by decide +kernel, rfl, by decide +kernel, by decide +kernel⟩
theorem ok_gs {k : Nat} (F : Fun K "spot" "Ground.spot" sGS f fd) (c : GCls K C) (m_tuple : mg "tuple" = none) : FnOk P w K mg base CX0 (k + 1) f fd ["self", "one"] (spGS w K C CH) := by
  have sc := scGS
  refine F.ok sc (fun vs H Q E h => ?_) (fun cdv A outer s H vs Q E hr h => ?_)
  · obtain ⟨p, b, G, g, rfl, _⟩ := h
    rfl
  obtain ⟨p, b, G, g, rfl, hp, hb, hg, q⟩ := h
  refine ⟨_, (pss_one (ps_ret (pe_dget (hu_of hr) (pe_fld (pv 0) rfl) (pe_callTy (show CallR _ (.type "tuple") (rTupO K) from call_tuple_of) (by rfl) m_tuple (by decide +kernel) (pa_cons (pv 1) pa_nil)) (fun _ _ => rfl)))), ?_⟩
  obtain ⟨⟨dx, dF, dP, dS, dH, ps, hs, h0, n, h1, h2, h3, h4, h5, h6, h7, h8, h9, hn⟩, ok⟩ := hp
  obtain ⟨i, ei⟩ := List.mem_iff_getElem?.mp hg
  obtain ⟨a, ea, ha⟩ := paired_idx h4 ei
  have lps : G.ones.length = (ps.map V.ref).length := by rw [List.length_map]; exact (paired_len h4).symm
  refine ⟨_, rfl, p, C, dx, _, _, rfl, h1, c.cl, c.nP, fldG_p _ _ _ _ _ _, _, rfl, ?_⟩
  unfold tNil
  exact key_or hb fun l H' s _ hl => ⟨dP, .ref a, rfl, .inr ⟨_, g.key, l, .inl (s _ _ h3), rfl, hl, (val_at (dkO_nd lps ok.nd) (dkO_at ei (by rw [List.getElem?_map, ea]; rfl))).symm⟩, q a H' s (seqT s ha)⟩
def spGB (w : World) (K : PySem.W.Frag) (C CH : Addr) : Sp := fun vs H Q _ => ∃ (p : Addr) (x : V) (G : Gs) (nm : Nms) (rw : Rws), vs = [.ref p, x] ∧ GsAt w K C CH H p G ∧ OwnS K G H x nm rw ∧ ∀ a H', Same H H' → HoldAt CH H' a nm rw → Q (.ref a) H'
theorem scGB : FnScope ["self", "one"] ["self", "one"] (defScope sGB) := ⟨rfl, rfl, rfl, by decide +kernel, rfl, by decide +kernel, by decide +kernel⟩
theorem ok_gb {k : Nat} (F : Fun K "held_by" "Ground.held_by" sGB f fd) (c : GCls K C) (m_tuple : mg "tuple" = none) : FnOk P w K mg base CX0 (k + 1) f fd ["self", "one"] (spGB w K C CH) := by
  have sc := scGB
  refine F.ok sc (fun vs H Q E h => ?_) (fun cdv A outer s H vs Q E hr h => ?_)
  · obtain ⟨p, x, G, nm, rw, rfl, _⟩ := h
    rfl
  obtain ⟨p, x, G, nm, rw, rfl, hp, ho, q⟩ := h
  refine ⟨_, (pss_one (ps_ret (Fw.pe_mget (hu20 hr) (pe_fld (pv 0) rfl) (pe_ifExp (pt_cmpR op_isN (pv 1) pe_non (nomark _)) pe_non (pe_callTy (show CallR _ (.type "tuple") (rTupO K) from call_tuple_of) (by rfl) m_tuple (by decide +kernel) (pa_cons (pv 1) pa_nil))) (fun _ _ => rfl)))), ?_⟩
  obtain ⟨⟨dx, dF, dP, dS, dH, ps, hs, h0, n, h1, h2, h3, h4, h5, h6, h7, h8, h9, hn⟩, ok⟩ := hp
  refine ⟨_, rfl, p, C, dx, _, _, rfl, h1, c.cl, c.nD, fldG_d _ _ _ _ _ _, ?_⟩
  rcases ho with ⟨rfl, rfl, rfl⟩ | ⟨b, g, rfl, hb, hg, rfl, rfl⟩
  · refine ⟨_, rfl, rfl, _, rfl, ?_⟩
    dsimp only
    rw [if_pos (decide_eq_true rfl)]
    exact ⟨dH, _, none, .ref h0, rfl, h6, .inl ⟨rfl, rfl⟩, held_none, q h0 H (Same.refl _) h8⟩
  · obtain ⟨i, ei⟩ := List.mem_iff_getElem?.mp hg
    obtain ⟨a, ea, ha⟩ := paired_idx h7 ei
    refine ⟨_, rfl, rfl, _, rfl, ?_⟩
    dsimp only
    rw [if_neg (by rw [decide_eq_false (fun e => nomatch e)]; exact Bool.false_ne_true)]
    refine ⟨_, rfl, ?_⟩
    unfold tNil
    refine key_or hb fun l H' s _ hl => ⟨dH, _, some g.key, .ref a, rfl, h6.same (fun o e => s _ _ e) (fun b xs e => s _ _ e), .inr ⟨g.key, l, rfl, rfl, hl⟩, held_in ei ea, q a H' s (ha.same s)⟩
def spGN (w : World) (K : PySem.W.Frag) (C CH : Addr) : Sp := fun vs H Q _ => ∃ (p : Addr) (x : V) (G : Gs) (nm : Nms) (rw : Rws), vs = [.ref p, x] ∧ GsAt w K C CH H p G ∧ OwnS K G H x nm rw ∧ RetT K H (nmD nm) Q
def spGR (w : World) (K : PySem.W.Frag) (C CH : Addr) : Sp := fun vs H Q _ => ∃ (p : Addr) (x : V) (G : Gs) (nm : Nms) (rw : Rws), vs = [.ref p, x] ∧ GsAt w K C CH H p G ∧ OwnS K G H x nm rw ∧ RetT K H (rwD rw) Q
theorem scGN : FnScope ["self", "one"] ["self", "one"] (defScope sGN) := ⟨rfl, rfl, rfl, by decide +kernel, rfl, by decide +kernel, by decide +kernel⟩
theorem ok_gn {k kH : Nat} {fB fN : Addr} {fdB fdN : FuncData} {psB psN : List Str} (F : Fun K "names" "Ground.names" sGN f fd) (c_G : Cls K C) (c_H : Cls K CH) (M_held_by : Meth K C "held_by" fB) (G_held_by : FnOk P w K mg base CX0 kH fB fdB psB (spGB w K C CH)) (b_held_by : Binds K fdB psB [])
    (M_name_pairs : Meth K CH "name_pairs" fN) (G_name_pairs : FnOk P w K mg base CX0 kH fN fdN psN (spHN K CH)) (b_name_pairs : Binds K fdN psN []) (hk : kH ≤ k) : FnOk P w K mg base CX0 (k + 1) f fd ["self", "one"] (spGN w K C CH) := by
  have sc := scGN
  refine F.ok sc (fun vs H Q E h => ?_) (fun cdv A outer s H vs Q E hr h => ?_)
  · obtain ⟨p, x, G, nm, rw, rfl, _⟩ := h
    rfl
  obtain ⟨p, x, G, nm, rw, rfl, hp, ho, q⟩ := h
  have d_held_by : Vals [] [] := .nil
  have d_name_pairs : Vals [] [] := .nil
  refine ⟨_, (pss_one (ps_ret (pe_meth0 (pe_meth (pv 0) c_G M_held_by G_held_by (hr.mono (by omega)) b_held_by d_held_by pass0 (pa_cons (pv 1) pa_nil)) c_H M_name_pairs G_name_pairs (hr.mono (by omega)) b_name_pairs d_name_pairs pass0))), ?_⟩
  obtain ⟨dx, a, b, c, d, e⟩ := hp.get
  refine ⟨_, rfl, p, dx, _, rfl, e, by kernel_rfl, ?_⟩
  refine ⟨_, rfl, p, x, G, nm, rw, rfl, hp, ho, fun a H' s ha => ?_⟩
  obtain ⟨dh, d1, d2, eh⟩ := ha.get
  exact ⟨a, dh, _, rfl, eh, by kernel_rfl, a, nm, rw, rfl, ha, retT_same s q⟩
theorem scGR : FnScope ["self", "one"] ["self", "one"] (defScope sGR) := ⟨rfl, rfl, rfl, by decide +kernel, rfl, by decide +kernel, by decide +kernel⟩
theorem ok_gr {k kH : Nat} {fB fN : Addr} {fdB fdN : FuncData} {psB psN : List Str} (F : Fun K "lists" "Ground.lists" sGR f fd) (c_G : Cls K C) (c_H : Cls K CH) (M_held_by : Meth K C "held_by" fB) (G_held_by : FnOk P w K mg base CX0 kH fB fdB psB (spGB w K C CH)) (b_held_by : Binds K fdB psB [])
    (M_list_pairs : Meth K CH "list_pairs" fN) (G_list_pairs : FnOk P w K mg base CX0 kH fN fdN psN (spHL K CH)) (b_list_pairs : Binds K fdN psN []) (hk : kH ≤ k) : FnOk P w K mg base CX0 (k + 1) f fd ["self", "one"] (spGR w K C CH) := by
  have sc := scGR
  refine F.ok sc (fun vs H Q E h => ?_) (fun cdv A outer s H vs Q E hr h => ?_)
  · obtain ⟨p, x, G, nm, rw, rfl, _⟩ := h
    rfl
  obtain ⟨p, x, G, nm, rw, rfl, hp, ho, q⟩ := h
  have d_held_by : Vals [] [] := .nil
  have d_list_pairs : Vals [] [] := .nil
  refine ⟨_, (pss_one (ps_ret (pe_meth0 (pe_meth (pv 0) c_G M_held_by G_held_by (hr.mono (by omega)) b_held_by d_held_by pass0 (pa_cons (pv 1) pa_nil)) c_H M_list_pairs G_list_pairs (hr.mono (by omega)) b_list_pairs d_list_pairs pass0))), ?_⟩
  obtain ⟨dx, a, b, c, d, e⟩ := hp.get
  refine ⟨_, rfl, p, dx, _, rfl, e, by kernel_rfl, ?_⟩
  refine ⟨_, rfl, p, x, G, nm, rw, rfl, hp, ho, fun a H' s ha => ?_⟩
  obtain ⟨dh, d1, d2, eh⟩ := ha.get
  exact ⟨a, dh, _, rfl, eh, by kernel_rfl, a, nm, rw, rfl, ha, retT_same s q⟩
end
end Fd

set_option Elab.async false
set_option linter.all false
set_option maxRecDepth 100000
set_option maxHeartbeats 1000000
namespace Fd
open PySem PySem.Spec PyProof.Rows L2 RZ Fw LamX
abbrev sGM : Stmt := inC 37 12
def oneP (o : One) : PyData := .tuple [.str o.f.nm, .int o.no]
def OneT (H : Hp) (a : Addr) (o : One) : Prop := H a = some (.tup [.str o.f.nm, .int o.no])
/-- another one that is shown -/
def othB (o x : One) : Bool := decide (x.key ≠ o.key) && x.sh
def atB (o x : One) : Bool := decide (x.f.x = o.f.x) && decide (x.f.y = o.f.y)
/-- who is met -/
def metO (G : Gs) (o : One) : List Str := if o.sh then G.ord.filter fun z => decide (z ∈ ((G.ones.filter (othB o)).filter (atB o)).map fun x => x.f.nm) else []
def metP (G : Gs) (o : One) : PyData := .list ((metO G o).map .str)
theorem eqv_one (a b : One) : PyData.eqv (oneP a) (oneP b) = decide (a.key = b.key) := by
  have h : ∀ i j : Int, (i == j) = decide (i = j) := fun i j => by
    by_cases e : i = j
    · rw [e]; simp
    · rw [decide_eq_false e]; exact beq_eq_false_iff_ne.mpr e
  have g : ∀ i j : Str, (i == j) = decide (i = j) := fun i j => by
    by_cases e : i = j
    · rw [e]; simp
    · rw [decide_eq_false e]; exact beq_eq_false_iff_ne.mpr e
  unfold oneP
  simp only [PyData.eqv, PyData.eqvAll, Bool.and_true, h, g]
  by_cases h1 : a.f.nm = b.f.nm
  · by_cases h2 : a.no = b.no
    · rw [decide_eq_true h1, decide_eq_true h2, decide_eq_true (by unfold One.key; rw [h1, h2])]
      rfl
    · rw [decide_eq_false h2, decide_eq_false (fun c => h2 (key_inj c).2), Bool.and_false]
  · rw [decide_eq_false h1, decide_eq_false (fun c => h1 (key_inj c).1), Bool.false_and]
theorem asc_ok {n : Nat} {z : Str} (h : Asc n z) : PyData.strOk z = true := by
  unfold PyData.strOk
  rw [← Array.all_toList, List.all_eq_true]
  intro c hc
  exact decide_eq_true (Nat.lt_trans (h.lt c hc) (by decide))
theorem shaped_one {n : Nat} {o : One} (h : Asc n o.f.nm) : SeqAt.shaped (oneP o) = true := by
  unfold SeqAt.shaped
  rw [show (oneP o).canLay0 = (PyData.strOk o.f.nm && (true && true)) from rfl, asc_ok h]
  rfl
theorem shaped_xy (a b : Int) : SeqAt.shaped (.tuple [.int a, .int b]) = true := by
  unfold SeqAt.shaped
  rfl
theorem eqv_xy (a b c d : Int) : PyData.eqv (.tuple [.int a, .int b]) (.tuple [.int c, .int d]) = (decide (a = c) && decide (b = d)) := by
  have h : ∀ i j : Int, (i == j) = decide (i = j) := fun i j => by
    by_cases e : i = j
    · rw [e]; simp
    · rw [decide_eq_false e]; exact beq_eq_false_iff_ne.mpr e
  simp only [PyData.eqv, PyData.eqvAll, Bool.and_true, h]
/-- t[:2] of a spot -/
theorem sl_two {K : PySem.W.Frag} {H : Hp} {a : Addr} {x y z : Int} {Q : VK} (h : SqT K H a [.int x, .int y, .int z]) (q : ∀ l, H l = none → Q (.ref l) (upd H l (.tup [.int x, .int y]))) : rSlA K (.ref a) none (some 2) H Q := by
  refine ⟨a, _, rfl, h, fun e => ?_, fun _ l nl => ?_⟩
  · exact absurd e.2 (by show ¬ HT.sIx 3 3 (some ((2 : Nat) : Int)) = 3; rw [HT.sIx_nat]; decide)
  · have := q l nl
    rwa [show cutV [V.int x, .int y, .int z] none (some 2) = [.int x, .int y] from cut_to [.int x, .int y, .int z] 2]
theorem inV_str {z : Str} : ∀ {l : List Str}, inV (.str z) (l.map V.str) = decide (z ∈ l)
  | [] => rfl
  | y :: l => by
    have ih := inV_str (z := z) (l := l)
    unfold inV at ih ⊢
    rw [List.map_cons, List.any_cons, ih]
    by_cases h : y = z
    · subst h
      rw [decide_eq_true (List.mem_cons_self ..), show eqV (.str y) (.str y) = true from by simp [eqV]]
      rfl
    · rw [show eqV (.str y) (.str z) = false from by simp [eqV, h], Bool.false_or]
      by_cases g : z ∈ l
      · rw [decide_eq_true g, decide_eq_true (List.mem_cons_of_mem _ g)]
      · rw [decide_eq_false g, decide_eq_false (fun c => (List.mem_cons.mp c).elim (fun e => h e.symm) g)]
theorem len_tf {α : Type} (l : List α) (q : α → Bool) (i : Nat) : ((l.take i).filter q).length ≤ l.length := by
  refine Nat.le_trans (List.length_filter_le ..) ?_
  rw [List.length_take]
  exact Nat.min_le_right ..
theorem len_ftf {α : Type} (l : List α) (p q : α → Bool) (i : Nat) : (((l.filter p).take i).filter q).length ≤ l.length := Nat.le_trans (len_tf ..) (List.length_filter_le ..)
theorem ifFF {p q : Prop} (h : q) : if false = true then p else q := by
  rw [if_neg Bool.false_ne_true]
  exact h
section
variable {P : Program} {w : World} {K : PySem.W.Frag} {mg : Str → Option Value} {base : Heap} {f : Addr} {fd : FuncData} {C CH : Addr}
def spGM (w : World) (K : PySem.W.Frag) (C CH : Addr) : Sp := fun vs H Q _ => ∃ (p b : Addr) (G : Gs) (g : One), vs = [.ref p, .ref b] ∧ GsAt w K C CH H p G ∧ OneV K H b g ∧ g ∈ G.ones ∧ RetT K H (metP G g) Q
theorem scGM : FnScope ["self", "one", "here", "others", "met", "other", "figure"] ["self", "one"] (defScope sGM) := ⟨rfl, rfl, rfl, by decide +kernel, rfl, by decide +kernel, by decide +kernel⟩
theorem ok_gm {k : Nat} (F : Fun K "met" "Ground.met" sGM f fd) (c : GCls K C) (m_tuple : mg "tuple" = none) : FnOk P w K mg base CX0 (k + 1) f fd ["self", "one"] (spGM w K C CH) := by
  have sc := scGM
  refine F.ok sc (fun vs H Q E h => ?_) (fun cdv A outer s H vs Q E hr h => ?_)
  · obtain ⟨p, b, G, g, rfl, _⟩ := h
    rfl
  obtain ⟨p, b, G, g, rfl, hp, hb, hg, q⟩ := h
  refine ⟨_, (pss_cons (ps_set (i := 2) sc.nd rfl (.inr rfl) (pe_callTy (show CallR _ (.type "tuple") (rTupO K) from call_tuple_of) (by rfl) m_tuple (by decide +kernel) (pa_cons (pv 1) pa_nil)))
      (pss_cons (ps_if (pt_not (pt_val (pe_dget (hu_of hr) (pe_fld (pv 0) rfl) (pv 2) (fun _ _ => rfl)))) (pss_one (ps_ret (pe_lst pa_nil))) pss_nil)
      (pss_cons (ps_lock (ps_setLc (i := 3) (own := [("other", 5)]) (by rfl) sc.nd rfl rfl (sw_true rfl rfl rfl (by decide +kernel)) (pi_keys (pe_fld (pv 0) rfl)) (blkOk_by (own := [("other", 5)]) (N := ["self", "one", "here", "others", "met", "other", "figure"]) (sc := defScope sGM) (by decide +kernel)) (fun _ _ _ _ _ => (pg_name (i := 5) sc.nd rfl (.inl rfl))) (fun _ _ _ _ _ => (pts_one (PW.pt (pw_and (pt_cmpR (show OpR _ (compareOp .NotEq) (rNeD K) from op_neD hr.units) (pv 5) (pv 2) (nomark _)) (pw_and1 (pt_val (pe_dget (hu_of hr) (show PE _ _ (tFld K (tVar 0) "shown") from pe_fld (pv 0) rfl) (pv 5) (fun _ _ => rfl)))))))) (fun _ _ _ _ _ => (pv 5))))
      (pss_cons (ps_set (i := 4) sc.nd rfl (.inr rfl) (pe_lc (own := [("other", 5)]) (by rfl) sc.nd  (pi_list (pv 3)) (blkOk_by (own := [("other", 5)]) (N := ["self", "one", "here", "others", "met", "other", "figure"]) (sc := defScope sGM) (by decide +kernel)) (fun _ _ _ _ _ => (pg_name (i := 5) sc.nd rfl (.inl rfl))) (fun _ _ _ _ _ => (pts_one (pt_cmpR (show OpR _ (compareOp .Eq) (rEqD K) from op_eqD hr.units) (pe_slice (show SlR _ (rSlA K) from sl_tupA) (pe_dget (hu_of hr) (show PE _ _ (tFld K (tVar 0) "places") from pe_fld (pv 0) rfl) (pv 5) (fun _ _ => rfl)) po_none (po_some pe_int)) (pe_slice (show SlR _ (rSlA K) from sl_tupA) (pe_dget (hu_of hr) (show PE _ _ (tFld K (tVar 0) "places") from pe_fld (pv 0) rfl) (pv 2) (fun _ _ => rfl)) po_none (po_some pe_int)) (nomark _)))) (fun _ _ _ _ _ => (pe_ix (show IxR _ (rIxT K) from ix_tup) (pv 5) pe_int (fun _ _ => rfl)))))
      (pss_one (ps_ret (pe_lc (own := [("figure", 6)]) (by rfl) sc.nd  (pi_list (pe_fld (pv 0) rfl)) (blkOk_by (own := [("figure", 6)]) (N := ["self", "one", "here", "others", "met", "other", "figure"]) (sc := defScope sGM) (by decide +kernel)) (fun _ _ _ _ _ => (pg_name (i := 6) sc.nd rfl (.inl rfl))) (fun _ _ _ _ _ => (pts_one (pt_cmpR (show OpR _ (compareOp .In) (rIn K false) from op_in_seq) (pv 6) (pv 4) (by rfl)))) (fun _ _ _ _ _ => (pv 6))))))))), ?_⟩
  refine ⟨_, rfl, ?_⟩
  unfold tNil
  refine key_or hb fun b H s0 _ hb => ?_
  replace q := retT_same s0 q
  replace hp := hp.same s0
  clear s0
  obtain ⟨⟨dx, dF, dP, dS, dH, ps, hs, h0, n0, h1, h2, h3, h4, h5, h6, h7, h8, nPS, hn0⟩, ok⟩ := hp
  obtain ⟨i, ei⟩ := List.mem_iff_getElem?.mp hg
  have vS : ∀ {j : Nat} {f' : One}, G.ones[j]? = some f' → valV (dkO G.ones (shO G)) f'.key = some (.bl f'.sh) := fun {j f'} e => val_at (dkO_nd (by unfold shO; rw [List.length_map]) ok.nd) (dkO_at e (by unfold shO; rw [List.getElem?_map, e]; rfl))
  have lps : G.ones.length = (ps.map V.ref).length := by rw [List.length_map]; exact (paired_len h4).symm
  have vP : ∀ {j : Nat} {f' : One}, G.ones[j]? = some f' → ∃ a, SqT K H a [.int f'.f.x, .int f'.f.y, .int f'.f.w] ∧ valV (dkO G.ones (ps.map V.ref)) f'.key = some (.ref a) := fun {j f'} e => by
    obtain ⟨a, ea, ha⟩ := paired_idx h4 e
    exact ⟨a, ha, val_at (dkO_nd lps ok.nd) (dkO_at e (by rw [List.getElem?_map, ea]; rfl))⟩
  refine ⟨_, rfl, p, C, dx, _, _, rfl, h1, c.cl, c.nS, fldG_s _ _ _ _ _ _, _, rfl, dS, .bl g.sh, rfl, .inr ⟨_, g.key, b, .inl h5, rfl, hb, (vS ei).symm⟩, ?_⟩
  refine ⟨g.sh, rfl, ?_⟩
  dsimp only
  by_cases hsh : g.sh = true
  case neg =>
    rw [if_pos (by simpa using hsh)]
    have e0 : metO G g = [] := by unfold metO; rw [if_neg hsh]
    refine ⟨by show 0 ≤ sizeLine; decide, fun l nl => q _ _ [l] (same_upd nl) ?_ fun b' hb' => ?_⟩
    · unfold metP
      rw [e0]
      exact .lst upd_same .nil (fun z => by cases z)
    · rw [List.mem_singleton.mp hb']
      exact nl
  rw [if_neg (by simp [hsh])]
  refine ⟨dP, _, h3, trivial, fun od => ?_⟩
  have un : ∀ {HB}, Same (upd H dP (.frz od (.dT (dkO G.ones (ps.map V.ref))))) HB → Same H (upd HB dP (.dT (dkO G.ones (ps.map V.ref)))) := fun s => same_unlock h3 s
  have keep : ∀ {b' o}, H b' = some o → o ≠ .dT (dkO G.ones (ps.map V.ref)) → (upd H dP (.frz od (.dT (dkO G.ones (ps.map V.ref))))) b' = some o := fun {b' o} e n => by rw [upd_ne (ne_of e h3 n)]; exact e
  have h1' := keep h1 nofun
  have hb' := keep hb nofun
  have nDS : dS ≠ dP := Ne.symm nPS
  have h5' : (upd H dP (.frz od (.dT (dkO G.ones (ps.map V.ref))))) dS = some (.dT (dkO G.ones (shO G))) := by rw [upd_ne nDS]; exact h5
  have h3' : (upd H dP (.frz od (.dT (dkO G.ones (ps.map V.ref))))) dP = some (.frz od (.dT (dkO G.ones (ps.map V.ref)))) := upd_same
  have fr : ∀ b', (upd H dP (.frz od (.dT (dkO G.ones (ps.map V.ref))))) b' = none → H b' = none := fun b' e => by
    by_cases z : b' = dP
    · rw [z, upd_same] at e; cases e
    · rw [upd_ne z] at e; exact e
  have lk := dkO_len lps
  generalize upd H dP (.frz od (.dT (dkO G.ones (ps.map V.ref)))) = H0 at *
  refine ⟨_, rfl, p, C, dx, _, _, rfl, h1', c.cl, c.nP, fldG_p _ _ _ _ _ _, dP, od, rfl, .inr ⟨_, h3', fun D nD => lc_it walk_keysT (fun i HB => Same H0 HB ∧ ∃ as, HB D = some (.lst (as.map V.ref)) ∧ Paired (OneT HB) as ((G.ones.take i).filter (othB g))) ⟨same_upd nD, [], upd_same, .nil⟩ (fun _ _ _ h => h.1 _ _ h3') ?_ ?_⟩⟩
  · rintro j x _ HB hj ⟨sm, as, hD, pr⟩ ⟨rfl, kk, v, qa, ek, rfl, eq⟩
    obtain ⟨z, v', ez, ev, e⟩ := dkO_in ek
    cases e
    have las : as.length ≤ G.ones.length := by
      rw [paired_len pr]
      exact Nat.le_trans (List.length_filter_le ..) (by rw [List.length_take]; omega)
    have e1 : Dp K HB (.ref qa) (oneP z) := .tup (.inl (.inl eq)) (.cons (.str _) (.cons (.int _) .nil))
    have e2 : Dp K HB (.ref b) (oneP g) := .tup (.inl (.inl (sm _ _ hb'))) (.cons (.str _) (.cons (.int _) .nil))
    refine ⟨rfl, _, rfl, _, rfl, _, _, e1, e2, shaped_one (ok.st z (List.mem_of_getElem? ez)), shaped_one (ok.st g hg), _, rfl, ?_⟩
    rw [eqv_one]
    by_cases hn : z.key = g.key
    · rw [decide_eq_true hn]
      refine ifFF (ifFF ?_)
      refine ⟨sm, as, hD, ?_⟩
      rw [List.take_succ, ez, List.filter_append]
      have e0 : othB g z = false := by unfold othB; rw [decide_eq_false (fun c => c hn), Bool.false_and]
      simp only [Option.toList, List.filter_cons, e0, Bool.false_eq_true, if_false, List.filter_nil, List.append_nil]
      exact pr
    · rw [decide_eq_false hn]
      refine iteT ?_
      refine ⟨_, rfl, p, C, dx, _, _, rfl, sm _ _ h1', c.cl, c.nS, fldG_s _ _ _ _ _ _, _, rfl, dS, .bl z.sh, rfl, .inr ⟨_, z.key, qa, .inl (sm _ _ h5'), rfl, eq, (vS ez).symm⟩, z.sh, rfl, ?_⟩
      have e0 : othB g z = z.sh := by unfold othB; rw [decide_eq_true hn, Bool.true_and]
      have keep : ∀ {b' xs}, HB b' = some (.tup xs) → (upd HB D (.lst (as.map V.ref ++ [.ref qa]))) b' = some (.tup xs) := fun {b' xs} e => by rw [upd_ne (ne_of e hD nofun)]; exact e
      by_cases hz : z.sh = true
      · rw [hz] at e0 ⊢
        refine iteT ?_
        refine ⟨_, rfl, _, hD, by rw [List.length_map]; exact small1000 (by have := ok.ln; omega), Fd.Same.putN sm nD, as ++ [qa], ?_, ?_⟩
        · rw [upd_same, List.map_append]
          rfl
        · rw [List.take_succ, ez, List.filter_append]
          simp only [Option.toList, List.filter_cons, e0, if_true, List.filter_nil]
          exact paired_snoc (L2.Paired.mapP pr fun a f e => keep e) (keep eq)
      · rw [Bool.not_eq_true] at hz
        rw [hz] at e0 ⊢
        refine ifFF ⟨sm, as, hD, ?_⟩
        rw [List.take_succ, ez, List.filter_append]
        simp only [Option.toList, List.filter_cons, e0, Bool.false_eq_true, if_false, List.filter_nil, List.append_nil]
        exact pr
  rintro HB ⟨sm, as, hD, pr⟩
  rw [lk, List.take_length] at pr
  have hd := sm _ _ h3'
  refine ⟨hd, ?_⟩
  have sH := un sm
  have fD := fr D nD
  have hD1 : (upd HB dP (.dT (dkO G.ones (ps.map V.ref)))) D = some (.lst (as.map V.ref)) := by rw [upd_ne (ne_of hD hd nofun)]; exact hD
  have pr1 : Paired (OneT (upd HB dP (.dT (dkO G.ones (ps.map V.ref))))) as _ := L2.Paired.mapP pr fun a f e => by
    show upd HB dP _ a = _
    rw [upd_ne (ne_of e hd nofun)]
    exact e
  generalize upd HB dP (.dT (dkO G.ones (ps.map V.ref))) = H1 at *
  clear sm hD pr hd un keep nD h1' hb' h5' h3' fr
  have l1 := paired_len pr1
  refine ⟨_, rfl, D, rfl, ⟨_, SqL.of hD1⟩, fun D2 nD2 => lc_it walk_list (fun i HB => Same H1 HB ∧ HB D2 = some (.lst ((((G.ones.filter (othB g)).take i).filter (atB g)).map fun x => V.str x.f.nm))) ⟨same_upd nD2, upd_same⟩ (fun _ _ _ h => SqL.of (h.1 _ _ hD1)) ?_ ?_⟩
  · rintro j x _ HB hj ⟨sm, hD2⟩ ⟨rfl, ex⟩
    rw [List.getElem?_map] at ex
    obtain ⟨a, ea, rfl⟩ := Option.map_eq_some_iff.mp ex
    obtain ⟨z, ez, hz⟩ := paired_at pr1 ea
    have hz1 : HB a = some (.tup [.str z.f.nm, .int z.no]) := sm _ _ hz
    obtain ⟨jz, ejz⟩ := List.mem_iff_getElem?.mp (List.mem_filter.mp (List.mem_of_getElem? ez)).1
    obtain ⟨az, haz, vaz⟩ := vP ejz
    obtain ⟨ag, hag, vag⟩ := vP ei
    have sHB := sH.trans sm
    refine ⟨rfl, _, rfl, p, C, dx, _, _, rfl, sHB _ _ h1, c.cl, c.nP, fldG_p _ _ _ _ _ _, _, rfl, dP, .ref az, rfl, .inr ⟨_, z.key, a, .inl (sHB _ _ h3), rfl, hz1, vaz.symm⟩, _, rfl, sl_two (seqT sHB haz) fun t1 n1 => ?_⟩
    have s1 := same_upd (o := .tup [.int z.f.x, .int z.f.y]) n1
    have t1' := upd_same (H := HB) (a := t1) (o := .tup [.int z.f.x, .int z.f.y])
    generalize upd HB t1 (.tup [.int z.f.x, .int z.f.y]) = HC at *
    have sHC := sHB.trans s1
    refine ⟨_, rfl, p, C, dx, _, _, rfl, sHC _ _ h1, c.cl, c.nP, fldG_p _ _ _ _ _ _, _, rfl, dP, .ref ag, rfl, .inr ⟨_, g.key, b, .inl (sHC _ _ h3), rfl, sHC _ _ hb, vag.symm⟩, _, rfl, sl_two (seqT sHC hag) fun t2 n2 => ?_⟩
    have s2 := same_upd (o := .tup [.int g.f.x, .int g.f.y]) n2
    have t2' := upd_same (H := HC) (a := t2) (o := .tup [.int g.f.x, .int g.f.y])
    replace t1' := s2 _ _ t1'
    generalize upd HC t2 (.tup [.int g.f.x, .int g.f.y]) = HE at *
    have sE := (sm.trans s1).trans s2
    have hDE := s2 _ _ (s1 _ _ hD2)
    refine ⟨_, _, .tup (.inl (.inl t1')) (.cons (.int _) (.cons (.int _) .nil)), .tup (.inl (.inl t2')) (.cons (.int _) (.cons (.int _) .nil)), shaped_xy _ _, shaped_xy _ _, _, rfl, ?_⟩
    rw [eqv_xy]
    have ea0 : (decide (z.f.x = g.f.x) && decide (z.f.y = g.f.y)) = atB g z := rfl
    rw [ea0]
    by_cases hn : atB g z = true
    · rw [hn]
      refine iteT ⟨_, rfl, a, _, _, _, rfl, rfl, .inl (.inl (sE _ _ hz)), atI_nat (j := 0) rfl, _, hDE, ?_, Fd.Same.putN sE nD2, ?_⟩
      · rw [List.length_map]
        exact small1000 (Nat.le_trans (Nat.le_trans (len_ftf ..) ok.ln) (show 100 ≤ 1000 by decide))
      · rw [upd_same, List.take_succ, ez, List.filter_append, List.map_append]
        simp only [Option.toList, List.filter_cons, hn, if_true, List.filter_nil, List.map_cons, List.map_nil]
    · rw [Bool.not_eq_true] at hn
      rw [hn]
      refine ifFF ⟨sE, ?_⟩
      rw [hDE, List.take_succ, ez, List.filter_append]
      simp only [Option.toList, List.filter_cons, hn, Bool.false_eq_true, if_false, List.filter_nil, List.append_nil]
  rintro HB ⟨sm, hD2⟩
  rw [List.length_map, l1, List.take_length] at hD2
  have sHB := sH.trans sm
  have f2 : H D2 = none := by
    cases e : H D2 with
    | none => rfl
    | some o => rw [sH _ _ e] at nD2; cases nD2
  clear pr1 hD1 nD2 sm sH
  have hin : ∀ z : Str, inV (V.str z) ((((G.ones.filter (othB g)).filter (atB g))).map fun x => V.str x.f.nm) = decide (z ∈ ((G.ones.filter (othB g)).filter (atB g)).map fun x => x.f.nm) := fun z => by
    rw [← inV_str, List.map_map]
    rfl
  refine ⟨_, rfl, p, C, dx, _, _, rfl, sHB _ _ h1, c.cl, c.nF, fldG_f _ _ _ _ _ _, dF, rfl, ⟨_, SqL.of (sHB _ _ h2)⟩, fun D3 nD3 => lc_it walk_list (fun i HE => Same HB HE ∧ HE D3 = some (.lst (((G.ord.take i).filter fun z => decide (z ∈ ((G.ones.filter (othB g)).filter (atB g)).map fun x => x.f.nm)).map V.str))) ⟨same_upd nD3, upd_same⟩ (fun _ _ _ h => SqL.of (h.1 _ _ (sHB _ _ h2))) ?_ ?_⟩
  · rintro j x _ HE hj ⟨sm, hD3⟩ ⟨rfl, ex⟩
    rw [List.getElem?_map] at ex
    obtain ⟨z, ez, rfl⟩ := Option.map_eq_some_iff.mp ex
    refine ⟨rfl, _, rfl, _, rfl, D2, _, rfl, .inl (SqL.of (sm _ _ hD2)), rfl, ?_, _, rfl, ?_⟩
    · rw [List.all_eq_true]
      intro x hx
      obtain ⟨y, _, rfl⟩ := List.mem_map.mp hx
      rfl
    rw [if_neg Bool.false_ne_true, hin]
    cases hc : decide (z ∈ ((G.ones.filter (othB g)).filter (atB g)).map fun x => x.f.nm) with
    | true =>
      refine iteT ⟨_, rfl, _, hD3, ?_, Fd.Same.putN sm nD3, ?_⟩
      · rw [List.length_map]
        exact small1000 (Nat.le_trans (Nat.le_trans (len_tf ..) ok.ol) (show 100 ≤ 1000 by decide))
      · rw [upd_same, List.take_succ, ez, List.filter_append, List.map_append]
        simp only [Option.toList, List.filter_cons, hc, if_true, List.filter_nil, List.map_cons, List.map_nil]
    | false =>
      refine ifFF ⟨sm, ?_⟩
      rw [hD3, List.take_succ, ez, List.filter_append]
      simp only [Option.toList, List.filter_cons, hc, Bool.false_eq_true, if_false, List.filter_nil, List.append_nil]
  rintro HE ⟨sm, hD3⟩
  rw [List.length_map, List.take_length] at hD3
  have e3 : HE D3 = some (.lst ((metO G g).map V.str)) := by
    rw [hD3]
    unfold metO
    rw [if_pos hsh]
  refine q _ HE [D3] (sHB.trans sm) (.lst e3 (trA_strs _) (fun z => by cases z)) fun b' hb' => ?_
  rw [List.mem_singleton.mp hb']
  cases e : H D3 with
  | none => rfl
  | some o => rw [sHB _ _ e] at nD3; cases nD3
end
end Fd

set_option Elab.async false
set_option linter.all false
set_option maxRecDepth 100000
set_option maxHeartbeats 1000000
namespace Fd
open PySem PySem.Spec PyProof.Rows L2 RZ Fw LamX
abbrev sGE : Stmt := inC 37 13
def eyesD (G : Gs) (g : One) (pm : Nms) : PyData := .tuple [nmD (pm ++ (g.f.ns ++ G.nm)), rwD (g.f.rs ++ G.rw), .tuple [.int g.f.x, .int g.f.y, .int g.f.w, .int g.no], metP G g]
theorem le_line {n : Nat} (h : n ≤ 1000) : n ≤ sizeLine := Nat.le_trans h (by decide)
theorem ok_of {w : World} {K : PySem.W.Frag} {C CH : Addr} {H : Hp} {g : Addr} {G : Gs} (h : GsAt w K C CH H g G) : G.Ok := h.ok
theorem tr_cat {K : PySem.W.Frag} {H2 H3 : Hp} {v1 v2 : V} {ds1 ds2 : List PyData} {bs1 bs2 : List Addr} (t1 : Tr K H2 v1 (.list ds1) bs1) (t2 : Tr K H3 v2 (.list ds2) bs2) (s : Same H2 H3) (fr : ∀ b ∈ bs2, H2 b = none) :
    ∃ l1 l2 xs1 xs2 cs, v1 = .ref l1 ∧ v2 = .ref l2 ∧ H3 l1 = some (.lst xs1) ∧ H3 l2 = some (.lst xs2) ∧ TrA K H3 (xs1 ++ xs2) (ds1 ++ ds2) cs ∧ (∀ b ∈ cs, b ∈ bs1 ∨ b ∈ bs2) ∧ xs1.length = ds1.length ∧ xs2.length = ds2.length := by
  have i1 := tr_in _ _ _ t1
  cases t1 with
  | lst a1 a2 a3 =>
    cases t2 with
    | lst b1 b2 b3 =>
      refine ⟨_, _, _, _, _, rfl, rfl, s _ _ a1, b1, trA_app b2 (trA_kp _ _ _ (Kp.same s) a2) (fun b hb z => ?_), fun b hb => ?_, dpAll_len (trA_dp _ _ _ a2), dpAll_len (trA_dp _ _ _ b2)⟩
      · obtain ⟨u, hu⟩ := i1 b (List.mem_cons_of_mem _ hb)
        rw [fr b (List.mem_cons_of_mem _ z)] at hu
        cases hu
      · exact (List.mem_append.mp hb).imp (List.mem_cons_of_mem _) (List.mem_cons_of_mem _)
theorem kp_upd {H : Hp} {D : Addr} {xs v : List V} {as : List Addr} (h : H D = some (.lst xs)) (n : D ∉ as) : Kp as H (upd H D (.lst v)) := ⟨fun b o e c => by rw [upd_ne (fun z => n (by rw [← z]; exact c))]; exact e, fun b o e => by rw [upd_ne (ne_of e h nofun)]; exact e, fun b o xs e => by rw [upd_ne (ne_of e h nofun)]; exact e⟩
section
variable {P : Program} {w : World} {K : PySem.W.Frag} {mg : Str → Option Value} {base : Heap} {f : Addr} {fd : FuncData} {C CH : Addr}
/-- a method of the class that takes its values by place -/
def MthG (P : Program) (w : World) (K : PySem.W.Frag) (mg : Str → Option Value) (base : Heap) (C : Addr) (k : Nat) (x : Str) (ps : List Str) (sp : Sp) : Prop :=
  ∃ f fd, Meth K C x f ∧ FnOk P w K mg base CX0 k f fd ps sp ∧ Binds K fd ps []
/-- one with a last value that may be told by its name z, else it is u -/
def MthK (P : Program) (w : World) (K : PySem.W.Frag) (mg : Str → Option Value) (base : Heap) (C : Addr) (k n : Nat) (x z : Str) (u : V) (ps : List Str) (sp : Sp) : Prop :=
  ∃ f fd ds, Meth K C x f ∧ FnOk P w K mg base CX0 k f fd ps sp ∧ Binds K fd ps ds ∧ Vals [u] ds ∧ KBn K fd ps n [z] (· ++ ·) (· ++ ·)
def spGE (w : World) (K : PySem.W.Frag) (C CH : Addr) : Sp := fun vs H Q _ => ∃ (p b : Addr) (x : V) (G : Gs) (g : One) (pm : Nms), vs = [.ref p, .ref b, x] ∧ GsAt w K C CH H p G ∧ OneV K H b g ∧ g ∈ G.ones ∧ Pn K H x pm ∧ pm.length ≤ 100 ∧ RetT K H (eyesD G g pm) Q
theorem scGE : FnScope ["self", "one", "params", "names", "lists", "x", "y", "way", "name", "value"] ["self", "one", "params"] (defScope sGE) := ⟨rfl, rfl, rfl, by decide +kernel, rfl, by decide +kernel, by decide +kernel⟩
theorem ok_ge {k kH : Nat} (F : Fun K "eyes" "Ground.eyes" sGE f fd) (c : GCls K C) (c_G : Cls K C) (hk : kH ≤ k) (GN : MthK P w K mg base C kH 1 "names" "one" .non ["self", "one"] (spGN w K C CH)) (GL : MthK P w K mg base C kH 1 "lists" "one" .non ["self", "one"] (spGR w K C CH))
    (GS : MthG P w K mg base C kH "spot" ["self", "one"] (spGS w K C CH)) (GM : MthG P w K mg base C kH "met" ["self", "one"] (spGM w K C CH)) : FnOk P w K mg base CX0 (k + 1) f fd ["self", "one", "params"] (spGE w K C CH) := by
  obtain ⟨_, _, _, M_names, G_names, b_names, d_names, b_names_kw⟩ := GN
  obtain ⟨_, _, _, M_lists, G_lists, b_lists, d_lists, b_lists_kw⟩ := GL
  obtain ⟨_, _, M_spot, G_spot, b_spot⟩ := GS
  obtain ⟨_, _, M_met, G_met, b_met⟩ := GM
  have d_spot : Vals [] [] := .nil
  have d_met : Vals [] [] := .nil
  have sc := scGE
  refine F.ok sc (fun vs H Q E h => ?_) (fun cdv A outer s H vs Q E hr h => ?_)
  · obtain ⟨p, b, x, G, g, pm, rfl, _⟩ := h
    rfl
  obtain ⟨p, b, x, G, g, pm, rfl, hp, hb, hg, hx, lx, q⟩ := h
  refine ⟨_, (pss_cons (ps_setLc (i := 3) (own := [("name", 8), ("value", 9)]) (g := gOr (gTup K 2 (gCons (gName 8) (gCons (gName 9) gNil))) (gLst K 2 (gCons (gName 8) (gCons (gName 9) gNil)))) (by rfl) sc.nd rfl rfl (sw_true rfl rfl rfl (by decide +kernel)) (pi_or (pi_list (pv 2)) (pi_tup (pv 2))) (blkOk_by (own := [("name", 8), ("value", 9)]) (N := ["self", "one", "params", "names", "lists", "x", "y", "way", "name", "value"]) (sc := defScope sGE) (by decide +kernel)) (fun _ _ _ _ _ => (pg_or (pg_tup (by rfl) (pgs_cons (pg_name (i := 8) sc.nd rfl (.inl rfl)) (pgs_cons (pg_name (i := 9) sc.nd rfl (.inl rfl)) pgs_nil))) (pg_lst (by rfl) (pgs_cons (pg_name (i := 8) sc.nd rfl (.inl rfl)) (pgs_cons (pg_name (i := 9) sc.nd rfl (.inl rfl)) pgs_nil))))) (fun _ _ _ _ _ => pts_nil) (fun _ _ _ _ _ => (pe_tup (pa_cons (pv 8) (pa_cons (pv 9) pa_nil)))))
      (pss_cons (ps_expr (pe_bm PySem.F.plainAttrs_list PySem.F.slot_list_extend PySem.F.type_list_extend mt_extend (pv 3) (pa_cons (pe_op op_cat (Fw.pe_methK0 (pv 0) c_G M_names G_names (hr.mono (by omega)) b_names_kw pass0 (pk_cons (pv 1) pk_nil)) (pe_meth0 (pv 0) c_G M_names G_names (hr.mono (by omega)) b_names d_names pass0)) pa_nil)))
      (pss_cons (ps_set (i := 4) sc.nd rfl (.inl rfl) (pe_op op_cat (Fw.pe_methK0 (pv 0) c_G M_lists G_lists (hr.mono (by omega)) b_lists_kw pass0 (pk_cons (pv 1) pk_nil)) (pe_meth0 (pv 0) c_G M_lists G_lists (hr.mono (by omega)) b_lists d_lists pass0)))
      (pss_cons (ps_asg (pe_meth (pv 0) c_G M_spot G_spot (hr.mono (by omega)) b_spot d_spot pass0 (pa_cons (pv 1) pa_nil)) (pg_or (pg_tup (by rfl) (pgs_cons (pg_name (i := 5) sc.nd rfl (.inl rfl)) (pgs_cons (pg_name (i := 6) sc.nd rfl (.inl rfl)) (pgs_cons (pg_name (i := 7) sc.nd rfl (.inl rfl)) pgs_nil)))) (pg_lst (by rfl) (pgs_cons (pg_name (i := 5) sc.nd rfl (.inl rfl)) (pgs_cons (pg_name (i := 6) sc.nd rfl (.inl rfl)) (pgs_cons (pg_name (i := 7) sc.nd rfl (.inl rfl)) pgs_nil))))))
      (pss_one (ps_ret (pe_tup (pa_cons (pv 3) (pa_cons (pv 4) (pa_cons (pe_tup (pa_cons (pv 5) (pa_cons (pv 6) (pa_cons (pv 7) (pa_cons (pe_ix (ixr_or (show IxR _ (rIxL K) from ix_list) (show IxR _ (rIxT K) from ix_tup)) (pv 1) pe_int (fun _ _ => rfl)) pa_nil))))) (pa_cons (pe_meth (pv 0) c_G M_met G_met (hr.mono (by omega)) b_met d_met pass0 (pa_cons (pv 1) pa_nil)) pa_nil))))))))))), ?_⟩
  have own : ∀ {H'}, Same H H' → OwnS K G H' (.ref b) g.f.ns g.f.rs := fun s => .inr ⟨b, g, rfl, hb.same s, hg, rfl, rfl⟩
  obtain ⟨gdx, ga, gb, gc, gd, hpi⟩ := hp.get
  have hk1 := (ok_of hp).fh g hg
  have hk2 := (ok_of hp).h
  obtain ⟨xa, xs, rfl, hxs, px⟩ := hx
  have lpx := paired_len px
  refine sq_it rfl hxs fun J wk D nD => lc_it wk (fun i HB => BldT K D H ((pm.take i).map prD) HB) (BldT.nil nD) (fun _ _ _ h => h.1) ?_ ?_
  · rintro i v _ HB hi B ⟨rfl, ex⟩
    obtain ⟨z, ez, bb, rfl, hbb⟩ := paired_at px ex
    refine sq_or (hbb.same B.1) rfl ⟨_, _, rfl, _, _, rfl, rfl, rfl, ?_⟩
    unfold tYes
    refine iteT ⟨_, rfl, _, rfl, by show 2 ≤ sizeLine; decide, fun t nt => ?_⟩
    have st := same_upd (o := .tup [V.str z.1, .int z.2]) nt
    have ht := upd_same (H := HB) (a := t) (o := .tup [V.str z.1, .int z.2])
    generalize upd HB t (.tup [V.str z.1, .int z.2]) = HC at *
    have hy : Tr K HC (.ref t) (prD z) [] := .tup (.inl (.inl ht)) (.cons (as := []) (bs := []) (.str _) (.cons (as := []) (bs := []) (.int _) .nil (fun b z => by cases z)) (fun b z => by cases z))
    have := B.push nD st hy (fun b z => by cases z) (by rw [List.length_map, List.length_take]; omega)
    rw [List.take_succ, ez, List.map_append]
    exact this
  rintro H1 B
  rw [lpx, List.take_length] at B
  obtain ⟨s1, vs1, as1, hD, hT, nd, fa⟩ := B
  have lv1 : vs1.length = pm.length := by rw [dpAll_len (trA_dp _ _ _ hT), List.length_map]
  refine ⟨_, rfl, .inl ⟨rfl, _, SqL.of hD⟩, ?_⟩
  refine ⟨_, rfl, p, gdx, _, rfl, s1 _ _ hpi, by kernel_rfl, _, rfl, rfl, rfl, p, .ref b, G, _, _, rfl, hp.same s1, own s1, fun v1 H2 bs1 s2 t1 f1 => ?_⟩
  have S2 := s1.trans s2
  refine ⟨_, rfl, p, gdx, _, rfl, S2 _ _ hpi, by kernel_rfl, p, .non, G, _, _, rfl, hp.same S2, .inl ⟨rfl, rfl, rfl⟩, fun v2 H3 bs2 s3 t2 f2 => ?_⟩
  obtain ⟨l1, l2, xs1, xs2, cs, rfl, rfl, e1, e2, tc, hc, n1, n2⟩ := tr_cat t1 t2 s3 f2
  rw [List.length_map] at n1 n2
  have q1 := hk1.l1
  have q2 := hk2.l1
  refine ⟨l1, l2, xs1, xs2, rfl, rfl, e1, e2, le_line (by omega), fun pn np => ?_⟩
  have s4 := same_upd (o := .lst (xs1 ++ xs2)) np
  have en := upd_same (H := H3) (a := pn) (o := .lst (xs1 ++ xs2))
  generalize upd H3 pn (.lst (xs1 ++ xs2)) = H4 at *
  have S4 := (s2.trans s3).trans s4
  have hD4 := S4 _ _ hD
  refine ⟨D, pn, vs1, xs1 ++ xs2, rfl, rfl, hD4, en, by rw [List.length_append]; exact le_line (by omega), ?_⟩
  have fc : ∀ b ∈ cs, H1 b = none := fun b hb => (hc b hb).elim (f1 b) (fun z => same_free s2 (f2 b z))
  have tD4 := trA_app (trA_kp _ _ _ (Kp.same s4) tc) (trA_kp _ _ _ (Kp.same S4) hT) (fun b hb z => by
    obtain ⟨u, hu⟩ := trA_in _ _ _ hT b hb
    rw [fc b z] at hu
    cases hu)
  have nD4 : D ∉ as1 ++ cs := fun z => by
    rcases List.mem_append.mp z with z | z
    · exact nd z
    · rw [fc D z] at hD; cases hD
  have t5 : Tr K (upd H4 D (.lst (vs1 ++ (xs1 ++ xs2)))) (.ref D) (nmD (pm ++ (g.f.ns ++ G.nm))) (D :: (as1 ++ cs)) := by
    have := trA_kp _ _ _ (kp_upd (v := vs1 ++ (xs1 ++ xs2)) hD4 nD4) tD4
    unfold nmD
    rw [List.map_append, List.map_append]
    exact .lst upd_same this nD4
  have S5 : Same H (upd H4 D (.lst (vs1 ++ (xs1 ++ xs2)))) := Fd.Same.putN (s1.trans S4) nD
  have f5 : ∀ b ∈ D :: (as1 ++ cs), H b = none := fun b hb => by
    rcases List.mem_cons.mp hb with z | z
    · rw [z]; exact nD
    · rcases List.mem_append.mp z with z | z
      · exact fa b z
      · exact same_free s1 (fc b z)
  generalize upd H4 D (.lst (vs1 ++ (xs1 ++ xs2))) = H5 at *
  generalize D :: (as1 ++ cs) = ds5 at *
  clear tD4 nD4 hT t1 t2 tc
  refine ⟨_, rfl, p, gdx, _, rfl, S5 _ _ hpi, by kernel_rfl, _, rfl, rfl, rfl, p, .ref b, G, _, _, rfl, hp.same S5, own S5, fun v1 H6 bs1 s6 t1 f1 => ?_⟩
  have S6 := S5.trans s6
  refine ⟨_, rfl, p, gdx, _, rfl, S6 _ _ hpi, by kernel_rfl, p, .non, G, _, _, rfl, hp.same S6, .inl ⟨rfl, rfl, rfl⟩, fun v2 H7 bs2 s7 t2 f2 => ?_⟩
  obtain ⟨l1, l2, xs1, xs2, cs2, rfl, rfl, e1, e2, tc, hc, n1, n2⟩ := tr_cat t1 t2 s7 f2
  rw [List.length_map] at n1 n2
  have q1 := hk1.l2
  have q2 := hk2.l2
  refine ⟨l1, l2, xs1, xs2, rfl, rfl, e1, e2, le_line (by omega), fun pl np => ?_⟩
  have s8 := same_upd (o := .lst (xs1 ++ xs2)) np
  have en := upd_same (H := H7) (a := pl) (o := .lst (xs1 ++ xs2))
  generalize upd H7 pl (.lst (xs1 ++ xs2)) = H8 at *
  have s58 := (s6.trans s7).trans s8
  have S8 := S5.trans s58
  have fc2 : ∀ b ∈ cs2, H5 b = none := fun b hb => (hc b hb).elim (f1 b) (fun z => same_free s6 (f2 b z))
  have npl : H5 pl = none := same_free (s6.trans s7) np
  have t8 : Tr K H8 (.ref pl) (rwD (g.f.rs ++ G.rw)) (pl :: cs2) := by
    unfold rwD
    rw [List.map_append]
    refine .lst en (trA_kp _ _ _ (Kp.same s8) tc) fun z => ?_
    obtain ⟨u, hu⟩ := trA_in _ _ _ tc pl z
    rw [np] at hu
    cases hu
  have f8 : ∀ b ∈ pl :: cs2, H5 b = none := fun b hb => by
    rcases List.mem_cons.mp hb with z | z
    · rw [z]; exact npl
    · exact fc2 b z
  generalize pl :: cs2 = ds8 at *
  clear tc t1 t2
  refine ⟨_, rfl, p, gdx, _, rfl, S8 _ _ hpi, by kernel_rfl, _, rfl, p, b, G, g, rfl, hp.same S8, hb.same S8, hg, fun sa H8 s8b hsa => ?_⟩
  replace S8 := S8.trans s8b
  replace s58 := s58.trans s8b
  replace t8 := tr_kp _ _ _ (Kp.same s8b) t8
  refine sq_or (.inr hsa) rfl ⟨_, _, rfl, _, _, rfl, _, _, rfl, rfl, ?_⟩
  refine ⟨_, rfl, _, rfl, _, rfl, _, rfl, _, rfl, _, rfl, ix_or (hb.same S8).sq (atI_nat (j := 1) rfl) ⟨by show 4 ≤ sizeLine; decide, fun tt nt => ?_⟩⟩
  have s9 := same_upd (o := .tup [.int g.f.x, .int g.f.y, .int g.f.w, .int g.no]) nt
  have et := upd_same (H := H8) (a := tt) (o := .tup [.int g.f.x, .int g.f.y, .int g.f.w, .int g.no])
  generalize upd H8 tt (.tup [.int g.f.x, .int g.f.y, .int g.f.w, .int g.no]) = H9 at *
  have S9 := S8.trans s9
  refine ⟨_, rfl, p, gdx, _, rfl, S9 _ _ hpi, by kernel_rfl, _, rfl, p, b, G, g, rfl, hp.same S9, hb.same S9, hg, fun v3 H10 bs3 s10 t3 f3 => ⟨by show 4 ≤ sizeLine; decide, fun tr nr => ?_⟩⟩
  have s11 := same_upd (o := .tup [.ref D, .ref pl, .ref tt, v3]) nr
  have er := upd_same (H := H10) (a := tr) (o := .tup [.ref D, .ref pl, .ref tt, v3])
  have S11 := (S9.trans s10).trans s11
  have s911 := s10.trans s11
  have s811 := s9.trans s911
  have s511 := s58.trans s811
  have u5 := tr_kp _ _ _ (Kp.same s511) t5
  have u8 := tr_kp _ _ _ (Kp.same s811) t8
  have u3 := tr_kp _ _ _ (Kp.same s11) t3
  have in5 := tr_in _ _ _ t5
  have in8 := tr_in _ _ _ t8
  have s89 := s58.trans s9
  have x58 : ∀ b ∈ ds5, b ∉ ds8 := fun b hb z => by
    obtain ⟨u, hu⟩ := in5 b hb
    rw [f8 b z] at hu
    cases hu
  have x53 : ∀ b ∈ ds5, b ∉ bs3 := fun b hb z => by
    obtain ⟨u, hu⟩ := in5 b hb
    have := s89 _ _ hu
    rw [f3 b z] at this
    cases this
  have x83 : ∀ b ∈ ds8, b ∉ bs3 := fun b hb z => by
    obtain ⟨u, hu⟩ := in8 b hb
    have := s9 _ _ hu
    rw [f3 b z] at this
    cases this
  have ut : Tr K (upd H10 tr (.tup [.ref D, .ref pl, .ref tt, v3])) (.ref tt) (.tuple [.int g.f.x, .int g.f.y, .int g.f.w, .int g.no]) [] := .tup (.inl (.inl (s911 _ _ et))) (trA_ints [g.f.x, g.f.y, g.f.w, g.no])
  refine q _ _ (ds5 ++ (ds8 ++ ([] ++ (bs3 ++ [])))) S11 (.tup (.inl (.inl er)) (.cons u5 (.cons u8 (.cons ut (.cons u3 .nil (fun b _ z => by cases z)) (fun b z => by cases z)) (fun b hb z => ?_)) (fun b hb z => ?_))) (fun b hb => ?_)
  · rw [List.nil_append, List.append_nil] at z
    exact x83 b hb z
  · rw [List.nil_append, List.append_nil] at z
    exact (List.mem_append.mp z).elim (x58 b hb) (x53 b hb)
  · rw [List.nil_append, List.append_nil] at hb
    rcases List.mem_append.mp hb with z | z
    · exact f5 b z
    · rcases List.mem_append.mp z with z | z
      · exact same_free S5 (f8 b z)
      · exact same_free S9 (f3 b z)
end
end Fd

set_option Elab.async false
set_option linter.all false
set_option maxRecDepth 100000
set_option maxHeartbeats 1000000
namespace Fd
open PySem PySem.Spec PyProof.Rows L2 RZ Fw LamX
/-! ### a Holding again; a one more -/
theorem paired_mapR2 {α β γ : Type} {F : α → γ → Prop} {g : γ → β} {E : α → β → Prop} (h : ∀ a c, E a (g c) → F a c) : ∀ {m : List γ} {l : List α}, Paired E l (m.map g) → Paired F l m
  | [], _, e => by cases e; exact .nil
  | _ :: _, _, e => by cases e with | cons r t => exact .cons (h _ _ r) (paired_mapR2 h t)
theorem dpAll_pair {K : PySem.W.Frag} {H : Hp} : ∀ {vs : List V} {ds : List PyData}, DpAll K H vs ds → Paired (Dp K H) vs ds
  | _, _, .nil => .nil
  | _, _, .cons r t => .cons r (dpAll_pair t)
theorem dp_intsV {K : PySem.W.Frag} {H : Hp} : ∀ {is : List Int} {vs : List V}, DpAll K H vs (is.map .int) → vs = is.map V.int
  | [], _, h => by cases h; rfl
  | _ :: _, _, h => by cases h with | cons r t => cases r; rw [dp_intsV t]; rfl
theorem dp_pn {K : PySem.W.Frag} {H : Hp} {v : V} {nm : Nms} (h : Dp K H v (nmD nm)) : Pn K H v nm := by
  unfold nmD at h
  cases h with
  | lst q r =>
    refine ⟨_, _, rfl, .inl q, paired_mapR2 (fun x z e => ?_) (dpAll_pair r)⟩
    unfold prD at e
    cases e with
    | tup q2 r2 =>
      cases r2 with
      | cons a t =>
        cases a
        cases t with
        | cons a t => cases a; cases t; exact ⟨_, rfl, .inr q2⟩
theorem dp_pr {K : PySem.W.Frag} {H : Hp} {v : V} {rw : Rws} (h : Dp K H v (rwD rw)) : Pr K H v rw := by
  unfold rwD at h
  cases h with
  | lst q r =>
    refine ⟨_, _, rfl, .inl q, paired_mapR2 (fun x z e => ?_) (dpAll_pair r)⟩
    unfold rpD at e
    cases e with
    | tup q2 r2 =>
      cases r2 with
      | cons a t =>
        cases a
        cases t with
        | cons a t =>
          cases t
          cases a with
          | lst q3 r3 =>
            rw [dp_intsV r3] at q3
            exact ⟨_, _, rfl, .inr q2, .inl q3⟩
abbrev sHA : Stmt := inC 21 3
section
variable {P : Program} {w : World} {K : PySem.W.Frag} {mg : Str → Option Value} {base : Heap} {f : Addr} {fd : FuncData} {C CH : Addr}
def spHA (K : PySem.W.Frag) (CH : Addr) : Sp := fun vs H Q _ => ∃ (p : Addr) (nm : Nms) (rw : Rws), vs = [.ref p] ∧ HoldAt CH H p nm rw ∧ ∀ a H', Same H H' → H a = none → HoldAt CH H' a nm rw → Q (.ref a) H'
theorem scHA : FnScope ["self"] ["self"] (defScope sHA) := ⟨rfl, rfl, rfl, by decide +kernel, rfl, by decide +kernel, by decide +kernel⟩
theorem ok_ha {k kH : Nat} {fI fN fL : Addr} {fdI fdN fdL : FuncData} {psI psN psL : List Str} (F : Fun K "again" "Holding.again" sHA f fd) (c_H : Cls K CH) (hk : kH + 1 ≤ k)
    (M_name_pairs : Meth K CH "name_pairs" fN) (G_name_pairs : FnOk P w K mg base CX0 kH fN fdN psN (spHN K CH)) (b_name_pairs : Binds K fdN psN [])
    (M_list_pairs : Meth K CH "list_pairs" fL) (G_list_pairs : FnOk P w K mg base CX0 kH fL fdL psL (spHL K CH)) (b_list_pairs : Binds K fdL psL [])
    (M_Holding : Mk K CH fI) (G_Holding : FnOk P w K mg base CX0 kH fI fdI psI (spHI K CH)) (m_Holding : mg "Holding" = some (.ref CH)) (b_Holding : Binds K fdI psI []) : FnOk P w K mg base CX0 (k + 1) f fd ["self"] (spHA K CH) := by
  have sc := scHA
  have d_name_pairs : Vals [] [] := .nil
  have d_list_pairs : Vals [] [] := .nil
  refine F.ok sc (fun vs H Q E h => ?_) (fun cdv A outer s H vs Q E hr h => ?_)
  · obtain ⟨p, nm, rw, rfl, _⟩ := h
    rfl
  obtain ⟨p, nm, rw, rfl, hp, q⟩ := h
  refine ⟨_, (pss_one (ps_ret (pe_make M_Holding G_Holding (hr.mono (by omega)) (by rfl) m_Holding b_Holding .nil pass0 (pa_cons (pe_meth0 (pv 0) c_H M_name_pairs G_name_pairs (hr.mono (by omega)) b_name_pairs d_name_pairs pass0) (pa_cons (pe_meth0 (pv 0) c_H M_list_pairs G_list_pairs (hr.mono (by omega)) b_list_pairs d_list_pairs pass0) pa_nil))))), ?_⟩
  obtain ⟨dx, d1, d2, e1⟩ := hp.get
  refine ⟨_, rfl, p, dx, _, rfl, e1, by kernel_rfl, p, nm, rw, rfl, hp, fun v1 H1 as1 s1 t1 _ => ?_⟩
  refine ⟨_, rfl, p, dx, _, rfl, s1 _ _ e1, by kernel_rfl, p, nm, rw, rfl, hp.same s1, fun v2 H2 as2 s2 t2 _ => ?_⟩
  intro y dy ny ndy nyd
  have sn := (same_upd (o := .own y) ndy).trans (same_upd (H := upd H2 dy (.own y)) (p := y) (o := .ins CH dy []) (by rw [upd_ne (Ne.symm nyd)]; exact ny))
  have yn := upd_same (H := upd H2 dy (.own y)) (a := y) (o := .ins CH dy [])
  generalize upd (upd H2 dy (.own y)) y (.ins CH dy []) = HE at *
  have p1 := dp_pn (tr_dp _ _ _ t1)
  have p2 := dp_pr (tr_dp _ _ _ t2)
  obtain ⟨_, n1, n2, l1, l2, l3⟩ := hp
  refine ⟨y, dy, v1, v2, nm, rw, rfl, yn, p1.same (s2.trans sn), p2.same sn, n1, n2, l1, l2, l3, fun HF bf hf => ⟨rfl, ?_⟩⟩
  have s12 := s1.trans s2
  refine q y HF (fun b o e => bf b o (fun c => ?_) (sn _ _ (s12 _ _ e))) (same_free s12 ny) hf
  rw [List.mem_singleton.mp c] at e
  rw [s12 _ _ e] at ny
  cases ny
end
end Fd

set_option Elab.async false
set_option linter.all false
set_option maxRecDepth 100000
set_option maxHeartbeats 1000000
namespace Fd
open PySem PySem.Spec PyProof.Rows L2 RZ Fw LamX
/-- what is no dict of tuples stays -/
def Soft (H H' : Hp) : Prop := ∀ b u, H b = some u → (∀ kvs, u ≠ .dT kvs) → (∀ D, u ≠ .ext D) → H' b = some u
theorem Soft.same {H H' : Hp} (s : Same H H') : Soft H H' := fun b u e _ _ => s b u e
theorem Soft.trans {H H1 H2 : Hp} (x : Soft H H1) (y : Soft H1 H2) : Soft H H2 := fun b u e n m => y b u (x b u e n m) n m
theorem Soft.dT {H : Hp} {d : Addr} {kvs : List (List L2.Key × V)} {o : HO} (h : H d = some (.dT kvs)) : Soft H (upd H d o) := fun b u e n _ => by
  rw [upd_ne (ne_of e h (n _))]
  exact e
theorem Soft.mix {w : World} {H : Hp} {d : Addr} {kvs : List (MKey × V)} {o : HO} (h : MixD w H d kvs) : Soft H (upd H d o) := fun b u e _ m => by
  obtain ⟨xs, hd, _⟩ := h
  rw [upd_ne (ne_of e hd (m _))]
  exact e
theorem Soft.hold {CH : Addr} {H H' : Hp} {a : Addr} {nm : Nms} {rw : Rws} (s : Soft H H') (h : HoldAt CH H a nm rw) : HoldAt CH H' a nm rw := by
  obtain ⟨⟨dx, dn, dr, rs, h1, h2, h3, h4⟩, a1, a2, a3, a4, a5⟩ := h
  exact ⟨⟨dx, dn, dr, rs, s _ _ h1 nofun nofun, s _ _ h2 nofun nofun, s _ _ h3 nofun nofun, L2.Paired.mapP h4 fun a q e => s _ _ e nofun nofun⟩, a1, a2, a3, a4, a5⟩
theorem Soft.sqT {K : PySem.W.Frag} {H H' : Hp} {a : Addr} {xs : List V} (s : Soft H H') (h : SqT K H a xs) : SqT K H' a xs := by
  rcases h with (h | ⟨o, h⟩) | h
  · exact .inl (.inl (s _ _ h nofun nofun))
  · exact .inl (.inr ⟨o, s _ _ h nofun nofun⟩)
  · exact .inr h
theorem Soft.sqL {K : PySem.W.Frag} {H H' : Hp} {a : Addr} {xs : List V} (s : Soft H H') (h : SqL K H a xs) : SqL K H' a xs := by
  rcases h with (h | ⟨o, h⟩) | h
  · exact .inl (.inl (s _ _ h nofun nofun))
  · exact .inl (.inr ⟨o, s _ _ h nofun nofun⟩)
  · exact .inr h
/-- the ground with its three dicts told -/
structure GsA (w : World) (K : PySem.W.Frag) (C CH : Addr) (H : Hp) (g : Addr) (G : Gs) (dP dS dH : Addr) : Prop where
  ob : ∃ dx dF ps hs h0 n, H g = some (.ins C dx (fldG G.wide G.high dF dP dS dH)) ∧ H dF = some (.lst (G.ord.map V.str)) ∧ H dP = some (.dT (dkO G.ones (ps.map V.ref))) ∧ Paired (fun a (o : One) => SqT K H a [.int o.f.x, .int o.f.y, .int o.f.w]) ps G.ones ∧
    H dS = some (.dT (dkO G.ones (shO G))) ∧ MixD w H dH (heldAll n G.ones hs h0) ∧ Paired (fun a (o : One) => HoldAt CH H a o.f.ns o.f.rs) hs G.ones ∧ HoldAt CH H h0 G.nm G.rw ∧ dP ≠ dS ∧ n ≤ G.ones.length
  ok : G.Ok
theorem GsA.at {w : World} {K : PySem.W.Frag} {C CH : Addr} {H : Hp} {g : Addr} {G : Gs} {dP dS dH : Addr} (h : GsA w K C CH H g G dP dS dH) : GsAt w K C CH H g G := by
  obtain ⟨⟨dx, dF, ps, hs, h0, n, r⟩, ok⟩ := h
  exact ⟨⟨dx, dF, dP, dS, dH, ps, hs, h0, n, r⟩, ok⟩
theorem GsAt.a {w : World} {K : PySem.W.Frag} {C CH : Addr} {H : Hp} {g : Addr} {G : Gs} (h : GsAt w K C CH H g G) : ∃ dP dS dH, GsA w K C CH H g G dP dS dH := by
  obtain ⟨⟨dx, dF, dP, dS, dH, ps, hs, h0, n, r⟩, ok⟩ := h
  exact ⟨dP, dS, dH, ⟨dx, dF, ps, hs, h0, n, r⟩, ok⟩
theorem GsA.ext {w : World} {K : PySem.W.Frag} {C CH : Addr} {H H' : Hp} {g : Addr} {G : Gs} {dP dS dH : Addr} (h : GsA w K C CH H g G dP dS dH) (s : ExtN H H') : GsA w K C CH H' g G dP dS dH := by
  obtain ⟨⟨dx, dF, ps, hs, h0, n, h1, h2, h3, h4, h5, h6, h7, h8, h9⟩, ok⟩ := h
  have hx : ∀ {a nm rw}, HoldAt CH H a nm rw → HoldAt CH H' a nm rw := fun h => by
    obtain ⟨⟨dx, dn, dr, rs, h1, h2, h3, h4⟩, a1, a2, a3, a4, a5⟩ := h
    exact ⟨⟨dx, dn, dr, rs, s _ _ h1 nofun, s _ _ h2 nofun, s _ _ h3 nofun, L2.Paired.mapP h4 fun a q e => s _ _ e nofun⟩, a1, a2, a3, a4, a5⟩
  refine ⟨⟨dx, dF, ps, hs, h0, n, s _ _ h1 nofun, s _ _ h2 nofun, s _ _ h3 nofun, L2.Paired.mapP h4 fun a q e => sqT_extN e s, s _ _ h5 nofun, ?_, L2.Paired.mapP h7 fun a q e => hx e, hx h8, h9⟩, ok⟩
  exact h6.same (fun o e => by
    obtain ⟨xs, e', _⟩ := h6
    rw [e'] at e
    cases e
    exact s _ _ e' fun ps => by unfold MixO; nofun) fun b xs e => s _ _ e nofun
theorem GsA.same {w : World} {K : PySem.W.Frag} {C CH : Addr} {H H' : Hp} {g : Addr} {G : Gs} {dP dS dH : Addr} (h : GsA w K C CH H g G dP dS dH) (s : Same H H') : GsA w K C CH H' g G dP dS dH := h.ext (ExtN.of s)
def Gs.push (G : Gs) (o : One) : Gs := { G with ones := G.ones ++ [o] }
theorem heldAll_push {n : Nat} {os : List One} {hs : List Addr} {h0 y : Addr} {o : One} (hn : n ≤ os.length) (hl : hs.length = os.length) : heldAll n (os ++ [o]) (hs ++ [y]) h0 = heldAll n os hs h0 ++ [(some o.key, V.ref y)] := by
  unfold heldAll
  rw [List.take_append_of_le_length hn, List.take_append_of_le_length (by omega), List.drop_append_of_le_length hn, List.drop_append_of_le_length (by omega), List.map_append, List.append_assoc]
  rw [show [y].map V.ref = [V.ref y] from rfl, dkO_snoc (by rw [List.length_drop, List.length_map, List.length_drop]; omega), List.map_append]
  rfl
theorem heldAll_keys {n : Nat} {os : List One} {hs : List Addr} {h0 : Addr} (hl : hs.length = os.length) {k : List L2.Key} (h : some k ∈ (heldAll n os hs h0).map (·.1)) : k ∈ os.map One.key := by
  unfold heldAll at h
  rw [List.map_append, List.map_cons] at h
  have key : ∀ {os' : List One} {hs' : List Addr}, hs'.length = os'.length → (some k : MKey) ∈ ((dkO os' (hs'.map V.ref)).map fun p => ((some p.1 : MKey), p.2)).map (·.1) → k ∈ os'.map One.key := fun {os' hs'} hl h => by
    obtain ⟨x, hx, e⟩ := List.mem_map.mp h
    obtain ⟨y, hy, rfl⟩ := List.mem_map.mp hx
    have e : y.1 = k := Option.some.inj e
    rw [← dkO_keys (vs := hs'.map V.ref) (by rw [List.length_map]; exact hl.symm), ← e]
    exact List.mem_map.mpr ⟨y, hy, rfl⟩
  rcases List.mem_append.mp h with h | h
  · obtain ⟨x, hx, e⟩ := List.mem_map.mp (key (by rw [List.length_take, List.length_take]; omega) h)
    exact List.mem_map.mpr ⟨x, List.mem_of_mem_take hx, e⟩
  · rcases List.mem_cons.mp h with h | h
    · cases h
    · obtain ⟨x, hx, e⟩ := List.mem_map.mp (key (by rw [List.length_drop, List.length_drop]; omega) h)
      exact List.mem_map.mpr ⟨x, List.mem_of_mem_drop hx, e⟩
theorem heldAll_len {n : Nat} {os : List One} {hs : List Addr} {h0 : Addr} (hl : hs.length = os.length) : (heldAll n os hs h0).length = os.length + 1 := by
  unfold heldAll
  rw [List.length_append, List.length_cons, List.length_map, List.length_map, dkO_len (by rw [List.length_take, List.length_map, List.length_take]; omega), dkO_len (by rw [List.length_drop, List.length_map, List.length_drop]; omega), List.length_take, List.length_drop]
  omega
abbrev sGv : Stmt := inC 37 5
section
variable {P : Program} {w : World} {K : PySem.W.Frag} {mg : Str → Option Value} {base : Heap} {f : Addr} {fd : FuncData} {C CH : Addr}
/-- give to the ground itself -/
def spGv (w : World) (K : PySem.W.Frag) (C CH : Addr) : Sp := fun vs H Q _ => ∃ (p b nb dP dS dH : Addr) (G : Gs) (o : One) (n : Int), vs = [.ref p, .ref b, .ref p, .ref nb] ∧ GsA w K C CH H p G dP dS dH ∧ OneT H b o ∧ o ∈ G.ones ∧ OneT H nb { o with no := n } ∧ ({ o with no := n } : One).key ∉ G.ones.map One.key ∧ G.ones.length < 100 ∧
  ∀ H', ButL [dP, dS, dH] H H' → Soft H H' → GsA w K C CH H' p (G.push { o with no := n }) dP dS dH → Q .non H'
theorem scGv : FnScope ["self", "one", "ground", "new"] ["self", "one", "ground", "new"] (defScope sGv) := ⟨rfl, rfl, rfl, by decide +kernel, rfl, by decide +kernel, by decide +kernel⟩
theorem ok_gv {k kH : Nat} {fA : Addr} {fdA : FuncData} {psA : List Str} (F : Fun K "give" "Ground.give" sGv f fd) (c : GCls K C) (c_H : Cls K CH) (hk : kH ≤ k) (M_again : Meth K CH "again" fA) (G_again : FnOk P w K mg base CX0 kH fA fdA psA (spHA K CH)) (b_again : Binds K fdA psA []) : FnOk P w K mg base CX0 (k + 1) f fd ["self", "one", "ground", "new"] (spGv w K C CH) := by
  have sc := scGv
  have d_again : Vals [] [] := .nil
  refine F.ok sc (fun vs H Q E h => ?_) (fun cdv A outer s H vs Q E hr h => ?_)
  · obtain ⟨p, b, nb, dP, dS, dH, G, o, n, rfl, _⟩ := h
    rfl
  obtain ⟨p, b, nb, dP, dS, dH, G, o, n, rfl, hp, hb, hg, hnb, hnew, hlt, q⟩ := h
  refine ⟨_, (pss_cons (ps_dput (hu_of hr) (pe_fld (pv 2) rfl) (pv 3) (pe_dget (hu_of hr) (pe_fld (pv 0) rfl) (pv 1) (fun _ _ => rfl)) rfl)
      (pss_cons (ps_dput (hu_of hr) (pe_fld (pv 2) rfl) (pv 3) (pe_dget (hu_of hr) (pe_fld (pv 0) rfl) (pv 1) (fun _ _ => rfl)) rfl)
      (pss_one (Fw.ps_mput (hu20 hr) (pe_fld (pv 2) rfl) (pv 3) (pe_meth0 (Fw.pe_mget (hu20 hr) (pe_fld (pv 0) rfl) (pv 1) (fun _ _ => rfl)) c_H M_again G_again (hr.mono (by omega)) b_again d_again pass0) rfl)))), ?_⟩
  obtain ⟨⟨dx, dF, ps, hs, h0, n0, h1, h2, h3, h4, h5, h6, h7, h8, nPS, hn0⟩, ok⟩ := hp
  have lps : G.ones.length = (ps.map V.ref).length := by rw [List.length_map]; exact (paired_len h4).symm
  have lsh : G.ones.length = (shO G).length := by unfold shO; rw [List.length_map]
  have lhs := paired_len h7
  obtain ⟨i, ei⟩ := List.mem_iff_getElem?.mp hg
  obtain ⟨a, ea, ha⟩ := paired_idx h4 ei
  obtain ⟨y0, ey, hy⟩ := paired_idx h7 ei
  have kP : putK (dkO G.ones (ps.map V.ref)) ({ o with no := n } : One).key (.ref a) = dkO (G.ones ++ [{ o with no := n }]) ((ps ++ [a]).map V.ref) := by
    rw [putK_new _ (val_none (by rw [dkO_keys lps]; exact hnew)), List.map_append]
    exact (dkO_snoc lps).symm
  have kS : putK (dkO G.ones (shO G)) ({ o with no := n } : One).key (.bl o.sh) = dkO (G.ones ++ [{ o with no := n }]) (shO (G.push { o with no := n })) := by
    rw [putK_new _ (val_none (by rw [dkO_keys lsh]; exact hnew))]
    unfold shO Gs.push
    rw [List.map_append]
    exact (dkO_snoc lsh).symm
  -- places
  refine ⟨_, rfl, p, C, dx, _, _, rfl, h1, c.cl, c.nP, fldG_p _ _ _ _ _ _, _, rfl, dP, .ref a, rfl, .inr ⟨_, o.key, b, .inl h3, rfl, hb, (val_at (dkO_nd lps ok.nd) (dkO_at ei (by rw [List.getElem?_map, ea]; rfl))).symm⟩, ?_⟩
  refine ⟨_, rfl, p, C, dx, _, _, rfl, h1, c.cl, c.nP, fldG_p _ _ _ _ _ _, _, rfl, dP, _, rfl, DPut.t (k := ({ o with no := n } : One).key) h3 hnb (by rw [dkO_len lps]; exact Nat.lt_of_lt_of_le hlt (by decide)), ?_⟩
  rw [kP]
  have s1 : Soft H (upd H dP (.dT (dkO (G.ones ++ [{ o with no := n }]) ((ps ++ [a]).map V.ref)))) := Soft.dT h3
  have e1 : (upd H dP (.dT (dkO (G.ones ++ [{ o with no := n }]) ((ps ++ [a]).map V.ref)))) dP = some (.dT (dkO (G.ones ++ [{ o with no := n }]) ((ps ++ [a]).map V.ref))) := upd_same
  have h5' : (upd H dP (.dT (dkO (G.ones ++ [{ o with no := n }]) ((ps ++ [a]).map V.ref)))) dS = some (.dT (dkO G.ones (shO G))) := by rw [upd_ne (Ne.symm nPS)]; exact h5
  have h6' : MixD w (upd H dP (.dT (dkO (G.ones ++ [{ o with no := n }]) ((ps ++ [a]).map V.ref)))) dH (heldAll n0 G.ones hs h0) := h6.same (fun u e => by
    obtain ⟨xs, e', _⟩ := h6
    rw [upd_ne (ne_of e' h3 (by unfold MixO; nofun))]
    exact e) fun b xs e => s1 _ _ e nofun nofun
  have b1 : ButL [dP, dS, dH] H (upd H dP (.dT (dkO (G.ones ++ [{ o with no := n }]) ((ps ++ [a]).map V.ref)))) := fun b u nb e => by
    rw [upd_ne fun z => nb (by rw [z]; exact List.mem_cons_self ..)]
    exact e
  generalize upd H dP (.dT (dkO (G.ones ++ [{ o with no := n }]) ((ps ++ [a]).map V.ref))) = H1 at *
  -- shown
  refine ⟨_, rfl, p, C, dx, _, _, rfl, s1 _ _ h1 nofun nofun, c.cl, c.nS, fldG_s _ _ _ _ _ _, _, rfl, dS, .bl o.sh, rfl, .inr ⟨_, o.key, b, .inl h5', rfl, s1 _ _ hb nofun nofun, (val_at (dkO_nd lsh ok.nd) (dkO_at ei (by unfold shO; rw [List.getElem?_map, ei]; rfl))).symm⟩, ?_⟩
  refine ⟨_, rfl, p, C, dx, _, _, rfl, s1 _ _ h1 nofun nofun, c.cl, c.nS, fldG_s _ _ _ _ _ _, _, rfl, dS, _, rfl, DPut.t (k := ({ o with no := n } : One).key) h5' (s1 _ _ hnb nofun nofun) (by rw [dkO_len lsh]; exact Nat.lt_of_lt_of_le hlt (by decide)), ?_⟩
  rw [kS]
  have s2 : Soft H (upd H1 dS (.dT (dkO (G.ones ++ [{ o with no := n }]) (shO (G.push { o with no := n }))))) := s1.trans (Soft.dT h5')
  have e1' : (upd H1 dS (.dT (dkO (G.ones ++ [{ o with no := n }]) (shO (G.push { o with no := n }))))) dP = some (.dT (dkO (G.ones ++ [{ o with no := n }]) ((ps ++ [a]).map V.ref))) := by rw [upd_ne nPS]; exact e1
  have e2 : (upd H1 dS (.dT (dkO (G.ones ++ [{ o with no := n }]) (shO (G.push { o with no := n }))))) dS = some (.dT (dkO (G.ones ++ [{ o with no := n }]) (shO (G.push { o with no := n })))) := upd_same
  have h6'' : MixD w (upd H1 dS (.dT (dkO (G.ones ++ [{ o with no := n }]) (shO (G.push { o with no := n }))))) dH (heldAll n0 G.ones hs h0) := h6'.same (fun u e => by
    obtain ⟨xs, e', _⟩ := h6'
    rw [upd_ne (ne_of e' h5' (by unfold MixO; nofun))]
    exact e) fun b xs e => Soft.dT h5' _ _ e nofun nofun
  have b2 : ButL [dP, dS, dH] H (upd H1 dS (.dT (dkO (G.ones ++ [{ o with no := n }]) (shO (G.push { o with no := n }))))) := fun b u nb e => by
    rw [upd_ne fun z => nb (by rw [z]; exact List.mem_cons_of_mem _ (List.mem_cons_self ..))]
    exact b1 _ _ nb e
  generalize upd H1 dS (.dT (dkO (G.ones ++ [{ o with no := n }]) (shO (G.push { o with no := n })))) = H2 at *
  clear h5' h6' b1 e1 s1 kP kS
  -- held
  refine ⟨_, rfl, p, C, dx, _, _, rfl, s2 _ _ h1 nofun nofun, c.cl, c.nD, fldG_d _ _ _ _ _ _, _, rfl, dH, _, some o.key, .ref y0, rfl, h6'', .inr ⟨o.key, b, rfl, rfl, s2 _ _ hb nofun nofun⟩, held_in ei ey, ?_⟩
  have hy2 := s2.hold hy
  obtain ⟨hdx, hd1, hd2, hye⟩ := hy2.get
  refine ⟨y0, hdx, _, rfl, hye, by kernel_rfl, y0, _, _, rfl, hy2, fun y H3 s3 ny hy3 => ?_⟩
  have m3 := h6''.same (fun u e => s3 _ _ e) (fun b xs e => s3 _ _ e)
  refine ⟨_, rfl, p, C, dx, _, _, rfl, s3 _ _ (s2 _ _ h1 nofun nofun), c.cl, c.nD, fldG_d _ _ _ _ _ _, _, rfl, dH, _, some ({ o with no := n } : One).key, rfl, m3, .inr ⟨_, nb, rfl, rfl, s3 _ _ (s2 _ _ hnb nofun nofun)⟩, fun z => hnew (heldAll_keys lhs z), by rw [heldAll_len lhs]; omega, fun u hm => ?_⟩
  rw [← heldAll_push hn0 lhs] at hm
  have s4 : Soft H (upd H3 dH u) := (s2.trans (Soft.same s3)).trans (Soft.mix m3)
  have nHP : dP ≠ dH := fun z => by
    obtain ⟨xs, e', _⟩ := m3
    have := s3 _ _ e1'
    rw [z, e'] at this
    cases this
  have nHS : dS ≠ dH := fun z => by
    obtain ⟨xs, e', _⟩ := m3
    have := s3 _ _ e2
    rw [z, e'] at this
    cases this
  refine q _ (fun b u nb e => ?_) s4 ⟨⟨dx, dF, ps ++ [a], hs ++ [y], h0, n0, s4 _ _ h1 nofun nofun, s4 _ _ h2 nofun nofun, by rw [upd_ne nHP]; exact s3 _ _ e1', paired_snoc (L2.Paired.mapP h4 fun a o e => s4.sqT e) (s4.sqT ha), by rw [upd_ne nHS]; exact s3 _ _ e2, hm, paired_snoc (L2.Paired.mapP h7 fun a o e => s4.hold e) ((Soft.mix m3).hold hy3), s4.hold h8, nPS, ?_⟩, ?_⟩
  · rw [upd_ne fun z => nb (by rw [z]; exact List.mem_cons_of_mem _ (List.mem_cons_of_mem _ (List.mem_cons_self ..)))]
    exact s3 _ _ (b2 _ _ nb e)
  · show n0 ≤ (G.ones ++ [_]).length
    rw [List.length_append]
    omega
  · have hm : ∀ {x : One}, x ∈ (G.push { o with no := n }).ones → x ∈ G.ones ∨ x = { o with no := n } := fun h => (List.mem_append.mp h).imp id List.mem_singleton.mp
    refine ⟨ok.h, fun x hx => ?_, ?_, fun x hx => ?_, ?_, ok.on, ok.ol, ok.os⟩
    · rcases hm hx with h | rfl
      · exact ok.fh x h
      · exact ok.fh o hg
    · show ((G.ones ++ [_]).map One.key).Nodup
      rw [List.map_append, List.nodup_append]
      refine ⟨ok.nd, by simp, fun x hx y hy e => ?_⟩
      rw [List.mem_singleton.mp hy] at e
      rw [e] at hx
      exact hnew hx
    · rcases hm hx with h | rfl
      · exact ok.st x h
      · exact ok.st o hg
    · show (G.ones ++ [_]).length ≤ 100
      rw [List.length_append]
      exact hlt
end
end Fd

set_option Elab.async false
set_option linter.all false
set_option maxRecDepth 100000
set_option maxHeartbeats 1000000
namespace Fd
open PySem PySem.Spec PyProof.Rows L2 RZ Fw LamX
abbrev sGC : Stmt := inC 37 14
/-- the least number that no one of that figure has -/
structure IsFree (G : Gs) (o : One) (n : Nat) : Prop where
  pos : 1 ≤ n
  new : ({ o with no := (n : Int) } : One).key ∉ G.ones.map One.key
  low : ∀ m : Nat, 1 ≤ m → m < n → ({ o with no := (m : Int) } : One).key ∈ G.ones.map One.key
theorem nodupK_le {α : Type} [DecidableEq α] : ∀ {l m : List α}, l.Nodup → (∀ x ∈ l, x ∈ m) → l.length ≤ m.length
  | [], _, _, _ => Nat.zero_le _
  | x :: l, m, nd, h => by
    obtain ⟨n1, n2⟩ := List.nodup_cons.mp nd
    have mx := h x (List.mem_cons_self ..)
    have := nodupK_le (l := l) (m := m.erase x) n2 fun y hy => by
      have ne : y ≠ x := fun e => n1 (e ▸ hy)
      exact (List.mem_erase_of_ne ne).mpr (h y (List.mem_cons_of_mem _ hy))
    rw [List.length_erase_of_mem mx] at this
    have p := List.length_pos_of_mem mx
    rw [List.length_cons]
    omega
theorem taken_le {G : Gs} {o : One} {j : Nat} (h : ∀ m : Nat, 1 ≤ m → m < j → ({ o with no := (m : Int) } : One).key ∈ G.ones.map One.key) : j - 1 ≤ G.ones.length := by
  have := nodupK_le (l := (List.range (j - 1)).map fun i => ({ o with no := ((i + 1 : Nat) : Int) } : One).key) (m := G.ones.map One.key) ?_ fun x hx => ?_
  · rwa [List.length_map, List.length_range, List.length_map] at this
  · rw [List.nodup_iff_pairwise_ne, List.pairwise_map]
    refine (List.nodup_iff_pairwise_ne.mp List.nodup_range).imp fun n e => n ?_
    have := (key_inj e).2
    dsimp only at this
    omega
  · obtain ⟨i, hi, rfl⟩ := List.mem_map.mp hx
    have := List.mem_range.mp hi
    exact h (i + 1) (by omega) (by omega)
theorem val_some {κ : Type} [DecidableEq κ] {l : List (κ × V)} {k : κ} (h : k ∈ l.map (·.1)) : (valV l k).isSome = true := by
  cases e : valV l k with
  | some v => rfl
  | none =>
    unfold valV at e
    obtain ⟨p, hp, ek⟩ := List.mem_map.mp h
    cases hf : l.find? fun q => decide (q.1 = k) with
    | some q => rw [hf] at e; cases e
    | none => exact absurd (decide_eq_true ek) (List.find?_eq_none.mp hf p hp)
section
variable {P : Program} {w : World} {K : PySem.W.Frag} {mg : Str → Option Value} {base : Heap} {f : Addr} {fd : FuncData} {C CH : Addr}
def spGC (w : World) (K : PySem.W.Frag) (C CH : Addr) : Sp := fun vs H Q _ => ∃ (p b dP dS dH : Addr) (G : Gs) (o : One), vs = [.ref p, .ref b] ∧ GsA w K C CH H p G dP dS dH ∧ OneV K H b o ∧ o ∈ G.ones ∧ G.ones.length < 100 ∧
  ∀ t H' (n : Nat), IsFree G o n → ButL [dP, dS, dH] H H' → Soft H H' → GsA w K C CH H' p (G.push { o with no := n }) dP dS dH → OneT H' t { o with no := n } → H t = none → Q (.ref t) H'
theorem scGC : FnScope ["self", "one", "figure", "number"] ["self", "one"] (defScope sGC) := ⟨rfl, rfl, rfl, by decide +kernel, rfl, by decide +kernel, by decide +kernel⟩
theorem ok_gc {k kH : Nat} {fG : Addr} {fdG : FuncData} {psG : List Str} (F : Fun K "copy" "Ground.copy" sGC f fd) (c : GCls K C) (c_G : Cls K C) (hk : kH ≤ k) (m_tuple : mg "tuple" = none) (M_give : Meth K C "give" fG) (G_give : FnOk P w K mg base CX0 kH fG fdG psG (spGv w K C CH)) (b_give : Binds K fdG psG []) : FnOk P w K mg base CX0 (k + 1) f fd ["self", "one"] (spGC w K C CH) := by
  have sc := scGC
  have d_give : Vals [] [] := .nil
  refine F.ok sc (fun vs H Q E h => ?_) (fun cdv A outer s H vs Q E hr h => ?_)
  · obtain ⟨p, b, dP, dS, dH, G, o, rfl, _⟩ := h
    rfl
  obtain ⟨p, b, dP, dS, dH, G, o, rfl, hp, hb, hg, hlt, q⟩ := h
  refine ⟨_, (pss_cons (ps_set (i := 2) sc.nd rfl (.inl rfl) (pe_ix (ixr_or (show IxR _ (rIxL K) from ix_list) (show IxR _ (rIxT K) from ix_tup)) (pv 1) pe_int (fun _ _ => rfl)))
      (pss_cons (ps_set (i := 3) sc.nd rfl (.inl rfl) pe_int)
      (pss_cons (ps_while PassesOwn.never (pt_cmp (pc_din (hu_of hr) (pe_tup (pa_cons (pv 2) (pa_cons (pv 3) pa_nil))) (pe_fld (pv 0) rfl))) (pss_one (ps_aug (i := 3) sc.nd rfl (.inl rfl) pe_int ip_add)))
      (pss_cons (ps_expr (pe_meth (pv 0) c_G M_give G_give (hr.mono (by omega)) b_give d_give pass0 (pa_cons (pe_callTy (show CallR _ (.type "tuple") (rTupO K) from call_tuple_of) (by rfl) m_tuple (by decide +kernel) (pa_cons (pv 1) pa_nil)) (pa_cons (pv 0) (pa_cons (pe_tup (pa_cons (pv 2) (pa_cons (pv 3) pa_nil))) pa_nil)))))
      (pss_one (ps_ret (pe_tup (pa_cons (pv 2) (pa_cons (pv 3) pa_nil))))))))), ?_⟩
  refine ⟨_, rfl, ix_or hb.sq (atI_nat (j := 0) rfl) ?_⟩
  obtain ⟨⟨dx, dF, ps, hs, h0, n0, h1, h2, h3, h4, r⟩, ok⟩ := id hp
  have lps : G.ones.length = (ps.map V.ref).length := by rw [List.length_map]; exact (paired_len h4).symm
  refine ⟨fun m σ' H' => ∃ j : Nat, m = 200 - j ∧ 1 ≤ j ∧ σ' = [some (.ref p), some (.ref b), some (.str o.f.nm), some (.int j)] ∧ Same H H' ∧ ∀ m : Nat, 1 ≤ m → m < j → ({ o with no := (m : Int) } : One).key ∈ G.ones.map One.key, ⟨199, 1, rfl, Nat.le_refl 1, rfl, Same.refl H, fun m a b => by omega⟩, ?_⟩
  rintro m σ' H' ⟨j, rfl, hj, rfl, sm, lo⟩
  have jl := taken_le lo
  refine ⟨_, rfl, _, rfl, by show 2 ≤ sizeLine; decide, fun t nt => ?_⟩
  have st := same_upd (o := .tup [V.str o.f.nm, .int (j : Nat)]) nt
  have et := upd_same (H := H') (a := t) (o := .tup [V.str o.f.nm, .int (j : Nat)])
  generalize upd H' t (.tup [V.str o.f.nm, .int (j : Nat)]) = H1 at *
  have s1 := sm.trans st
  refine ⟨_, rfl, p, C, dx, _, _, rfl, s1 _ _ h1, c.cl, c.nP, fldG_p _ _ _ _ _ _, dP, _, rfl, DGet.t (k := ({ o with no := (j : Int) } : One).key) (s1 _ _ h3) et, ?_⟩
  refine ⟨_, rfl, ?_⟩
  by_cases hin : ({ o with no := (j : Int) } : One).key ∈ G.ones.map One.key
  · rw [val_some (by rw [dkO_keys lps]; exact hin)]
    refine iteT ⟨fun σ3 H3 => σ3 = [some (.ref p), some (.ref b), some (.str o.f.nm), some (.int ((j + 1 : Nat) : Int))] ∧ H3 = H1, ?_, ?_⟩
    · rintro _ _ ⟨rfl, rfl⟩
      refine ⟨200 - (j + 1), by omega, j + 1, rfl, by omega, rfl, s1, fun m a b => ?_⟩
      by_cases e : m = j
      · rw [e]; exact hin
      · exact lo m a (by omega)
    · exact ⟨_, rfl, _, _, rfl, rfl, by push_cast; rfl, rfl⟩
  rw [val_none (by rw [dkO_keys lps]; exact hin)]
  refine ifFF ?_
  have fr : IsFree G o j := ⟨hj, hin, lo⟩
  have hp1 := hp.same s1
  refine ⟨_, rfl, p, dx, _, rfl, s1 _ _ h1, by kernel_rfl, ?_⟩
  refine ⟨_, rfl, ?_⟩
  unfold tNil
  refine key_or (hb.same s1) fun bk H2 s2 _ hbk => ?_
  refine ⟨_, rfl, _, rfl, _, rfl, by show 2 ≤ sizeLine; decide, fun nb nnb => ?_⟩
  have s3 := same_upd (o := .tup [V.str o.f.nm, .int (j : Nat)]) nnb
  have hnb := upd_same (H := H2) (a := nb) (o := .tup [V.str o.f.nm, .int (j : Nat)])
  generalize upd H2 nb (.tup [V.str o.f.nm, .int (j : Nat)]) = H3 at *
  have S3 := s1.trans (s2.trans s3)
  refine ⟨p, bk, nb, dP, dS, dH, G, o, (j : Int), rfl, hp.same S3, s3 _ _ hbk, hg, hnb, hin, hlt, fun H4 bl sf ga => ?_⟩
  refine ⟨_, rfl, _, rfl, by show 2 ≤ sizeLine; decide, fun t2 nt2 => ?_⟩
  have s4 := same_upd (o := .tup [V.str o.f.nm, .int (j : Nat)]) nt2
  have et2 := upd_same (H := H4) (a := t2) (o := .tup [V.str o.f.nm, .int (j : Nat)])
  refine q t2 _ j fr (fun b u nb e => s4 _ _ (bl b u nb (S3 _ _ e))) ((Soft.same S3).trans (sf.trans (Soft.same s4))) (ga.same s4) et2 ?_
  obtain ⟨⟨_, _, _, _, _, _, _, _, g3, _, g5, ⟨_, g6, _⟩, _⟩, _⟩ := ga
  cases e : H t2 with
  | none => rfl
  | some u =>
    by_cases hm : t2 ∈ [dP, dS, dH]
    · rcases List.mem_cons.mp hm with z | hm
      · rw [z, g3] at nt2; cases nt2
      · rcases List.mem_cons.mp hm with z | hm
        · rw [z, g5] at nt2; cases nt2
        · rw [List.mem_singleton.mp hm, g6] at nt2; cases nt2
    · rw [bl t2 u hm (S3 _ _ e)] at nt2; cases nt2
end
end Fd

set_option Elab.async false
set_option linter.all false
set_option maxRecDepth 100000
set_option maxHeartbeats 1000000
namespace Fd
open PySem PySem.Spec PyProof.Rows L2 RZ Fw LamX
theorem call_lenT {X : Cx} : CallR X (.builtin "len") rLenT := call_len_dT
abbrev sGL : Stmt := inC 37 1
abbrev sGW : Stmt := inC 37 8
/-! ### the ones in their order -/
def ixS (zs : List Str) : Nms := zs.mapIdx fun i z => (z, (i : Int))
theorem ixS_at {zs : List Str} {i : Nat} {z : Str} (e : zs[i]? = some z) : (ixS zs)[i]? = some (z, (i : Int)) := by
  unfold ixS
  rw [List.getElem?_mapIdx, e]
  rfl
theorem ixS_len (zs : List Str) : (ixS zs).length = zs.length := List.length_mapIdx
theorem ixS_nm (zs : List Str) : (ixS zs).map (·.1) = zs := by
  refine List.ext_getElem? fun i => ?_
  unfold ixS
  rw [List.getElem?_map, List.getElem?_mapIdx]
  cases zs[i]? <;> rfl
def rkO (G : Gs) (o : One) : Int := (G.ord.idxOf o.f.nm : Nat)
def leO (G : Gs) (a b : One) : Bool := decide (rkO G a < rkO G b ∨ rkO G a = rkO G b ∧ a.no ≤ b.no)
/-- the ones, figures in order, numbers rising -/
def Gs.srt (G : Gs) : List One := G.ones.mergeSort (leO G)
theorem srt_mem {G : Gs} {o : One} : o ∈ G.srt ↔ o ∈ G.ones := List.mem_mergeSort
theorem srt_len (G : Gs) : G.srt.length = G.ones.length := List.length_mergeSort _
/-- all figures are the play's -/
def Gs.In (G : Gs) : Prop := ∀ o ∈ G.ones, o.f.nm ∈ G.ord
def kiO (G : Gs) (p : Addr × One) : KI := ⟨p.1, p.2.f.nm, p.2.no, rkO G p.2⟩
theorem paired_zip {α β : Type} {F : α → β → Prop} : ∀ {l : List α} {m : List β}, Paired F l m → ∀ p ∈ l.zip m, F p.1 p.2
  | _, _, .nil, _, h => nomatch h
  | _, _, .cons r t, p, h => by
    rcases List.mem_cons.mp h with rfl | h
    · exact r
    · exact paired_zip t p h
theorem paired_of {α β : Type} {F : α → β → Prop} : ∀ {l : List (α × β)}, (∀ p ∈ l, F p.1 p.2) → Paired F (l.map (·.1)) (l.map (·.2))
  | [], _ => .nil
  | p :: l, h => .cons (h p (List.mem_cons_self ..)) (paired_of fun q hq => h q (List.mem_cons_of_mem _ hq))
theorem keys_one {H : Hp} : ∀ {os : List One} {vs : List V} {bs : List Addr}, os.length = vs.length → IsKeys H (dkO os vs) bs → Paired (OneT H) bs os
  | [], [], _, _, h => by
    cases h
    exact .nil
  | f :: fs, v :: vs, _, hl, h => by
    cases h with | cons r t => exact .cons r (keys_one (Nat.succ.inj hl) t)
  | [], _ :: _, _, h, _ => nomatch h
  | _ :: _, [], _, h, _ => nomatch h
theorem zip_fst {α β : Type} {l : List α} {m : List β} (h : l.length = m.length) : (l.zip m).map (·.1) = l := List.map_fst_zip (Nat.le_of_eq h)
theorem zip_snd {α β : Type} {l : List α} {m : List β} (h : l.length = m.length) : (l.zip m).map (·.2) = m := List.map_snd_zip (Nat.le_of_eq h.symm)
section
variable {P : Program} {w : World} {K : PySem.W.Frag} {mg : Str → Option Value} {base : Heap} {f : Addr} {fd : FuncData} {C CH : Addr}
def spGo (w : World) (K : PySem.W.Frag) (C CH P0 : Addr) : Sp := fun vs H Q _ => ∃ (p : Addr) (G : Gs), vs = [.ref p] ∧ GsAt w K C CH H p G ∧ G.In ∧ Tabs (TT P0) H ∧ ∀ l H' as, ExtN H H' → Tabs (TT P0) H' → NewL H l → H' l = some (.lst (as.map V.ref)) → Paired (OneT H') as G.srt → Q (.ref l) H'
theorem ok_gO {k : Nat} {c0 P0 : Addr} (F : Fun K "ones" "Ground.ones" sGO f fd) (c : GCls K C) (hc0 : fd.code = .ref c0) (TB : TabB base mg c0 P0) (m_enumerate : mg "enumerate" = none) (m_sorted : mg "sorted" = none) (m_list : mg "list" = none) : FnOk P w K mg base CX0 (k + 1) f fd ["self"] (spGo w K C CH P0) := by
  have sc := scGO
  refine fun_okC F sc (fun vs H Q E h => ?_) (fun A outer s H vs Q E hr h => ?_)
  · obtain ⟨p, G, rfl, _⟩ := h
    rfl
  obtain ⟨p, G, rfl, hp, hin, hT, q⟩ := h
  have hcode : (cxOf CX0 P w K mg base ["self", "ranks", "rank", "figure"] "Ground.ones" (defScope sGO) f fd.code A outer s H E).nox.env.code = .ref c0 := hc0
  have mem_TT : (P0, (cxOf CX0 P w K mg base ["self", "ranks", "rank", "figure"] "Ground.ones" (defScope sGO) f fd.code A outer s H E).nox.env.qual ++ "<lambda>") ∈ TT P0 := by
    refine List.mem_singleton.mpr ?_
    kernel_rfl
  refine ⟨_, (pss_cons (ps_set (i := 1) sc.nd rfl (.inr rfl) (pe_dc (own := [("rank", 2), ("figure", 3)]) (g := gTup K 2 (gCons (gName 2) (gCons (gName 3) gNil))) (by rfl) sc.nd (pi_enum (by rfl) m_enumerate (pa_cons (pe_fld (pv 0) rfl) pa_nil)) (blkOk_by (own := [("rank", 2), ("figure", 3)]) (N := ["self", "ranks", "rank", "figure"]) (sc := defScope sGO) (by decide +kernel)) (fun _ _ _ _ _ => (pg_tup (by rfl) (pgs_cons (pg_name (i := 2) sc.nd rfl (.inl rfl)) (pgs_cons (pg_name (i := 3) sc.nd rfl (.inl rfl)) pgs_nil)))) (fun _ _ _ _ _ => pts_nil) (fun _ _ _ _ _ => (pv 3)) (fun _ _ _ _ _ => (pv 2))))
      (pss_one (ps_ret (Fw.pe_srtL (T := TT P0) (i := 1) (x := "one") (y := "ranks") (pa_cons (pe_callTy (call_list_dT (by rfl)) (by rfl) m_list (by decide +kernel) (pa_cons (pe_fld (pv 0) rfl) pa_nil)) pa_nil) (by rfl) m_sorted TB hcode mem_TT (fun p hp _ => (congrArg Prod.snd (List.mem_singleton.mp hp)).trans rfl) rfl (fun _ _ _ _ _ _ => rfl) rfl rfl rfl (by decide +kernel) rfl rfl (by decide +kernel) rfl rfl hr.depth (hu70 hr))))), ?_⟩
  obtain ⟨⟨dx, dF, dP, dS, dH, ps, hs, h0, n, h1, h2, h3, h4, h5, h6, h7, h8, h9, hn⟩, ok⟩ := hp
  have lps := paired_len h4
  refine ⟨_, rfl, p, C, dx, _, _, rfl, h1, c.cl, c.nF, fldG_f _ _ _ _ _ _, dF, _, rfl, SqL.of h2, fun D nD => dcg_it (put := putS) walk_enum (fun i HB => Same H HB ∧ HB D = some (.dK (nmK ((ixS G.ord).take i)))) ⟨same_upd nD, upd_same⟩ (fun i HB _ h => SqL.of (h.1 _ _ h2)) ?_ ?_⟩
  · rintro i v HB HC hi ⟨sm, hD⟩ ⟨T, x, z, rfl, nT, rfl, ex, ez⟩
    cases (Option.some.inj ex)
    dsimp only at ez
    rw [List.getElem?_map] at ez
    obtain ⟨g, eg, rfl⟩ := Option.map_eq_some_iff.mp ez
    have st := same_upd (o := .tup [V.int (i : Nat), .str g]) nT
    have hT2 := upd_same (H := HB) (a := T) (o := .tup [V.int (i : Nat), .str g])
    generalize upd HB T (.tup [V.int (i : Nat), .str g]) = HC at *
    refine ⟨T, _, rfl, .inl (.inl hT2), rfl, _, _, rfl, _, _, rfl, rfl, rfl, ?_⟩
    unfold tYes
    refine iteT ⟨_, rfl, _, rfl, _, Sum.inr g, rfl, st _ _ hD, ?_, Fd.Same.putN (sm.trans st) nD, ?_⟩
    · unfold nmK
      rw [List.length_map, List.length_take, ixS_len]
      exact small1000 (by have := ok.ol; omega)
    · rw [upd_same, putK_fresh, List.take_succ, ixS_at eg]
      · unfold nmK
        rw [List.map_append]
        rfl
      · exact nm_new (by rw [ixS_nm]; exact ok.on) (ixS_at eg)
  rintro HB ⟨sm, hD⟩
  rw [List.take_of_length_le (by rw [ixS_len, List.length_map]; exact Nat.le_refl _)] at hD
  refine ⟨_, rfl, p, C, dx, _, _, rfl, sm _ _ h1, c.cl, c.nP, fldG_p _ _ _ _ _ _, dP, _, rfl, .inl (sm _ _ h3), fun l0 bs nl hb => ?_⟩
  have hb' := keys_one (by rw [List.length_map]; exact lps.symm) hb
  have lb := paired_len hb'
  have s0 := same_upd (o := .lst (bs.map V.ref)) nl
  have e0 := upd_same (H := HB) (a := l0) (o := .lst (bs.map V.ref))
  generalize upd HB l0 (.lst (bs.map V.ref)) = HC at *
  have hz := paired_zip hb'
  have ea : (((bs.zip G.ones).map (kiO G)).map fun it => V.ref it.a) = bs.map V.ref := by
    conv => rhs; rw [← zip_fst lb]
    rw [List.map_map, List.map_map]
    rfl
  refine ⟨l0, D, (bs.zip G.ones).map (kiO G), _, rfl, by rw [ea]; exact SqL.of e0, by rw [List.length_map, List.length_zip]; have := ok.ln; omega, rfl, s0 _ _ hD, fun it hit => ?_, (hT.ext sm).ext s0, fun H2 l ex T2 nl2 => ?_⟩
  · obtain ⟨q1, hq, rfl⟩ := List.mem_map.mp hit
    have ho := hz q1 hq
    have hm := hin q1.2 (List.of_mem_zip hq).2
    refine ⟨.inl (.inl (s0 _ _ ho)), ?_⟩
    have eo : G.ord[G.ord.idxOf q1.2.f.nm]? = some q1.2.f.nm := by
      rw [List.getElem?_eq_getElem (List.idxOf_lt_length_of_mem hm), List.getElem_idxOf]
    exact val_map (g := V.int) (l := ixS G.ord) (by rw [ixS_nm]; exact ok.on) (ixS_at eo)
  · have es : ((bs.zip G.ones).map (kiO G)).mergeSort kiLe = ((bs.zip G.ones).mergeSort fun p q => kiLe (kiO G p) (kiO G q)).map (kiO G) := (List.map_mergeSort (r := fun p q => kiLe (kiO G p) (kiO G q)) (s := kiLe) (f := kiO G) (fun _ _ _ _ => rfl)).symm
    have eo : ((bs.zip G.ones).mergeSort fun p q => kiLe (kiO G p) (kiO G q)).map (·.2) = G.srt := by
      rw [List.map_mergeSort (s := leO G) (fun a _ b _ => by rw [kiLe_eq]; rfl), zip_snd lb]
      rfl
    have em : ∀ p ∈ (bs.zip G.ones).mergeSort fun p q => kiLe (kiO G p) (kiO G q), OneT HB p.1 p.2 := fun p hp => hz p (List.mem_mergeSort.mp hp)
    rw [es, List.map_map]
    generalize (bs.zip G.ones).mergeSort (fun p q => kiLe (kiO G p) (kiO G q)) = PL at *
    have ex0 : ExtN H H2 := ((ExtN.of sm).trans (ExtN.of s0)).trans ex
    have e9 : PL.map ((fun it => V.ref it.a) ∘ kiO G) = (PL.map (·.1)).map V.ref := by
      rw [List.map_map]
      rfl
    rw [e9]
    have su := same_upd (o := .lst ((PL.map (·.1)).map V.ref)) nl2
    refine q l _ (PL.map (·.1)) (ex0.trans (ExtN.of su)) (T2.ext su) (newL_ext ex0 nl2) upd_same ?_
    rw [← eo]
    exact L2.Paired.mapP (paired_of em) fun a g e => su _ _ (ex _ _ (s0 _ _ e) nofun)
def spGL (w : World) (K : PySem.W.Frag) (C CH : Addr) : Sp := fun vs H Q _ => ∃ (p : Addr) (G : Gs), vs = [.ref p] ∧ GsAt w K C CH H p G ∧ Q (.int (G.ones.length : Nat)) H
theorem scGL : FnScope ["self"] ["self"] (defScope sGL) := ⟨rfl, rfl, rfl, by decide +kernel, rfl, by decide +kernel, by decide +kernel⟩
theorem ok_gl {k : Nat} (F : Fun K "__len__" "Ground.__len__" sGL f fd) (c : GCls K C) (m_len : mg "len" = none) : FnOk P w K mg base CX0 (k + 1) f fd ["self"] (spGL w K C CH) := by
  have sc := scGL
  refine F.ok sc (fun vs H Q E h => ?_) (fun cdv A outer s H vs Q E hr h => ?_)
  · obtain ⟨p, G, rfl, _⟩ := h
    rfl
  obtain ⟨p, G, rfl, hp, q⟩ := h
  refine ⟨_, (pss_one (ps_ret (pe_callB Fd.call_lenT (by rfl) m_len (by decide +kernel) (pa_cons (pe_fld (pv 0) rfl) pa_nil)))), ?_⟩
  obtain ⟨⟨dx, dF, dP, dS, dH, ps, hs, h0, n, h1, h2, h3, h4, h5, h6, h7, h8⟩, ok⟩ := hp
  refine ⟨_, rfl, p, C, dx, _, _, rfl, h1, c.cl, c.nP, fldG_p _ _ _ _ _ _, dP, _, rfl, h3, ?_⟩
  rw [dkO_len (by rw [List.length_map]; exact (paired_len h4).symm)]
  exact q
def spGW (w : World) (K : PySem.W.Frag) (C CH : Addr) : Sp := fun vs H Q _ => ∃ (p b : Addr) (G : Gs) (o : One), vs = [.ref p, .ref b] ∧ GsAt w K C CH H p G ∧ OneV K H b o ∧ o ∈ G.ones ∧ ∀ H', Same H H' → Q (.bl o.sh) H'
theorem scGW : FnScope ["self", "one"] ["self", "one"] (defScope sGW) := ⟨rfl, rfl, rfl, by decide +kernel, rfl, by decide +kernel, by decide +kernel⟩
theorem ok_gw {k : Nat} (F : Fun K "is_shown" "Ground.is_shown" sGW f fd) (c : GCls K C) (m_tuple : mg "tuple" = none) : FnOk P w K mg base CX0 (k + 1) f fd ["self", "one"] (spGW w K C CH) := by
  have sc := scGW
  refine F.ok sc (fun vs H Q E h => ?_) (fun cdv A outer s H vs Q E hr h => ?_)
  · obtain ⟨p, b, G, g, rfl, _⟩ := h
    rfl
  obtain ⟨p, b, G, g, rfl, hp, hb, hg, q⟩ := h
  refine ⟨_, (pss_one (ps_ret (pe_dget (hu_of hr) (pe_fld (pv 0) rfl) (pe_callTy (show CallR _ (.type "tuple") (rTupO K) from call_tuple_of) (by rfl) m_tuple (by decide +kernel) (pa_cons (pv 1) pa_nil)) (fun _ _ => rfl)))), ?_⟩
  obtain ⟨⟨dx, dF, dP, dS, dH, ps, hs, h0, n, h1, h2, h3, h4, h5, h6, h7, h8⟩, ok⟩ := hp
  obtain ⟨i, ei⟩ := List.mem_iff_getElem?.mp hg
  refine ⟨_, rfl, p, C, dx, _, _, rfl, h1, c.cl, c.nS, fldG_s _ _ _ _ _ _, _, rfl, ?_⟩
  unfold tNil
  have lsh : G.ones.length = (shO G).length := by unfold shO; rw [List.length_map]
  exact key_or hb fun l H' s _ hl => ⟨dS, .bl g.sh, rfl, .inr ⟨_, g.key, l, .inl (s _ _ h5), rfl, hl, (val_at (dkO_nd lsh ok.nd) (dkO_at ei (by unfold shO; rw [List.getElem?_map, ei]; rfl))).symm⟩, q H' s⟩
end
end Fd

set_option Elab.async false
set_option linter.all false
set_option maxRecDepth 100000
set_option maxHeartbeats 1000000
namespace Fd
open PySem PySem.Spec PyProof.Rows L2 RZ Fw
/-- the drawer's box: its three numbers, drawn from at most n times -/
def Box (H : Hp) (a : Addr) (n : Nat) : Prop := ∃ b0 b1 b2 : Int, H a = some (.lst [.int b0, .int b1, .int b2]) ∧ 0 ≤ b0 ∧ 0 ≤ b1 ∧ b1 < 4611686018427387904 ∧ 0 ≤ b2 ∧ b2 ≤ n
theorem Box.same {H H' : Hp} {a : Addr} {n : Nat} (b : Box H a n) (s : Same H H') : Box H' a n := by
  obtain ⟨b0, b1, b2, h, r⟩ := b
  exact ⟨b0, b1, b2, s _ _ h, r⟩
theorem Box.le {H : Hp} {a : Addr} {n m : Nat} (b : Box H a n) (h : n ≤ m) : Box H a m := by
  obtain ⟨b0, b1, b2, e, h0, h1, h2, h3, h4⟩ := b
  exact ⟨b0, b1, b2, e, h0, h1, h2, h3, by omega⟩
theorem bit_lo (b : Bool) : -(2 ^ 64) < (if b = true then (1 : Int) else 0) := by cases b <;> decide
theorem bit_hi (b : Bool) : (if b = true then (1 : Int) else 0) < 2 ^ 64 := by cases b <;> decide
theorem bit_nn (b : Bool) : 0 ≤ (if b = true then (1 : Int) else 0) := by cases b <;> decide
section
variable {P : Program} {w : World} {K : PySem.W.Frag} {mg : Str → Option Value} {base : Heap} {f : Addr} {fd : FuncData}
abbrev sTake : Stmt := top 40
theorem scTake : FnScope ["_law_box_here", "_law_many", "_law_found", "_law_once", "_law_twice"] ["_law_box_here", "_law_many"] (defScope sTake) := ⟨rfl, rfl, rfl, by decide +kernel, rfl, by decide +kernel, by decide +kernel⟩
def spTake : Sp := fun vs H Q _ => ∃ (a : Addr) (n : Nat) (m : Int), vs = [.ref a, .int m] ∧ Box H a n ∧ n ≤ 1000000 ∧ 0 < m ∧ m ≤ 100000 ∧
  ∀ r H', 0 ≤ r → r < m → But a H H' → Box H' a (n + 1) → Q (.int r) H'
theorem ok_take {k : Nat} (F : Fun K "_law_take" "_law_take" sTake f fd) (m_divmod : mg "divmod" = none) : FnOk P w K mg base CX0 (k + 1) f fd ["_law_box_here", "_law_many"] spTake := by
  have sc := scTake
  refine F.ok sc (fun vs H Q E h => ?_) (fun cdv A outer s H vs Q E hr h => ?_)
  · obtain ⟨a, n, m, rfl, _⟩ := h
    rfl
  obtain ⟨a, n, m, rfl, hB, hn, m0, m1, q⟩ := h
  refine ⟨_, (pss_cons (ps_if (pt_cmpR op_gt (pe_ix ix_list (pv 0) pe_int (fun _ _ => rfl)) pe_int (nomark _)) (pss_cons (ps_asg (pe_callB call_divmod (by rfl) m_divmod (by decide +kernel) (pa_cons (pe_ix ix_list (pv 0) pe_int (fun _ _ => rfl)) (pa_cons (pv 1) pa_nil))) (pg_tup (by rfl) (pgs_cons (pg_sub (pv 0) pe_int set_list) (pgs_cons (pg_name (i := 2) sc.nd rfl (.inl rfl)) pgs_nil))))
      (pss_one (ps_ret (pv 2)))) pss_nil)
      (pss_cons (ps_asg (pe_op op_add (pe_ix ix_list (pv 0) pe_int (fun _ _ => rfl)) pe_int) (pg_sub (pv 0) pe_int set_list))
      (pss_cons (ps_set (i := 3) sc.nd rfl (.inl rfl) (pe_op op_mod (pe_op op_mul (pe_op op_add (pe_ix ix_list (pv 0) pe_int (fun _ _ => rfl)) (pe_op op_mul pe_int (pe_ix ix_list (pv 0) pe_int (fun _ _ => rfl)))) (pe_op op_add pe_int (pe_ix ix_list (pv 0) pe_int (fun _ _ => rfl)))) pe_int))
      (pss_cons (ps_set (i := 4) sc.nd rfl (.inl rfl) (pe_op op_mod (pe_op op_mul (pe_op op_add (pe_op op_add (pv 3) (pe_ix ix_list (pv 0) pe_int (fun _ _ => rfl))) (pe_op op_fdivW (pe_ix ix_list (pv 0) pe_int (fun _ _ => rfl)) pe_int)) (pe_op op_add (pe_op op_mod (pv 3) pe_int) pe_int)) pe_int))
      (pss_one (ps_ret (pe_op op_mod (pe_op op_fdivW (pe_op op_mod (pe_op op_add (pe_op op_mul (pv 4) pe_int) (pv 3)) pe_int) pe_int) (pv 1)))))))), ?_⟩
  obtain ⟨b0, b1, b2, e, h0, h1, h2, h3, h4⟩ := hB
  refine ⟨_, rfl, a, _, 0, .int b0, rfl, rfl, SqL.of e, rfl, b0, 0, rfl, rfl, _, rfl, ite2 (fun c => ?_) (fun c => ?_)⟩
  · have c' : (0 : Int) < b0 := of_decide_eq_true c
    refine ⟨_, rfl, a, _, 0, .int b0, rfl, rfl, SqL.of e, rfl, _, rfl, b0, m, rfl, ⟨m0, by omega⟩, fun p np => ?_⟩
    have e1 := same_upd (o := .tup [.int (b0 / m), .int (b0 % m)]) np a _ e
    have lt : b0 % m < m := Int.emod_lt_of_pos _ m0
    have ge : 0 ≤ b0 % m := Int.emod_nonneg _ (by omega)
    have dv : 0 ≤ b0 / m := Int.ediv_nonneg h0 (by omega)
    refine ⟨p, _, rfl, .inl (.inl upd_same), rfl, _, _, rfl, _, rfl, a, _, 0, 0, rfl, rfl, e1, rfl, _, _, rfl, rfl, _, rfl, ?_⟩
    refine q _ _ ge lt (fun b o nb ho => ?_) ⟨b0 / m, b1, b2, upd_same, dv, h1, h2, h3, by omega⟩
    rw [upd_ne nb]
    exact same_upd np b o ho
  · have eS := SqL.of (K := K) e
    refine ⟨_, rfl, a, _, 2, .int b2, rfl, rfl, eS, rfl, b2, 1, rfl, rfl, _, rfl, a, _, 2, 2, rfl, rfl, e, rfl, ?_⟩
    have e1 : (upd H a (.lst [.int b0, .int b1, .int (b2 + 1)])) a = some (.lst [.int b0, .int b1, .int (b2 + 1)]) := upd_same
    have eS := SqL.of (K := K) e1
    refine ⟨_, rfl, a, _, 1, .int b1, rfl, rfl, eS, rfl, _, rfl, a, _, 2, .int (b2 + 1), rfl, rfl, eS, rfl, 48271, b2 + 1, rfl, rfl, .inl ⟨by decide, by decide⟩, b1, _, rfl, rfl,
      _, rfl, a, _, 2, .int (b2 + 1), rfl, rfl, eS, rfl, 39373, b2 + 1, rfl, rfl, _, _, rfl, rfl, .inl ⟨by omega, by omega⟩, _, 2147483647, rfl, rfl, (show (0 : Int) < 2147483647 by decide), ?_⟩
    dsimp only
    generalize ho : (b1 + 48271 * (b2 + 1)) * (39373 + (b2 + 1)) % 2147483647 = once
    have o0 : 0 ≤ once := by rw [← ho]; exact Int.emod_nonneg _ (by decide)
    have o1 : once < 2147483647 := by rw [← ho]; exact Int.emod_lt_of_pos _ (by decide)
    have o2 : 0 ≤ once % 40009 := Int.emod_nonneg _ (by decide)
    have o3 : once % 40009 < 40009 := Int.emod_lt_of_pos _ (by decide)
    refine ⟨_, rfl, _, rfl, a, _, 2, .int (b2 + 1), rfl, rfl, eS, rfl, once, b2 + 1, rfl, rfl, _, rfl, a, _, 1, .int b1, rfl, rfl, eS, rfl, b1, 1000003, rfl, rfl, wide_div (b := 20) (by decide) (by decide) (by decide) (by decide),
      _, _, rfl, rfl, _, rfl, once, 40009, rfl, rfl, (show (0 : Int) < 40009 by decide), once % 40009, 7, rfl, rfl, _, _, rfl, rfl, .inr ⟨by omega, by omega⟩, _, 2147483629, rfl, rfl, (show (0 : Int) < 2147483629 by decide), ?_⟩
    dsimp only
    generalize ht : (once + (b2 + 1) + b1 / 1000003) * (once % 40009 + 7) % 2147483629 = twice
    refine ⟨_, rfl, twice, 48271, rfl, rfl, .inr ⟨by decide, by decide⟩, _, rfl, _, once, rfl, rfl, _, 2147483587, rfl, rfl, (show (0 : Int) < 2147483587 by decide), _, 64, rfl, rfl, wide_div (b := 7) (by decide) (by decide) (by decide) (by decide), _, rfl, _, m, rfl, rfl, m0, ?_⟩
    exact q _ _ (Int.emod_nonneg _ (by omega)) (Int.emod_lt_of_pos _ m0) But.upd ⟨b0, b1, b2 + 1, e1, h0, h1, h2, by omega, by omega⟩
abbrev sBox : Stmt := top 39
theorem scBox : FnScope ["_law_script", "_law_k", "_law_cell"] ["_law_script", "_law_k"] (defScope sBox) := ⟨rfl, rfl, rfl, by decide +kernel, rfl, by decide +kernel, by decide +kernel⟩
def spBox (K : PySem.W.Frag) : Sp := fun vs H Q _ => ∃ (a : Addr) (k : Nat) (ns : List Int), vs = [.ref a, .int k] ∧ SqL K H a (ns.map V.int) ∧ k < 100 ∧
  ∀ p H', Same H H' → H p = none → Box H' p 0 → Q (.ref p) H'
theorem ok_boxd {k : Nat} (F : Fun K "_law_box" "_law_box" sBox f fd) (m_len : mg "len" = none) (m_abs : mg "abs" = none) (m_int : mg "int" = none) :
    FnOk P w K mg base CX0 (k + 1) f fd ["_law_script", "_law_k"] (spBox K) := by
  have sc := scBox
  refine F.ok sc (fun vs H Q E h => ?_) (fun cdv A outer s H vs Q E hr h => ?_)
  · obtain ⟨a, n, m, rfl, _⟩ := h
    rfl
  obtain ⟨a, i, ns, rfl, hS, hi, q⟩ := h
  refine ⟨_, (pss_cons (ps_set (i := 2) sc.nd rfl (.inl rfl) (pe_ifExp (pt_cmpR op_lt (pv 1) (pe_callB call_len_seq (by rfl) m_len (by decide +kernel) (pa_cons (pv 0) pa_nil)) (nomark _)) (pe_ix ix_list (pv 0) (pv 1) (fun _ _ => rfl)) pe_int))
      (pss_one (ps_ret (pe_lst (pa_cons (pe_op op_mul (pe_callB call_abs (by rfl) m_abs (by decide +kernel) (pa_cons (pv 2) pa_nil)) (pe_callTy call_int1 (by rfl) m_int (by decide +kernel) (pa_cons (pe_cmpR op_ge (pe_callB call_abs (by rfl) m_abs (by decide +kernel) (pa_cons (pv 2) pa_nil)) (pe_op op_pow pe_int pe_int) (nomark _)) pa_nil))) (pa_cons (pe_op op_add (pe_op op_add (pe_op op_mod (pv 2) pe_int) (pe_op op_mul pe_int (pv 1))) pe_int) (pa_cons pe_int pa_nil))))))), ?_⟩
  refine ⟨_, rfl, _, rfl, a, _, rfl, .inl hS, i, _, rfl, rfl, _, rfl, ifE (fun v => ∃ cell : Int, v = .int cell) (fun c => ?_) (fun c => ⟨_, ⟨0, rfl⟩, fun Q' h => h⟩) ?_⟩
  · have c' : (i : Int) < ((ns.map V.int).length : Nat) := of_decide_eq_true c
    rw [List.length_map] at c'
    have hl : i < ns.length := by omega
    exact ⟨_, ⟨ns[i], rfl⟩, fun Q' h => ⟨_, rfl, _, rfl, a, _, i, .int ns[i], rfl, rfl, hS, atI_nat (by rw [List.getElem?_map, List.getElem?_eq_getElem hl]; rfl), h⟩⟩
  rintro _ ⟨cell, rfl⟩
  refine ⟨_, rfl, cell, rfl, _, rfl, cell, rfl, 10, 18, rfl, rfl, ⟨by decide, by decide, by decide⟩, _, _, rfl, rfl, .inr ⟨_, rfl, _, _, rfl, rfl, .inr ⟨bit_lo _, bit_hi _⟩, ?_⟩⟩
  refine ⟨_, rfl, cell, 2305843009213693951, rfl, rfl, (show (0 : Int) < 2305843009213693951 by decide), _, rfl, 39373, i, rfl, rfl, .inl ⟨by decide, by decide⟩, _, _, rfl, rfl, _, 17, rfl, rfl, ?_⟩
  have z0 : 0 ≤ cell % 2305843009213693951 := Int.emod_nonneg _ (by decide)
  have z1 : cell % 2305843009213693951 < 2305843009213693951 := Int.emod_lt_of_pos _ (by decide)
  refine ⟨by show 3 ≤ sizeLine; decide, fun p np => q p _ (same_upd np) np ⟨_, _, _, upd_same, ?_, ?_, ?_, Int.le_refl 0, Int.le_refl 0⟩⟩
  · refine Int.mul_nonneg ?_ (bit_nn _)
    split <;> omega
  · show 0 ≤ cell % 2305843009213693951 + 39373 * (i : Int) + 17
    omega
  · show cell % 2305843009213693951 + 39373 * (i : Int) + 17 < 4611686018427387904
    omega
end
end Fd

set_option Elab.async false
set_option linter.all false
set_option maxRecDepth 100000
set_option maxHeartbeats 1000000
namespace Fd
open PySem PySem.Spec PyProof.Rows L2 RZ Fw
section
variable {X : Cx}
/-- text * number -/
theorem op_mul_str : OpR X (binaryOp .Mult) (fun x y H Q => ∃ z n, x = .str z ∧ y = .int n ∧ MulOk z n ∧ Q (.str (Txt.mul z n)) H) := by
  intro pins s σ H x y v u Q I rx ry h
  obtain ⟨z, n, rfl, rfl, hz, q⟩ := h
  obtain ⟨t, rfl⟩ := rx
  obtain ⟨t', rfl⟩ := ry
  exact SB.mul hz fun t' tk => ⟨.str (Txt.mul z n), H, I.tok _, ⟨_, rfl⟩, q⟩
end
/-! ### words -/
/-- one to eight letters a to z -/
def IsNm (z : Str) : Prop := 1 ≤ z.cps.size ∧ z.cps.size ≤ 8 ∧ ∀ c ∈ z.cps.toList, 97 ≤ c ∧ c ≤ 122
abbrev ltrs : Str := Str.ofString "abcdefghijklmnoprstuvwxyz"
theorem ltrs_len : ltrs.cps.toList.length = 25 := by decide +kernel
theorem ltrs_all : ∀ c ∈ ltrs.cps.toList, 97 ≤ c ∧ c ≤ 122 := by decide +kernel
theorem ltrs_nodup : ltrs.cps.toList.Nodup := by decide +kernel
def ltr (i : Nat) : Nat := ltrs.cps.toList.getD i 0
theorem ltr_at {i : Nat} (h : i < 25) : ltrs.cps.toList[i]? = some (ltr i) := by
  have h' : i < ltrs.cps.toList.length := by rw [ltrs_len]; exact h
  unfold ltr
  rw [List.getD_eq_getElem?_getD, List.getElem?_eq_getElem h']
  rfl
theorem ltr_ok {i : Nat} (h : i < 25) : 97 ≤ ltr i ∧ ltr i ≤ 122 := ltrs_all _ (List.mem_of_getElem? (ltr_at h))
theorem ltr_inj {i j : Nat} (hi : i < 25) (hj : j < 25) (e : ltr i = ltr j) : i = j := nd_ix ltrs_nodup (ltr_at hi) (by rw [e]; exact ltr_at hj)
theorem ltr_atI {i : Int} (h0 : 0 ≤ i) (h : i < 25) : atI ltrs.cps.toList i = some (ltr i.toNat) := by
  have e : i = ((i.toNat : Nat) : Int) := by omega
  rw [e]
  exact atI_nat (by rw [Int.toNat_natCast]; exact ltr_at (by omega))
theorem ltrs_fit : ltrs.length ≤ sizeLine := by decide +kernel
theorem nodup_of {α : Type} {f : Nat → α} {m : Nat} (h : ∀ i j, i < j → j < m → f i ≠ f j) : ((List.range m).map f).Nodup := by
  refine List.pairwise_iff_getElem.mpr fun i j hi hj hij => ?_
  rw [List.length_map, List.length_range] at hi hj
  rw [List.getElem_map, List.getElem_map, List.getElem_range, List.getElem_range]
  exact h i j hij hj
/-- the k-th word of one letter told k + 1 times -/
def rep (c : Nat) (k : Nat) : Str := Txt.mul ⟨#[c]⟩ ((k : Int) + 1)
theorem fold_app (c : Nat) : ∀ (n : Nat) (acc : Array Nat), ((List.replicate n (#[c] : Array Nat)).foldl (· ++ ·) acc).toList = acc.toList ++ List.replicate n c
  | 0, acc => by simp
  | n + 1, acc => by
    rw [List.replicate_succ, List.foldl_cons, fold_app c n, Array.toList_append, List.replicate_succ, List.append_assoc]
    rfl
theorem rep_codes (c k : Nat) : (rep c k).cps.toList = List.replicate (k + 1) c := by
  unfold rep Txt.mul
  rw [if_neg (by omega)]
  by_cases h : k = 0
  · subst h
    rfl
  · have e : (((k : Int) + 1 == 1) || ((⟨#[c]⟩ : Str).length == 0)) = false := by
      rw [show ((k : Int) + 1 == 1) = false from beq_eq_false_iff_ne.mpr (by omega)]
      rfl
    rw [e, if_neg Bool.false_ne_true, show ((k : Int) + 1).toNat = k + 1 by omega]
    exact (fold_app c (k + 1) #[]).trans (List.nil_append _)
theorem rep_ok {c k : Nat} (hk : k < 7) : MulOk ⟨#[c]⟩ ((k : Int) + 1) := by
  refine ⟨?_, fun _ _ => ?_, fun _ _ => ?_⟩
  · rw [decide_eq_false (by omega), decide_eq_false (by omega)]
    rfl
  · show ¬ ((1 : Int) > (2 ^ 63 - 1) / ((k : Int) + 1))
    have : k = 0 ∨ k = 1 ∨ k = 2 ∨ k = 3 ∨ k = 4 ∨ k = 5 ∨ k = 6 := by omega
    rcases this with rfl | rfl | rfl | rfl | rfl | rfl | rfl <;> decide
  · rw [show (⟨#[c]⟩ : Str).length * ((k : Int) + 1).toNat = k + 1 by show 1 * _ = _; omega]
    have : k = 0 ∨ k = 1 ∨ k = 2 ∨ k = 3 ∨ k = 4 ∨ k = 5 ∨ k = 6 := by omega
    rcases this with rfl | rfl | rfl | rfl | rfl | rfl | rfl <;> decide +kernel
theorem rep_nm {c k : Nat} (hc : 97 ≤ c ∧ c ≤ 122) (hk : k < 7) : IsNm (rep c k) := by
  have l : (rep c k).cps.size = k + 1 := by rw [← Array.length_toList, rep_codes, List.length_replicate]
  refine ⟨by omega, by omega, fun x hx => ?_⟩
  rw [rep_codes] at hx
  rw [List.eq_of_mem_replicate hx]
  exact hc
theorem rep_ne {c i j : Nat} (h : i < j) : rep c i ≠ rep c j := fun e => by
  have := congrArg (fun z : Str => z.cps.toList.length) e
  simp only [rep_codes, List.length_replicate] at this
  omega
/-- a stem with one letter put in -/
def put1 (z : Str) (at_ : Int) (c : Nat) : Str := cutS z none (some at_) ++ ⟨#[c]⟩ ++ cutS z (some at_) none
theorem put1_codes {z : Str} {n : Nat} (h : n ≤ z.length) (c : Nat) : (put1 z (n : Int) c).cps.toList = z.cps.toList.take n ++ c :: z.cps.toList.drop n := by
  have l : z.cps.toList.length = z.length := Array.length_toList
  have e1 : (cutS z none (some (n : Int))).cps.toList = z.cps.toList.take n := by
    show ((z.cps.toList.drop (HT.sIx z.length 0 none)).take (HT.sIx z.length z.length (some (n : Int)) - HT.sIx z.length 0 none)) = _
    rw [HT.sIx_none, HT.sIx_nat, Nat.min_eq_left h]
    rfl
  have e2 : (cutS z (some (n : Int)) none).cps.toList = z.cps.toList.drop n := by
    show ((z.cps.toList.drop (HT.sIx z.length 0 (some (n : Int)))).take (HT.sIx z.length z.length none - HT.sIx z.length 0 (some (n : Int)))) = _
    rw [HT.sIx_none, HT.sIx_nat, Nat.min_eq_left h]
    exact List.take_of_length_le (by rw [List.length_drop, l]; exact Nat.le_refl _)
  show ((cutS z none (some (n : Int))).cps ++ #[c] ++ (cutS z (some (n : Int)) none).cps).toList = _
  rw [Array.toList_append, Array.toList_append, e1, e2, List.append_assoc]
  rfl
theorem put1_nm {z : Str} {n c : Nat} (h : n ≤ z.length) (hz : z.length ≤ 7) (hs : ∀ x ∈ z.cps.toList, 97 ≤ x ∧ x ≤ 122) (hc : 97 ≤ c ∧ c ≤ 122) : IsNm (put1 z (n : Int) c) := by
  have l0 : z.cps.toList.length = z.length := Array.length_toList
  have l : (put1 z (n : Int) c).cps.size = z.length + 1 := by
    rw [← Array.length_toList, put1_codes h, List.length_append, List.length_cons, List.length_take, List.length_drop, l0]
    omega
  refine ⟨by omega, by omega, fun x hx => ?_⟩
  rw [put1_codes h] at hx
  rcases List.mem_append.mp hx with q | q
  · exact hs _ (List.mem_of_mem_take q)
  · rcases List.mem_cons.mp q with q | q
    · rw [q]; exact hc
    · exact hs _ (List.mem_of_mem_drop q)
theorem put1_ne {z : Str} {n c c' : Nat} (h : n ≤ z.length) (hc : c ≠ c') : put1 z (n : Int) c ≠ put1 z (n : Int) c' := fun e => by
  have q := congrArg (fun z : Str => z.cps.toList) e
  simp only [put1_codes h] at q
  exact hc (List.cons.inj (List.append_cancel_left q)).1
abbrev one (c : Nat) : Str := ⟨#[c]⟩
theorem glue1 : ∀ (cs : List Nat) (acc : Array Nat), ((cs.map one).foldl (fun acc p => acc ++ (Str.ofString "").cps ++ p.cps) acc).toList = acc.toList ++ cs
  | [], acc => by simp
  | c :: cs, acc => by
    rw [List.map_cons, List.foldl_cons, glue1 cs, Array.toList_append, Array.toList_append, show (Str.ofString "").cps.toList = [] by decide +kernel, List.append_nil, List.append_assoc]
    rfl
theorem join1 : ∀ cs : List Nat, (Txt.join (Str.ofString "") (cs.map one)).cps.toList = cs
  | [] => rfl
  | c :: cs => glue1 cs #[c]
theorem But.free {a d : Addr} {H H' : Hp} {o : HO} (s : But a H H') (ha : H' a = some o) (h : H' d = none) : H d = none := by
  cases q : H d with
  | none => rfl
  | some u =>
    by_cases e : d = a
    · rw [e, ha] at h
      cases h
    · rw [s d u e q] at h
      cases h
theorem Box.is {H : Hp} {a : Addr} {n : Nat} (b : Box H a n) : ∃ o, H a = some o := by
  obtain ⟨b0, b1, b2, h, _⟩ := b
  exact ⟨_, h⟩
theorem Box.ne {H : Hp} {a d : Addr} {n : Nat} (b : Box H a n) (h : H d = none) : a ≠ d := by
  obtain ⟨o, e⟩ := b.is
  exact ne_of_none e h
theorem Box.upd {H : Hp} {a d : Addr} {n : Nat} {o : HO} (b : Box H a n) (h : a ≠ d) : Box (upd H d o) a n := by
  obtain ⟨b0, b1, b2, e, r⟩ := b
  exact ⟨b0, b1, b2, by rw [upd_ne h]; exact e, r⟩
theorem ifT {c : Prop} [Decidable c] {A B : Prop} (hc : c) (h : A) : if decide c = true then A else B := by
  rw [if_pos (decide_eq_true hc)]
  exact h
theorem ifF {c : Prop} [Decidable c] {A B : Prop} (hc : ¬ c) (h : B) : if decide c = true then A else B := by
  rw [decide_eq_false hc, if_neg Bool.false_ne_true]
  exact h
abbrev wordsT : Str := Str.ofString "stage figure name list run done else ground piece script x y way number"
def wds : List Str := Txt.split wordsT " "
theorem cut_from (xs : List V) (m : Nat) : cutV xs (some (m : Int)) none = xs.drop m := by
  unfold cutV
  rw [HT.sIx_nat, HT.sIx_none]
  by_cases h : m ≤ xs.length
  · rw [Nat.min_eq_left h, List.take_of_length_le (by rw [List.length_drop]; exact Nat.le_refl _)]
  · rw [Nat.min_eq_right (by omega), List.drop_eq_nil_of_le (Nat.le_refl _), List.drop_eq_nil_of_le (by omega), List.take_nil]
theorem wds_len {s m : Nat} (hs : s < 14) (hm : m ≤ 6) : (((wds ++ wds).drop s).take m).length = m := by
  have : (wds ++ wds).length = 28 := by decide +kernel
  rw [List.length_take, List.length_drop, this]
  omega
theorem wds_nd6 : ∀ s : Fin 14, (((wds ++ wds).drop s.val).take 6).Nodup := by decide +kernel
theorem wds_nd {s m : Nat} (hs : s < 14) (hm : m ≤ 6) : (((wds ++ wds).drop s).take m).Nodup := by
  have h := wds_nd6 ⟨s, hs⟩
  have e : ((wds ++ wds).drop s).take m = (((wds ++ wds).drop s).take 6).take m := by rw [List.take_take, Nat.min_eq_left hm]
  rw [e]
  exact h.sublist (List.take_sublist _ _)
theorem wds_a : ∀ z ∈ wds ++ wds, z.cps.size ≤ 8 ∧ ∀ c ∈ z.cps.toList, c < 128 := by decide +kernel
theorem wds_asc {s m : Nat} (hs : s < 14) : ∀ z ∈ ((wds ++ wds).drop s).take m, Asc 8 z := fun z hz => by
  obtain ⟨h1, h2⟩ := wds_a z (List.mem_of_mem_drop (List.mem_of_mem_take hz))
  exact ⟨h1, h2⟩
theorem mul_ok {c : Nat} {r : Int} (h : 0 ≤ r) (h7 : r < 7) : MulOk ⟨#[c]⟩ r := by
  by_cases h0 : r = 0
  · subst h0
    exact ⟨by decide, fun z => absurd (by decide : (0 : Int) < 1) z, fun z => absurd (by decide : (0 : Int) < 1) z⟩
  · obtain ⟨k, rfl⟩ : ∃ k : Nat, r = (k : Int) + 1 := ⟨(r - 1).toNat, by omega⟩
    exact rep_ok (by omega)
theorem mul_asc {c : Nat} {r : Int} (hc : 97 ≤ c ∧ c ≤ 122) (h : 0 ≤ r) (h7 : r < 7) : Asc 6 (Txt.mul (one c) r) := by
  by_cases h0 : r = 0
  · subst h0
    exact ⟨by show 0 ≤ 6; decide, fun x hx => by cases hx⟩
  · obtain ⟨k, rfl⟩ : ∃ k : Nat, r = (k : Int) + 1 := ⟨(r - 1).toNat, by omega⟩
    refine ⟨?_, fun x hx => ?_⟩
    · show (rep c k).cps.size ≤ 6
      rw [← Array.length_toList, rep_codes, List.length_replicate]
      omega
    · have hx : x ∈ (rep c k).cps.toList := hx
      rw [rep_codes] at hx
      rw [List.eq_of_mem_replicate hx]
      omega
theorem asc_one {c : Nat} (hc : 97 ≤ c ∧ c ≤ 122) : Asc 1 (one c) := ⟨Nat.le_refl _, fun x hx => by
  have : x = c := by simpa using hx
  omega⟩
theorem asc_rep {c k : Nat} (hc : 97 ≤ c ∧ c ≤ 122) : Asc (k + 1) (rep c k) := ⟨by rw [← Array.length_toList, rep_codes, List.length_replicate]; exact Nat.le_refl _, fun x hx => by
  rw [rep_codes] at hx
  rw [List.eq_of_mem_replicate hx]
  omega⟩
theorem cps_app {x y : Str} : (x ++ y).cps.toList = x.cps.toList ++ y.cps.toList := by rw [Str.cps_append, Array.toList_append]
/-- a stem and two letters -/
def two (stem : Str) (c : Nat) : Str := cutS stem none (some 6) ++ one (ltr (c / 25)) ++ one (ltr (c % 25))
theorem two_asc {stem : Str} {c : Nat} (h : Asc 6 stem) (hc : c < 625) : Asc 8 (two stem c) := ((h.cut none (some 6)).app (asc_one (ltr_ok (by omega)))).app (asc_one (ltr_ok (by omega)))
theorem two_ne {stem : Str} {c d : Nat} (hc : c < 625) (hd : d < 625) (n : c ≠ d) : two stem c ≠ two stem d := fun e => by
  have h := congrArg (fun z : Str => z.cps.toList) e
  unfold two at h
  simp only [cps_app, List.append_assoc] at h
  have h := List.append_cancel_left h
  have h1 : [ltr (c / 25), ltr (c % 25)] = [ltr (d / 25), ltr (d % 25)] := h
  injection h1 with a b
  injection b with b _
  have h1 := ltr_inj (by omega) (by omega) a
  have h2 := ltr_inj (by omega) (by omega) b
  omega
section
variable {P : Program} {w : World} {K : PySem.W.Frag} {mg : Str → Option Value} {base : Heap} {f : Addr} {fd : FuncData}
abbrev sNames : Stmt := top 41
theorem scNames : FnScope ["_law_box_here", "_law_many", "_law_letters", "_law_start", "_law_way", "_law_words", "_law_stem", "_law_step", "_law_found", "_law_k", "_law_who", "_law_two"] ["_law_box_here", "_law_many"] (defScope sNames) := ⟨rfl, rfl, rfl, by decide +kernel, rfl, by decide +kernel, by decide +kernel⟩
def spNames : Sp := fun vs H Q _ => ∃ (a : Addr) (n m : Nat), vs = [.ref a, .int m] ∧ Box H a n ∧ n + 6 ≤ 1000000 ∧ m ≤ 6 ∧
  ∀ (p : Addr) (ws : List Str) (H' : Hp), But a H H' → Box H' a (n + 6) → H p = none → H' p = some (.lst (ws.map V.str)) → ws.length = m → ws.Nodup → (∀ z ∈ ws, Asc 8 z) → Q (.ref p) H'
theorem ok_names {k : Nat} (F : Fun K "_law_names" "_law_names" sNames f fd) (G : FnG P w K mg base CX0 k "_law_take" ["_law_box_here", "_law_many"] spTake) (m_len : mg "len" = none) (m_range : mg "range" = none) (m_divmod : mg "divmod" = none) :
    FnOk P w K mg base CX0 (k + 1) f fd ["_law_box_here", "_law_many"] spNames := by
  obtain ⟨_, _, G__law_take, m__law_take, k__law_take, b__law_take⟩ := G
  have sc := scNames
  refine F.ok sc (fun vs H Q E h => ?_) (fun cdv A outer s H vs Q E hr h => ?_)
  · obtain ⟨a, n, m, rfl, _⟩ := h
    rfl
  obtain ⟨a, n, m, rfl, hB, hn, hm, q⟩ := h
  refine ⟨_, (pss_cons (ps_asg (pe_tup (pa_cons pe_str (pa_cons (pe_call G__law_take (hr.mono (by omega)) (by rfl) m__law_take k__law_take b__law_take .nil pass0 (pa_cons (pv 0) (pa_cons pe_int pa_nil))) (pa_cons (pe_call G__law_take (hr.mono (by omega)) (by rfl) m__law_take k__law_take b__law_take .nil pass0 (pa_cons (pv 0) (pa_cons pe_int pa_nil))) pa_nil)))) (pg_tup (by rfl) (pgs_cons (pg_name (i := 2) sc.nd rfl (.inr rfl)) (pgs_cons (pg_name (i := 3) sc.nd rfl (.inr rfl)) (pgs_cons (pg_name (i := 4) sc.nd rfl (.inl rfl)) pgs_nil)))))
      (pss_cons (ps_set (i := 5) sc.nd rfl (.inl rfl) (pe_bm PySem.F.plainAttrs_str PySem.F.slot_str_split PySem.F.type_str_split mt_split pe_str (pa_cons pe_str pa_nil)))
      (pss_cons (ps_if (pt_cmpR op_eq (pv 4) pe_int (nomark _)) (pss_one (ps_ret (pe_slice sl_list (pe_slice sl_list (pe_op op_cat (pv 5) (pv 5)) (po_some (pe_op op_mod (pv 3) pe_int)) po_none) po_none (po_some (pv 1))))) pss_nil)
      (pss_cons (ps_set (i := 6) sc.nd rfl (.inr rfl) (pe_op op_mul_str (pe_ix ix_str (pv 2) (pe_call G__law_take (hr.mono (by omega)) (by rfl) m__law_take k__law_take b__law_take .nil pass0 (pa_cons (pv 0) (pa_cons pe_int pa_nil))) (fun _ _ => rfl)) (pe_call G__law_take (hr.mono (by omega)) (by rfl) m__law_take k__law_take b__law_take .nil pass0 (pa_cons (pv 0) (pa_cons pe_int pa_nil)))))
      (pss_cons (ps_if (PW.pt (pw_and (pt_cmpR op_eq (pv 4) pe_int (nomark _)) (pw_and1 (pt_cmpR op_lt (pv 1) pe_int (nomark _))))) (pss_one (ps_ret (pe_lc (own := [("_law_k", 9)]) (by rfl) sc.nd  (pi_range1 (by rfl) m_range (pa_cons (pv 1) pa_nil)) (blkOk_by (own := [("_law_k", 9)]) (N := ["_law_box_here", "_law_many", "_law_letters", "_law_start", "_law_way", "_law_words", "_law_stem", "_law_step", "_law_found", "_law_k", "_law_who", "_law_two"]) (sc := defScope sNames) (by decide +kernel)) (fun _ _ _ _ _ => (pg_name (i := 9) sc.nd rfl (.inl rfl))) (fun _ _ _ _ _ => pts_nil) (fun _ _ _ _ _ => (pe_op op_add_str (pe_slice sl_str (pv 6) po_none (po_some pe_int)) (pe_op op_mul_str (pe_ix ix_str (pv 2) (pe_op op_mod (pv 3) pe_int) (fun _ _ => rfl)) (pe_op op_add (pv 9) pe_int))))))) pss_nil)
      (pss_cons (ps_par (i := 7) (j := 8) (by rfl) sc.nd rfl rfl (by decide) rfl rfl (pa_cons (pe_ix ix_list (pe_lst (pa_cons pe_int (pa_cons pe_int (pa_cons pe_int (pa_cons pe_int pa_nil))))) (pe_call G__law_take (hr.mono (by omega)) (by rfl) m__law_take k__law_take b__law_take .nil pass0 (pa_cons (pv 0) (pa_cons pe_int pa_nil))) (fun _ _ => rfl)) (pa_cons (pe_lst pa_nil) pa_nil)) (by rfl))
      (pss_cons (ps_for PassesOwn.never rfl (pi_range1 (by rfl) m_range (pa_cons (pv 1) pa_nil)) (pg_name (i := 9) sc.nd rfl (.inl rfl)) (pss_cons (ps_asg (pe_callB call_divmod (by rfl) m_divmod (by decide +kernel) (pa_cons (pe_op op_mod (pe_op op_add (pv 3) (pe_op op_mul (pv 7) (pv 9))) pe_int) (pa_cons pe_int pa_nil))) (pg_tup (by rfl) (pgs_cons (pg_name (i := 10) sc.nd rfl (.inl rfl)) (pgs_cons (pg_name (i := 11) sc.nd rfl (.inl rfl)) pgs_nil))))
      (pss_one (ps_expr (pe_bm PySem.F.plainAttrs_list PySem.F.slot_list_append PySem.F.type_list_append mt_append (pv 8) (pa_cons (pe_op op_add_str (pe_op op_add_str (pe_slice sl_str (pv 6) po_none (po_some pe_int)) (pe_ix ix_str (pv 2) (pv 10) (fun _ _ => rfl))) (pe_ix ix_str (pv 2) (pv 11) (fun _ _ => rfl))) pa_nil))))))
      (pss_one (ps_ret (pv 8)))))))))), ?_⟩
  refine ⟨_, rfl, a, n, 625, rfl, hB, by omega, by decide, by decide, fun r1 H1 r10 r11 s1 B1 => ⟨_, rfl, a, n + 1, 4, rfl, B1, by omega, by decide, by decide, fun r2 H2 r20 r21 s2 B2 => ?_⟩⟩
  refine ⟨by show 3 ≤ sizeLine; decide, fun t nt => ⟨t, _, rfl, .inl (.inl upd_same), rfl, _, _, rfl, _, _, rfl, _, _, rfl, rfl, ?_⟩⟩
  have s3 := (s1.trans s2).trans (But.of (same_upd (o := .tup [.str ltrs, .int r1, .int r2]) nt))
  have B3 : Box (upd H2 t (.tup [.str ltrs, .int r1, .int r2])) a (n + 2) := B2.same (same_upd nt)
  generalize upd H2 t (.tup [.str ltrs, .int r1, .int r2]) = H3 at *
  refine ⟨rfl, wordsT, " ", rfl, rfl, by decide +kernel, by decide +kernel, fun pw nw => ?_⟩
  have s4 := s3.trans (But.of (same_upd (o := .lst (wds.map V.str)) nw))
  have B4 : Box (upd H3 pw (.lst (wds.map V.str))) a (n + 2) := B3.same (same_upd nw)
  have e4 := upd_same (H := H3) (a := pw) (o := .lst (wds.map V.str))
  show _
  unfold wds at s4 B4 e4
  generalize upd H3 pw (.lst ((Txt.split wordsT " ").map V.str)) = H4 at *
  obtain ⟨ob4, hob4⟩ := B4.is
  refine ⟨_, rfl, rfl, _, rfl, ite2 (fun c => ?_) (fun c => ?_)⟩
  · refine ⟨_, rfl, _, rfl, pw, pw, _, _, rfl, rfl, e4, e4, by decide +kernel, fun pc nc => ?_⟩
    have s5 := same_upd (o := .lst ((Txt.split wordsT " ").map V.str ++ (Txt.split wordsT " ").map V.str)) nc
    have e5 := upd_same (H := H4) (a := pc) (o := .lst ((Txt.split wordsT " ").map V.str ++ (Txt.split wordsT " ").map V.str))
    generalize upd H4 pc (.lst ((Txt.split wordsT " ").map V.str ++ (Txt.split wordsT " ").map V.str)) = H5 at *
    refine ⟨_, rfl, r1, 14, rfl, rfl, (show (0 : Int) < 14 by decide), _, rfl, pc, _, rfl, SqL.of e5, fun pd nd => ?_⟩
    have hs : r1 % 14 = (((r1 % 14).toNat : Nat) : Int) := by omega
    have hs14 : (r1 % 14).toNat < 14 := by omega
    rw [hs, cut_from]
    generalize (r1 % 14).toNat = s0 at *
    have s6 := same_upd (o := .lst (((Txt.split wordsT " ").map V.str ++ (Txt.split wordsT " ").map V.str).drop s0)) nd
    have e6 := upd_same (H := H5) (a := pd) (o := .lst (((Txt.split wordsT " ").map V.str ++ (Txt.split wordsT " ").map V.str).drop s0))
    generalize upd H5 pd (.lst (((Txt.split wordsT " ").map V.str ++ (Txt.split wordsT " ").map V.str).drop s0)) = H6 at *
    refine ⟨_, rfl, m, rfl, pd, _, rfl, SqL.of e6, fun pe ne => ?_⟩
    rw [cut_to]
    have s7 := (s5.trans s6).trans (same_upd (o := .lst ((((Txt.split wordsT " ").map V.str ++ (Txt.split wordsT " ").map V.str).drop s0).take m)) ne)
    have e7 := upd_same (H := H6) (a := pe) (o := .lst ((((Txt.split wordsT " ").map V.str ++ (Txt.split wordsT " ").map V.str).drop s0).take m))
    have fe : H4 pe = none := same_free (s5.trans s6) ne
    refine q pe (((wds ++ wds).drop s0).take m) _ (s4.trans (But.of s7)) ((B4.same s7).le (by omega)) (s4.free hob4 fe) (e7.trans ?_) (wds_len hs14 hm) (wds_nd hs14 hm) (wds_asc hs14)
    unfold wds
    rw [← List.map_append, ← List.map_drop, ← List.map_take]
  refine ⟨_, rfl, _, rfl, a, n + 2, 25, rfl, B4, by omega, by decide, by decide, fun r3 H5 r30 r31 s5 B5 => ⟨ltrs, r3, _, rfl, rfl, ltrs_fit, ltr_atI r30 r31, _, rfl, a, n + 3, 7, rfl, B5, by omega, by decide, by decide, fun r4 H6 r40 r41 s6 B6 => ⟨_, _, rfl, rfl, mul_ok r40 (by omega), ?_⟩⟩⟩
  have ast : Asc 6 (Txt.mul (one (ltr r3.toNat)) r4) := mul_asc (ltr_ok (by omega)) r40 (by omega)
  generalize Txt.mul (one (ltr r3.toNat)) r4 = stem at *
  have s46 := (s4.trans s5).trans s6
  obtain ⟨ob6, hob6⟩ := B6.is
  have stl : stem.length ≤ 6 := ast.len
  refine ⟨_, rfl, rfl, _, rfl, ite2 (fun c1 => ⟨_, rfl, m, 7, rfl, rfl, _, rfl, ifT (by omega) ?_⟩) (fun c1 => iteF ?_)⟩
  · refine ⟨_, rfl, m, rfl, by omega, by omega, fun D2 nD2 => lc_it walk_range
      (fun i H' => But a H6 H' ∧ Box H' a (n + 4) ∧ H' D2 = some (.lst (((List.range i).map fun k => cutS stem none (some 1) ++ rep (ltr (r1 % 25).toNat) k).map V.str))) ⟨But.of (same_upd nD2), B6.same (same_upd nD2), upd_same⟩
      (fun _ _ _ _ => trivial) ?_ ?_⟩
    · rintro i x H7 _ hi ⟨s7, B7, hD2⟩ ⟨rfl, ex⟩
      obtain rfl : x = V.int i := ex.trans (congrArg V.int (Int.zero_add _))
      have hi' : i < m := by simpa using hi
      refine ⟨rfl, ?_⟩
      unfold tYes
      have hcl := (ast.cut none (some 1)).len
      refine iteT ⟨_, rfl, 1, rfl, stem, rfl, le_line (by omega), _, rfl, _, rfl, r1, 25, rfl, rfl, (show (0 : Int) < 25 by decide), ltrs, _, _, rfl, rfl, ltrs_fit, ltr_atI (by omega) (by omega), _, rfl, _, _, rfl, rfl, _, _, rfl, rfl, rep_ok (by omega), _, _, rfl, rfl, ?_, _, hD2, ?_, fun b o nb h => ?_, B7.upd (B6.ne nD2), ?_⟩
      · have h1 : (rep (ltr (r1 % 25).toNat) i).length = i + 1 := by
          show (rep (ltr (r1 % 25).toNat) i).cps.size = i + 1
          rw [← Array.length_toList, rep_codes, List.length_replicate]
        have h2 : (cutS stem none (some 1)).length ≤ 6 := hcl
        exact le_line (by show (cutS stem none (some 1)).length + (rep (ltr (r1 % 25).toNat) i).length ≤ 1000; omega)
      · rw [List.length_map, List.length_map, List.length_range]
        exact small1000 (by omega)
      · rw [upd_ne (fun z => by rw [z, nD2] at h; cases h)]
        exact s7 _ _ nb h
      · rw [upd_same, List.range_succ, List.map_append, List.map_append]
        rfl
    · rintro H7 ⟨s7, B7, hD2⟩
      refine q D2 _ H7 (s46.trans s7) (B7.le (by omega)) (s46.free hob6 nD2) hD2 ?_ (nodup_of fun i j h1 h2 e => ?_) fun z hz => ?_
      · rw [List.length_map, List.length_range, Int.toNat_natCast]
      · have h := congrArg (fun z : Str => z.cps.toList.length) e
        simp only [cps_app, rep_codes, List.length_append, List.length_replicate] at h
        omega
      · obtain ⟨i, hi, rfl⟩ := List.mem_map.mp hz
        have hi' : i < m := by simpa using hi
        have h1 : Asc 1 (cutS stem none (some 1)) := by
          refine ⟨?_, (ast.cut none (some 1)).lt⟩
          have e : (cutS stem none (some 1)).cps.toList = (stem.cps.toList.drop (HT.sIx stem.length 0 none)).take (HT.sIx stem.length stem.length (some ((1 : Nat) : Int)) - HT.sIx stem.length 0 none) := rfl
          rw [← Array.length_toList, e, List.length_take, HT.sIx_none, HT.sIx_nat]
          omega
        exact (h1.app (asc_rep (c := ltr (r1 % 25).toNat) (k := i) (ltr_ok (by omega)))).le (by omega)
  refine ⟨by show 4 ≤ sizeLine; decide, fun l nl => ?_⟩
  have s7 := same_upd (o := .lst [.int 1, .int 26, .int 7, .int 251]) nl
  have e7 := upd_same (H := H6) (a := l) (o := .lst [.int 1, .int 26, .int 7, .int 251])
  have B7 := B6.same s7
  have al := B6.ne nl
  generalize upd H6 l (.lst [.int 1, .int 26, .int 7, .int 251]) = H7 at *
  refine ⟨_, rfl, a, n + 4, 4, rfl, B7, by omega, by decide, by decide, fun r5 H8 r50 r51 s8 B8 => ?_⟩
  obtain ⟨st, hst, hat⟩ : ∃ st : Nat, (st = 1 ∨ st = 26 ∨ st = 7 ∨ st = 251) ∧ atI [V.int 1, .int 26, .int 7, .int 251] r5 = some (.int (st : Int)) := by
    have : r5 = 0 ∨ r5 = 1 ∨ r5 = 2 ∨ r5 = 3 := by omega
    rcases this with rfl | rfl | rfl | rfl
    · exact ⟨1, .inl rfl, rfl⟩
    · exact ⟨26, .inr (.inl rfl), rfl⟩
    · exact ⟨7, .inr (.inr (.inl rfl)), rfl⟩
    · exact ⟨251, .inr (.inr (.inr rfl)), rfl⟩
  refine ⟨l, _, r5, _, rfl, rfl, SqL.of (s8 _ _ al.symm e7), hat, by show 0 ≤ sizeLine; decide, fun D nD => ⟨_, _, rfl, ?_⟩⟩
  have s48 := (s46.trans (But.of s7)).trans s8
  have aD := B8.ne nD
  obtain ⟨ob8, hob8⟩ := B8.is
  refine ⟨_, rfl, m, rfl, by omega, by omega, for_it walk_range (fun i σ H' => But a H8 H' ∧ Box H' a (n + 5) ∧ H' D = some (.lst (((List.range i).map fun k => two stem ((r1.toNat + st * k) % 625)).map V.str)) ∧
    ∃ v9 v10 v11, σ = [some (.ref a), some (.int m), some (.str ltrs), some (.int r1), some (.int r2), some (.ref pw), some (.str stem), some (.int st), some (.ref D), v9, v10, v11]) ⟨But.of (same_upd nD), B8.same (same_upd nD), upd_same, none, none, none, rfl⟩ (fun _ _ _ _ _ => trivial) ?_ ?_⟩
  · rintro i x σ _ H9 hi ⟨s9, B9, hD, v9, v10, v11, rfl⟩ ⟨rfl, ex⟩
    obtain rfl : x = V.int i := ex.trans (congrArg V.int (Int.zero_add _))
    have hi' : i < m := by simpa using hi
    have ec : (r1 + (st : Int) * (i : Int)) % 625 = (((r1.toNat + st * i) % 625 : Nat) : Int) := by
      rw [show r1 + (st : Int) * (i : Int) = ((r1.toNat + st * i : Nat) : Int) by push_cast; omega]
      rfl
    have hc : (r1.toNat + st * i) % 625 < 625 := Nat.mod_lt _ (by decide)
    refine ⟨_, rfl, _, rfl, _, rfl, st, i, rfl, rfl, .inl ⟨by omega, by omega⟩, r1, _, rfl, rfl, _, 625, rfl, rfl, (show (0 : Int) < 625 by decide), ?_⟩
    dsimp only
    rw [ec]
    generalize hcc : (r1.toNat + st * i) % 625 = cc at *
    refine ⟨(cc : Int), 25, rfl, ⟨by decide, by decide⟩, fun tp np => ?_⟩
    have sT := same_upd (o := .tup [V.int ((cc : Int) / 25), .int ((cc : Int) % 25)]) np
    have eT := upd_same (H := H9) (a := tp) (o := .tup [V.int ((cc : Int) / 25), .int ((cc : Int) % 25)])
    have B10 := B9.same sT
    have hD' := sT _ _ hD
    generalize upd H9 tp (.tup [V.int ((cc : Int) / 25), .int ((cc : Int) % 25)]) = H10 at *
    have hcl := (ast.cut none (some 6)).len
    have hcl : (cutS stem none (some 6)).length ≤ 6 := hcl
    refine ⟨tp, _, rfl, .inl (.inl eT), rfl, _, _, rfl, _, _, rfl, rfl, ?_⟩
    refine ⟨_, rfl, .inl ⟨rfl, _, SqL.of hD'⟩, _, rfl, 6, rfl, stem, rfl, le_line (by omega), _, rfl, _, rfl, ltrs, _, _, rfl, rfl, ltrs_fit, ltr_atI (by omega) (by omega), _, _, rfl, rfl, ?_, _, rfl, _, rfl, ltrs, _, _, rfl, rfl, ltrs_fit, ltr_atI (by omega) (by omega), _, _, rfl, rfl, ?_, D, _, _, rfl, rfl, hD', ?_, fun b o nb h => ?_, B10.upd aD, ?_, _, _, _, rfl⟩
    · exact le_line (by show (cutS stem none (some 6)).length + 1 ≤ 1000; omega)
    · have h3 : (cutS stem none (some 6) ++ one (ltr ((cc : Int) / 25).toNat)).length = (cutS stem none (some 6)).length + 1 := Array.size_append
      exact le_line (by show (cutS stem none (some 6) ++ one (ltr ((cc : Int) / 25).toNat)).length + 1 ≤ 1000; omega)
    · rw [List.length_map, List.length_map, List.length_range]
      exact small1000 (by omega)
    · rw [upd_ne (fun z => by rw [z, nD] at h; cases h)]
      exact sT _ _ (s9 _ _ nb h)
    · rw [upd_same, List.range_succ, List.map_append, List.map_append]
      have e1 : ((cc : Int) / 25).toNat = cc / 25 := by omega
      have e2 : ((cc : Int) % 25).toNat = cc % 25 := by omega
      rw [e1, e2, ← hcc]
      rfl
  · rintro σ H9 ⟨s9, B9, hD, v9, v10, v11, rfl⟩
    refine ⟨_, rfl, q D _ H9 (s48.trans s9) (B9.le (by omega)) (s48.free hob8 nD) hD ?_ (nodup_of fun i j h1 h2 => two_ne (Nat.mod_lt _ (by decide)) (Nat.mod_lt _ (by decide)) fun e => ?_) fun z hz => ?_⟩
    · rw [List.length_map, List.length_range, Int.toNat_natCast]
    · have h2' : j < m := by simpa using h2
      rcases hst with rfl | rfl | rfl | rfl <;> omega
    · obtain ⟨i, hi, rfl⟩ := List.mem_map.mp hz
      exact two_asc ast (Nat.mod_lt _ (by decide))
end
end Fd

set_option Elab.async false
set_option linter.all false
set_option maxRecDepth 100000
set_option maxHeartbeats 1000000
/-! dict(t), t a tuple of pairs -/
namespace Fw
open PySem PySem.Spec PyProof.Rows L2
theorem tup_no_keys : typeLookup (.type "tuple") "keys" = pure none := am_miss_of_fast (by first | decide +kernel | rfl)
section
variable {prog : Program} {w : World} {A : Around} {E : Value → Shared → Prop}
theorem keyless {st : Shared} {p : Addr} {ob : Obj} {its : Array Value} {m : Nat} {R : Option Value → Shared → Prop} (e0 : st.heap.get? p = some ob) (e1 : ob.cls = .type "tuple") (e2 : ob.data = .seq its m)
    (e3 : ob.dict = none) (e4 : A.handled = none) (go : ∀ g n, (∀ d o, st.heap.get? d = some o → g.get? d = some o) → R none { st with heap := g, toks := n }) : wpAny (model prog w) A (getAttr? (.ref p) "keys") R E st := by
  obtain ⟨k1, k2, k3, k4⟩ := ob
  simp only at e1 e2 e3
  subst e1 e2 e3
  obtain ⟨g1, g2, g3, g4, g5⟩ := st
  have ty : ∀ n, (⟨g1, g2, g3, n, g5⟩ : Shared).TypeIs (.ref p) "tuple" := fun _ => ⟨_, e0, rfl⟩
  have z1 := tup_no_keys
  have z2 : (["__module__", "__name__", "__qualname__", "__doc__", "__annotations__"] : List Str).contains "keys" = false := by kernel_rfl
  have z3 : ("keys" : Str).length + 100 ≤ sizeLine := by first | size_fits | decide +kernel
  have z4 := sub_AttributeError
  have z5 := PySem.F.slot_tuple_getattribute.lookup
  have z6 := PySem.F.slot_tuple_getattribute.bind (.ref p)
  have z7 := am_tuple_getattr_none
  unfold getAttr? getAttrBy? getAttrBy
  repeat (any_goals (first | assumption | exact ty _ | ((with_reducible show wpAny _ _ (call (Value.builtin "tuple.__getattribute__") _ _) _ _ _); refine call_meets PySem.F.slot_tuple_getattribute (ty _) am_entry_tuple_getattribute (PySem.F.args_tuple_getattribute_2 _ _) (meets_getattribute_miss_tuple p its m k4 "keys" _ z1 z2 z3) ⟨e0, e4, fun g n er hx => ?_⟩) | wp_step))
  obtain ⟨tt, u, he⟩ := hx.there
  show wpAny _ _ (getattributeRaised _ _ _ _ _ _ _) _ _ _
  unfold getattributeRaised
  repeat (any_goals (first | assumption | wp_step))
  all_goals first | exact go _ _ hx.keeps | (dsimp only; repeat (any_goals (first | assumption | exact go _ _ hx.keeps | wp_step)))
/-- the walk over a tuple's pairs -/
theorem pairs_in {R : Result → Shared → Prop} {D J p : Addr} {its : Array Value} {res : Value} (h0 : A.handled = none) (pJ : p ≠ J) (DJ : D ≠ J) (Dp : D ≠ p) :
    ∀ (more : List (Key × Value)) (i : Nat) (acc : List (Key × Value)) (ix : Int) (t : Tok) (st : Shared), its.size = i + more.length → acc.length + more.length ≤ sizeLine →
      (∀ (j : Nat) (x : Key × Value), more[j]? = some x → ∃ (b : Addr) (u : Value), its[i + j]? = some (.ref b) ∧ b ≠ D ∧ b ≠ J ∧ IsTup st.heap b #[u, x.2] ∧ keyIs x.1 u = true) →
      st.heap.IsTupleIter J p i → st.heap.IsTuple p its → st.heap.DictOf (mixKind prog w) D acc →
      (∀ g n, g.DictOf (mixKind prog w) D (merged acc more) → (∀ b o, b ≠ D → b ≠ J → st.heap.get? b = some o → g.get? b = some o) → R (.ok (.ret res)) { st with heap := g, toks := n }) →
      codeAny (model prog w) A (.builtin "dict.update.loop" ⟨[.ref D, .ref J, .int ix t, res], []⟩) R st
  | [], i, acc, ix, t, st, e1, e2, ht, hj, hp, hm, go => by
    refine codeAny_builtin ud_entry ?_
    rw [Around.under_plainId ud_plain _]
    show wpAny _ A.in1 (pyNext (.ref J) >>= _) _ _ st
    refine wpAny_bind (wpAny_pyNext_tuple_end (A := A.in1) h0 hj hp (by first | exact Array.getElem?_eq_none (Nat.le_of_eq e1) | (simp at e1; simp; omega)) fun g he => ?_)
    show wpAny _ A.in1 (Builtin.Dict.addKeywords D [] >>= _) _ _ _
    refine wpAny_bind (wpAny_pure (wpAny_pure ?_))
    exact go g st.toks (hm.extBut he DJ) fun b o _ nb e => he b o nb e
  | x :: more, i, acc, ix, t, st, e1, e2, ht, hj, hp, hm, go => by
    obtain ⟨b, u, hb, bD, bJ, htup, hk⟩ := ht 0 x rfl
    rw [List.length_cons] at e1 e2
    refine codeAny_builtin ud_entry ?_
    rw [Around.under_plainId ud_plain _]
    show wpAny _ A.in1 (pyNext (.ref J) >>= _) _ _ st
    refine wpAny_bind (wpAny_pyNext_tuple_item (x := .ref b) hj hp (by simpa using hb) fun g1 hj1 s1 => ?_)
    have t1 : IsTup g1 b #[u, x.2] := htup.extBut s1.extBut bJ
    have p1 : g1.IsTuple p its := hp.extBut s1.extBut pJ
    have m1 : g1.DictOf (mixKind prog w) D acc := hm.extBut s1.extBut DJ
    obtain ⟨o, ho, hc, n, hd⟩ := id t1
    show wpAny _ A.in1 (holding [Value.ref b] _ >>= _) _ _ _
    refine wpAny_bind (wpAny_holding ?_)
    refine wpAny_bind (wpAny_tryCatch ?_)
    unfold Builtin.Dict.pairItems
    refine wpAny_bind (wpAny_typeOf (T := "tuple") ⟨o, ho, hc⟩ ?_)
    rw [if_pos (by first | decide | rfl | simp)]
    refine wpAny_bind (wpAny_seqItems ho hd (wpAny_pure ?_))
    show wpAny _ A.in1 (holding [u, x.2] (dictSet D u x.2)) _ _ _
    refine wpAny_holding (wpAny_dictSet_pairs (knd := mixKind prog w) (k := x.1) hk m1 (fun g2 m2 s2 => ?_) (by omega))
    refine wpAny_pure ⟨plainId_quiet ud_plain _, pairs_in (its := its) h0 pJ DJ Dp more (i + 1) (stored acc x.1 x.2) (ix + 1) 0 _ (show its.size = i + 1 + more.length by omega) ?_ (fun j y e => ?_) ?_ ?_ m2 fun g n hd' k => ?_⟩
    · have z := stored_length_le acc x.1 x.2
      omega
    · obtain ⟨b', u', y1, y2, y3, y4, y5⟩ := ht (j + 1) y (by simpa using e)
      refine ⟨b', u', ?_, y2, y3, (y4.extBut s1.extBut y3).extBut s2.extBut y2, y5⟩
      rw [show i + 1 + j = i + (j + 1) by omega]
      exact y1
    · exact hj1.at fun o' e => s2.extBut J o' (Ne.symm DJ) e
    · exact p1.extBut s2.extBut (Ne.symm Dp)
    · exact go g n hd' fun c oc n3 n4 e => k c oc n3 n4 (s2.extBut c oc n3 (s1.extBut c oc n4 e))
theorem dict_of_tup {st : Shared} {p : Addr} {ob : Obj} {its : Array Value} {m : Nat} {prs : List (Key × Value)} {Q : Value → Shared → Prop} (h0 : A.handled = none) (hp : st.heap.get? p = some ob) (hc : ob.cls = .type "tuple")
    (hd : ob.dict = none) (hs : ob.data = .seq its m) (hn : its.size = prs.length) (hl : prs.length ≤ sizeLine) (ht : ∀ (j : Nat) (x : Key × Value), prs[j]? = some x → ∃ (b : Addr) (u : Value), its[j]? = some (.ref b) ∧ IsTup st.heap b #[u, x.2] ∧ keyIs x.1 u = true)
    (go : ∀ g n, g.DictOf (mixKind prog w) st.heap.objs.size (merged [] prs) → (∀ b o, st.heap.get? b = some o → g.get? b = some o) → Q (.ref st.heap.objs.size) { st with heap := g, toks := n }) : wpAny (model prog w) A (call (.type "dict") [.ref p]) Q E st := by
  refine callType_codes (Q₁ := fun v s1 => v = .ref st.heap.objs.size ∧ s1 = { st with heap := st.heap.push { cls := .type "dict", data := .dict #[] } }) PySem.F.kt_called_dict (PySem.F.kt_typeCall_dict_1 _) PySem.F.entry_dict_init (kt_code_dict_new _ ⟨rfl, rfl⟩) ?_
  rintro v s1 ⟨rfl, rfl⟩
  have new : (st.heap.push { cls := .type "dict", data := .dict #[] }).DictOf (mixKind prog w) st.heap.objs.size [] := Heap.DictOf.new st.heap
  have a0 : ∀ b o, st.heap.get? b = some o → (st.heap.push { cls := .type "dict", data := .dict #[] }).get? b = some o := fun b o e => Heap.get?_push_of_some _ e
  refine ⟨new.typeIs, PySem.F.args_dict_init_2 _ _, ?_⟩
  unfold Builtin.«dict.__init__»
  refine wpAny_bind ?_
  unfold Builtin.Dict.selfAndRest
  refine wpAny_bind (wpAny_notOrdered_dict new.typeIs ?_)
  show wpAny _ _ (pure (st.heap.objs.size, [Value.ref p])) _ _ _
  refine wpAny_pure ?_
  show wpAny _ _ (Builtin.Dict.updateFrom "dict.__init__" st.heap.objs.size (.ref p) [] .none) _ _ _
  unfold Builtin.Dict.updateFrom
  refine wpAny_bind (wpAny_typeOf (T := "tuple") ⟨ob, a0 _ _ hp, hc⟩ ?_)
  rw [if_pos (by first | decide | rfl | simp)]
  refine wpAny_bind (keyless (a0 _ _ hp) hc hs hd h0 fun g1 n1 k1 => ?_)
  rw [if_pos (show (none : Option Value).isNone = true from rfl)]
  refine wpAny_bind (wpAny_rule ?_)
  have t1 : g1.IsTuple p its := ⟨ob, k1 _ _ (a0 _ _ hp), hc, m, hs⟩
  have D1 : st.heap.objs.size < g1.objs.size := by
    have e : (st.heap.push { cls := .type "dict", data := .dict #[] }).get? st.heap.objs.size = some { cls := .type "dict", data := .dict #[] } := Heap.get?_push_size _ rfl
    exact Heap.lt_size (k1 _ _ e)
  refine wpAny_bind (wpAny_pyIter_tuple t1 ?_)
  have k2 : ∀ b o, g1.get? b = some o → (g1.push { cls := .type "tuple_iterator", data := .fields #[.ref p, .int 0 0] }).get? b = some o := fun b o e => Heap.get?_push_of_some _ e
  have pl : p < st.heap.objs.size := Heap.lt_size hp
  have key := pairs_in (prog := prog) (w := w) (A := A.in1) (R := wants (fun r s2 => r = .none ∧ Q (.ref st.heap.objs.size) s2) E) (D := st.heap.objs.size) (J := g1.objs.size) (p := p) (its := its) (res := Value.none) h0
    (Nat.ne_of_lt (Nat.lt_trans pl D1)) (Nat.ne_of_lt D1) (Nat.ne_of_gt pl) prs 0 [] 0 0
    { st with heap := g1.push { cls := .type "tuple_iterator", data := .fields #[.ref p, .int 0 0] }, toks := n1 } (by rw [hn, Nat.zero_add]) (by rw [List.length_nil, Nat.zero_add]; exact hl)
    (fun j x e => by
      obtain ⟨b, u, f1, f2, f3⟩ := ht j x e
      have lb : b < st.heap.objs.size := f2.lt
      exact ⟨b, u, by rw [Nat.zero_add]; exact f1, Nat.ne_of_lt lb, Nat.ne_of_lt (Nat.lt_trans lb D1), f2.keeps fun c o z => k2 _ _ (k1 _ _ (a0 _ _ z)), f3⟩)
    ⟨_, Heap.get?_push_size _ rfl, rfl, rfl⟩ (t1.at fun o e => k2 _ _ e) ((new.at fun o e => k1 _ _ e).at fun o e => k2 _ _ e)
    (fun g n hd' k => ⟨rfl, go g n hd' fun b o e => k b o (Nat.ne_of_lt (Heap.lt_size e)) (Nat.ne_of_lt (Nat.lt_trans (Heap.lt_size e) D1)) (k2 _ _ (k1 _ _ (a0 _ _ e)))⟩)
  first
    | exact wpAny_pure ⟨plainId_quiet ud_plain _, key⟩
    | exact wpAny_bind (wpAny_pure (wpAny_pure ⟨plainId_quiet ud_plain _, key⟩))
end
section
variable {X : Cx}
/-- a tuple made by tuple(..) of a list: its one object is known -/
def TupX (H : Hp) (a : Addr) (ys : List V) : Prop := ∃ o : Obj, o.dict = none ∧ H a = some (.frz o (.tup ys))
def rDictT (K : PySem.W.Frag) : List V → Hp → VK → Prop := fun xs H Q => ∃ (a : Addr) (ps : List Addr) (kvs : List (Key × V)), xs = [.ref a] ∧ TupX H a (ps.map V.ref) ∧ Paired (fun p kv => SqT K H p [kV kv.1, kv.2]) ps kvs ∧ ∀ p, H p = none → Q (.ref p) (upd H p (.dK (mergeK [] kvs)))
theorem call_dictT (hcalm : X.calm = true) : CallR X (.type "dict") (rDictT X.K) := by
  rintro pins s σ H xs us Q I r ⟨a, ps, kvs, rfl, ⟨o, od, hq⟩, hp, q⟩
  obtain ⟨u, eu, rx⟩ := vals1 r
  subst eu
  cases rx
  obtain ⟨ho, hz, its, rv, o', ho', hc, n, hdat⟩ := (show ObjOk X.prog X.w H s.heap a (.frz o (.tup (ps.map V.ref))) from I.hok a _ hq)
  rw [ho] at ho'
  cases ho'
  have ei := refs_at rv
  subst ei
  rw [List.length_map] at hz
  obtain ⟨prs, rel, hl, hpr⟩ := pairs_of I hp
  refine dict_of_tup (prs := prs) (I.ok.hd hcalm) ho hc od hdat (by simp [hl]) (by rw [hl]; exact hz) (fun j x e => ?_) fun g tk hd' k => ?_
  · obtain ⟨b, u, f1, f2, f3⟩ := hpr j x e
    exact ⟨b, u, by simp [f1], f2, f3⟩
  have hm : (s.heap.objs.size == sysModules) = false := beq_eq_false_iff_ne.mpr (Nat.ne_of_gt I.big)
  have hlen : (mergeK [] kvs).length ≤ sizeLine := by
    refine Nat.le_trans (length_mergeK kvs []) ?_
    rw [List.length_nil, Nat.zero_add, rel.length, hl]
    exact hz
  exact ⟨.ref s.heap.objs.size, _, I.laid (t' := tk) k (Nat.le_refl _) (show ObjOk X.prog X.w _ _ _ (.dK (mergeK [] kvs)) from ⟨hlen, hm, merged [] prs, KV.merge rel .nil, hd'⟩), rfl, q _ (I.hok.fresh (Nat.le_refl _))⟩
/-- tuple(..) of a list, the new object known -/
def rTupX (K : PySem.W.Frag) : List V → Hp → VK → Prop := fun xs H Q => ∃ p ys, xs = [.ref p] ∧ SqL K H p ys ∧ ∀ l o, o.dict = none → H l = none → Q (.ref l) (upd H l (.frz o (.tup ys)))
theorem call_tupX : CallR X (.type "tuple") (rTupX X.K) := by
  rintro pins s σ H xs us Q I r ⟨p, ys, rfl, hq, q⟩
  obtain ⟨u, rfl, rx⟩ := vals1 r
  cases rx
  obtain ⟨its, r', pl, hz⟩ := I.list hq
  have hlen := r'.length
  refine call_tuple_list pl.isList (fun g kp => ?_) (by simp only [List.size_toArray] <;> omega)
  have I1 : Inv X pins σ H { s with heap := g } := I.kept (t' := s.toks) kp
  exact ⟨.ref g.objs.size, _, I1.laid (t' := s.toks) (fun b o e => Heap.get?_push_of_some _ e) (Nat.le_refl _) (show ObjOk X.prog X.w _ _ _ (.frz { cls := .type "tuple", data := .seq its.toArray } (.tup ys)) from ⟨Heap.get?_push_size _ rfl, hz, its, r', IsTup.new _ _⟩), rfl, q _ _ rfl (I1.hok.fresh (Nat.le_refl _))⟩
end
end Fw

set_option Elab.async false
set_option linter.all false
set_option maxRecDepth 100000
set_option maxHeartbeats 1000000
namespace Fd
open PySem PySem.Spec PyProof.Rows L2 RZ Fw LamX
theorem tupX_sq {K : PySem.W.Frag} {H : Hp} {a : Addr} {xs : List V} (h : TupX H a xs) : SqT K H a xs := by
  obtain ⟨o, _, e⟩ := h
  exact .inl (.inr ⟨o, e⟩)
/-- a value as it is drawn -/
def Wv (z : Int) : Prop := -1000000 ≤ z ∧ z ≤ 1000000
/-- pairs of names and values, as tuples -/
def TN (H : Hp) (n : Addr) (nm : Nms) : Prop := ∃ ts : List Addr, TupX H n (ts.map V.ref) ∧ Paired (fun t (q : Str × Int) => H t = some (.tup [.str q.1, .int q.2])) ts nm
def TR (H : Hp) (n : Addr) (rw : Rws) : Prop := ∃ ts : List Addr, TupX H n (ts.map V.ref) ∧ Paired (fun t (q : Str × List Int) => ∃ r, H t = some (.tup [.str q.1, .ref r]) ∧ TupX H r (q.2.map V.int)) ts rw
theorem yesI {σ : L2.St} {H : Hp} {Q : Bool → Hp → Prop} (h : Q true H) : tYes σ H Q := h
/-- tuples stay -/
structure TS (H H' : Hp) : Prop where
  t : ∀ b xs, H b = some (.tup xs) → H' b = some (.tup xs)
  f : ∀ b o xs, H b = some (.frz o (.tup xs)) → H' b = some (.frz o (.tup xs))
theorem TS.same {H H' : Hp} (s : Same H H') : TS H H' := ⟨fun b xs e => s _ _ e, fun b o xs e => s _ _ e⟩
theorem TS.trans {H H1 H2 : Hp} (x : TS H H1) (y : TS H1 H2) : TS H H2 := ⟨fun b xs e => y.t _ _ (x.t _ _ e), fun b o xs e => y.f _ _ _ (x.f _ _ _ e)⟩
theorem TS.box {H H' : Hp} {a : Addr} {n : Nat} (B : Box H a n) (s : But a H H') : TS H H' := by
  obtain ⟨b0, b1, b2, e, _⟩ := B
  exact ⟨fun b xs h => s b _ (ne_of h e nofun) h, fun b o xs h => s b _ (ne_of h e nofun) h⟩
theorem TS.ext {H H' : Hp} (s : ExtN H H') : TS H H' := ⟨fun b xs e => s _ _ e nofun, fun b o xs e => s _ _ e nofun⟩
theorem tupX_ts {H H' : Hp} {a : Addr} {xs : List V} (h : TupX H a xs) (s : TS H H') : TupX H' a xs := by
  obtain ⟨o, od, e⟩ := h
  exact ⟨o, od, s.f _ _ _ e⟩
theorem sqT_ts {K : PySem.W.Frag} {H H' : Hp} {a : Addr} {xs : List V} (h : SqT K H a xs) (s : TS H H') : SqT K H' a xs := by
  rcases h with (h | ⟨o, h⟩) | h
  · exact .inl (.inl (s.t _ _ h))
  · exact .inl (.inr ⟨o, s.f _ _ _ h⟩)
  · exact .inr h
theorem TN.ts {H H' : Hp} {n : Addr} {nm : Nms} (h : TN H n nm) (s : TS H H') : TN H' n nm := by
  obtain ⟨ts, h1, h2⟩ := h
  exact ⟨ts, tupX_ts h1 s, L2.Paired.mapP h2 fun t q e => s.t _ _ e⟩
theorem TR.ts {H H' : Hp} {n : Addr} {rw : Rws} (h : TR H n rw) (s : TS H H') : TR H' n rw := by
  obtain ⟨ts, h1, h2⟩ := h
  exact ⟨ts, tupX_ts h1 s, L2.Paired.mapP h2 fun t q ⟨r, e, f⟩ => ⟨r, s.t _ _ e, tupX_ts f s⟩⟩
section
variable {P : Program} {w : World} {K : PySem.W.Frag} {mg : Str → Option Value} {base : Heap} {f : Addr} {fd : FuncData}
/-! ### some -/
abbrev sSome : Stmt := top 42
def spSome : Sp := fun vs H Q _ => ∃ (a l : Addr) (n m : Nat) (ws : List Str), vs = [.ref a, .ref l, .int m] ∧ Box H a n ∧ n + 12 ≤ 1000000 ∧ l ≠ a ∧ H l = some (.lst (ws.map V.str)) ∧ ws.length ≤ 10 ∧ m ≤ 10 ∧
  ∀ (p : Addr) (zs : List Str) (H' : Hp), But a H H' → Box H' a (n + 12) → H p = none → H' p = some (.lst (zs.map V.str)) → zs.Sublist ws → Q (.ref p) H'
theorem scSome : FnScope ["_law_box_here", "_law_names_here", "_law_most", "_law_found", "_law_name"] ["_law_box_here", "_law_names_here", "_law_most"] (defScope sSome) := ⟨rfl, rfl, rfl, by decide +kernel, rfl, by decide +kernel, by decide +kernel⟩
theorem ok_some {k : Nat} (F : Fun K "_law_some" "_law_some" sSome f fd) (G : FnG P w K mg base CX0 k "_law_take" ["_law_box_here", "_law_many"] spTake) : FnOk P w K mg base CX0 (k + 1) f fd ["_law_box_here", "_law_names_here", "_law_most"] spSome := by
  obtain ⟨_, _, G__law_take, m__law_take, k__law_take, b__law_take⟩ := G
  have sc := scSome
  refine F.ok sc (fun vs H Q E h => ?_) (fun cdv A outer s H vs Q E hr h => ?_)
  · obtain ⟨a, l, n, m, ws, rfl, _⟩ := h
    rfl
  obtain ⟨a, l, n, m, ws, rfl, hB, hn, la, hl, hw, hm, q⟩ := h
  refine ⟨_, (pss_cons (ps_setLc (i := 3) (own := [("_law_name", 4)]) (by rfl) sc.nd rfl rfl (sw_true rfl rfl rfl (by decide +kernel)) (pi_list (pv 1)) (blkOk_by (own := [("_law_name", 4)]) (N := ["_law_box_here", "_law_names_here", "_law_most", "_law_found", "_law_name"]) (sc := defScope sSome) (by decide +kernel)) (fun _ _ _ _ _ => (pg_name (i := 4) sc.nd rfl (.inl rfl))) (fun _ _ _ _ _ => (pts_one (pt_cmpR op_eq (pe_call G__law_take (hr.mono (by omega)) (by rfl) m__law_take k__law_take b__law_take .nil pass0 (pa_cons (pv 0) (pa_cons pe_int pa_nil))) pe_int (nomark _)))) (fun _ _ _ _ _ => (pv 4)))
      (pss_one (ps_ret (pe_slice sl_list (pv 3) po_none (po_some (pe_call G__law_take (hr.mono (by omega)) (by rfl) m__law_take k__law_take b__law_take .nil pass0 (pa_cons (pv 0) (pa_cons (pe_op op_add (pv 2) pe_int) pa_nil)))))))), ?_⟩
  refine ⟨_, rfl, l, rfl, ⟨_, SqL.of hl⟩, fun D nD => lc_it walk_list (fun i H' => But a H H' ∧ Box H' a (n + i) ∧ ∃ zs : List Str, zs.Sublist (ws.take i) ∧ H' D = some (.lst (zs.map V.str))) ⟨But.of (same_upd nD), hB.same (same_upd nD), [], .slnil, upd_same⟩
    (fun _ _ _ h => SqL.of (h.1 _ _ la hl)) ?_ ?_⟩
  · rintro i x _ H1 hi ⟨s1, B1, zs, hz, hD⟩ ⟨rfl, ex⟩
    rw [List.getElem?_map] at ex
    obtain ⟨z, ez, rfl⟩ := Option.map_eq_some_iff.mp ex
    have hi' : i < ws.length := (List.getElem?_eq_some_iff.mp ez).1
    refine ⟨rfl, _, rfl, a, n + i, 2, rfl, B1, by omega, by decide, by decide, fun r H2 r0 r1 s2 B2 => ?_⟩
    have aD := hB.ne nD
    have hD2 := s2 _ _ aD.symm hD
    have tk : ws.take (i + 1) = ws.take i ++ [z] := by rw [List.take_succ, ez]; rfl
    refine ⟨rfl, _, rfl, ite2 (fun _ => ?_) (fun _ => ?_)⟩
    · refine ⟨_, rfl, _, hD2, ?_, fun b o nb h => ?_, B2.upd aD, zs ++ [z], ?_, ?_⟩
      · rw [List.length_map]
        have := hz.length_le
        rw [List.length_take] at this
        exact small1000 (by omega)
      · rw [upd_ne (fun z => by rw [z, nD] at h; cases h)]
        exact s2 _ _ nb (s1 _ _ nb h)
      · rw [tk]
        exact hz.append (List.Sublist.refl _)
      · rw [upd_same, List.map_append]
        rfl
    · exact ⟨s1.trans s2, B2, zs, by rw [tk]; exact hz.trans (List.sublist_append_left ..), hD2⟩
  rintro H1 ⟨s1, B1, zs, hz, hD⟩
  rw [List.length_map, List.take_length] at hz
  rw [List.length_map] at B1
  have aD := hB.ne nD
  refine ⟨_, rfl, _, rfl, _, rfl, m, 1, rfl, rfl, a, n + ws.length, _, rfl, B1, by omega, by omega, by omega, fun r H2 r0 r1 s2 B2 => ?_⟩
  have hD2 := s2 _ _ aD.symm hD
  have hr : r = ((r.toNat : Nat) : Int) := by omega
  refine ⟨_, rfl, D, _, rfl, SqL.of hD2, fun c nc => ?_⟩
  rw [hr, cut_to, ← List.map_take]
  obtain ⟨ob, hob'⟩ := B2.is
  refine q c (zs.take r.toNat) _ ((s1.trans s2).trans (But.of (same_upd nc))) ((B2.same (same_upd nc)).le (by omega)) ((s1.trans s2).free hob' nc) upd_same ((List.take_sublist _ _).trans hz)
/-! ### worth -/
abbrev sWorth : Stmt := top 43
def spWorth : Sp := fun vs H Q _ => ∃ (a : Addr) (n : Nat), vs = [.ref a] ∧ Box H a n ∧ n + 3 ≤ 1000000 ∧ ∀ (z : Int) H', Wv z → But a H H' → Box H' a (n + 3) → Q (.int z) H'
theorem scWorth : FnScope ["_law_box_here"] ["_law_box_here"] (defScope sWorth) := ⟨rfl, rfl, rfl, by decide +kernel, rfl, by decide +kernel, by decide +kernel⟩
theorem ok_worth {k : Nat} (F : Fun K "_law_worth" "_law_worth" sWorth f fd) (G : FnG P w K mg base CX0 k "_law_take" ["_law_box_here", "_law_many"] spTake) : FnOk P w K mg base CX0 (k + 1) f fd ["_law_box_here"] spWorth := by
  obtain ⟨_, _, G__law_take, m__law_take, k__law_take, b__law_take⟩ := G
  have sc := scWorth
  refine F.ok sc (fun vs H Q E h => ?_) (fun cdv A outer s H vs Q E hr h => ?_)
  · obtain ⟨a, n, rfl, _⟩ := h
    rfl
  obtain ⟨a, n, rfl, hB, hn, q⟩ := h
  refine ⟨_, (pss_one (ps_ret (pe_ix ix_list (pe_lst (pa_cons (pe_op op_sub (pe_call G__law_take (hr.mono (by omega)) (by rfl) m__law_take k__law_take b__law_take .nil pass0 (pa_cons (pv 0) (pa_cons pe_int pa_nil))) pe_int) (pa_cons (pe_call G__law_take (hr.mono (by omega)) (by rfl) m__law_take k__law_take b__law_take .nil pass0 (pa_cons (pv 0) (pa_cons pe_int pa_nil))) (pa_cons (pe_op op_pow pe_int pe_int) (pa_cons (pe_un un_neg (pe_op op_pow pe_int pe_int)) (pa_cons pe_int (pa_cons pe_int pa_nil))))))) (pe_call G__law_take (hr.mono (by omega)) (by rfl) m__law_take k__law_take b__law_take .nil pass0 (pa_cons (pv 0) (pa_cons pe_int pa_nil))) (fun _ _ => rfl)))), ?_⟩
  refine ⟨_, rfl, a, n, 9, rfl, hB, by omega, by decide, by decide, fun r1 H1 r10 r11 s1 B1 => ?_⟩
  refine ⟨r1, 2, rfl, rfl, _, rfl, a, n + 1, 40, rfl, B1, by omega, by decide, by decide, fun r2 H2 r20 r21 s2 B2 => ⟨10, 6, rfl, rfl, ⟨by decide, by decide, by decide⟩, 10, 6, rfl, rfl, ⟨by decide, by decide, by decide⟩, _, rfl, by show 6 ≤ sizeLine; decide, fun l nl => ?_⟩⟩
  have s3 := same_upd (o := .lst [V.int (r1 - 2), .int r2, .int (10 ^ (6 : Int).toNat), .int (-(10 ^ (6 : Int).toNat)), .int 0, .int 1]) nl
  have e3 := upd_same (H := H2) (a := l) (o := .lst [V.int (r1 - 2), .int r2, .int (10 ^ (6 : Int).toNat), .int (-(10 ^ (6 : Int).toNat)), .int 0, .int 1])
  have B3 := B2.same s3
  have al := B2.ne nl
  refine ⟨_, rfl, a, n + 2, 6, rfl, B3, by omega, by decide, by decide, fun r3 H3 r30 r31 s4 B4 => ?_⟩
  obtain ⟨z, wz, hz⟩ : ∃ z : Int, Wv z ∧ atI [V.int (r1 - 2), .int r2, .int (10 ^ (6 : Int).toNat), .int (-(10 ^ (6 : Int).toNat)), .int 0, .int 1] r3 = some (.int z) := by
    have : r3 = 0 ∨ r3 = 1 ∨ r3 = 2 ∨ r3 = 3 ∨ r3 = 4 ∨ r3 = 5 := by omega
    rcases this with rfl | rfl | rfl | rfl | rfl | rfl
    · exact ⟨_, ⟨by omega, by omega⟩, rfl⟩
    · exact ⟨_, ⟨by omega, by omega⟩, rfl⟩
    · exact ⟨_, ⟨by decide, by decide⟩, rfl⟩
    · exact ⟨_, ⟨by decide, by decide⟩, rfl⟩
    · exact ⟨_, ⟨by decide, by decide⟩, rfl⟩
    · exact ⟨_, ⟨by decide, by decide⟩, rfl⟩
  exact ⟨l, _, r3, _, rfl, rfl, SqL.of (s4 _ _ al.symm e3), hz, q z H3 wz (((s1.trans s2).trans (But.of s3)).trans s4) B4⟩
/-! ### pairs, rows -/
abbrev sPairs : Stmt := top 44
def spPairs : Sp := fun vs H Q _ => ∃ (a l : Addr) (n : Nat) (ws : List Str), vs = [.ref a, .ref l] ∧ Box H a n ∧ n + 30 ≤ 1000000 ∧ l ≠ a ∧ H l = some (.lst (ws.map V.str)) ∧ ws.length ≤ 10 ∧
  ∀ (p : Addr) (nm : Nms) (H' : Hp), But a H H' → Box H' a (n + 30) → TN H' p nm → nm.map (·.1) = ws → (∀ q ∈ nm, Wv q.2) → Q (.ref p) H'
theorem scPairs : FnScope ["_law_box_here", "_law_names_here", "_law_name"] ["_law_box_here", "_law_names_here"] (defScope sPairs) := ⟨rfl, rfl, rfl, by decide +kernel, rfl, by decide +kernel, by decide +kernel⟩
theorem ok_pairs {k : Nat} (F : Fun K "_law_pairs" "_law_pairs" sPairs f fd) (G : FnG P w K mg base CX0 k "_law_worth" ["_law_box_here"] spWorth) (m_tuple : mg "tuple" = none) : FnOk P w K mg base CX0 (k + 1) f fd ["_law_box_here", "_law_names_here"] spPairs := by
  obtain ⟨_, _, G__law_worth, m__law_worth, k__law_worth, b__law_worth⟩ := G
  have sc := scPairs
  refine F.ok sc (fun vs H Q E h => ?_) (fun cdv A outer s H vs Q E hr h => ?_)
  · obtain ⟨a, l, n, ws, rfl, _⟩ := h
    rfl
  obtain ⟨a, l, n, ws, rfl, hB, hn, la, hl, hw, q⟩ := h
  refine ⟨_, (pss_one (ps_ret (pe_callTy (show CallR _ (.type "tuple") (rTupX K) from call_tupX) (by rfl) m_tuple (by decide +kernel) (pa_cons (pe_lc (own := [("_law_name", 2)]) (by rfl) sc.nd  (pi_list (pv 1)) (blkOk_by (own := [("_law_name", 2)]) (N := ["_law_box_here", "_law_names_here", "_law_name"]) (sc := defScope sPairs) (by decide +kernel)) (fun _ _ _ _ _ => (pg_name (i := 2) sc.nd rfl (.inl rfl))) (fun _ _ _ _ _ => pts_nil) (fun _ _ _ _ _ => (pe_tup (pa_cons (pv 2) (pa_cons (pe_call G__law_worth (hr.mono (by omega)) (by rfl) m__law_worth k__law_worth b__law_worth .nil pass0 (pa_cons (pv 0) pa_nil)) pa_nil))))) pa_nil)))), ?_⟩
  refine ⟨_, rfl, l, rfl, ⟨_, SqL.of hl⟩, fun D nD => lc_it walk_list (fun i H' => But a H H' ∧ Box H' a (n + 3 * i) ∧ ∃ (nm : Nms) (ts : List Addr), (∀ q ∈ nm, Wv q.2) ∧ nm.map (·.1) = ws.take i ∧ H' D = some (.lst (ts.map V.ref)) ∧ Paired (fun t (q : Str × Int) => H' t = some (.tup [.str q.1, .int q.2])) ts nm) ⟨But.of (same_upd nD), hB.same (same_upd nD), [], [], (fun q hq => by cases hq), rfl, upd_same, .nil⟩
    (fun _ _ _ h => SqL.of (h.1 _ _ la hl)) ?_ ?_⟩
  · rintro i x _ H1 hi ⟨s1, B1, nm, ts, wv, hz, hD, pr⟩ ⟨rfl, ex⟩
    rw [List.getElem?_map] at ex
    obtain ⟨z, ez, rfl⟩ := Option.map_eq_some_iff.mp ex
    have hi' : i < ws.length := (List.getElem?_eq_some_iff.mp ez).1
    refine ⟨rfl, ?_⟩
    unfold tYes
    refine iteT ⟨_, rfl, _, rfl, a, n + 3 * i, rfl, B1, by omega, fun v H2 wz s2 B2 => ⟨by show 2 ≤ sizeLine; decide, fun t nt => ?_⟩⟩
    have aD := hB.ne nD
    have st := same_upd (o := .tup [V.str z, .int v]) nt
    have et := upd_same (H := H2) (a := t) (o := .tup [V.str z, .int v])
    have hD3 := st _ _ (s2 _ _ aD.symm hD)
    have pr3 := L2.Paired.mapP (G := fun t' (q : Str × Int) => (upd H2 t (.tup [V.str z, .int v])) t' = some (.tup [.str q.1, .int q.2])) pr fun t' q e => st _ _ ((TS.box B1 s2).t _ _ e)
    have B3 := B2.same st
    have s13 := (s1.trans s2).trans (But.of st)
    generalize upd H2 t (.tup [V.str z, .int v]) = H3 at *
    have keep : ∀ {b xs}, H3 b = some (.tup xs) → (upd H3 D (.lst (ts.map V.ref ++ [.ref t]))) b = some (.tup xs) := fun {b xs} e => by rw [upd_ne (ne_of e hD3 nofun)]; exact e
    have ln : ts.length = i := by
      have := congrArg List.length hz
      rw [List.length_map, List.length_take] at this
      rw [paired_len pr]
      omega
    refine ⟨_, hD3, by rw [List.length_map, ln]; exact small1000 (by omega), fun b o nb h => ?_, (B3.upd aD).le (by omega), nm ++ [(z, v)], ts ++ [t], ?_, ?_, ?_, ?_⟩
    · rw [upd_ne (fun z => by rw [z, nD] at h; cases h)]
      exact s13 _ _ nb h
    · intro q hq
      rcases List.mem_append.mp hq with hq | hq
      · exact wv q hq
      · rw [List.mem_singleton.mp hq]; exact wz
    · rw [List.map_append, hz, List.take_succ, ez]; rfl
    · rw [upd_same, List.map_append]; rfl
    · exact paired_snoc (L2.Paired.mapP pr3 fun t' q e => keep e) (keep et)
  rintro H1 ⟨s1, B1, nm, ts, wv, hz, hD, pr⟩
  rw [List.length_map, List.take_length] at hz
  rw [List.length_map] at B1
  refine ⟨D, _, rfl, SqL.of hD, fun p o od np => ?_⟩
  have sp := same_upd (o := .frz o (.tup (ts.map V.ref))) np
  exact q p nm _ (s1.trans (But.of sp)) ((B1.same sp).le (by omega)) ⟨ts, ⟨o, od, upd_same⟩, L2.Paired.mapP pr fun t q e => sp _ _ e⟩ hz wv
abbrev sRows : Stmt := top 45
def spRows : Sp := fun vs H Q _ => ∃ (a l : Addr) (n : Nat) (ws : List Str), vs = [.ref a, .ref l] ∧ Box H a n ∧ n + 300 ≤ 1000000 ∧ l ≠ a ∧ H l = some (.lst (ws.map V.str)) ∧ ws.length ≤ 10 ∧
  ∀ (p : Addr) (rw : Rws) (H' : Hp), But a H H' → Box H' a (n + 300) → TR H' p rw → rw.map (·.1) = ws → (∀ q ∈ rw, q.2.length ≤ 8 ∧ ∀ i ∈ q.2, Wv i) → Q (.ref p) H'
theorem scRows : FnScope ["_law_box_here", "_law_names_here", "_law_name", "_law_k"] ["_law_box_here", "_law_names_here"] (defScope sRows) := ⟨rfl, rfl, rfl, by decide +kernel, rfl, by decide +kernel, by decide +kernel⟩
theorem ok_rows {k : Nat} (F : Fun K "_law_rows" "_law_rows" sRows f fd) (GT : FnG P w K mg base CX0 k "_law_take" ["_law_box_here", "_law_many"] spTake) (G : FnG P w K mg base CX0 k "_law_worth" ["_law_box_here"] spWorth) (m_tuple : mg "tuple" = none) (m_range : mg "range" = none) : FnOk P w K mg base CX0 (k + 1) f fd ["_law_box_here", "_law_names_here"] spRows := by
  obtain ⟨_, _, G__law_worth, m__law_worth, k__law_worth, b__law_worth⟩ := G
  obtain ⟨_, _, G__law_take, m__law_take, k__law_take, b__law_take⟩ := GT
  have sc := scRows
  refine F.ok sc (fun vs H Q E h => ?_) (fun cdv A outer s H vs Q E hr h => ?_)
  · obtain ⟨a, l, n, ws, rfl, _⟩ := h
    rfl
  obtain ⟨a, l, n, ws, rfl, hB, hn, la, hl, hw, q⟩ := h
  refine ⟨_, (pss_one (ps_ret (pe_callTy (show CallR _ (.type "tuple") (rTupX K) from call_tupX) (by rfl) m_tuple (by decide +kernel) (pa_cons (pe_lc (own := [("_law_name", 2)]) (by rfl) sc.nd  (pi_list (pv 1)) (blkOk_by (own := [("_law_name", 2)]) (N := ["_law_box_here", "_law_names_here", "_law_name", "_law_k"]) (sc := defScope sRows) (by decide +kernel)) (fun _ _ _ _ _ => (pg_name (i := 2) sc.nd rfl (.inl rfl))) (fun _ _ _ _ _ => pts_nil) (fun _ _ _ _ _ => (pe_tup (pa_cons (pv 2) (pa_cons (pe_callTy (show CallR _ (.type "tuple") (rTupX K) from call_tupX) (by rfl) m_tuple (by decide +kernel) (pa_cons (pe_lc (own := [("_law_k", 3)]) (by rfl) sc.nd  (pi_range1 (by rfl) m_range (pa_cons (pe_call G__law_take (hr.mono (by omega)) (by rfl) m__law_take k__law_take b__law_take .nil pass0 (pa_cons (pv 0) (pa_cons pe_int pa_nil))) pa_nil)) (blkOk_by (own := [("_law_k", 3)]) (N := ["_law_box_here", "_law_names_here", "_law_name", "_law_k"]) (sc := _) (by kernel_rfl)) (fun _ _ _ _ _ => (pg_name (i := 3) sc.nd rfl (.inl rfl))) (fun _ _ _ _ _ => pts_nil) (fun _ _ _ _ _ => (pe_call G__law_worth (hr.mono (by omega)) (by rfl) m__law_worth k__law_worth b__law_worth .nil pass0 (pa_cons (pv 0) pa_nil)))) pa_nil)) pa_nil))))) pa_nil)))), ?_⟩
  refine ⟨_, rfl, l, rfl, ⟨_, SqL.of hl⟩, fun D nD => lc_it walk_list (fun i H' => But a H H' ∧ Box H' a (n + 30 * i) ∧ ∃ (rw : Rws) (ts : List Addr), rw.map (·.1) = ws.take i ∧ (∀ q ∈ rw, q.2.length ≤ 8 ∧ ∀ i ∈ q.2, Wv i) ∧ H' D = some (.lst (ts.map V.ref)) ∧ Paired (fun t (q : Str × List Int) => ∃ r, H' t = some (.tup [.str q.1, .ref r]) ∧ TupX H' r (q.2.map V.int)) ts rw) ⟨But.of (same_upd nD), hB.same (same_upd nD), [], [], rfl, (fun q hq => by cases hq), upd_same, .nil⟩
    (fun _ _ _ h => SqL.of (h.1 _ _ la hl)) ?_ ?_⟩
  · rintro i x _ H1 hi ⟨s1, B1, rw_, ts, hz, h8, hD, pr⟩ ⟨rfl, ex⟩
    rw [List.getElem?_map] at ex
    obtain ⟨z, ez, rfl⟩ := Option.map_eq_some_iff.mp ex
    have hi' : i < ws.length := (List.getElem?_eq_some_iff.mp ez).1
    have aD := hB.ne nD
    refine ⟨rfl, yesI (iteT ?_)⟩
    refine ⟨_, rfl, _, rfl, a, n + 30 * i, 9, rfl, B1, by omega, by decide, by decide, fun r H2 r0 r1 s2 B2 => ⟨r, rfl, by omega, by omega, fun E nE => lc_it walk_range (fun j H' => But a H2 H' ∧ Box H' a (n + 30 * i + 1 + 3 * j) ∧ ∃ ms : List Int, (∀ m ∈ ms, Wv m) ∧ ms.length = j ∧ H' E = some (.lst (ms.map V.int))) ⟨But.of (same_upd nE), B2.same (same_upd nE), [], (fun m hm => by cases hm), rfl, upd_same⟩ (fun _ _ _ _ => trivial) ?_ ?_⟩⟩
    · rintro j x _ H3 hj ⟨s3, B3, ms, wm, lm, hE⟩ ⟨rfl, rfl⟩
      have aE := B2.ne nE
      refine ⟨rfl, yesI (iteT ?_)⟩
      refine ⟨_, rfl, a, _, rfl, B3, by omega, fun v H4 wz s4 B4 => ?_⟩
      refine ⟨_, s4 _ _ aE.symm hE, by rw [List.length_map, lm]; exact small1000 (by omega), fun b o nb h => ?_, (B4.upd aE).le (by omega), ms ++ [v], (fun m hm => (List.mem_append.mp hm).elim (wm m) fun z => by rw [List.mem_singleton.mp z]; exact wz), by rw [List.length_append, lm]; rfl, ?_⟩
      · rw [upd_ne (fun z => by rw [z, nE] at h; cases h)]
        exact s4 _ _ nb (s3 _ _ nb h)
      · rw [upd_same, List.map_append]; rfl
    rintro H3 ⟨s3, B3, ms, wm, lm, hE⟩
    have lr : r.toNat ≤ 8 := by omega
    refine ⟨E, _, rfl, SqL.of hE, fun rr o od nr => ⟨by show 2 ≤ sizeLine; decide, fun t nt => ?_⟩⟩
    have sr := same_upd (o := .frz o (.tup (ms.map V.int))) nr
    have er : TupX (upd H3 rr (.frz o (.tup (ms.map V.int)))) rr (ms.map V.int) := ⟨o, od, upd_same⟩
    generalize upd H3 rr (.frz o (.tup (ms.map V.int))) = H4 at *
    have st := same_upd (o := .tup [V.str z, .ref rr]) nt
    have et := upd_same (H := H4) (a := t) (o := .tup [V.str z, .ref rr])
    have s35 := sr.trans st
    have er5 := tupX_ts er (TS.same st)
    have B5 := B3.same s35
    have s25 := s3.trans (But.of s35)
    have s15 := s2.trans s25
    have T15 := TS.box B1 s15
    generalize upd H4 t (.tup [V.str z, .ref rr]) = H5 at *
    have hD5 := s15 _ _ aD.symm hD
    have keep : ∀ {b xs}, H5 b = some (.tup xs) → (upd H5 D (.lst (ts.map V.ref ++ [.ref t]))) b = some (.tup xs) := fun {b xs} e => by rw [upd_ne (ne_of e hD5 nofun)]; exact e
    have keepX : ∀ {b xs}, TupX H5 b xs → TupX (upd H5 D (.lst (ts.map V.ref ++ [.ref t]))) b xs := fun {b xs} ⟨o, od, e⟩ => ⟨o, od, by rw [upd_ne (ne_of e hD5 nofun)]; exact e⟩
    have ln : ts.length = i := by
      have := congrArg List.length hz
      rw [List.length_map, List.length_take] at this
      rw [paired_len pr]
      omega
    refine ⟨_, hD5, by rw [List.length_map, ln]; exact small1000 (by omega), fun b o nb h => ?_, (B5.upd aD).le (by omega), rw_ ++ [(z, ms)], ts ++ [t], ?_, ?_, ?_, ?_⟩
    · rw [upd_ne (fun z => by rw [z, nD] at h; cases h)]
      exact s15 _ _ nb (s1 _ _ nb h)
    · rw [List.map_append, hz, List.take_succ, ez]; rfl
    · intro q hq
      rcases List.mem_append.mp hq with hq | hq
      · exact h8 q hq
      · rw [List.mem_singleton.mp hq]
        exact ⟨by show ms.length ≤ 8; omega, wm⟩
    · rw [upd_same, List.map_append]; rfl
    · exact paired_snoc (L2.Paired.mapP pr fun t' q ⟨r', e, f⟩ => ⟨r', keep (T15.t _ _ e), keepX (tupX_ts f T15)⟩) ⟨rr, keep et, keepX er5⟩
  rintro H1 ⟨s1, B1, rw_, ts, hz, h8, hD, pr⟩
  rw [List.length_map, List.take_length] at hz
  rw [List.length_map] at B1
  refine ⟨D, _, rfl, SqL.of hD, fun p o od np => ?_⟩
  have sp := same_upd (o := .frz o (.tup (ts.map V.ref))) np
  exact q p rw_ _ (s1.trans (But.of sp)) ((B1.same sp).le (by omega)) ⟨ts, ⟨o, od, upd_same⟩, L2.Paired.mapP pr fun t q ⟨r, e, f⟩ => ⟨r, sp _ _ e, tupX_ts f (TS.same sp)⟩⟩ hz h8
end
end Fd

set_option Elab.async false
set_option linter.all false
set_option maxRecDepth 100000
set_option maxHeartbeats 1000000
namespace Fd
open PySem PySem.Spec PyProof.Rows L2 RZ Fw LamX
def FgX (K : PySem.W.Frag) (H : Hp) (v : V) (f : Fig) : Prop := ∃ b p n l e1 e2, v = .ref b ∧ SqT K H b [.str f.nm, .ref p, .ref n, .ref l, .ref e1, .ref e2] ∧ SqT K H p [.int f.x, .int f.y, .int f.w] ∧ TN H n f.ns ∧ TR H l f.rs ∧ SqT K H e1 [] ∧ SqT K H e2 []
def PlayX (K : PySem.W.Frag) (H : Hp) (v : V) (G : Gnd) : Prop := ∃ a s n l f fs, v = .ref a ∧ SqT K H a [.ref s, .ref n, .ref l, .ref f] ∧ SqT K H s [.int G.wide, .int G.high] ∧ TN H n G.nm ∧ TR H l G.rw ∧ SqT K H f fs ∧ Paired (FgX K H) fs G.figs
theorem FgX.ts {K : PySem.W.Frag} {H H' : Hp} {v : V} {f : Fig} (h : FgX K H v f) (s : TS H H') : FgX K H' v f := by
  obtain ⟨b, p, n, l, e1, e2, e, h1, h2, h3, h4, h5, h6⟩ := h
  exact ⟨b, p, n, l, e1, e2, e, sqT_ts h1 s, sqT_ts h2 s, h3.ts s, h4.ts s, sqT_ts h5 s, sqT_ts h6 s⟩
theorem PlayX.ts {K : PySem.W.Frag} {H H' : Hp} {v : V} {G : Gnd} (h : PlayX K H v G) (s : TS H H') : PlayX K H' v G := by
  obtain ⟨a, p, n, l, f, fs, e, h1, h2, h3, h4, h5, h6⟩ := h
  exact ⟨a, p, n, l, f, fs, e, sqT_ts h1 s, sqT_ts h2 s, h3.ts s, h4.ts s, sqT_ts h5 s, L2.Paired.mapP h6 fun _ _ e => e.ts s⟩
/-- a play as it is drawn -/
structure Drawn (G : Gnd) : Prop where
  ok : G.Ok
  one : 1 ≤ G.figs.length
  few : G.figs.length ≤ 4
  w0 : 1 ≤ G.wide
  w1 : G.wide ≤ 20
  h0 : 1 ≤ G.high
  h1 : G.high ≤ 20
  l4 : G.nm.length ≤ 10 ∧ G.rw.length ≤ 10 ∧ (∀ q ∈ G.rw, q.2.length ≤ 8 ∧ ∀ i ∈ q.2, Wv i) ∧ ∀ q ∈ G.nm, Wv q.2
  f4 : ∀ f ∈ G.figs, f.ns.length ≤ 10 ∧ f.rs.length ≤ 10 ∧ (∀ q ∈ f.rs, q.2.length ≤ 8 ∧ ∀ i ∈ q.2, Wv i) ∧ (∀ q ∈ f.ns, Wv q.2) ∧ Wv f.x ∧ Wv f.y ∧ Wv f.w ∧ 0 ≤ f.x ∧ f.x < G.wide ∧ 0 ≤ f.y ∧ f.y < G.high ∧ 0 ≤ f.w ∧ f.w < 4
theorem hok_of {ws zs ys : List Str} {nm : Nms} {rw : Rws} (h1 : nm.map (·.1) = zs) (h2 : rw.map (·.1) = ys) (s1 : zs.Sublist ws) (s2 : ys.Sublist ws) (nd : ws.Nodup) (as : ∀ z ∈ ws, Asc 8 z) (ln : ws.length ≤ 10) (h8 : ∀ q ∈ rw, q.2.length ≤ 8 ∧ ∀ i ∈ q.2, Wv i) : Hok nm rw := by
  have l1 := congrArg List.length h1
  have l2 := congrArg List.length h2
  rw [List.length_map] at l1 l2
  have := s1.length_le
  have := s2.length_le
  refine ⟨by rw [h1]; exact nd.sublist s1, by rw [h2]; exact nd.sublist s2, by omega, by omega, fun q hq => Nat.le_trans (h8 q hq).1 (by decide), fun q hq => as _ (s1.subset ?_), fun q hq => as _ (s2.subset ?_)⟩
  · rw [← h1]; exact List.mem_map.mpr ⟨q, hq, rfl⟩
  · rw [← h2]; exact List.mem_map.mpr ⟨q, hq, rfl⟩
section
variable {P : Program} {w : World} {K : PySem.W.Frag} {mg : Str → Option Value} {base : Heap} {f : Addr} {fd : FuncData}
abbrev sPlay : Stmt := top 46
def spPlay (K : PySem.W.Frag) : Sp := fun vs H Q _ => ∃ (a : Addr) (n : Nat), vs = [.ref a] ∧ Box H a n ∧ n + 3000 ≤ 1000000 ∧ ∀ (v : V) (G : Gnd) (H' : Hp), But a H H' → Box H' a (n + 3000) → PlayX K H' v G → Drawn G → Q v H'
theorem scPlay : FnScope ["_law_box_here", "_law_wide", "_law_high", "_law_names_here", "_law_figures", "_law_called", "_law_name", "_law_spot", "_law_own", "_law_of_all", "_law_turn"] ["_law_box_here"] (defScope sPlay) := ⟨rfl, rfl, rfl, by decide +kernel, rfl, by decide +kernel, by decide +kernel⟩
theorem ok_play {k : Nat} (F : Fun K "_law_play" "_law_play" sPlay f fd) (GT : FnG P w K mg base CX0 k "_law_take" ["_law_box_here", "_law_many"] spTake) (GN : FnG P w K mg base CX0 k "_law_names" ["_law_box_here", "_law_many"] spNames) (GS : FnG P w K mg base CX0 k "_law_some" ["_law_box_here", "_law_names_here", "_law_most"] spSome)
    (GP : FnG P w K mg base CX0 k "_law_pairs" ["_law_box_here", "_law_names_here"] spPairs) (GR : FnG P w K mg base CX0 k "_law_rows" ["_law_box_here", "_law_names_here"] spRows) (m_tuple : mg "tuple" = none) (m_range : mg "range" = none) : FnOk P w K mg base CX0 (k + 1) f fd ["_law_box_here"] (spPlay K) := by
  obtain ⟨_, _, G__law_take, m__law_take, k__law_take, b__law_take⟩ := GT
  obtain ⟨_, _, G__law_names, m__law_names, k__law_names, b__law_names⟩ := GN
  obtain ⟨_, _, G__law_some, m__law_some, k__law_some, b__law_some⟩ := GS
  obtain ⟨_, _, G__law_pairs, m__law_pairs, k__law_pairs, b__law_pairs⟩ := GP
  obtain ⟨_, _, G__law_rows, m__law_rows, k__law_rows, b__law_rows⟩ := GR
  have sc := scPlay
  refine F.ok sc (fun vs H Q E h => ?_) (fun cdv A outer s H vs Q E hr h => ?_)
  · obtain ⟨a, n, rfl, _⟩ := h
    rfl
  obtain ⟨a, n, rfl, hB, hn, q⟩ := h
  refine ⟨_, (pss_cons (ps_asg (pe_lc (own := [("_law_turn", 10)]) (by rfl) sc.nd  (pi_range1 (by rfl) m_range (pa_cons pe_int pa_nil)) (blkOk_by (own := [("_law_turn", 10)]) (N := ["_law_box_here", "_law_wide", "_law_high", "_law_names_here", "_law_figures", "_law_called", "_law_name", "_law_spot", "_law_own", "_law_of_all", "_law_turn"]) (sc := defScope sPlay) (by decide +kernel)) (fun _ _ _ _ _ => (pg_name (i := 10) sc.nd rfl (.inl rfl))) (fun _ _ _ _ _ => pts_nil) (fun _ _ _ _ _ => (pe_op op_add pe_int (pe_call G__law_take (hr.mono (by omega)) (by rfl) m__law_take k__law_take b__law_take .nil pass0 (pa_cons (pv 0) (pa_cons (pe_ix (show IxR _ (rIxL K) from ix_list) (pe_lst (pa_cons pe_int (pa_cons pe_int pa_nil))) (pe_call G__law_take (hr.mono (by omega)) (by rfl) m__law_take k__law_take b__law_take .nil pass0 (pa_cons (pv 0) (pa_cons pe_int pa_nil))) (fun _ _ => rfl)) pa_nil)))))) (pg_or (pg_tup (by rfl) (pgs_cons (pg_name (i := 1) sc.nd rfl (.inl rfl)) (pgs_cons (pg_name (i := 2) sc.nd rfl (.inl rfl)) pgs_nil))) (pg_lst (by rfl) (pgs_cons (pg_name (i := 1) sc.nd rfl (.inl rfl)) (pgs_cons (pg_name (i := 2) sc.nd rfl (.inl rfl)) pgs_nil)))))
      (pss_cons (ps_par (i := 3) (j := 4) (by rfl) sc.nd rfl rfl (by decide) rfl rfl (pa_cons (pe_call G__law_names (hr.mono (by omega)) (by rfl) m__law_names k__law_names b__law_names .nil pass0 (pa_cons (pv 0) (pa_cons pe_int pa_nil))) (pa_cons (pe_lst pa_nil) pa_nil)) (by rfl))
      (pss_cons (ps_set (i := 5) sc.nd rfl (.inl rfl) (pe_slice sl_list (pe_call G__law_names (hr.mono (by omega)) (by rfl) m__law_names k__law_names b__law_names .nil pass0 (pa_cons (pv 0) (pa_cons pe_int pa_nil))) po_none (po_some (pe_op op_add pe_int (pe_call G__law_take (hr.mono (by omega)) (by rfl) m__law_take k__law_take b__law_take .nil pass0 (pa_cons (pv 0) (pa_cons pe_int pa_nil)))))))
      (pss_cons (ps_for PassesOwn.never rfl (pi_list (pv 5)) (pg_name (i := 6) sc.nd rfl (.inl rfl)) (pss_cons (ps_set (i := 7) sc.nd rfl (.inl rfl) (pe_tup (pa_cons (pe_call G__law_take (hr.mono (by omega)) (by rfl) m__law_take k__law_take b__law_take .nil pass0 (pa_cons (pv 0) (pa_cons (pv 1) pa_nil))) (pa_cons (pe_call G__law_take (hr.mono (by omega)) (by rfl) m__law_take k__law_take b__law_take .nil pass0 (pa_cons (pv 0) (pa_cons (pv 2) pa_nil))) (pa_cons (pe_call G__law_take (hr.mono (by omega)) (by rfl) m__law_take k__law_take b__law_take .nil pass0 (pa_cons (pv 0) (pa_cons pe_int pa_nil))) pa_nil)))))
      (pss_cons (ps_set (i := 8) sc.nd rfl (.inl rfl) (pe_call G__law_pairs (hr.mono (by omega)) (by rfl) m__law_pairs k__law_pairs b__law_pairs .nil pass0 (pa_cons (pv 0) (pa_cons (pe_call G__law_some (hr.mono (by omega)) (by rfl) m__law_some k__law_some b__law_some .nil pass0 (pa_cons (pv 0) (pa_cons (pe_slice sl_list (pv 3) po_none (po_some pe_int)) (pa_cons pe_int pa_nil)))) pa_nil))))
      (pss_one (ps_expr (pe_bm PySem.F.plainAttrs_list PySem.F.slot_list_append PySem.F.type_list_append mt_append (pv 4) (pa_cons (pe_tup (pa_cons (pv 6) (pa_cons (pv 7) (pa_cons (pv 8) (pa_cons (pe_call G__law_rows (hr.mono (by omega)) (by rfl) m__law_rows k__law_rows b__law_rows .nil pass0 (pa_cons (pv 0) (pa_cons (pe_call G__law_some (hr.mono (by omega)) (by rfl) m__law_some k__law_some b__law_some .nil pass0 (pa_cons (pv 0) (pa_cons (pe_slice sl_list (pv 3) (po_some pe_int) po_none) (pa_cons pe_int pa_nil)))) pa_nil))) (pa_cons (pe_tup pa_nil) (pa_cons (pe_tup pa_nil) pa_nil))))))) pa_nil)))))))
      (pss_cons (ps_set (i := 9) sc.nd rfl (.inl rfl) (pe_call G__law_pairs (hr.mono (by omega)) (by rfl) m__law_pairs k__law_pairs b__law_pairs .nil pass0 (pa_cons (pv 0) (pa_cons (pe_call G__law_some (hr.mono (by omega)) (by rfl) m__law_some k__law_some b__law_some .nil pass0 (pa_cons (pv 0) (pa_cons (pv 3) (pa_cons pe_int pa_nil)))) pa_nil))))
      (pss_one (ps_ret (pe_tup (pa_cons (pe_tup (pa_cons (pv 1) (pa_cons (pv 2) pa_nil))) (pa_cons (pv 9) (pa_cons (pe_call G__law_rows (hr.mono (by omega)) (by rfl) m__law_rows k__law_rows b__law_rows .nil pass0 (pa_cons (pv 0) (pa_cons (pe_call G__law_some (hr.mono (by omega)) (by rfl) m__law_some k__law_some b__law_some .nil pass0 (pa_cons (pv 0) (pa_cons (pv 3) (pa_cons pe_int pa_nil)))) pa_nil))) (pa_cons (pe_callTy (show CallR _ (.type "tuple") (rTupX K) from call_tupX) (by rfl) m_tuple (by decide +kernel) (pa_cons (pv 4) pa_nil)) pa_nil)))))))))))), ?_⟩
  refine ⟨2, rfl, by omega, by omega, fun D nD => lc_it walk_range (fun i H' => But a H H' ∧ Box H' a (n + 2 * i) ∧ ∃ ms : List Int, ms.length = i ∧ (∀ m ∈ ms, 1 ≤ m ∧ m ≤ 20) ∧ H' D = some (.lst (ms.map V.int))) ⟨But.of (same_upd nD), hB.same (same_upd nD), [], rfl, (fun m hm => by cases hm), upd_same⟩ (fun _ _ _ _ => trivial) ?_ ?_⟩
  · rintro i x _ H1 hi ⟨s1, B1, ms, lm, hm, hD⟩ ⟨rfl, rfl⟩
    have hi' : i < 2 := hi
    refine ⟨rfl, yesI (iteT ?_)⟩
    refine ⟨_, rfl, by show 2 ≤ sizeLine; decide, fun l nl => ?_⟩
    have sl := same_upd (o := .lst [V.int 3, .int 20]) nl
    have el := upd_same (H := H1) (a := l) (o := .lst [V.int 3, .int 20])
    have B2 := B1.same sl
    have al := B1.ne nl
    have hD2 := sl _ _ hD
    generalize upd H1 l (.lst [V.int 3, .int 20]) = H2 at *
    refine ⟨_, rfl, a, _, 2, rfl, B2, by omega, by decide, by decide, fun r H3 r0 r1 s3 B3 => ?_⟩
    obtain ⟨z, z0, z1, hz⟩ : ∃ z : Int, 0 < z ∧ z ≤ 20 ∧ atI [V.int 3, .int 20] r = some (.int z) := by
      have : r = 0 ∨ r = 1 := by omega
      rcases this with rfl | rfl
      · exact ⟨3, by decide, by decide, rfl⟩
      · exact ⟨20, by decide, by decide, rfl⟩
    refine ⟨l, _, r, _, rfl, rfl, SqL.of (s3 _ _ al.symm el), hz, a, _, z, rfl, B3, by omega, z0, by omega, fun r' H4 r0' r1' s4 B4 => ⟨1, r', rfl, rfl, ?_⟩⟩
    have aD := hB.ne nD
    have hD4 := s4 _ _ aD.symm (s3 _ _ aD.symm hD2)
    refine ⟨_, hD4, by rw [List.length_map, lm]; exact small1000 (by omega), fun b o nb h => ?_, (B4.upd aD).le (by omega), ms ++ [1 + r'], by rw [List.length_append, lm]; rfl, fun m hm' => ?_, ?_⟩
    · rw [upd_ne (fun z => by rw [z, nD] at h; cases h)]
      exact s4 _ _ nb (s3 _ _ nb (sl _ _ (s1 _ _ nb h)))
    · rcases List.mem_append.mp hm' with z | z
      · exact hm m z
      · rw [List.mem_singleton.mp z]; omega
    · rw [upd_same, List.map_append]; rfl
  rintro H1 ⟨s1, B1, ms, lm, hm, hD⟩
  have lm : ms.length = 2 := lm
  obtain ⟨wd, hg, rfl⟩ : ∃ x y, ms = [x, y] := by
    match ms, lm with
    | [x, y], _ => exact ⟨x, y, rfl⟩
  have hw := hm wd (by simp)
  have hh := hm hg (by simp)
  refine sq_or (.inl (SqL.of hD)) rfl ⟨_, _, rfl, _, _, rfl, rfl, ?_⟩
  refine ⟨_, rfl, a, _, 6, rfl, B1, by omega, by decide, fun nh ws H2 s2 B2 nnh hnh lws nd as => ⟨by show 0 ≤ sizeLine; decide, fun fl nfl => ⟨_, _, rfl, ?_⟩⟩⟩
  have s3 := same_upd (o := .lst []) nfl
  have e3 := upd_same (H := H2) (a := fl) (o := .lst [])
  have B3 := B2.same s3
  have anh := B1.ne nnh
  have afl := B2.ne nfl
  have hnh3 := s3 _ _ hnh
  have fl0 : H fl = none := by
    obtain ⟨ob, hob⟩ := B2.is
    exact (s1.trans s2).free hob nfl
  have sH3 := (s1.trans s2).trans (But.of s3)
  generalize upd H2 fl (.lst []) = H3 at *
  refine ⟨_, rfl, a, _, 4, rfl, B3, by omega, by omega, fun nc cs H4 s4 B4 nnc hnc lcs ndc asc => ⟨_, rfl, a, _, 4, rfl, B4, by omega, by decide, by decide, fun r H5 r0 r1 s5 B5 => ⟨1, r, rfl, rfl, _, rfl, nc, _, rfl, SqL.of (s5 _ _ (B3.ne nnc).symm hnc), fun cl ncl => ?_⟩⟩⟩
  have hr1 : (1 : Int) + r = ((1 + r.toNat : Nat) : Int) := by omega
  rw [hr1, cut_to, ← List.map_take]
  have m1 : 1 + r.toNat ≤ 4 := by omega
  have lcs' : (cs.take (1 + r.toNat)).length = 1 + r.toNat := by rw [List.length_take]; omega
  have ndc' : (cs.take (1 + r.toNat)).Nodup := ndc.sublist (List.take_sublist _ _)
  have asc' : ∀ z ∈ cs.take (1 + r.toNat), Asc 8 z := fun z hz => asc z (List.mem_of_mem_take hz)
  generalize cs.take (1 + r.toNat) = dc at *
  have s6 := same_upd (o := .lst (dc.map V.str)) ncl
  have e6 := upd_same (H := H5) (a := cl) (o := .lst (dc.map V.str))
  have B6 := B5.same s6
  have acl := B5.ne ncl
  have s36 := (s4.trans s5).trans (But.of s6)
  have hnh6 := s36 _ _ anh.symm hnh3
  have hfl6 := s36 _ _ afl.symm e3
  have clfl : cl ≠ fl := fun z => by rw [z, (s4.trans s5) _ _ afl.symm e3] at ncl; cases ncl
  have nhfl : nh ≠ fl := fun z => by rw [z, nfl] at hnh; cases hnh
  have sH6 := sH3.trans s36
  generalize upd H5 cl (.lst (dc.map V.str)) = H6 at *
  clear s4 s5 s6 ncl hnc nnc e3 hnh3 s3 nfl hnh
  refine ⟨_, rfl, cl, rfl, ⟨_, SqL.of e6⟩, for_it walk_list (fun i σ H' => But a H H' ∧ Box H' a (n + 4 + 6 + 6 + 1 + 400 * i) ∧ H' nh = some (.lst (ws.map V.str)) ∧ H' cl = some (.lst (dc.map V.str)) ∧ (∃ (fs : List Fig) (vs : List V), H' fl = some (.lst vs) ∧ Paired (FgX K H') vs fs ∧ fs.map Fig.nm = dc.take i ∧
    ∀ f ∈ fs, Hok f.ns f.rs ∧ f.ns.length ≤ 10 ∧ f.rs.length ≤ 10 ∧ (∀ q ∈ f.rs, q.2.length ≤ 8 ∧ ∀ i ∈ q.2, Wv i) ∧ (∀ q ∈ f.ns, Wv q.2) ∧ Wv f.x ∧ Wv f.y ∧ Wv f.w ∧ 0 ≤ f.x ∧ f.x < wd ∧ 0 ≤ f.y ∧ f.y < hg ∧ 0 ≤ f.w ∧ f.w < 4) ∧ ∃ v6 v7 v8 v9 v10, σ = [some (.ref a), some (.int wd), some (.int hg), some (.ref nh), some (.ref fl), some (.ref cl), v6, v7, v8, v9, v10])
    ⟨sH6, B6.le (by omega), hnh6, e6, ⟨[], [], hfl6, .nil, rfl, fun f hf => by cases hf⟩, none, none, none, none, none, rfl⟩ (fun _ _ _ _ h => SqL.of h.2.2.2.1) ?_ ?_⟩
  · rintro i x σ _ H7 hi ⟨sH7, B7, hnh7, hcl7, ⟨fs, vs, hfl7, pr, enm, hfs⟩, v6, v7, v8, v9, v10, rfl⟩ ⟨rfl, ex⟩
    rw [List.getElem?_map] at ex
    obtain ⟨z, ez, rfl⟩ := Option.map_eq_some_iff.mp ex
    have hi' : i < dc.length := (List.getElem?_eq_some_iff.mp ez).1
    refine ⟨_, rfl, _, rfl, a, _, wd, rfl, B7, by omega, by omega, by omega, fun x1 H8 x10 x11 s8 B8 => ⟨_, rfl, _, rfl, a, _, hg, rfl, B8, by omega, by omega, by omega, fun y1 H9 y10 y11 s9 B9 => ⟨_, rfl, a, _, 4, rfl, B9, by omega, by decide, by decide, fun w1 H10 w10 w11 s10 B10 => ⟨by show 3 ≤ sizeLine; decide, fun sp nsp => ?_⟩⟩⟩⟩
    have s11 := same_upd (o := .tup [V.int x1, .int y1, .int w1]) nsp
    have e11 := upd_same (H := H10) (a := sp) (o := .tup [V.int x1, .int y1, .int w1])
    have B11 := B10.same s11
    have s711 := ((s8.trans s9).trans s10).trans (But.of s11)
    generalize upd H10 sp (.tup [V.int x1, .int y1, .int w1]) = H11 at *
    clear s8 s9 s10 nsp s11 B8 B9 B10
    have hnh11 := s711 _ _ anh.symm hnh7
    refine ⟨_, rfl, _, rfl, _, rfl, _, rfl, nh, _, rfl, SqL.of hnh11, fun sl nsl => ?_⟩
    rw [show cutV (ws.map V.str) none (some 4) = _ from cut_to _ 4, ← List.map_take]
    have s12 := same_upd (o := .lst ((ws.take 4).map V.str)) nsl
    have e12 := upd_same (H := H11) (a := sl) (o := .lst ((ws.take 4).map V.str))
    have B12 := B11.same s12
    have asl := B11.ne nsl
    generalize upd H11 sl (.lst ((ws.take 4).map V.str)) = H12 at *
    refine ⟨a, sl, _, 4, ws.take 4, rfl, B12, by omega, asl.symm, e12, by rw [List.length_take]; omega, by decide, fun so zs H13 s13 B13 nso hso sub => ?_⟩
    have aso := B12.ne nso
    have lzs := sub.length_le
    rw [List.length_take] at lzs
    refine ⟨a, so, _, zs, rfl, B13, by omega, aso.symm, hso, by omega, fun on nm H14 s14 B14 tn enm1 wnm => ?_⟩
    have s714 := ((s711.trans (But.of s12)).trans s13).trans s14
    have s1114 := ((But.of s12 : But a H11 H12).trans s13).trans s14
    have e14 := (TS.box B11 s1114).t _ _ e11
    clear s12 s13 s14 nsl nso hso e12
    have hnh14 := s714 _ _ anh.symm hnh7
    have hfl14 := s714 _ _ afl.symm hfl7
    refine ⟨_, rfl, .inl ⟨rfl, _, SqL.of hfl14⟩, _, rfl, _, rfl, _, rfl, _, rfl, _, rfl, _, rfl, _, rfl, nh, _, rfl, SqL.of hnh14, fun sl nsl => ?_⟩
    rw [show cutV (ws.map V.str) (some 2) none = _ from cut_from _ 2, ← List.map_drop]
    have s15 := same_upd (o := .lst ((ws.drop 2).map V.str)) nsl
    have e15 := upd_same (H := H14) (a := sl) (o := .lst ((ws.drop 2).map V.str))
    have B15 := B14.same s15
    have asl := B14.ne nsl
    generalize upd H14 sl (.lst ((ws.drop 2).map V.str)) = H15 at *
    refine ⟨a, sl, _, 2, ws.drop 2, rfl, B15, by omega, asl.symm, e15, by rw [List.length_drop]; omega, by decide, fun so ys H16 s16 B16 nso hso sub2 => ?_⟩
    have aso := B15.ne nso
    have lys := sub2.length_le
    rw [List.length_drop] at lys
    refine ⟨a, so, _, ys, rfl, B16, by omega, aso.symm, hso, by omega, fun rn rw_ H17 s17 B17 tr ern h8 => ?_⟩
    have s1417 := ((But.of s15 : But a H14 H15).trans s16).trans s17
    refine ⟨by show 0 ≤ sizeLine; decide, fun p1 np1 => ⟨by show 0 ≤ sizeLine; decide, fun p2 np2 => ⟨by show 6 ≤ sizeLine; decide, fun bb nbb => ?_⟩⟩⟩
    have t1 := same_upd (o := .tup []) np1
    have f1 := upd_same (H := H17) (a := p1) (o := .tup [])
    generalize upd H17 p1 (.tup []) = H18 at *
    have t2 := same_upd (o := .tup []) np2
    have f2 := upd_same (H := H18) (a := p2) (o := .tup [])
    generalize upd H18 p2 (.tup []) = H19 at *
    have t3 := same_upd (o := .tup [V.str z, .ref sp, .ref on, .ref rn, .ref p1, .ref p2]) nbb
    have f3 := upd_same (H := H19) (a := bb) (o := .tup [V.str z, .ref sp, .ref on, .ref rn, .ref p1, .ref p2])
    generalize upd H19 bb (.tup [V.str z, .ref sp, .ref on, .ref rn, .ref p1, .ref p2]) = H20 at *
    have t1720 := (t1.trans t2).trans t3
    have s1420 := s1417.trans (But.of t1720)
    have s720 := s714.trans s1420
    have B20 := B17.same t1720
    have T1420 := TS.box B14 s1420
    have T720 := TS.box B7 s720
    have fg : FgX K H20 (.ref bb) ⟨z, x1, y1, w1, nm, rw_⟩ := ⟨bb, sp, on, rn, p1, p2, rfl, .inl (.inl f3), .inl (.inl (T1420.t _ _ e14)), tn.ts T1420, tr.ts (TS.same t1720), .inl (.inl ((t2.trans t3) _ _ f1)), .inl (.inl (t3 _ _ f2))⟩
    have hfl20 := s720 _ _ afl.symm hfl7
    have pr20 := L2.Paired.mapP pr fun _ _ e => FgX.ts e T720
    have lvs : vs.length = i := by
      have := congrArg List.length enm
      rw [List.length_map, List.length_take] at this
      rw [paired_len pr]
      omega
    have T21 : TS H20 (upd H20 fl (.lst (vs ++ [.ref bb]))) := ⟨fun b xs e => by rw [upd_ne (ne_of e hfl20 nofun)]; exact e, fun b o xs e => by rw [upd_ne (ne_of e hfl20 nofun)]; exact e⟩
    have hk : Hok nm rw_ := hok_of enm1 ern (sub.trans (List.take_sublist _ _)) (sub2.trans (List.drop_sublist _ _)) nd as (by omega) h8
    have l1 := congrArg List.length enm1
    have l2 := congrArg List.length ern
    rw [List.length_map] at l1 l2
    refine ⟨fl, _, _, rfl, rfl, hfl20, small1000 (by omega), fun b o nb h => ?_, (B20.upd afl).le (by omega), ?_, ?_, ⟨fs ++ [⟨z, x1, y1, w1, nm, rw_⟩], vs ++ [.ref bb], upd_same, paired_snoc (L2.Paired.mapP pr20 fun _ _ e => FgX.ts e T21) (fg.ts T21), ?_, fun f hf => ?_⟩, _, _, _, _, _, rfl⟩
    · rw [upd_ne (fun z => by rw [z, fl0] at h; cases h)]
      exact s720 _ _ nb (sH7 _ _ nb h)
    · rw [upd_ne nhfl]
      exact s720 _ _ anh.symm hnh7
    · rw [upd_ne clfl]
      exact s720 _ _ acl.symm hcl7
    · rw [List.map_append, enm, List.take_succ, ez]; rfl
    · rcases List.mem_append.mp hf with hf | hf
      · exact hfs f hf
      · rw [List.mem_singleton.mp hf]
        exact ⟨hk, by show nm.length ≤ 10; omega, by show rw_.length ≤ 10; omega, h8, wnm, ⟨by show -1000000 ≤ x1; omega, by show x1 ≤ 1000000; omega⟩, ⟨by show -1000000 ≤ y1; omega, by show y1 ≤ 1000000; omega⟩, ⟨by show -1000000 ≤ w1; omega, by show w1 ≤ 1000000; omega⟩, x10, x11, y10, y11, w10, w11⟩
  rintro σ H7 ⟨sH7, B7, hnh7, hcl7, ⟨fs, vs, hfl7, pr, enm, hfs⟩, v6, v7, v8, v9, v10, rfl⟩
  rw [List.length_map] at enm B7
  rw [List.take_length] at enm
  have ld : dc.length ≤ 4 := by omega
  refine ⟨_, rfl, _, rfl, _, rfl, a, nh, _, 4, ws, rfl, B7, by omega, anh.symm, hnh7, by omega, by decide, fun so zs H8 s8 B8 nso hso sub => ?_⟩
  have aso := B7.ne nso
  have lzs := sub.length_le
  refine ⟨a, so, _, zs, rfl, B8, by omega, aso.symm, hso, by omega, fun on nm H9 s9 B9 tn enm1 wnm => ?_⟩
  have s79 := s8.trans s9
  have hnh9 := s79 _ _ anh.symm hnh7
  clear s8 s9 nso hso aso
  refine ⟨_, rfl, _, rfl, by show 2 ≤ sizeLine; decide, fun sz nsz => ?_⟩
  have s10 := same_upd (o := .tup [V.int wd, .int hg]) nsz
  have e10 := upd_same (H := H9) (a := sz) (o := .tup [V.int wd, .int hg])
  have B10 := B9.same s10
  have hnh10 := s10 _ _ hnh9
  generalize upd H9 sz (.tup [V.int wd, .int hg]) = H10 at *
  refine ⟨_, rfl, _, rfl, _, rfl, _, rfl, a, nh, _, 2, ws, rfl, B10, by omega, anh.symm, hnh10, by omega, by decide, fun so ys H11 s11 B11 nso hso sub2 => ?_⟩
  have aso := B10.ne nso
  have lys := sub2.length_le
  refine ⟨a, so, _, ys, rfl, B11, by omega, aso.symm, hso, by omega, fun rn rw_ H12 s12 B12 tr ern h8 => ?_⟩
  have s1012 := s11.trans s12
  have s712 := (s79.trans (But.of s10)).trans s1012
  have hfl12 := s712 _ _ afl.symm hfl7
  refine ⟨_, rfl, fl, _, rfl, SqL.of hfl12, fun ff o od nff => ⟨by show 4 ≤ sizeLine; decide, fun tt ntt => ?_⟩⟩
  have t1 := same_upd (o := .frz o (.tup vs)) nff
  have f1 : TupX (upd H12 ff (.frz o (.tup vs))) ff vs := ⟨o, od, upd_same⟩
  generalize upd H12 ff (.frz o (.tup vs)) = H13 at *
  have t2 := same_upd (o := .tup [V.ref sz, .ref on, .ref rn, .ref ff]) ntt
  have f2 := upd_same (H := H13) (a := tt) (o := .tup [V.ref sz, .ref on, .ref rn, .ref ff])
  generalize upd H13 tt (.tup [V.ref sz, .ref on, .ref rn, .ref ff]) = H14 at *
  have s1214 := t1.trans t2
  have T1214 := TS.same s1214
  have T1014 := (TS.box B10 s1012).trans T1214
  have T914 := (TS.same s10).trans T1014
  have T714 := (TS.box B7 s712).trans T1214
  have hk : Hok nm rw_ := hok_of enm1 ern sub sub2 nd as (by omega) h8
  have l1 := congrArg List.length enm1
  have l2 := congrArg List.length ern
  rw [List.length_map] at l1 l2
  have lf := congrArg List.length enm
  rw [List.length_map] at lf
  refine q _ ⟨wd, hg, nm, rw_, fs⟩ H14 (sH7.trans (s712.trans (But.of s1214))) ((B12.same s1214).le (by omega)) ⟨tt, sz, on, rn, ff, vs, rfl, .inl (.inl f2), .inl (.inl (T1014.t _ _ e10)), tn.ts T914, tr.ts T1214, tupX_sq (tupX_ts f1 (TS.same t2)), L2.Paired.mapP pr fun _ _ e => FgX.ts e T714⟩ ⟨⟨hk, fun f hf => (hfs f hf).1, ?_, fun f hf => ?_, ?_⟩, ?_, ?_, hw.1, hw.2, hh.1, hh.2, ⟨?_, ?_, h8, wnm⟩, fun f hf => (hfs f hf).2⟩
  · show (fs.map Fig.nm).Nodup
    rw [enm]; exact ndc'
  · exact asc' _ (by rw [← enm]; exact List.mem_map.mpr ⟨f, hf, rfl⟩)
  · show fs.length ≤ 100
    omega
  · show 1 ≤ fs.length
    omega
  · show fs.length ≤ 4
    omega
  · show nm.length ≤ 10
    omega
  · show rw_.length ≤ 10
    omega
end
end Fd

set_option Elab.async false
set_option linter.all false
set_option maxRecDepth 100000
set_option maxHeartbeats 1000000
namespace Fd
open PySem PySem.Spec PyProof.Rows L2 RZ Fw LamX
section
variable {P : Program} {w : World} {K : PySem.W.Frag} {mg : Str → Option Value} {base : Heap} {f : Addr} {fd : FuncData}
theorem iteB {A B : Prop} {c : Bool} (hc : c = true) (h : A) : if c = true then A else B := by
  rw [if_pos hc]
  exact h
theorem kit2 {K : PySem.W.Frag} {t u v : String} {b1 b2 : Bool} (h1 : kitB t u = some b1) (h2 : kitB t v = some b2) : PySem.W.kitAny K (.type t) [.type u, .type v] = some (b1 || b2) := by
  cases b1 with
  | true => exact kitAny_cons (kit_ty h1) (fun z => nomatch z) (fun _ => rfl)
  | false =>
    refine kitAny_cons (kit_ty h1) (fun _ => ?_) (fun z => nomatch z)
    cases b2 with
    | true => exact kitAny_cons (kit_ty h2) (fun z => nomatch z) (fun _ => rfl)
    | false => exact kitAny_cons (kit_ty h2) (fun _ => rfl) (fun z => nomatch z)
/-! ### _law_same, of equal things -/
abbrev sSame : Stmt := top 47
theorem scSame : FnScope ["_law_found", "_law_due", "_law_who", "_law_other"] ["_law_found", "_law_due"] (defScope sSame) := ⟨rfl, rfl, rfl, by decide +kernel, rfl, by decide +kernel, by decide +kernel⟩
def spSame (K : PySem.W.Frag) (n : Nat) : Sp := fun vs H Q _ => ∃ (x y : V) (d : PyData), vs = [x, y] ∧ Dp K H x d ∧ Dp K H y d ∧ OkD n d ∧ ∀ H', Same H H' → Q (.bl true) H'
structure SameB (mg : Str → Option Value) : Prop where
  m_isinstance : mg "isinstance" = none
  m_list : mg "list" = none
  m_tuple : mg "tuple" = none
  m_len : mg "len" = none
  m_all : mg "all" = none
  m_zip : mg "zip" = none
  m_str : mg "str" = none
  m_int : mg "int" = none
  m_bool : mg "bool" = none
theorem ok_same1 {n : Nat} (F : Fun K "_law_same" "_law_same" sSame f fd) (B : SameB mg) (G : FnG P w K mg base CX0 n "_law_same" ["_law_found", "_law_due"] (spSame K n)) :
    FnOk P w K mg base CX0 (n + 1) f fd ["_law_found", "_law_due"] (spSame K (n + 1)) := by
  obtain ⟨_, _, G__law_same, m__law_same, k__law_same, b__law_same⟩ := G
  obtain ⟨m_isinstance, m_list, m_tuple, m_len, m_all, m_zip, m_str, m_int, m_bool⟩ := B
  have sc := scSame
  refine F.ok sc (fun vs H Q E h => ?_) (fun cdv A outer s H vs Q E hr h => ?_)
  · obtain ⟨a, n, m, rfl, _⟩ := h
    rfl
  obtain ⟨x, y, d, rfl, hx, hy, ok, q⟩ := h
  refine ⟨_, (pss_cons (ps_if (pt_val (pe_callB call_isiT (by rfl) m_isinstance (by decide +kernel) (pa_cons (pv 1) (pa_cons (pe_tup (pa_cons (pe_bltn (v := .ty "list") (by rfl) m_list (by decide +kernel) rfl) (pa_cons (pe_bltn (v := .ty "tuple") (by rfl) m_tuple (by decide +kernel) rfl) pa_nil))) pa_nil)))) (pss_cons (ps_if (PW.pt (pw_or (pt_cmpR op_ne (pe_callB call_isi (by rfl) m_isinstance (by decide +kernel) (pa_cons (pv 0) (pa_cons (pe_bltn (v := .ty "list") (by rfl) m_list (by decide +kernel) rfl) pa_nil))) (pe_callB call_isi (by rfl) m_isinstance (by decide +kernel) (pa_cons (pv 1) (pa_cons (pe_bltn (v := .ty "list") (by rfl) m_list (by decide +kernel) rfl) pa_nil))) (nomark _)) (pw_or1 (pt_cmpR op_ne (pe_callB call_isi (by rfl) m_isinstance (by decide +kernel) (pa_cons (pv 0) (pa_cons (pe_bltn (v := .ty "tuple") (by rfl) m_tuple (by decide +kernel) rfl) pa_nil))) (pe_callB call_isi (by rfl) m_isinstance (by decide +kernel) (pa_cons (pv 1) (pa_cons (pe_bltn (v := .ty "tuple") (by rfl) m_tuple (by decide +kernel) rfl) pa_nil))) (nomark _))))) (pss_one (ps_ret pe_bl)) pss_nil)
      (pss_one (ps_ret (pe_and (pe_cmpR op_eq (pe_callB call_len_seq (by rfl) m_len (by decide +kernel) (pa_cons (pv 0) pa_nil)) (pe_callB call_len_seq (by rfl) m_len (by decide +kernel) (pa_cons (pv 1) pa_nil)) (nomark _)) (pe_one (pe_callB (cr_all rfl) (by rfl) m_all (by decide +kernel) (pa_cons (pe_lc (own := [("_law_who", 2), ("_law_other", 3)]) (g := gTup K 2 (gCons (gName 2) (gCons (gName 3) gNil))) (by rfl) sc.nd  (pi_zipA (by rfl) m_zip (pa_cons (pv 0) (pa_cons (pv 1) pa_nil))) (blkOk_by (own := [("_law_who", 2), ("_law_other", 3)]) (N := ["_law_found", "_law_due", "_law_who", "_law_other"]) (sc := defScope sSame) (by decide +kernel)) (fun _ _ _ _ _ => (pg_tup (by rfl) (pgs_cons (pg_name (i := 2) sc.nd rfl (.inl rfl)) (pgs_cons (pg_name (i := 3) sc.nd rfl (.inl rfl)) pgs_nil)))) (fun _ _ _ _ _ => pts_nil) (fun _ _ _ _ _ => (pe_call G__law_same (hr.mono (by omega)) (by rfl) m__law_same k__law_same b__law_same .nil pass0 (pa_cons (pv 2) (pa_cons (pv 3) pa_nil))))) pa_nil))))))) pss_nil)
      (pss_cons (ps_if (PW.pt (pw_or (pt_cmpR op_isN (pv 1) pe_non (nomark _)) (pw_or1 (pt_val (pe_callB call_isiT (by rfl) m_isinstance (by decide +kernel) (pa_cons (pv 1) (pa_cons (pe_tup (pa_cons (pe_bltn (v := .ty "bool") (by rfl) m_bool (by decide +kernel) rfl) (pa_cons (pe_bltn (v := .ty "str") (by rfl) m_str (by decide +kernel) rfl) pa_nil))) pa_nil))))))) (pss_one (ps_ret (pe_and (pe_cmpR op_eq (pv 0) (pv 1) (nomark _)) (pe_and (pe_cmpR op_eq (pe_callB call_isi (by rfl) m_isinstance (by decide +kernel) (pa_cons (pv 0) (pa_cons (pe_bltn (v := .ty "bool") (by rfl) m_bool (by decide +kernel) rfl) pa_nil))) (pe_callB call_isi (by rfl) m_isinstance (by decide +kernel) (pa_cons (pv 1) (pa_cons (pe_bltn (v := .ty "bool") (by rfl) m_bool (by decide +kernel) rfl) pa_nil))) (nomark _)) (pe_one (pe_cmpR op_eq (pe_cmpR op_isN (pv 0) pe_non (nomark _)) (pe_cmpR op_isN (pv 1) pe_non (nomark _)) (nomark _))))))) pss_nil)
      (pss_one (ps_ret (pe_and (pe_callB call_isi (by rfl) m_isinstance (by decide +kernel) (pa_cons (pv 0) (pa_cons (pe_bltn (v := .ty "int") (by rfl) m_int (by decide +kernel) rfl) pa_nil))) (pe_and (pe_not (pe_callB call_isi (by rfl) m_isinstance (by decide +kernel) (pa_cons (pv 0) (pa_cons (pe_bltn (v := .ty "bool") (by rfl) m_bool (by decide +kernel) rfl) pa_nil)))) (pe_one (pe_cmpR op_eq (pv 0) (pv 1) (nomark _))))))))), ?_⟩
  refine ⟨_, rfl, by show 2 ≤ sizeLine; decide, fun p np => ?_⟩
  have s1 : Same H (upd H p (.tup [.ty "list", .ty "tuple"])) := same_upd np
  cases d with
  | none =>
    cases hx; cases hy
    refine ⟨_, p, _, .type "NoneType", _, false, rfl, upd_same, .cons (.ty _) (.cons (.ty _) .nil), .base .non, kit2 (b1 := false) (b2 := false) (by decide +kernel) (by decide +kernel), _, rfl, iteF ?_⟩
    refine ⟨_, rfl, rfl, _, rfl, iteT (iteT ?_)⟩
    exact ⟨_, rfl, _, rfl, rfl, _, rfl, iteB (decide_eq_true rfl) ⟨_, rfl, _, _, .type "NoneType", _, false, rfl, .ty _, .base .non, kit_ty (by decide +kernel), _, rfl, _, _, .type "NoneType", _, false, rfl, .ty _, .base .non, kit_ty (by decide +kernel), rfl, _, rfl, iteB (decide_eq_true rfl) ⟨_, rfl, rfl, _, rfl, rfl, rfl, qd (q _ s1)⟩⟩⟩
  | str z =>
    cases hx; cases hy
    refine ⟨_, p, _, .type "str", _, false, rfl, upd_same, .cons (.ty _) (.cons (.ty _) .nil), .base (.str z), kit2 (b1 := false) (b2 := false) (by decide +kernel) (by decide +kernel), _, rfl, iteF ?_⟩
    refine ⟨_, rfl, rfl, _, rfl, iteF ⟨_, rfl, by show 2 ≤ sizeLine; decide, fun p2 np2 => ?_⟩⟩
    have s2 := s1.trans (same_upd (o := .tup [.ty "bool", .ty "str"]) np2)
    refine ⟨_, p2, _, .type "str", _, true, rfl, upd_same, .cons (.ty _) (.cons (.ty _) .nil), .base (.str z), kit2 (b1 := false) (b2 := true) (by decide +kernel) (by decide +kernel), _, rfl, iteT ?_⟩
    exact ⟨_, rfl, _, rfl, rfl, _, rfl, iteB (decide_eq_true rfl) ⟨_, rfl, _, _, .type "str", _, false, rfl, .ty _, .base (.str z), kit_ty (by decide +kernel), _, rfl, _, _, .type "str", _, false, rfl, .ty _, .base (.str z), kit_ty (by decide +kernel), rfl, _, rfl, iteB (decide_eq_true rfl) ⟨_, rfl, rfl, _, rfl, rfl, rfl, qd (q _ s2)⟩⟩⟩
  | int z =>
    cases hx; cases hy
    refine ⟨_, p, _, .type "int", _, false, rfl, upd_same, .cons (.ty _) (.cons (.ty _) .nil), .base (.int z), kit2 (b1 := false) (b2 := false) (by decide +kernel) (by decide +kernel), _, rfl, iteF ?_⟩
    refine ⟨_, rfl, rfl, _, rfl, iteF ⟨_, rfl, by show 2 ≤ sizeLine; decide, fun p2 np2 => ?_⟩⟩
    have s2 := s1.trans (same_upd (o := .tup [.ty "bool", .ty "str"]) np2)
    refine ⟨_, p2, _, .type "int", _, false, rfl, upd_same, .cons (.ty _) (.cons (.ty _) .nil), .base (.int z), kit2 (b1 := false) (b2 := false) (by decide +kernel) (by decide +kernel), _, rfl, iteF ?_⟩
    exact ⟨_, rfl, _, _, .type "int", _, true, rfl, .ty _, .base (.int z), kit_ty (by decide +kernel), _, rfl, iteT ⟨_, rfl, _, _, .type "int", _, false, rfl, .ty _, .base (.int z), kit_ty (by decide +kernel), _, rfl, _, rfl, iteT ⟨_, rfl, _, rfl, rfl, qd (q _ s2)⟩⟩⟩
  | bool z =>
    cases hx; cases hy
    refine ⟨_, p, _, .type "bool", _, false, rfl, upd_same, .cons (.ty _) (.cons (.ty _) .nil), .base (.bl z), kit2 (b1 := false) (b2 := false) (by decide +kernel) (by decide +kernel), _, rfl, iteF ?_⟩
    refine ⟨_, rfl, rfl, _, rfl, iteF ⟨_, rfl, by show 2 ≤ sizeLine; decide, fun p2 np2 => ?_⟩⟩
    have s2 := s1.trans (same_upd (o := .tup [.ty "bool", .ty "str"]) np2)
    refine ⟨_, p2, _, .type "bool", _, true, rfl, upd_same, .cons (.ty _) (.cons (.ty _) .nil), .base (.bl z), kit2 (b1 := true) (b2 := false) (by decide +kernel) (by decide +kernel), _, rfl, iteT ?_⟩
    exact ⟨_, rfl, _, rfl, rfl, _, rfl, iteB (decide_eq_true rfl) ⟨_, rfl, _, _, .type "bool", _, true, rfl, .ty _, .base (.bl z), kit_ty (by decide +kernel), _, rfl, _, _, .type "bool", _, true, rfl, .ty _, .base (.bl z), kit_ty (by decide +kernel), rfl, _, rfl, iteB (decide_eq_true rfl) ⟨_, rfl, rfl, _, rfl, rfl, rfl, qd (q _ s2)⟩⟩⟩
  | dict _ => exact ok.elim
  | list ds =>
    obtain ⟨w1, w2⟩ := (show ds.length ≤ 1000 ∧ ∀ d ∈ ds, OkD n d from ok)
    cases hx with | @lst a xs _ ha ax =>
    cases hy with | @lst b ys _ hb by_ =>
    have ha1 := s1.seq ha
    have hb1 := s1.seq hb
    have le : xs.length = ys.length := (dpAll_len ax).trans (dpAll_len by_).symm
    refine ⟨_, p, _, .type "list", _, true, rfl, upd_same, .cons (.ty _) (.cons (.ty _) .nil), ty_lst hb1, kitLT (b1 := true) (b2 := false) (by decide +kernel) (by decide +kernel), _, rfl, iteT ?_⟩
    refine ⟨_, rfl, _, _, .type "list", _, true, rfl, .ty _, ty_lst ha1, kit_ty (by decide +kernel), _, rfl, _, _, .type "list", _, true, rfl, .ty _, ty_lst hb1, kit_ty (by decide +kernel), rfl, _, rfl, iteF
      ⟨_, rfl, _, _, .type "list", _, false, rfl, .ty _, ty_lst ha1, kit_ty (by decide +kernel), _, rfl, _, _, .type "list", _, false, rfl, .ty _, ty_lst hb1, kit_ty (by decide +kernel), rfl, _, rfl, iteF ?_⟩⟩
    refine ⟨_, rfl, a, _, rfl, .inl ha1, _, rfl, b, _, rfl, .inl hb1, rfl, true, congrArg V.bl (decide_eq_true (by rw [le])), iteT ?_⟩
    refine ⟨_, rfl, _, rfl, a, b, xs, ys, rfl, .inl ⟨ha1, hb1, fun D nD => lc_it (walk_zip (xs := xs) (ys := ys) rfl) (fun i H' => Same (upd H p (.tup [.ty "list", .ty "tuple"])) H' ∧ H' D = some (.lst (List.replicate i (.bl true)))) ⟨same_upd nD, upd_same⟩
      (fun i H' _ h => ⟨h.1.seq ha1, h.1.seq hb1⟩) ?_ ?_⟩⟩
    · rintro i v H1 H2 hi ⟨sm, hD⟩ ⟨T, x, y, rfl, nT, rfl, ex, ey⟩
      obtain ⟨d, ed, dx⟩ := dpAll_at (dpAll_same (s1.trans sm) ds xs ax) ex
      obtain ⟨d', ed', dy⟩ := dpAll_at (dpAll_same (s1.trans sm) ds ys by_) ey
      obtain rfl : d = d' := Option.some.inj (ed.symm.trans ed')
      have sT := same_upd (o := .tup [x, y]) nT
      refine ⟨T, _, rfl, .inl (.inl upd_same), rfl, _, _, rfl, _, _, rfl, rfl, rfl, ?_⟩
      unfold tYes
      refine iteT ?_
      refine ⟨_, rfl, _, rfl, x, y, d, rfl, dp_same sT _ _ dx, dp_same sT _ _ dy, w2 d (List.mem_of_getElem? ed), fun H3 s3 => ⟨_, s3 _ _ (sT _ _ hD), ?_, ?_, ?_⟩⟩
      · rw [List.length_replicate]
        exact small1000 (by have := dpAll_len ax; omega)
      · intro b' o' h'
        have nb : b' ≠ D := fun z => by rw [z, nD] at h'; cases h'
        rw [upd_ne nb]
        exact s3 _ _ (sT _ _ (sm _ _ h'))
      · rw [upd_same, List.replicate_succ']
    · rintro H1 ⟨sm, hD⟩
      refine ⟨D, List.replicate (min xs.length ys.length) true, rfl, SqL.of (by rw [hD, List.map_replicate]), ?_⟩
      rw [all_rep]
      exact q _ (s1.trans sm)
  | tuple ds =>
    obtain ⟨w1, w2⟩ := (show ds.length ≤ 1000 ∧ ∀ d ∈ ds, OkD n d from ok)
    cases hx with | @tup a xs _ ha ax =>
    cases hy with | @tup b ys _ hb by_ =>
    have ha1 := seqT s1 ha
    have hb1 := seqT s1 hb
    have le : xs.length = ys.length := (dpAll_len ax).trans (dpAll_len by_).symm
    refine ⟨_, p, _, .type "tuple", _, true, rfl, upd_same, .cons (.ty _) (.cons (.ty _) .nil), ty_tup hb1, kitLT (b1 := false) (b2 := true) (by decide +kernel) (by decide +kernel), _, rfl, iteT ?_⟩
    refine ⟨_, rfl, _, _, .type "tuple", _, false, rfl, .ty _, ty_tup ha1, kit_ty (by decide +kernel), _, rfl, _, _, .type "tuple", _, false, rfl, .ty _, ty_tup hb1, kit_ty (by decide +kernel), rfl, _, rfl, iteF
      ⟨_, rfl, _, _, .type "tuple", _, true, rfl, .ty _, ty_tup ha1, kit_ty (by decide +kernel), _, rfl, _, _, .type "tuple", _, true, rfl, .ty _, ty_tup hb1, kit_ty (by decide +kernel), rfl, _, rfl, iteF ?_⟩⟩
    refine ⟨_, rfl, a, _, rfl, .inr ha1, _, rfl, b, _, rfl, .inr hb1, rfl, true, congrArg V.bl (decide_eq_true (by rw [le])), iteT ?_⟩
    refine ⟨_, rfl, _, rfl, a, b, xs, ys, rfl, .inr ⟨ha1, hb1, fun D nD => lc_it (walk_zipT (xs := xs) (ys := ys) rfl) (fun i H' => Same (upd H p (.tup [.ty "list", .ty "tuple"])) H' ∧ H' D = some (.lst (List.replicate i (.bl true)))) ⟨same_upd nD, upd_same⟩
      (fun i H' _ h => ⟨seqT h.1 ha1, seqT h.1 hb1⟩) ?_ ?_⟩⟩
    · rintro i v H1 H2 hi ⟨sm, hD⟩ ⟨T, x, y, rfl, nT, rfl, ex, ey⟩
      obtain ⟨d, ed, dx⟩ := dpAll_at (dpAll_same (s1.trans sm) ds xs ax) ex
      obtain ⟨d', ed', dy⟩ := dpAll_at (dpAll_same (s1.trans sm) ds ys by_) ey
      obtain rfl : d = d' := Option.some.inj (ed.symm.trans ed')
      have sT := same_upd (o := .tup [x, y]) nT
      refine ⟨T, _, rfl, .inl (.inl upd_same), rfl, _, _, rfl, _, _, rfl, rfl, rfl, ?_⟩
      unfold tYes
      refine iteT ?_
      refine ⟨_, rfl, _, rfl, x, y, d, rfl, dp_same sT _ _ dx, dp_same sT _ _ dy, w2 d (List.mem_of_getElem? ed), fun H3 s3 => ⟨_, s3 _ _ (sT _ _ hD), ?_, ?_, ?_⟩⟩
      · rw [List.length_replicate]
        exact small1000 (by have := dpAll_len ax; omega)
      · intro b' o' h'
        have nb : b' ≠ D := fun z => by rw [z, nD] at h'; cases h'
        rw [upd_ne nb]
        exact s3 _ _ (sT _ _ (sm _ _ h'))
      · rw [upd_same, List.replicate_succ']
    · rintro H1 ⟨sm, hD⟩
      refine ⟨D, List.replicate (min xs.length ys.length) true, rfl, SqL.of (by rw [hD, List.map_replicate]), ?_⟩
      rw [all_rep]
      exact q _ (s1.trans sm)
theorem ok_same (F : Fun K "_law_same" "_law_same" sSame f fd) (B : SameB mg) (m : mg "_law_same" = some (.ref f)) (b : Binds K fd ["_law_found", "_law_due"] []) :
    ∀ n, FnOk P w K mg base CX0 n f fd ["_law_found", "_law_due"] (spSame K n)
  | 0 => ⟨fun vs H Q E h => by obtain ⟨_, _, d, _, _, _, ok, _⟩ := h; exact ok.elim, fun A outer s H args us vs Q E _ _ _ _ h => by obtain ⟨_, _, d, _, _, _, ok, _⟩ := h; exact ok.elim⟩
  | n + 1 => ok_same1 F B ⟨f, fd, ok_same F B m b n, m, F.kp, b⟩
end
end Fd

set_option Elab.async false
set_option linter.all false
set_option maxRecDepth 100000
set_option maxHeartbeats 1000000
namespace Fd
open PySem PySem.Spec PyProof.Rows L2 RZ Fw LamX
/-! ### looks that are numbers; spots behind deeds -/
abbrev sIsN : Stmt := top 7
abbrev sIsV : Stmt := top 8
abbrev sOutc : Stmt := top 16
abbrev sValO : Stmt := top 15
abbrev sTurn : Stmt := top 32
abbrev sMv : Stmt := top 31
abbrev sPlc : Stmt := top 33
abbrev sNear : Stmt := top 36
section
variable {P : Program} {w : World} {K : PySem.W.Frag} {mg : Str → Option Value} {base : Heap} {f : Addr} {fd : FuncData} {C CH : Addr}
def spIsN : Sp := fun vs H Q _ => ∃ i : Int, vs = [.int i] ∧ Q (.bl true) H
theorem scIsN : FnScope ["thing"] ["thing"] (defScope sIsN) := ⟨rfl, rfl, rfl, by decide +kernel, rfl, by decide +kernel, by decide +kernel⟩
theorem ok_isN {k : Nat} (F : Fun K "is_number" "is_number" sIsN f fd) (m_isinstance : mg "isinstance" = none) (m_int : mg "int" = none) (m_bool : mg "bool" = none) : FnOk P w K mg base CX0 (k + 1) f fd ["thing"] spIsN := by
  have sc := scIsN
  refine F.ok sc (fun vs H Q E h => ?_) (fun cdv A outer s H vs Q E hr h => ?_)
  · obtain ⟨i, rfl, _⟩ := h
    rfl
  obtain ⟨i, rfl, q⟩ := h
  refine ⟨_, (pss_one (ps_ret (pe_and (pe_callB call_isi (by rfl) m_isinstance (by decide +kernel) (pa_cons (pv 0) (pa_cons (pe_bltn (v := .ty "int") (by rfl) m_int (by decide +kernel) rfl) pa_nil))) (pe_one (pe_not (pe_callB call_isi (by rfl) m_isinstance (by decide +kernel) (pa_cons (pv 0) (pa_cons (pe_bltn (v := .ty "bool") (by rfl) m_bool (by decide +kernel) rfl) pa_nil)))))))), ?_⟩
  exact ⟨_, rfl, _, _, .type "int", _, true, rfl, .ty _, .base (.int i), kit_ty (by decide +kernel), _, rfl, iteT ⟨_, rfl, _, _, .type "int", _, false, rfl, .ty _, .base (.int i), kit_ty (by decide +kernel), _, rfl, q⟩⟩
def spIsV : Sp := fun vs H Q _ => ∃ i : Int, vs = [.int i] ∧ -1000000 ≤ i ∧ i ≤ 1000000 ∧ Q (.bl true) H
theorem scIsV : FnScope ["thing"] ["thing"] (defScope sIsV) := ⟨rfl, rfl, rfl, by decide +kernel, rfl, by decide +kernel, by decide +kernel⟩
theorem ok_isV {k : Nat} {t1 t2 : Tok} (F : Fun K "is_value" "is_value" sIsV f fd) (G : FnG P w K mg base CX0 k "is_number" ["thing"] spIsN) (m_LEAST_VALUE : mg "LEAST_VALUE" = some (.int (-1000000) t1)) (m_MOST_VALUE : mg "MOST_VALUE" = some (.int 1000000 t2)) : FnOk P w K mg base CX0 (k + 1) f fd ["thing"] spIsV := by
  obtain ⟨_, _, G_is_number, m_is_number, k_is_number, b_is_number⟩ := G
  have sc := scIsV
  refine F.ok sc (fun vs H Q E h => ?_) (fun cdv A outer s H vs Q E hr h => ?_)
  · obtain ⟨i, rfl, _⟩ := h
    rfl
  obtain ⟨i, rfl, h1, h2, q⟩ := h
  refine ⟨_, (pss_one (ps_ret (pe_and (pe_call G_is_number (hr.mono (by omega)) (by rfl) m_is_number k_is_number b_is_number .nil pass0 (pa_cons (pv 0) pa_nil)) (pe_one (pe_chain op_le op_le (pe_glob (v := .int (-1000000)) (by rfl) m_LEAST_VALUE ⟨_, rfl⟩) (pv 0) (pe_glob (v := .int 1000000) (by rfl) m_MOST_VALUE ⟨_, rfl⟩)))))), ?_⟩
  refine ⟨_, rfl, i, rfl, _, rfl, iteT ⟨_, rfl, _, _, rfl, rfl, _, rfl, iteB (decide_eq_true h1) ⟨_, _, rfl, rfl, ?_⟩⟩⟩
  show Q (.bl (decide (i ≤ 1000000))) H
  rw [decide_eq_true h2]
  exact q
def spOI : Sp := fun vs H Q _ => ∃ (i : Int) (e : V), vs = [.int i, e] ∧ Q (.int i) H
theorem scOutc : FnScope ["look", "eyes", "names", "lists", "spot", "met", "word", "row", "first", "second", "action"] ["look", "eyes"] (defScope sOutc) := ⟨rfl, rfl, rfl, by decide +kernel, rfl, by decide +kernel, by decide +kernel⟩
theorem ok_outc {k : Nat} (F : Fun K "outcome" "outcome" sOutc f fd) (G : FnG P w K mg base CX0 k "is_number" ["thing"] spIsN) : FnOk P w K mg base CX0 (k + 1) f fd ["look", "eyes"] spOI := by
  obtain ⟨_, _, G_is_number, m_is_number, k_is_number, b_is_number⟩ := G
  have sc := scOutc
  refine F.ok sc (fun vs H Q E h => ?_) (fun cdv A outer s H vs Q E hr h => ?_)
  · obtain ⟨i, e, rfl, _⟩ := h
    rfl
  obtain ⟨i, e, rfl, q⟩ := h
  refine ⟨_, (pss_cons (ps_if (pt_val (pe_call G_is_number (hr.mono (by omega)) (by rfl) m_is_number k_is_number b_is_number .nil pass0 (pa_cons (pv 0) pa_nil))) (pss_one (ps_ret (pv 0))) pss_nil)
      (pss_cons L2.ps_never
      (pss_cons L2.ps_never
      (pss_cons L2.ps_never
      (pss_cons L2.ps_never
      (pss_cons L2.ps_never
      (pss_cons L2.ps_never
      (pss_cons L2.ps_never
      (pss_cons L2.ps_never
      (pss_cons L2.ps_never
      (pss_one L2.ps_never))))))))))), ?_⟩
  exact ⟨_, rfl, i, rfl, _, rfl, iteT ⟨_, rfl, q⟩⟩
def spVI : Sp := fun vs H Q _ => ∃ (i : Int) (e : V), vs = [.int i, e] ∧ -1000000 ≤ i ∧ i ≤ 1000000 ∧ Q (.int i) H
theorem scValO : FnScope ["look", "eyes", "value"] ["look", "eyes"] (defScope sValO) := ⟨rfl, rfl, rfl, by decide +kernel, rfl, by decide +kernel, by decide +kernel⟩
theorem ok_valO {k : Nat} (F : Fun K "value_of" "value_of" sValO f fd) (GO : FnG P w K mg base CX0 k "outcome" ["look", "eyes"] spOI) (GV : FnG P w K mg base CX0 k "is_value" ["thing"] spIsV) : FnOk P w K mg base CX0 (k + 1) f fd ["look", "eyes"] spVI := by
  obtain ⟨_, _, G_outcome, m_outcome, k_outcome, b_outcome⟩ := GO
  obtain ⟨_, _, G_is_value, m_is_value, k_is_value, b_is_value⟩ := GV
  have sc := scValO
  refine F.ok sc (fun vs H Q E h => ?_) (fun cdv A outer s H vs Q E hr h => ?_)
  · obtain ⟨i, e, rfl, _⟩ := h
    rfl
  obtain ⟨i, e, rfl, h1, h2, q⟩ := h
  refine ⟨_, (pss_cons (ps_set (i := 2) sc.nd rfl (.inl rfl) (pe_call G_outcome (hr.mono (by omega)) (by rfl) m_outcome k_outcome b_outcome .nil pass0 (pa_cons (pv 0) (pa_cons (pv 1) pa_nil))))
      (pss_cons (ps_if (pt_not (pt_val (pe_call G_is_value (hr.mono (by omega)) (by rfl) m_is_value k_is_value b_is_value .nil pass0 (pa_cons (pv 2) pa_nil)))) (pss_one L2.ps_never) pss_nil)
      (pss_one (ps_ret (pv 2))))), ?_⟩
  exact ⟨_, rfl, _, rfl, i, e, rfl, _, rfl, i, rfl, h1, h2, _, rfl, ifFF ⟨_, rfl, q⟩⟩
def spNr : Sp := fun vs H Q _ => ∃ (i m : Int), vs = [.int i, .int m] ∧ Q (.int (max 0 (min i (m - 1)))) H
theorem scNear : FnScope ["place", "many"] ["place", "many"] (defScope sNear) := ⟨rfl, rfl, rfl, by decide +kernel, rfl, by decide +kernel, by decide +kernel⟩
theorem ok_near {k : Nat} (F : Fun K "nearest" "nearest" sNear f fd) (m_max : mg "max" = none) (m_min : mg "min" = none) : FnOk P w K mg base CX0 (k + 1) f fd ["place", "many"] spNr := by
  have sc := scNear
  refine F.ok sc (fun vs H Q E h => ?_) (fun cdv A outer s H vs Q E hr h => ?_)
  · obtain ⟨i, m, rfl, _⟩ := h
    rfl
  obtain ⟨i, m, rfl, q⟩ := h
  refine ⟨_, (pss_one (ps_ret (pe_callB (call_max2 rfl) (by rfl) m_max (by decide +kernel) (pa_cons pe_int (pa_cons (pe_callB (call_min2 rfl) (by rfl) m_min (by decide +kernel) (pa_cons (pv 0) (pa_cons (pe_op op_sub (pv 1) pe_int) pa_nil))) pa_nil))))), ?_⟩
  refine ⟨_, rfl, _, rfl, _, _, rfl, rfl, _, _, rfl, _, _, rfl, ?_⟩
  have e : (if (if m - 1 < i then m - 1 else i) > 0 then (if m - 1 < i then m - 1 else i) else 0) = max 0 (min i (m - 1)) := by
    split <;> split <;> omega
  rw [e]
  exact q
def spTn (K : PySem.W.Frag) : Sp := fun vs H Q _ => ∃ (a vl : Addr) (x y z i : Int), vs = [.ref a, .ref vl] ∧ SqT K H a [.int x, .int y, .int z] ∧ SqL K H vl [.int i] ∧ ∀ t, H t = none → Q (.ref t) (upd H t (.tup [.int x, .int y, .int ((z + i) % 4)]))
theorem scTurn : FnScope ["spot", "values", "x", "y", "way"] ["spot", "values"] (defScope sTurn) := ⟨rfl, rfl, rfl, by decide +kernel, rfl, by decide +kernel, by decide +kernel⟩
theorem ok_turn {k : Nat} {sS : Addr} {xS : List V} (F : Fun K "turned" "turned" sTurn f fd) (m_len : mg "len" = none) (m_STEPS : mg "STEPS" = some (.ref sS)) (hS : ∀ H, SqT K H sS xS) (lS : xS.length = 4) : FnOk P w K mg base CX0 (k + 1) f fd ["spot", "values"] (spTn K) := by
  have sc := scTurn
  refine F.ok sc (fun vs H Q E h => ?_) (fun cdv A outer s H vs Q E hr h => ?_)
  · obtain ⟨a, vl, x, y, z, i, rfl, _⟩ := h
    rfl
  obtain ⟨a, vl, x, y, z, i, rfl, ha, hv, q⟩ := h
  refine ⟨_, (pss_cons (ps_asg (pv 0) (pg_or (pg_tup (by rfl) (pgs_cons (pg_name (i := 2) sc.nd rfl (.inl rfl)) (pgs_cons (pg_name (i := 3) sc.nd rfl (.inl rfl)) (pgs_cons (pg_name (i := 4) sc.nd rfl (.inl rfl)) pgs_nil)))) (pg_lst (by rfl) (pgs_cons (pg_name (i := 2) sc.nd rfl (.inl rfl)) (pgs_cons (pg_name (i := 3) sc.nd rfl (.inl rfl)) (pgs_cons (pg_name (i := 4) sc.nd rfl (.inl rfl)) pgs_nil))))))
      (pss_one (ps_ret (pe_tup (pa_cons (pv 2) (pa_cons (pv 3) (pa_cons (pe_op op_mod (pe_op op_add (pv 4) (pe_ix ix_list (pv 1) pe_int (fun _ _ => rfl))) (pe_callB call_len_seq (by rfl) m_len (by decide +kernel) (pa_cons (pe_glob (v := .ref sS) (by rfl) m_STEPS rfl) pa_nil))) pa_nil))))))), ?_⟩
  refine ⟨_, rfl, sq_or (.inr ha) rfl ⟨_, _, rfl, _, _, rfl, _, _, rfl, rfl, ?_⟩⟩
  refine ⟨_, rfl, _, rfl, _, rfl, _, rfl, vl, _, 0, .int i, rfl, rfl, hv, rfl, _, _, rfl, rfl, sS, xS, rfl, .inr (hS _), ?_⟩
  rw [lS]
  exact ⟨_, _, rfl, rfl, (show (0 : Int) < 4 by decide), by show 3 ≤ sizeLine; decide, fun t nt => q t nt⟩
/-- the table of steps: how x and y grow, for each way -/
def stp : List (Int × Int) := [(1, 0), (0, 1), (-1, 0), (0, -1)]
theorem stp_b {z : Nat} {q : Int × Int} (h : stp[z]? = some q) : (-2 ^ 64 < q.1 ∧ q.1 < 2 ^ 64) ∧ (-2 ^ 64 < q.2 ∧ q.2 < 2 ^ 64) := by
  have := List.mem_of_getElem? h
  simp only [stp, List.mem_cons, List.not_mem_nil, or_false] at this
  rcases this with rfl | rfl | rfl | rfl <;> decide
structure StT (K : PySem.W.Frag) (sS : Addr) : Prop where
  ex : ∃ ts : List Addr, (∀ H, SqT K H sS (ts.map V.ref)) ∧ ∀ H, Paired (fun t (q : Int × Int) => SqT K H t [.int q.1, .int q.2]) ts stp
def spMv (K : PySem.W.Frag) : Sp := fun vs H Q _ => ∃ (a vl : Addr) (x y : Int) (z : Nat) (i : Int) (q : Int × Int), vs = [.ref a, .ref vl] ∧ SqT K H a [.int x, .int y, .int z] ∧ SqL K H vl [.int i] ∧ stp[z]? = some q ∧ ∀ t, H t = none → Q (.ref t) (upd H t (.tup [.int (x + q.1 * i), .int (y + q.2 * i), .int z]))
theorem scMv : FnScope ["spot", "values", "x", "y", "way", "by_x", "by_y"] ["spot", "values"] (defScope sMv) := ⟨rfl, rfl, rfl, by decide +kernel, rfl, by decide +kernel, by decide +kernel⟩
theorem ok_mv {k : Nat} {sS : Addr} (F : Fun K "moved" "moved" sMv f fd) (m_STEPS : mg "STEPS" = some (.ref sS)) (hS : StT K sS) : FnOk P w K mg base CX0 (k + 1) f fd ["spot", "values"] (spMv K) := by
  have sc := scMv
  refine F.ok sc (fun vs H Q E h => ?_) (fun cdv A outer s H vs Q E hr h => ?_)
  · obtain ⟨a, vl, x, y, z, i, q, rfl, _⟩ := h
    rfl
  obtain ⟨a, vl, x, y, z, i, b, rfl, ha, hv, eb, q⟩ := h
  obtain ⟨ts, t1, t2⟩ := hS.ex
  obtain ⟨t, et, ht⟩ := paired_idx (t2 H) eb
  refine ⟨_, (pss_cons (ps_asg (pv 0) (pg_or (pg_tup (by rfl) (pgs_cons (pg_name (i := 2) sc.nd rfl (.inl rfl)) (pgs_cons (pg_name (i := 3) sc.nd rfl (.inl rfl)) (pgs_cons (pg_name (i := 4) sc.nd rfl (.inl rfl)) pgs_nil)))) (pg_lst (by rfl) (pgs_cons (pg_name (i := 2) sc.nd rfl (.inl rfl)) (pgs_cons (pg_name (i := 3) sc.nd rfl (.inl rfl)) (pgs_cons (pg_name (i := 4) sc.nd rfl (.inl rfl)) pgs_nil))))))
      (pss_cons (ps_asg (pe_ix ix_tup (pe_glob (v := .ref sS) (by rfl) m_STEPS rfl) (pv 4) (fun _ _ => rfl)) (pg_or (pg_tup (by rfl) (pgs_cons (pg_name (i := 5) sc.nd rfl (.inl rfl)) (pgs_cons (pg_name (i := 6) sc.nd rfl (.inl rfl)) pgs_nil))) (pg_lst (by rfl) (pgs_cons (pg_name (i := 5) sc.nd rfl (.inl rfl)) (pgs_cons (pg_name (i := 6) sc.nd rfl (.inl rfl)) pgs_nil)))))
      (pss_one (ps_ret (pe_tup (pa_cons (pe_op op_add (pv 2) (pe_op op_mul (pv 5) (pe_ix ix_list (pv 1) pe_int (fun _ _ => rfl)))) (pa_cons (pe_op op_add (pv 3) (pe_op op_mul (pv 6) (pe_ix ix_list (pv 1) pe_int (fun _ _ => rfl)))) (pa_cons (pv 4) pa_nil)))))))), ?_⟩
  refine ⟨_, rfl, sq_or (.inr ha) rfl ⟨_, _, rfl, _, _, rfl, _, _, rfl, rfl, ?_⟩⟩
  refine ⟨_, rfl, sS, _, z, .ref t, rfl, rfl, t1 H, atI_nat (by rw [List.getElem?_map, et]; rfl), ?_⟩
  refine sq_or (.inr ht) rfl ⟨_, _, rfl, _, _, rfl, rfl, ?_⟩
  refine ⟨_, rfl, _, rfl, _, rfl, vl, _, 0, .int i, rfl, rfl, hv, rfl, _, _, rfl, rfl, .inl (stp_b eb).1, _, _, rfl, rfl, ?_⟩
  refine ⟨_, rfl, _, rfl, _, rfl, vl, _, 0, .int i, rfl, rfl, hv, rfl, _, _, rfl, rfl, .inl (stp_b eb).2, _, _, rfl, rfl, ?_⟩
  exact ⟨_, rfl, by show 3 ≤ sizeLine; decide, fun t nt => q t nt⟩
def spPc (K : PySem.W.Frag) : Sp := fun vs H Q _ => ∃ (a vl : Addr) (x y z i j : Int), vs = [.ref a, .ref vl] ∧ SqT K H a [.int x, .int y, .int z] ∧ SqL K H vl [.int i, .int j] ∧ ∀ t, H t = none → Q (.ref t) (upd H t (.tup [.int i, .int j, .int z]))
theorem scPlc : FnScope ["spot", "values"] ["spot", "values"] (defScope sPlc) := ⟨rfl, rfl, rfl, by decide +kernel, rfl, by decide +kernel, by decide +kernel⟩
theorem ok_plc {k : Nat} (F : Fun K "placed" "placed" sPlc f fd) : FnOk P w K mg base CX0 (k + 1) f fd ["spot", "values"] (spPc K) := by
  have sc := scPlc
  refine F.ok sc (fun vs H Q E h => ?_) (fun cdv A outer s H vs Q E hr h => ?_)
  · obtain ⟨a, vl, x, y, z, i, j, rfl, _⟩ := h
    rfl
  obtain ⟨a, vl, x, y, z, i, j, rfl, ha, hv, q⟩ := h
  refine ⟨_, (pss_one (ps_ret (pe_tup (pa_cons (pe_ix ix_list (pv 1) pe_int (fun _ _ => rfl)) (pa_cons (pe_ix ix_list (pv 1) pe_int (fun _ _ => rfl)) (pa_cons (pe_ix ix_tup (pv 0) pe_int (fun _ _ => rfl)) pa_nil)))))), ?_⟩
  refine ⟨_, rfl, vl, _, 0, .int i, rfl, rfl, hv, rfl, _, rfl, vl, _, 1, .int j, rfl, rfl, hv, rfl, _, rfl, a, _, 2, .int z, rfl, rfl, ha, rfl, by show 3 ≤ sizeLine; decide, fun t nt => q t nt⟩
end
end Fd

set_option Elab.async false
set_option linter.all false
set_option maxRecDepth 100000
set_option maxHeartbeats 1000000
namespace Fd
open PySem PySem.Spec PyProof.Rows L2 RZ Fw LamX
def tCallH (P : Program) (w : World) (K : PySem.W.Frag) (mg : Str → Option Value) (base : Heap) (k i : Nat) (t : TA) : TE := fun σ H Q => ∃ f sp, σ[i]? = some (some (.ref f)) ∧ Held P w K mg base k f sp ∧ t σ H fun vs H1 => sp vs H1 Q (fun _ _ _ => False)
theorem pe_callH {X : Cx} {k i : Nat} {x : Str} {p pos : Pos} {e : Expr} {es : List Expr} {t : TA} (hr : Room k X.A) (hN : X.N[i]? = some x) (hv : Vis X.env.scope x) (ha : PA X (e :: es) t)
    (hdb : (x == ("__debug__" : Str)) = false := by decide) (hcd : (x == ("__classdict__" : Str)) = false := by decide)
    (he : starEach (e :: es) X.env = (false, eval e X.env) :: starEach es X.env := by rfl) (hpl : (backTo pos (starEach es X.env)).any (·.1) = false := by rfl) : PE X (.Call (.Name x p) (e :: es) [] pos) (tCallH X.prog X.w X.K X.mg X.base k i t) := by
  refine ⟨fun pins s σ H Q I h => ?_⟩
  obtain ⟨f, sp, hs, ⟨⟨fd, ps, F, hk, hb⟩⟩, ht⟩ := h
  refine (pe_callL (i := i) (f := f) (sp := sp) (dvs := []) (E := fun _ _ _ => False) F hr hN hv hk hb .nil (fun _ _ _ _ _ _ _ z => z.elim) ha hdb hcd he hpl).run pins s σ H Q I ⟨hs, ?_⟩
  have e0 : (fun (vs : List V) (H1 : Hp) => sp (vs ++ []) H1 Q (fun _ _ _ => False)) = fun vs H1 => sp vs H1 Q (fun _ _ _ => False) := by
    funext vs H1
    rw [List.append_nil]
  show t σ H (fun vs H1 => sp (vs ++ []) H1 Q (fun _ _ _ => False))
  rw [e0]
  exact ht
/-! ### one one is written -/
def Gs.put (G : Gs) (i : Nat) (o : One) : Gs := { G with ones := G.ones.set i o }
theorem putK_at {κ : Type} [DecidableEq κ] {l : List (κ × V)} {i : Nat} {k : κ} {v0 v : V} (nd : (l.map (·.1)).Nodup) (e : l[i]? = some (k, v0)) : putK l k v = l.set i (k, v) := by
  have hany : (l.any fun kv => decide (kv.1 = k)) = true := List.any_eq_true.mpr ⟨_, List.mem_of_getElem? e, decide_eq_true rfl⟩
  unfold putK
  rw [if_pos hany]
  refine List.ext_getElem? fun j => ?_
  rw [List.getElem?_map, List.getElem?_set]
  by_cases h : i = j
  · subst h
    rw [if_pos rfl, if_pos (List.getElem?_eq_some_iff.mp e).1, e]
    exact congrArg some (if_pos rfl)
  · rw [if_neg h]
    cases ej : l[j]? with
    | none => rfl
    | some q =>
      refine congrArg some (if_neg fun c => h ?_)
      refine (List.getElem?_inj (by rw [List.length_map]; exact (List.getElem?_eq_some_iff.mp e).1) nd).mp ?_
      rw [List.getElem?_map, List.getElem?_map, e, ej]
      exact congrArg some c.symm
theorem dkO_zip {os : List One} {vs : List V} : dkO os vs = (os.map One.key).zip vs := by
  unfold dkO
  rw [List.zip_map_left]
  rfl
theorem map_set_same {α β : Type} {g : α → β} : ∀ {l : List α} {i : Nat} {a b : α}, l[i]? = some a → g b = g a → (l.set i b).map g = l.map g
  | [], _, _, _, _, _ => rfl
  | x :: l, 0, a, b, e, h => by
    cases (Option.some.inj e)
    rw [List.set_cons_zero, List.map_cons, List.map_cons, h]
  | x :: l, i + 1, a, b, e, h => by
    rw [List.set_cons_succ, List.map_cons, List.map_cons, map_set_same (l := l) (i := i) e h]
theorem zip_setR {α β : Type} : ∀ {l : List α} {m : List β} {i : Nat} {a : α} {b : β}, l[i]? = some a → l.zip (m.set i b) = (l.zip m).set i (a, b)
  | [], m, _, _, _, e => by simp at e
  | _ :: _, [], i, _, _, _ => by cases i <;> rfl
  | x :: l, y :: m, 0, a, b, e => by cases (Option.some.inj e); rfl
  | x :: l, y :: m, i + 1, a, b, e => by
    rw [List.set_cons_succ, List.zip_cons_cons, List.zip_cons_cons, List.set_cons_succ, zip_setR (l := l) (m := m) (i := i) e]
theorem dkO_put {os : List One} {vs : List V} {i : Nat} {o o' : One} {v0 v : V} (hl : os.length = vs.length) (nd : (os.map One.key).Nodup) (e : os[i]? = some o) (hk : o'.key = o.key) (ev : vs[i]? = some v0) : putK (dkO os vs) o.key v = dkO (os.set i o') (vs.set i v) := by
  rw [putK_at (dkO_nd hl nd) (dkO_at e ev), dkO_zip, dkO_zip, map_set_same e hk, zip_setR (a := o.key) (by rw [List.getElem?_map, e]; rfl)]
theorem paired_set {α β : Type} {F : α → β → Prop} : ∀ {l : List α} {m : List β} {i : Nat} {a : α} {b : β}, Paired F l m → F a b → Paired F (l.set i a) (m.set i b)
  | _, _, _, _, _, .nil, _ => .nil
  | _, _, 0, _, _, .cons _ t, h => .cons h t
  | _, _, i + 1, _, _, .cons r t, h => .cons r (paired_set (i := i) t h)
theorem paired_setR {α β : Type} {F : α → β → Prop} : ∀ {l : List α} {m : List β} {i : Nat} {b b' : β}, Paired F l m → m[i]? = some b → (∀ a, F a b → F a b') → Paired F l (m.set i b')
  | _, _, _, _, _, .nil, _, _ => .nil
  | _, _, 0, _, _, .cons r t, e, h => by cases (Option.some.inj e); exact .cons (h _ r) t
  | _, _, i + 1, _, _, .cons r t, e, h => .cons r (paired_setR (i := i) t e h)
theorem heldAll_key {n : Nat} {os os' : List One} {hs : List Addr} {h0 : Addr} (h : os'.map One.key = os.map One.key) : heldAll n os' hs h0 = heldAll n os hs h0 := by
  unfold heldAll
  simp only [dkO_zip, List.map_take, List.map_drop, h]
theorem ok_put {G : Gs} {i : Nat} {o o' : One} (ok : G.Ok) (e : G.ones[i]? = some o) (hk : o'.key = o.key) (hn : o'.f.ns = o.f.ns) (hr : o'.f.rs = o.f.rs) : (G.put i o').Ok := by
  have hm : ∀ {x}, x ∈ G.ones.set i o' → x ∈ G.ones ∨ x = o' := fun h => List.mem_or_eq_of_mem_set h
  have ho := List.mem_of_getElem? e
  refine ⟨ok.h, fun x hx => ?_, ?_, fun x hx => ?_, ?_, ok.on, ok.ol, ok.os⟩
  · rcases hm hx with h | rfl
    · exact ok.fh x h
    · rw [hn, hr]; exact ok.fh o ho
  · show ((G.ones.set i o').map One.key).Nodup
    rw [map_set_same e hk]
    exact ok.nd
  · rcases hm hx with h | rfl
    · exact ok.st x h
    · rw [(key_inj hk).1]; exact ok.st o ho
  · show (G.ones.set i o').length ≤ 100
    rw [List.length_set]
    exact ok.ln
section
variable {w : World} {K : PySem.W.Frag} {C CH : Addr} {H : Hp} {p : Addr} {G : Gs} {dP dS dH : Addr} {i : Nat} {o o' : One}
/-- its spot is written -/
theorem GsA.place (h : GsA w K C CH H p G dP dS dH) (e : G.ones[i]? = some o) {t : Addr} (ht : SqT K H t [.int o'.f.x, .int o'.f.y, .int o'.f.w]) (hk : o'.key = o.key) (hn : o'.f.ns = o.f.ns) (hr : o'.f.rs = o.f.rs) (hs : o'.sh = o.sh) :
    ∃ kv, H dP = some (.dT kv) ∧ kv.length < sizeLine ∧ Soft H (upd H dP (.dT (putK kv o.key (.ref t)))) ∧ GsA w K C CH (upd H dP (.dT (putK kv o.key (.ref t)))) p (G.put i o') dP dS dH := by
  obtain ⟨⟨dx, dF, ps, hs', h0, n0, h1, h2, h3, h4, h5, h6, h7, h8, nPS, hn0⟩, ok⟩ := h
  have lps : G.ones.length = (ps.map V.ref).length := by rw [List.length_map]; exact (paired_len h4).symm
  obtain ⟨a, ea, ha⟩ := paired_idx h4 e
  have kP : putK (dkO G.ones (ps.map V.ref)) o.key (.ref t) = dkO (G.ones.set i o') ((ps.set i t).map V.ref) := by
    rw [dkO_put lps ok.nd e hk (by rw [List.getElem?_map, ea]; rfl), List.map_set]
  have sf : Soft H (upd H dP (.dT (putK (dkO G.ones (ps.map V.ref)) o.key (.ref t)))) := Soft.dT h3
  refine ⟨_, h3, by rw [dkO_len lps]; exact Nat.lt_of_le_of_lt ok.ln (by decide), sf, ⟨dx, dF, ps.set i t, hs', h0, n0, sf _ _ h1 nofun nofun, sf _ _ h2 nofun nofun, by rw [upd_same, kP]; rfl, paired_set (L2.Paired.mapP h4 fun a o e => sf.sqT e) (sf.sqT ht), ?_, ?_, ?_, sf.hold h8, nPS, ?_⟩, ok_put ok e hk hn hr⟩
  · rw [upd_ne (Ne.symm nPS), h5]
    refine congrArg (fun l => some (HO.dT l)) ?_
    show dkO G.ones (shO G) = dkO (G.ones.set i o') ((G.ones.set i o').map fun o => .bl o.sh)
    rw [dkO_zip, dkO_zip, map_set_same e hk, map_set_same (g := fun o : One => V.bl o.sh) e (by show V.bl o'.sh = V.bl o.sh; rw [hs])]
    rfl
  · show MixD w _ dH (heldAll n0 (G.ones.set i o') hs' h0)
    rw [heldAll_key (map_set_same e hk)]
    exact h6.same (fun u e => by
      obtain ⟨xs, e', _⟩ := h6
      rw [upd_ne (ne_of e' h3 (by unfold MixO; nofun))]
      exact e) fun b xs e => sf _ _ e nofun nofun
  · exact paired_setR (L2.Paired.mapP h7 fun a o e => sf.hold e) e fun a z => by rw [hn, hr]; exact z
  · show n0 ≤ (G.ones.set i o').length
    rw [List.length_set]
    exact hn0
/-- it is shown, or hidden -/
theorem GsA.show_ (h : GsA w K C CH H p G dP dS dH) (e : G.ones[i]? = some o) (b : Bool) :
    ∃ kv, H dS = some (.dT kv) ∧ kv.length < sizeLine ∧ Soft H (upd H dS (.dT (putK kv o.key (.bl b)))) ∧ GsA w K C CH (upd H dS (.dT (putK kv o.key (.bl b)))) p (G.put i { o with sh := b }) dP dS dH := by
  obtain ⟨⟨dx, dF, ps, hs', h0, n0, h1, h2, h3, h4, h5, h6, h7, h8, nPS, hn0⟩, ok⟩ := h
  have lsh : G.ones.length = (shO G).length := by unfold shO; rw [List.length_map]
  have hk : ({ o with sh := b } : One).key = o.key := rfl
  have kS : putK (dkO G.ones (shO G)) o.key (.bl b) = dkO (G.ones.set i { o with sh := b }) (shO (G.put i { o with sh := b })) := by
    rw [dkO_put lsh ok.nd e hk (by unfold shO; rw [List.getElem?_map, e]; rfl)]
    unfold shO Gs.put
    rw [List.map_set]
  have sf : Soft H (upd H dS (.dT (putK (dkO G.ones (shO G)) o.key (.bl b)))) := Soft.dT h5
  refine ⟨_, h5, by rw [dkO_len lsh]; exact Nat.lt_of_le_of_lt ok.ln (by decide), sf, ⟨dx, dF, ps, hs', h0, n0, sf _ _ h1 nofun nofun, sf _ _ h2 nofun nofun, ?_, paired_setR (L2.Paired.mapP h4 fun a o e => sf.sqT e) e fun a z => z, by rw [upd_same, kS]; rfl, ?_, paired_setR (L2.Paired.mapP h7 fun a o e => sf.hold e) e fun a z => z, sf.hold h8, nPS, ?_⟩, ok_put ok e hk rfl rfl⟩
  · rw [upd_ne nPS, h3]
    refine congrArg (fun l => some (HO.dT l)) ?_
    show dkO G.ones (ps.map V.ref) = dkO (G.ones.set i _) (ps.map V.ref)
    rw [dkO_zip, dkO_zip, map_set_same e hk]
  · show MixD w _ dH (heldAll n0 (G.ones.set i _) hs' h0)
    rw [heldAll_key (map_set_same e hk)]
    exact h6.same (fun u e => by
      obtain ⟨xs, e', _⟩ := h6
      rw [upd_ne (ne_of e' h5 (by unfold MixO; nofun))]
      exact e) fun b xs e => sf _ _ e nofun nofun
  · show n0 ≤ (G.ones.set i _).length
    rw [List.length_set]
    exact hn0
end
def near (i m : Int) : Int := max 0 (min i (m - 1))
/-- the deed z with the values is brings (x, y, w) to r -/
def Acts (z : Str) (is : List Int) (x y w : Int) (r : Int × Int × Int) : Prop := (z = "turn" ∧ ∃ i, is = [i] ∧ r = (x, y, (w + i) % 4)) ∨ (z = "place" ∧ ∃ i j, is = [i, j] ∧ r = (i, j, w)) ∨ (z = "move" ∧ ∃ (i : Int) (u : Nat) (q : Int × Int), is = [i] ∧ w = u ∧ stp[u]? = some q ∧ r = (x + q.1 * i, y + q.2 * i, w))
def One.at_ (o : One) (x y w : Int) : One := { o with f := { o.f with x := x, y := y, w := w } }
abbrev sCS : Stmt := inC 37 17
section
variable {P : Program} {w : World} {K : PySem.W.Frag} {mg : Str → Option Value} {base : Heap} {f : Addr} {fd : FuncData} {C CH : Addr}
def spCS (w : World) (K : PySem.W.Frag) (C CH : Addr) : Sp := fun vs H Q _ => ∃ (p b vl dP dS dH : Addr) (z : Str) (is : List Int) (G : Gs) (i : Nat) (o : One) (r : Int × Int × Int), vs = [.ref p, .ref b, .str z, .ref vl] ∧ GsA w K C CH H p G dP dS dH ∧ OneT H b o ∧ G.ones[i]? = some o ∧ SqL K H vl (is.map V.int) ∧ Acts z is o.f.x o.f.y o.f.w r ∧
  ∀ H', ButL [dP] H H' → Soft H H' → GsA w K C CH H' p (G.put i (o.at_ (near r.1 G.wide) (near r.2.1 G.high) r.2.2)) dP dS dH → Q .non H'
theorem scCS : FnScope ["self", "one", "word", "values", "action", "x", "y", "way"] ["self", "one", "word", "values"] (defScope sCS) := ⟨rfl, rfl, rfl, by decide +kernel, rfl, by decide +kernel, by decide +kernel⟩
theorem ok_cs {k : Nat} {sD fT fP fM : Addr} (F : Fun K "change_spot" "Ground.change_spot" sCS f fd) (c : GCls K C) (m_SPOT_DEEDS : mg "SPOT_DEEDS" = some (.ref sD)) (kT : KDct K w sD "turn" (.ref fT)) (kP : KDct K w sD "place" (.ref fP)) (kM : KDct K w sD "move" (.ref fM)) (GM : Held P w K mg base k fM (spMv K)) (GT : Held P w K mg base k fT (spTn K)) (GP : Held P w K mg base k fP (spPc K)) (GN : FnG P w K mg base CX0 k "nearest" ["place", "many"] spNr) : FnOk P w K mg base CX0 (k + 1) f fd ["self", "one", "word", "values"] (spCS w K C CH) := by
  obtain ⟨_, _, G_nearest, m_nearest, k_nearest, b_nearest⟩ := GN
  have sc := scCS
  refine F.ok sc (fun vs H Q E h => ?_) (fun cdv A outer s H vs Q E hr h => ?_)
  · obtain ⟨p, b, vl, dP, dS, dH, z, is, G, i, o, r, rfl, _⟩ := h
    rfl
  obtain ⟨p, b, vl, dP, dS, dH, z, is, G, i, o, r, rfl, hp, hb, ei, hv, ha, q⟩ := h
  refine ⟨_, (pss_cons (ps_set (i := 4) sc.nd rfl (.inl rfl) (pe_ix ix_kdict (pe_glob (v := .ref sD) (by rfl) m_SPOT_DEEDS rfl) (pv 2) (fun _ _ => rfl)))
      (pss_cons (ps_asg (pe_callH (k := k) (i := 4) (hr.mono (by omega)) rfl (.inl rfl) (by exact (pa_cons (pe_dget (hu_of hr) (pe_fld (pv 0) rfl) (pv 1) (fun _ _ => rfl)) (pa_cons (pv 3) pa_nil)))) (pg_or (pg_tup (by rfl) (pgs_cons (pg_name (i := 5) sc.nd rfl (.inl rfl)) (pgs_cons (pg_name (i := 6) sc.nd rfl (.inl rfl)) (pgs_cons (pg_name (i := 7) sc.nd rfl (.inl rfl)) pgs_nil)))) (pg_lst (by rfl) (pgs_cons (pg_name (i := 5) sc.nd rfl (.inl rfl)) (pgs_cons (pg_name (i := 6) sc.nd rfl (.inl rfl)) (pgs_cons (pg_name (i := 7) sc.nd rfl (.inl rfl)) pgs_nil))))))
      (pss_one (ps_dput (hu_of hr) (pe_fld (pv 0) rfl) (pv 1) (pe_tup (pa_cons (pe_call G_nearest (hr.mono (by omega)) (by rfl) m_nearest k_nearest b_nearest .nil pass0 (pa_cons (pv 5) (pa_cons (pe_fld (pv 0) rfl) pa_nil))) (pa_cons (pe_call G_nearest (hr.mono (by omega)) (by rfl) m_nearest k_nearest b_nearest .nil pass0 (pa_cons (pv 6) (pa_cons (pe_fld (pv 0) rfl) pa_nil))) (pa_cons (pv 7) pa_nil)))) rfl)))), ?_⟩
  obtain ⟨⟨dx, dF, ps, hs, h0, n0, h1, h2, h3, h4, h5, h6, h7, h8, nPS, hn0⟩, ok⟩ := id hp
  have lps : G.ones.length = (ps.map V.ref).length := by rw [List.length_map]; exact (paired_len h4).symm
  obtain ⟨a, ea, hsp⟩ := paired_idx h4 ei
  have vP := (val_at (dkO_nd lps ok.nd) (dkO_at ei (by rw [List.getElem?_map, ea]; rfl))).symm
  have fin : ∀ (H2 : Hp) (t2 : Addr), Same H H2 → SqT K H2 t2 [.int (near r.1 G.wide), .int (near r.2.1 G.high), .int r.2.2] → ∃ kv, H2 dP = some (.dT kv) ∧ kv.length < sizeLine ∧ Q .non (upd H2 dP (.dT (putK kv o.key (.ref t2)))) := fun H2 t2 s2 ht2 => by
    obtain ⟨kv, g1, g2, g3, g4⟩ := (hp.same s2).place (o' := o.at_ (near r.1 G.wide) (near r.2.1 G.high) r.2.2) ei ht2 rfl rfl rfl rfl
    refine ⟨kv, g1, g2, q _ (fun b u nb e => ?_) ((Soft.same s2).trans g3) g4⟩
    rw [upd_ne fun z => nb (by rw [z]; exact List.mem_singleton.mpr rfl)]
    exact s2 _ _ e
  rcases ha with ⟨rfl, i1, rfl, rfl⟩ | ⟨rfl, i1, j1, rfl, rfl⟩ | ⟨rfl, i1, u1, q1, rfl, ew, eq1, rfl⟩
  · refine ⟨_, rfl, sD, "turn", .ref fT, rfl, rfl, kT, ?_⟩
    refine ⟨fT, spTn K, rfl, GT, _, rfl, p, C, dx, _, _, rfl, h1, c.cl, c.nP, fldG_p _ _ _ _ _ _, _, rfl, dP, .ref a, rfl, .inr ⟨_, o.key, b, .inl h3, rfl, hb, vP⟩, _, rfl, a, vl, o.f.x, o.f.y, o.f.w, i1, rfl, hsp, hv, fun t nt => ?_⟩
    have s1 := same_upd (o := .tup [.int o.f.x, .int o.f.y, .int ((o.f.w + i1) % 4)]) nt
    have et := upd_same (H := H) (a := t) (o := .tup [.int o.f.x, .int o.f.y, .int ((o.f.w + i1) % 4)])
    generalize upd H t (.tup [.int o.f.x, .int o.f.y, .int ((o.f.w + i1) % 4)]) = H1 at *
    refine sq_or (.inr (.inl (.inl et))) rfl ⟨_, _, rfl, _, _, rfl, _, _, rfl, rfl, ?_⟩
    refine ⟨_, rfl, _, rfl, p, C, dx, _, _, rfl, s1 _ _ h1, c.cl, c.nW, fldG_w _ _ _ _ _ _, _, _, rfl, ?_⟩
    refine ⟨_, rfl, _, rfl, p, C, dx, _, _, rfl, s1 _ _ h1, c.cl, c.nH, fldG_h _ _ _ _ _ _, _, _, rfl, ?_⟩
    refine ⟨_, rfl, by show 3 ≤ sizeLine; decide, fun t2 nt2 => ?_⟩
    have s2 := same_upd (o := .tup [.int (near o.f.x G.wide), .int (near o.f.y G.high), .int ((o.f.w + i1) % 4)]) nt2
    have et2 := upd_same (H := H1) (a := t2) (o := .tup [.int (near o.f.x G.wide), .int (near o.f.y G.high), .int ((o.f.w + i1) % 4)])
    have fin := fin _ t2 (s1.trans s2) (.inl (.inl et2))
    obtain ⟨kv, f1, f2, f3⟩ := fin
    refine ⟨_, rfl, p, C, dx, _, _, rfl, s2 _ _ (s1 _ _ h1), c.cl, c.nP, fldG_p _ _ _ _ _ _, _, rfl, dP, _, rfl, DPut.t (k := o.key) f1 (s2 _ _ (s1 _ _ hb)) f2, f3⟩
  · refine ⟨_, rfl, sD, "place", .ref fP, rfl, rfl, kP, ?_⟩
    refine ⟨fP, spPc K, rfl, GP, _, rfl, p, C, dx, _, _, rfl, h1, c.cl, c.nP, fldG_p _ _ _ _ _ _, _, rfl, dP, .ref a, rfl, .inr ⟨_, o.key, b, .inl h3, rfl, hb, vP⟩, _, rfl, a, vl, o.f.x, o.f.y, o.f.w, i1, j1, rfl, hsp, hv, fun t nt => ?_⟩
    have s1 := same_upd (o := .tup [.int i1, .int j1, .int o.f.w]) nt
    have et := upd_same (H := H) (a := t) (o := .tup [.int i1, .int j1, .int o.f.w])
    generalize upd H t (.tup [.int i1, .int j1, .int o.f.w]) = H1 at *
    refine sq_or (.inr (.inl (.inl et))) rfl ⟨_, _, rfl, _, _, rfl, _, _, rfl, rfl, ?_⟩
    refine ⟨_, rfl, _, rfl, p, C, dx, _, _, rfl, s1 _ _ h1, c.cl, c.nW, fldG_w _ _ _ _ _ _, _, _, rfl, ?_⟩
    refine ⟨_, rfl, _, rfl, p, C, dx, _, _, rfl, s1 _ _ h1, c.cl, c.nH, fldG_h _ _ _ _ _ _, _, _, rfl, ?_⟩
    refine ⟨_, rfl, by show 3 ≤ sizeLine; decide, fun t2 nt2 => ?_⟩
    have s2 := same_upd (o := .tup [.int (near i1 G.wide), .int (near j1 G.high), .int o.f.w]) nt2
    have et2 := upd_same (H := H1) (a := t2) (o := .tup [.int (near i1 G.wide), .int (near j1 G.high), .int o.f.w])
    have fin := fin _ t2 (s1.trans s2) (.inl (.inl et2))
    obtain ⟨kv, f1, f2, f3⟩ := fin
    refine ⟨_, rfl, p, C, dx, _, _, rfl, s2 _ _ (s1 _ _ h1), c.cl, c.nP, fldG_p _ _ _ _ _ _, _, rfl, dP, _, rfl, DPut.t (k := o.key) f1 (s2 _ _ (s1 _ _ hb)) f2, f3⟩
  · refine ⟨_, rfl, sD, "move", .ref fM, rfl, rfl, kM, ?_⟩
    refine ⟨fM, spMv K, rfl, GM, _, rfl, p, C, dx, _, _, rfl, h1, c.cl, c.nP, fldG_p _ _ _ _ _ _, _, rfl, dP, .ref a, rfl, .inr ⟨_, o.key, b, .inl h3, rfl, hb, vP⟩, _, rfl, a, vl, o.f.x, o.f.y, u1, i1, q1, rfl, by rw [← ew]; exact hsp, hv, eq1, fun t nt => ?_⟩
    rw [← ew] at *
    have s1 := same_upd (o := .tup [.int (o.f.x + q1.1 * i1), .int (o.f.y + q1.2 * i1), .int o.f.w]) nt
    have et := upd_same (H := H) (a := t) (o := .tup [.int (o.f.x + q1.1 * i1), .int (o.f.y + q1.2 * i1), .int o.f.w])
    generalize upd H t (.tup [.int (o.f.x + q1.1 * i1), .int (o.f.y + q1.2 * i1), .int o.f.w]) = H1 at *
    refine sq_or (.inr (.inl (.inl et))) rfl ⟨_, _, rfl, _, _, rfl, _, _, rfl, rfl, ?_⟩
    refine ⟨_, rfl, _, rfl, p, C, dx, _, _, rfl, s1 _ _ h1, c.cl, c.nW, fldG_w _ _ _ _ _ _, _, _, rfl, ?_⟩
    refine ⟨_, rfl, _, rfl, p, C, dx, _, _, rfl, s1 _ _ h1, c.cl, c.nH, fldG_h _ _ _ _ _ _, _, _, rfl, ?_⟩
    refine ⟨_, rfl, by show 3 ≤ sizeLine; decide, fun t2 nt2 => ?_⟩
    have s2 := same_upd (o := .tup [.int (near (o.f.x + q1.1 * i1) G.wide), .int (near (o.f.y + q1.2 * i1) G.high), .int o.f.w]) nt2
    have et2 := upd_same (H := H1) (a := t2) (o := .tup [.int (near (o.f.x + q1.1 * i1) G.wide), .int (near (o.f.y + q1.2 * i1) G.high), .int o.f.w])
    have fin := fin _ t2 (s1.trans s2) (.inl (.inl et2))
    obtain ⟨kv, f1, f2, f3⟩ := fin
    refine ⟨_, rfl, p, C, dx, _, _, rfl, s2 _ _ (s1 _ _ h1), c.cl, c.nP, fldG_p _ _ _ _ _ _, _, rfl, dP, _, rfl, DPut.t (k := o.key) f1 (s2 _ _ (s1 _ _ hb)) f2, f3⟩
end
end Fd

set_option Elab.async false
set_option linter.all false
set_option maxRecDepth 100000
set_option maxHeartbeats 1000000
namespace Fd
open PySem PySem.Spec PyProof.Rows L2 RZ Fw LamX
/-- the tables that do looks words up in -/
structure DoT (K : PySem.W.Frag) (w : World) (mg : Str → Option Value) (nD lD hD : Addr) (eN eL eS : Array DictEntry) (n1 n2 n3 : Nat) : Prop where
  mN : mg "NAME_DEEDS" = some (.ref nD)
  mL : mg "LIST_DEEDS" = some (.ref lD)
  mS : mg "SHOWN_BY" = some (.ref hD)
  dN : KDict K w nD eN n1
  dL : KDict K w lD eL n2
  dS : KDict K w hD eS n3
  zN : ∀ z ∈ (["show", "hide", "turn", "place", "move"] : List Str), PySem.W.nsIn K nD z = some none
  zL : ∀ z ∈ (["show", "hide", "turn", "place", "move"] : List Str), PySem.W.nsIn K lD z = some none
  zS : ∀ z ∈ (["turn", "place", "move"] : List Str), PySem.W.nsIn K hD z = some none
  s1 : KDct K w hD "show" (.bl true)
  s2 : KDct K w hD "hide" (.bl false)
/-- what the deed z with the values is makes of the one -/
def Deed (G : Gs) (z : Str) (is : List Int) (o o' : One) : Prop := (z = "show" ∧ is = [] ∧ o' = { o with sh := true }) ∨ (z = "hide" ∧ is = [] ∧ o' = { o with sh := false }) ∨ ∃ r, Acts z is o.f.x o.f.y o.f.w r ∧ o' = o.at_ (near r.1 G.wide) (near r.2.1 G.high) r.2.2
theorem sl_tail {K : PySem.W.Frag} {H : Hp} {a : Addr} {x : V} {xs : List V} {Q : VK} (h : SqT K H a (x :: xs)) (q : ∀ l, H l = none → Q (.ref l) (upd H l (.tup xs))) : rSlA K (.ref a) (some 1) none H Q := by
  refine ⟨a, _, rfl, h, fun e => ?_, fun _ l nl => ?_⟩
  · refine absurd e.1 ?_
    show ¬ HT.sIx (xs.length + 1) 0 (some ((1 : Nat) : Int)) = 0
    rw [HT.sIx_nat]
    omega
  · have := q l nl
    rwa [show cutV (x :: xs) (some 1) none = xs from cut_from (x :: xs) 1]
theorem ix_sq {K : PySem.W.Frag} {H : Hp} {a : Addr} {xs : List V} {j : Nat} {x : V} {Q : VK} (h : Sq K H a xs) (e : xs[j]? = some x) (q : Q x H) : rOr (rIxL K) (rIxT K) (.ref a) (.int (j : Nat)) H Q := by
  rcases h with h | h
  · exact .inl ⟨a, xs, j, x, rfl, rfl, h, atI_nat e, q⟩
  · exact .inr ⟨a, xs, j, x, rfl, rfl, h, atI_nat e, q⟩
theorem slr_or {X : Cx} {r r' : V → Option Int → Option Int → Hp → VK → Prop} (h : SlR X r) (h' : SlR X r') : SlR X (fun x lo hi H Q => r x lo hi H Q ∨ r' x lo hi H Q) := fun pins s σ H x v vl vu lo hi sl Q I rx hs p1 p2 q => q.elim (h pins s σ H x v vl vu lo hi sl Q I rx hs p1 p2) (h' pins s σ H x v vl vu lo hi sl Q I rx hs p1 p2)
/-- a tail of a list or a tuple is new -/
theorem sl_tailS {K : PySem.W.Frag} {H : Hp} {a : Addr} {x : V} {xs : List V} {Q : VK} (h : Sq K H a (x :: xs)) (q : ∀ l H', Same H H' → Sq K H' l xs → Q (.ref l) H') : rSlL K (.ref a) (some 1) none H Q ∨ rSlA K (.ref a) (some 1) none H Q := by
  rcases h with h | h
  · refine .inl ⟨a, _, rfl, h, fun l nl => ?_⟩
    rw [show cutV (x :: xs) (some 1) none = xs from cut_from (x :: xs) 1]
    exact q l _ (same_upd nl) (.inl (SqL.of upd_same))
  · exact .inr (sl_tail h fun l nl => q l _ (same_upd nl) (.inr (.inl (.inl upd_same))))
abbrev sDo : Stmt := inC 37 16
section
variable {P : Program} {w : World} {K : PySem.W.Frag} {mg : Str → Option Value} {base : Heap} {f : Addr} {fd : FuncData} {C CH : Addr}
def spDo (w : World) (K : PySem.W.Frag) (C CH : Addr) : Sp := fun vs H Q _ => ∃ (p b d e dP dS dH : Addr) (z : Str) (is : List Int) (G : Gs) (i : Nat) (o o' : One), vs = [.ref p, .ref b, .ref d, .ref e] ∧ GsA w K C CH H p G dP dS dH ∧ OneV K H b o ∧ G.ones[i]? = some o ∧ Sq K H d (.str z :: is.map V.int) ∧ is.length ≤ 100 ∧ (∀ x ∈ is, -1000000 ≤ x ∧ x ≤ 1000000) ∧ SqT K H e [] ∧ Deed G z is o o' ∧
  ∀ H', ButL [dP, dS, dH] H H' → Soft H H' → GsA w K C CH H' p (G.put i o') dP dS dH → Q .non H'
theorem scDo : FnScope ["self", "one", "deed", "params", "word", "named", "looks", "eyes", "values", "look"] ["self", "one", "deed", "params"] (defScope sDo) := ⟨rfl, rfl, rfl, by decide +kernel, rfl, by decide +kernel, by decide +kernel⟩
theorem ok_do {k kH : Nat} {nD lD hD : Addr} {eN eL eS : Array DictEntry} {n1 n2 n3 : Nat} {fE fC : Addr} {fdE fdC : FuncData} {psE psC : List Str} (F : Fun K "do" "Ground.do" sDo f fd) (c : GCls K C) (c_G : Cls K C) (hk : kH ≤ k) (m_tuple : mg "tuple" = none) (T : DoT K w mg nD lD hD eN eL eS n1 n2 n3)
    (M_eyes : Meth K C "eyes" fE) (G_eyes : FnOk P w K mg base CX0 kH fE fdE psE (spGE w K C CH)) (b_eyes_kw : KBn K fdE psE 2 ["params"] (· ++ ·) (· ++ ·))
    (M_change_spot : Meth K C "change_spot" fC) (G_change_spot : FnOk P w K mg base CX0 kH fC fdC psC (spCS w K C CH)) (b_change_spot : Binds K fdC psC [])
    (GV : FnG P w K mg base CX0 k "value_of" ["look", "eyes"] spVI) : FnOk P w K mg base CX0 (k + 1) f fd ["self", "one", "deed", "params"] (spDo w K C CH) := by
  obtain ⟨_, _, G_value_of, m_value_of, k_value_of, b_value_of⟩ := GV
  have d_change_spot : Vals [] [] := .nil
  have sc := scDo
  refine F.ok sc (fun vs H Q E h => ?_) (fun cdv A outer s H vs Q E hr h => ?_)
  · obtain ⟨p, b, d, e, dP, dS, dH, z, is, G, i, o, o', rfl, _⟩ := h
    rfl
  obtain ⟨p, b, d, e, dP, dS, dH, z, is, G, i, o, o', rfl, hp, hb, ei, hd, hl, hi, he, ha, q⟩ := h
  refine ⟨_, (pss_cons (ps_set (i := 4) sc.nd rfl (.inl rfl) (pe_ix (ixr_or (show IxR _ (rIxL K) from ix_list) (show IxR _ (rIxT K) from ix_tup)) (pv 2) pe_int (fun _ _ => rfl)))
      (pss_cons (ps_set (i := 5) sc.nd rfl (.inl rfl) (pe_or (pe_cmpR (op_in_kd T.dN) (pv 4) (pe_glob (v := .ref nD) (by rfl) T.mN rfl) (by rfl)) (pe_one (pe_cmpR (op_in_kd T.dL) (pv 4) (pe_glob (v := .ref lD) (by rfl) T.mL rfl) (by rfl)))))
      (pss_cons (ps_set (i := 6) sc.nd rfl (.inl rfl) (pe_ifExp (pt_val (pv 5)) (pe_slice (slr_or (show SlR _ (rSlL K) from sl_list) (show SlR _ (rSlA K) from sl_tupA)) (pv 2) (po_some pe_int) po_none) (pe_slice (slr_or (show SlR _ (rSlL K) from sl_list) (show SlR _ (rSlA K) from sl_tupA)) (pv 2) (po_some pe_int) po_none)))
      (pss_cons (ps_set (i := 7) sc.nd rfl (.inr rfl) (Fw.pe_methK (pv 0) c_G M_eyes G_eyes (hr.mono (by omega)) b_eyes_kw pass0 (pa_cons (pv 1) pa_nil) (pk_cons (pv 3) pk_nil)))
      (pss_cons (ps_setLc (i := 8) (own := [("look", 9)]) (by rfl) sc.nd rfl rfl (sw_true rfl rfl rfl (by decide +kernel)) (pi_or (pi_list (pv 6)) (pi_tup (pv 6))) (blkOk_by (own := [("look", 9)]) (N := ["self", "one", "deed", "params", "word", "named", "looks", "eyes", "values", "look"]) (sc := defScope sDo) (by decide +kernel)) (fun _ _ _ _ _ => (pg_name (i := 9) sc.nd rfl (.inl rfl))) (fun _ _ _ _ _ => pts_nil) (fun _ _ _ _ _ => (pe_call G_value_of (hr.mono (by omega)) (by rfl) m_value_of k_value_of b_value_of .nil pass0 (pa_cons (pv 9) (pa_cons (pv 7) pa_nil)))))
      (pss_cons (ps_if (pt_cmpR op_eq (pv 4) pe_str (nomark _)) (pss_one L2.ps_never) pss_nil)
      (pss_cons (ps_if (pt_val (pv 5)) (pss_one L2.ps_never) (pss_one (ps_if (pt_cmpR (op_in_kd T.dS) (pv 4) (pe_glob (v := .ref hD) (by rfl) T.mS rfl) (by rfl)) (pss_one (ps_dput (hu_of hr) (pe_fld (pv 0) rfl) (pe_callTy (show CallR _ (.type "tuple") (rTupO K) from call_tuple_of) (by rfl) m_tuple (by decide +kernel) (pa_cons (pv 1) pa_nil)) (pe_ix ix_kdict (pe_glob (v := .ref hD) (by rfl) T.mS rfl) (pv 4) (fun _ _ => rfl)) rfl)) (pss_one (ps_expr (pe_meth (pv 0) c_G M_change_spot G_change_spot (hr.mono (by omega)) b_change_spot d_change_spot pass0 (pa_cons (pe_callTy (show CallR _ (.type "tuple") (rTupO K) from call_tuple_of) (by rfl) m_tuple (by decide +kernel) (pa_cons (pv 1) pa_nil)) (pa_cons (pv 4) (pa_cons (pv 8) pa_nil)))))))))
      (pss_one (ps_ret pe_non))))))))), ?_⟩
  have hz4 : z ∈ (["show", "hide", "turn", "place", "move"] : List Str) := by
    rcases ha with ⟨rfl, _⟩ | ⟨rfl, _⟩ | ⟨r, ⟨rfl, _⟩ | ⟨rfl, _⟩ | ⟨rfl, _⟩, _⟩ <;> simp
  refine ⟨_, rfl, ix_sq hd (j := 0) rfl ?_⟩
  refine ⟨_, rfl, z, none, rfl, rfl, T.zN z hz4, _, rfl, ifFF ⟨_, rfl, z, none, rfl, rfl, T.zL z hz4, ?_⟩⟩
  refine ⟨_, rfl, _, rfl, ifFF ⟨_, rfl, _, rfl, ?_⟩⟩
  unfold tNoPart
  refine sl_tailS hd fun l H1 s1 el => ?_
  obtain ⟨gdx, ga, gb, gc, gd, e1⟩ := hp.at.get
  have hg := List.mem_of_getElem? ei
  refine ⟨_, rfl, p, gdx, _, rfl, s1 _ _ e1, by kernel_rfl, _, rfl, _, rfl, rfl, rfl, p, b, .ref e, G, o, [], rfl, hp.at.same s1, hb.same s1, hg, ⟨e, [], rfl, .inr (seqT s1 he), .nil⟩, by decide, fun ev H2 as s2 _ _ => ?_⟩
  have S2 := s1.trans s2
  have el2 : Sq K H2 l (is.map V.int) := el.same s2
  refine sq_it rfl el2 fun J wJ D nDl => lc_it wJ (fun i HB => Same H2 HB ∧ HB D = some (.lst ((is.take i).map V.int))) ⟨same_upd nDl, upd_same⟩ (fun _ _ _ h => h.1) ?_ ?_
  · rintro j x _ HB hj ⟨sm, hDl⟩ ⟨rfl, ex⟩
    rw [List.getElem?_map] at ex
    obtain ⟨v, ev1, rfl⟩ := Option.map_eq_some_iff.mp ex
    have hv := hi v (List.mem_of_getElem? ev1)
    refine ⟨rfl, yesI (iteT ⟨_, rfl, _, rfl, v, _, rfl, hv.1, hv.2, _, hDl, ?_, Fd.Same.putN sm nDl, ?_⟩)⟩
    · rw [List.length_map, List.length_take]
      exact small1000 (by omega)
    · rw [upd_same, List.take_succ, ev1, List.map_append]
      rfl
  rintro HB ⟨sm, hDl⟩
  rw [List.length_map, List.take_length] at hDl
  have S3 := S2.trans sm
  have hsay : decide (V.str z = V.str "say") = false := by
    rcases ha with ⟨rfl, _⟩ | ⟨rfl, _⟩ | ⟨r, ⟨rfl, _⟩ | ⟨rfl, _⟩ | ⟨rfl, _⟩, _⟩ <;> decide +kernel
  refine ⟨_, rfl, rfl, _, rfl, ?_⟩
  rw [hsay]
  refine ifFF ?_
  refine ⟨_, rfl, _, rfl, ifFF ?_⟩
  have hp3 := hp.same S3
  have hb3 := hb.same S3
  obtain ⟨⟨dx, dF, ps, hs, h0, n0, h1, h2, h3, h4, h5, h6, h7, h8, nPS, hn0⟩, ok⟩ := id hp3
  have hsh : (∃ bb : Bool, KDct K w hD z (.bl bb) ∧ o' = { o with sh := bb }) ∨ ∃ r, Acts z is o.f.x o.f.y o.f.w r ∧ o' = o.at_ (near r.1 G.wide) (near r.2.1 G.high) r.2.2 := by
    rcases ha with ⟨rfl, rfl, eo⟩ | ⟨rfl, rfl, eo⟩ | h
    · exact .inl ⟨true, T.s1, eo⟩
    · exact .inl ⟨false, T.s2, eo⟩
    · exact .inr h
  rcases hsh with ⟨bb, kd, eo⟩ | ⟨r, hr2, eo⟩
  · obtain ⟨es', n', u', hl', hk', hu', hr'⟩ := id kd
    refine ⟨_, rfl, z, some u', rfl, rfl, hu', _, rfl, iteT ?_⟩
    refine ⟨_, rfl, hD, z, .bl bb, rfl, rfl, kd, _, rfl, p, C, dx, _, _, rfl, h1, c.cl, c.nS, fldG_s _ _ _ _ _ _, _, rfl, ?_⟩
    unfold tNil
    refine key_or hb3 fun bk H5 s5 _ hbk => ?_
    obtain ⟨kv, g1, g2, g3, g4⟩ := (hp3.same s5).show_ ei bb
    refine ⟨dS, _, rfl, DPut.t (k := o.key) g1 hbk g2, ?_⟩
    rw [← eo] at g4
    refine q _ (fun b' u nb e => ?_) ((Soft.same (S3.trans s5)).trans g3) g4
    rw [upd_ne fun z => nb (by rw [z]; exact List.mem_cons_of_mem _ (List.mem_cons_self ..))]
    exact s5 _ _ (S3 _ _ e)
  · have hz2 : z ∈ (["turn", "place", "move"] : List Str) := by
      rcases hr2 with ⟨rfl, _⟩ | ⟨rfl, _⟩ | ⟨rfl, _⟩ <;> simp
    refine ⟨_, rfl, z, none, rfl, rfl, T.zS z hz2, _, rfl, ifFF ?_⟩
    refine ⟨_, rfl, p, dx, _, rfl, h1, by kernel_rfl, ?_⟩
    refine ⟨_, rfl, ?_⟩
    unfold tNil
    refine key_or hb3 fun bk H5 s5 _ hbk => ?_
    refine ⟨_, rfl, _, rfl, p, bk, D, dP, dS, dH, z, is, G, i, o, r, rfl, hp3.same s5, hbk, ei, SqL.of (s5 _ _ hDl), hr2, fun H6 bl sf ga => ?_⟩
    rw [← eo] at ga
    exact q _ (fun b' u nb e => bl b' u (fun z => nb (by rw [List.mem_singleton.mp z]; exact List.mem_cons_self ..)) (s5 _ _ (S3 _ _ e))) ((Soft.same (S3.trans s5)).trans sf) ga
end
end Fd

set_option Elab.async false
set_option linter.all false
set_option maxRecDepth 100000
set_option maxHeartbeats 1000000
namespace Fd
open PySem PySem.Spec PyProof.Rows L2 RZ Fw LamX
/-! ### all that a ground tells -/
def onesP (G : Gs) : PyData := .list (G.srt.map oneP)
def spotD (f : Fig) : PyData := .tuple [.int f.x, .int f.y, .int f.w]
def dueF (G : Gs) (o : One) : List PyData := [.list [spotD o.f, .bool o.sh, nmD o.f.ns, rwD o.f.rs], metP G o]
def dueL (G : Gs) (os : List One) : List PyData := [onesP G, .int (G.ones.length : Nat), nmD G.nm, rwD G.rw] ++ os.flatMap (dueF G)
def dueD (G : Gs) : PyData := .list (dueL G G.srt)
theorem ones_tr {K : PySem.W.Frag} {H : Hp} : ∀ {as : List Addr} {fs : List One}, Paired (OneT H) as fs → TrA K H (as.map V.ref) (fs.map oneP) []
  | _, _, .nil => .nil
  | _, _, .cons r t => .cons (as := []) (bs := []) (.tup (.inl (.inl r)) (.cons (as := []) (bs := []) (.str _) (.cons (as := []) (bs := []) (.int _) .nil (fun b z => by cases z)) (fun b z => by cases z))) (ones_tr t) (fun b z => by cases z)
theorem dueL_snoc {G : Gs} {fs : List One} {z : One} : dueL G (fs ++ [z]) = dueL G fs ++ dueF G z := by
  unfold dueL
  rw [List.flatMap_append, List.append_assoc]
  rfl
theorem dueL_len (G : Gs) : ∀ fs : List One, (dueL G fs).length = 4 + 2 * fs.length
  | [] => rfl
  | f :: fs => by
    have := dueL_len G fs
    unfold dueL at *
    rw [List.flatMap_cons, List.length_append, List.length_append] at *
    show 4 + (2 + _) = _
    have e : ([onesP G, PyData.int (G.ones.length : Nat), nmD G.nm, rwD G.rw]).length = 4 := rfl
    rw [List.length_cons]
    omega
/-- a tree's things are not where nothing was -/
theorem tr_new {K : PySem.W.Frag} {H H' : Hp} {v : V} {d : PyData} {as bs : List Addr} (t : Tr K H v d as) (s : Same H H') (fr : ∀ b ∈ bs, H' b = none) : ∀ b ∈ as, b ∉ bs := fun b hb z => by
  obtain ⟨u, hu⟩ := tr_in _ _ _ t b hb
  have := s _ _ hu
  rw [fr b z] at this
  cases this
theorem newL_put {H H' : Hp} {D : Addr} {o : HO} (x : ExtN H H') (n : NewL H D) : ExtN H (upd H' D o) := fun b u e t => by
  rw [upd_ne (n.ne e t)]
  exact x _ _ e t
/-- tables stay where but lists change -/
theorem tabs_keep {T : List (Addr × Str)} {H H' : Hp} (t : Tabs T H) (e : ∀ b o, H b = some o → (∀ xs, o ≠ .lst xs) → H' b = some o) : Tabs T H' := fun p hp => by
  obtain ⟨ps, h1, h2, h3⟩ := t p hp
  refine ⟨ps, e _ _ h1 (fun _ => nofun), h2, fun pos cv hc => ?_⟩
  obtain ⟨c, e1, e2⟩ := h3 pos cv hc
  exact ⟨c, e1, e _ _ e2 (fun xs => by unfold CodeO; nofun)⟩
theorem tabs_put {T : List (Addr × Str)} {H : Hp} {D : Addr} {xs : List V} {o : HO} (t : Tabs T H) (e : H D = some (.lst xs)) : Tabs T (upd H D o) := tabs_keep t fun b u hb n => by
  rw [upd_ne (ne_of hb e (n xs))]
  exact hb
/-- one more thing in the list at D -/
theorem bx_push {K : PySem.W.Frag} {H H1 H2 : Hp} {D : Addr} {vs : List V} {as bs : List Addr} {ds : List PyData} {y : V} {d : PyData} (x : ExtN H H1) (hD : H1 D = some (.lst vs)) (hT : TrA K H1 vs ds as) (nd : D ∉ as) (fa : ∀ b ∈ as, NewL H b) (s : Same H1 H2) (hy : Tr K H2 y d bs) (fr : ∀ b ∈ bs, H1 b = none) :
    TrA K (upd H2 D (.lst (vs ++ [y]))) (vs ++ [y]) (ds ++ [d]) (as ++ bs) ∧ D ∉ as ++ bs ∧ ∀ b ∈ as ++ bs, NewL H b := by
  have hD2 := s _ _ hD
  have Db : D ∉ bs := fun z => by rw [fr D z] at hD; cases hD
  refine ⟨trA_snoc (tr_kp _ _ _ (kp_upd hD2 Db) hy) (trA_kp _ _ _ (kp_upd hD2 nd) (trA_kp _ _ _ (Kp.same s) hT)) (fun b hb z => ?_), fun z => ?_, fun b hb => ?_⟩
  · obtain ⟨u, hu⟩ := trA_in _ _ _ hT b hb
    rw [fr b z] at hu
    cases hu
  · exact (List.mem_append.mp z).elim nd Db
  · exact (List.mem_append.mp hb).elim (fa b) (fun z => newL_ext x (fr b z))
section
variable {P : Program} {w : World} {K : PySem.W.Frag} {mg : Str → Option Value} {base : Heap} {f : Addr} {fd : FuncData} {C CH P0 : Addr}
/-- a method that the class has under a name of Python's -/
def SpM (P : Program) (w : World) (K : PySem.W.Frag) (mg : Str → Option Value) (base : Heap) (C : Addr) (k : Nat) (x : Str) (ps : List Str) (sp : Sp) : Prop :=
  ∃ f fd, FnOk P w K mg base CX0 k f fd ps sp ∧ PySem.W.findIn K (.ref C) x = some (some (.ref f)) ∧ PySem.W.isFn K (.ref f) = true ∧ Binds K fd ps []
abbrev sLTo : Stmt := top 48
def spLTo (w : World) (K : PySem.W.Frag) (C CH P0 : Addr) : Sp := fun vs H Q _ => ∃ (p : Addr) (G : Gs), vs = [.ref p] ∧ GsAt w K C CH H p G ∧ G.In ∧ Tabs (TT P0) H ∧ ∀ v H' as, ExtN H H' → Tabs (TT P0) H' → Tr K H' v (dueD G) as → (∀ b ∈ as, NewL H b) → Q v H'
theorem scLTo : FnScope ["_law_ground", "_law_found", "_law_who"] ["_law_ground"] (defScope sLTo) := ⟨rfl, rfl, rfl, by decide +kernel, rfl, by decide +kernel, by decide +kernel⟩
theorem ok_ltold {k kH : Nat} (F : Fun K "_law_told_of" "_law_told_of" sLTo f fd) (c_G : Cls K C) (hk : kH + 1 ≤ k) (m_len : mg "len" = none) (GN : MthK P w K mg base C kH 1 "names" "one" .non ["self", "one"] (spGN w K C CH)) (GR : MthK P w K mg base C kH 1 "lists" "one" .non ["self", "one"] (spGR w K C CH))
    (GO : MthG P w K mg base C kH "ones" ["self"] (spGo w K C CH P0)) (GS : MthG P w K mg base C kH "spot" ["self", "one"] (spGS w K C CH)) (GW : MthG P w K mg base C kH "is_shown" ["self", "one"] (spGW w K C CH)) (GM : MthG P w K mg base C kH "met" ["self", "one"] (spGM w K C CH)) (GL : SpM P w K mg base C kH "__len__" ["self"] (spGL w K C CH)) : FnOk P w K mg base CX0 (k + 1) f fd ["_law_ground"] (spLTo w K C CH P0) := by
  obtain ⟨_, _, _, M_names, G_names, b_names, d_names, b_names_kw⟩ := GN
  obtain ⟨_, _, _, M_lists, G_lists, b_lists, d_lists, b_lists_kw⟩ := GR
  obtain ⟨_, _, M_ones, G_ones, b_ones⟩ := GO
  obtain ⟨_, _, M_spot, G_spot, b_spot⟩ := GS
  obtain ⟨_, _, M_is_shown, G_is_shown, b_is_shown⟩ := GW
  obtain ⟨_, _, M_met, G_met, b_met⟩ := GM
  obtain ⟨_, _, G_len, hs_len, hf_len, b_len⟩ := GL
  have d_ones : Vals [] [] := .nil
  have d_spot : Vals [] [] := .nil
  have d_is_shown : Vals [] [] := .nil
  have d_met : Vals [] [] := .nil
  have sc := scLTo
  refine F.ok sc (fun vs H Q E h => ?_) (fun cdv A outer s H vs Q E hr h => ?_)
  · obtain ⟨p, G, rfl, _⟩ := h
    rfl
  obtain ⟨p, G, rfl, hp, hin, hT, q⟩ := h
  refine ⟨_, (pss_cons (ps_set (i := 1) sc.nd rfl (.inl rfl) (pe_lst (pa_cons (pe_meth0 (pv 0) c_G M_ones G_ones (hr.mono (by omega)) b_ones d_ones pass0) (pa_cons (pe_callB (Fw.call_lenI G_len (hr.mono (by omega)) hs_len hf_len b_len pass0) (by rfl) m_len (by decide +kernel) (pa_cons (pv 0) pa_nil)) (pa_cons (pe_meth0 (pv 0) c_G M_names G_names (hr.mono (by omega)) b_names d_names pass0) (pa_cons (pe_meth0 (pv 0) c_G M_lists G_lists (hr.mono (by omega)) b_lists d_lists pass0) pa_nil))))))
      (pss_cons (ps_for PassesOwn.never rfl (pi_list (pe_meth0 (pv 0) c_G M_ones G_ones (hr.mono (by omega)) b_ones d_ones pass0)) (pg_name (i := 2) sc.nd rfl (.inl rfl)) (pss_cons (ps_expr (pe_bm PySem.F.plainAttrs_list PySem.F.slot_list_append PySem.F.type_list_append mt_append (pv 1) (pa_cons (pe_lst (pa_cons (pe_meth (pv 0) c_G M_spot G_spot (hr.mono (by omega)) b_spot d_spot pass0 (pa_cons (pv 2) pa_nil)) (pa_cons (pe_meth (pv 0) c_G M_is_shown G_is_shown (hr.mono (by omega)) b_is_shown d_is_shown pass0 (pa_cons (pv 2) pa_nil)) (pa_cons (Fw.pe_methK0 (pv 0) c_G M_names G_names (hr.mono (by omega)) b_names_kw pass0 (pk_cons (pv 2) pk_nil)) (pa_cons (Fw.pe_methK0 (pv 0) c_G M_lists G_lists (hr.mono (by omega)) b_lists_kw pass0 (pk_cons (pv 2) pk_nil)) pa_nil))))) pa_nil)))
      (pss_one (ps_expr (pe_bm PySem.F.plainAttrs_list PySem.F.slot_list_append PySem.F.type_list_append mt_append (pv 1) (pa_cons (pe_meth (pv 0) c_G M_met G_met (hr.mono (by omega)) b_met d_met pass0 (pa_cons (pv 2) pa_nil)) pa_nil))))))
      (pss_one (ps_ret (pv 1))))), ?_⟩
  obtain ⟨gdx, ga, gb, gc, gd, hpi⟩ := hp.get
  have ok := hp.ok
  refine ⟨_, rfl, p, gdx, _, rfl, hpi, by kernel_rfl, p, G, rfl, hp, hin, hT, fun l H1 as x1 T1 nl hl pk => ?_⟩
  have hp1 := hp.ext x1
  refine ⟨_, rfl, p, gdx, _, rfl, x1 _ _ hpi nofun, p, G, rfl, hp1, ⟨_, rfl, by omega, by have := ok.ln; omega⟩, ?_⟩
  refine ⟨_, rfl, p, gdx, _, rfl, x1 _ _ hpi nofun, by kernel_rfl, p, .non, G, _, _, rfl, hp1, .inl ⟨rfl, rfl, rfl⟩, fun v2 H2 bs2 s2 t2 f2 => ?_⟩
  have x2 := x1.trans (ExtN.of s2)
  refine ⟨_, rfl, p, gdx, _, rfl, x2 _ _ hpi nofun, by kernel_rfl, p, .non, G, _, _, rfl, hp.ext x2, .inl ⟨rfl, rfl, rfl⟩, fun v3 H3 bs3 s3 t3 f3 => ⟨by show 4 ≤ sizeLine; decide, fun D nD => ?_⟩⟩
  have x3 := x2.trans (ExtN.of s3)
  have s4 := same_upd (o := .lst [.ref l, .int (G.ones.length : Nat), v2, v3]) nD
  have e4 := upd_same (H := H3) (a := D) (o := .lst [.ref l, .int (G.ones.length : Nat), v2, v3])
  have nLD := newL_ext x3 nD
  have nD0 := nD
  generalize upd H3 D (.lst [.ref l, .int (G.ones.length : Nat), v2, v3]) = H4 at *
  have x4 := x3.trans (ExtN.of s4)
  have s14 := (s2.trans s3).trans s4
  have T4 := T1.ext s14
  have tO : Tr K H1 (.ref l) (onesP G) [l] := .lst hl (ones_tr pk) (fun z => by cases z)
  have t4 : ∃ as, TrA K H4 [.ref l, .int (G.ones.length : Nat), v2, v3] (dueL G []) as ∧ D ∉ as ∧ ∀ b ∈ as, NewL H b := by
    have y1 : ∀ b ∈ [l], b ∉ bs2 := tr_new tO (Same.refl _) f2
    have y2 : ∀ b ∈ [l], b ∉ bs3 := tr_new tO s2 f3
    have y3 : ∀ b ∈ bs2, b ∉ bs3 := tr_new t2 (Same.refl _) f3
    refine ⟨[l] ++ ([] ++ (bs2 ++ (bs3 ++ []))), .cons (tr_kp _ _ _ (Kp.same s14) tO) (.cons (.int _) (.cons (tr_kp _ _ _ (Kp.same (s3.trans s4)) t2) (.cons (tr_kp _ _ _ (Kp.same s4) t3) .nil (fun b _ z => by cases z)) (fun b hb z => by
      rw [List.append_nil] at z
      exact y3 b hb z)) (fun b z => by cases z)) (fun b hb z => by
      rw [List.nil_append, List.append_nil] at z
      exact (List.mem_append.mp z).elim (y1 b hb) (y2 b hb)), fun z => ?_, fun b hb => ?_⟩
    · rw [List.nil_append, List.append_nil] at z
      rcases List.mem_append.mp z with z | z
      · obtain ⟨u, hu⟩ := tr_in _ _ _ tO D z
        rw [(s2.trans s3) _ _ hu] at nD0; cases nD0
      · rcases List.mem_append.mp z with z | z
        · obtain ⟨u, hu⟩ := tr_in _ _ _ t2 D z
          rw [s3 _ _ hu] at nD0; cases nD0
        · obtain ⟨u, hu⟩ := tr_in _ _ _ t3 D z
          rw [hu] at nD0; cases nD0
    · rw [List.nil_append, List.append_nil] at hb
      rcases List.mem_append.mp hb with z | z
      · rw [List.mem_singleton.mp z]; exact nl
      · rcases List.mem_append.mp z with z | z
        · exact newL_ext x1 (f2 b z)
        · exact newL_ext x2 (f3 b z)
  refine ⟨_, rfl, p, gdx, _, rfl, x4 _ _ hpi nofun, by kernel_rfl, p, G, rfl, hp.ext x4, hin, T4, fun l2 H5 ks x5' T5 nl2 hl2 pk2 => ?_⟩
  have x5 := x4.trans x5'
  obtain ⟨as4, t4, nd4, f4⟩ := t4
  have t5 := trA_kp _ _ _ (Kp.ext x5') t4
  have e5 := x5' _ _ e4 nofun
  have lD2 : D ≠ l2 := nl2.ne e4 (fun _ => nofun)
  have lks := paired_len pk2
  refine ⟨l2, rfl, ⟨_, SqL.of hl2⟩, for_it walk_list (fun i σ H' => ExtN H H' ∧ Tabs (TT P0) H' ∧ H' l2 = some (.lst (ks.map V.ref)) ∧ Paired (OneT H') ks G.srt ∧ (∃ vs as, H' D = some (.lst vs) ∧ TrA K H' vs (dueL G (G.srt.take i)) as ∧ D ∉ as ∧ ∀ b ∈ as, NewL H b) ∧ ∃ v2, σ = [some (.ref p), some (.ref D), v2]) ⟨x5, T5, hl2, pk2, ⟨_, as4, e5, t5, nd4, f4⟩, none, rfl⟩ (fun _ _ _ _ h => SqL.of h.2.2.1) ?_ ?_⟩
  · rintro j x σ _ HA hj ⟨xA, TA, hlA, pkA, ⟨vs, as, eD, tD, nD, fD⟩, v2, rfl⟩ ⟨rfl, ex⟩
    rw [List.getElem?_map] at ex
    obtain ⟨a, ea, rfl⟩ := Option.map_eq_some_iff.mp ex
    obtain ⟨z, ez, hz⟩ := paired_at pkA ea
    have hzm := srt_mem.mp (List.mem_of_getElem? ez)
    have hpA := hp.ext xA
    have hpiA := xA _ _ hpi nofun
    refine ⟨_, rfl, .inl ⟨rfl, _, SqL.of eD⟩, _, rfl, p, gdx, _, rfl, hpiA, by kernel_rfl, _, rfl, p, a, G, z, rfl, hpA, .inl hz, hzm, fun sp HA1 sa1 hsp => ⟨_, rfl, p, gdx, _, rfl, sa1 _ _ hpiA, by kernel_rfl, _, rfl, p, a, G, z, rfl, hpA.same sa1, .inl (sa1 _ _ hz), hzm, fun HZ sa2 => ?_⟩⟩
    have sa := sa1.trans sa2
    replace hsp := seqT sa2 hsp
    replace xA := xA.trans (ExtN.of sa)
    replace TA := TA.ext sa
    replace hlA := sa _ _ hlA
    replace pkA := L2.Paired.mapP pkA fun a f e => sa _ _ e
    replace eD := sa _ _ eD
    replace tD := trA_kp _ _ _ (Kp.same sa) tD
    replace hz := sa _ _ hz
    replace hpA := hpA.same sa
    replace hpiA := sa _ _ hpiA
    refine ⟨_, rfl, p, gdx, _, rfl, hpiA, by kernel_rfl, _, rfl, rfl, rfl, p, .ref a, G, z.f.ns, z.f.rs, rfl, hpA, .inr ⟨a, z, rfl, .inl hz, hzm, rfl, rfl⟩, fun w2 HB b2 s2' u2 g2 => ?_⟩
    refine ⟨_, rfl, p, gdx, _, rfl, s2' _ _ hpiA, by kernel_rfl, _, rfl, rfl, rfl, p, .ref a, G, z.f.ns, z.f.rs, rfl, hpA.same s2', .inr ⟨a, z, rfl, .inl (s2' _ _ hz), hzm, rfl, rfl⟩, fun w3 HC b3 s3' u3 g3 => ⟨by show 4 ≤ sizeLine; decide, fun L nL => ?_⟩⟩
    have s4' := same_upd (o := .lst [V.ref sp, .bl z.sh, w2, w3]) nL
    have e4' := upd_same (H := HC) (a := L) (o := .lst [V.ref sp, .bl z.sh, w2, w3])
    have nL' := nL
    generalize upd HC L (.lst [V.ref sp, .bl z.sh, w2, w3]) = HE at *
    have sAE := (s2'.trans s3').trans s4'
    have tL : Tr K HE (.ref L) (.list [spotD z.f, .bool z.sh, nmD z.f.ns, rwD z.f.rs]) (L :: ([] ++ ([] ++ (b2 ++ (b3 ++ []))))) := .lst e4' (.cons (.tup (seqT sAE hsp) (trA_ints [z.f.x, z.f.y, z.f.w])) (.cons (.bool _) (.cons (tr_kp _ _ _ (Kp.same (s3'.trans s4')) u2) (.cons (tr_kp _ _ _ (Kp.same s4') u3) .nil (fun b _ z => by cases z)) (fun b hb z => by
      rw [List.append_nil] at z
      exact tr_new u2 (Same.refl _) g3 b hb z)) (fun b z => by cases z)) (fun b z => by cases z)) (fun zz => by
      rw [List.nil_append, List.nil_append, List.append_nil] at zz
      rcases List.mem_append.mp zz with zz | zz
      · obtain ⟨u, hu⟩ := tr_in _ _ _ u2 L zz
        rw [s3' _ _ hu] at nL'; cases nL'
      · obtain ⟨u, hu⟩ := tr_in _ _ _ u3 L zz
        rw [hu] at nL'; cases nL')
    have fL : ∀ b ∈ L :: ([] ++ ([] ++ (b2 ++ (b3 ++ [])))), HZ b = none := fun b hb => by
      rcases List.mem_cons.mp hb with zz | zz
      · rw [zz]; exact same_free (s2'.trans s3') nL'
      · rw [List.nil_append, List.nil_append, List.append_nil] at zz
        rcases List.mem_append.mp zz with zz | zz
        · exact g2 b zz
        · exact same_free s2' (g3 b zz)
    generalize L :: ([] ++ ([] ++ (b2 ++ (b3 ++ [])))) = aL at *
    have lvs : vs.length ≤ 210 := by
      rw [dpAll_len (trA_dp _ _ _ tD), dueL_len, List.length_take]
      have := ok.ln
      have := srt_len G
      omega
    obtain ⟨tD1, nD1, fD1⟩ := bx_push xA eD tD nD fD sAE tL fL
    have eDE := sAE _ _ eD
    have xE : ExtN H (upd HE D (.lst (vs ++ [.ref L]))) := newL_put (xA.trans (ExtN.of sAE)) nLD
    have eF : (upd HE D (.lst (vs ++ [.ref L]))) D = some (.lst (vs ++ [.ref L])) := upd_same
    have ne : ∀ {b o}, HE b = some o → b ≠ D → (upd HE D (.lst (vs ++ [.ref L]))) b = some o := fun {b o} e n => by rw [upd_ne n]; exact e
    have TE : Tabs (TT P0) (upd HE D (.lst (vs ++ [.ref L]))) := tabs_put (TA.ext sAE) eDE
    have hlF := ne (sAE _ _ hlA) lD2.symm
    have pkF : Paired (OneT (upd HE D (.lst (vs ++ [.ref L])))) ks G.srt := L2.Paired.mapP pkA fun a f e => ne (sAE _ _ e) (ne_of (sAE _ _ e) eDE nofun)
    have hzF := ne (sAE _ _ hz) (ne_of (sAE _ _ hz) eDE nofun)
    refine ⟨D, vs, _, rfl, rfl, eDE, small1000 (by omega), ?_⟩
    generalize upd HE D (.lst (vs ++ [.ref L])) = HF at *
    refine ⟨_, rfl, .inl ⟨rfl, _, SqL.of eF⟩, _, rfl, p, gdx, _, rfl, xE _ _ hpi nofun, by kernel_rfl, _, rfl, p, a, G, z, rfl, hp.ext xE, .inl hzF, hzm, fun mv HG ms sm tm fm => ?_⟩
    obtain ⟨tD2, nD2, fD2⟩ := bx_push xE eF tD1 nD1 fD1 sm tm fm
    have eDG := sm _ _ eF
    refine ⟨D, _, _, rfl, rfl, eDG, small1000 (by rw [List.length_append]; show vs.length + 1 ≤ 1000; omega), newL_put (xE.trans (ExtN.of sm)) nLD, tabs_put (TE.ext sm) eDG, ?_, L2.Paired.mapP pkF fun a f e => ?_, ⟨_, _, upd_same, ?_, nD2, fD2⟩, _, rfl⟩
    · rw [upd_ne lD2.symm]; exact sm _ _ hlF
    · show upd HG D _ a = _
      rw [upd_ne (ne_of (sm _ _ e) eDG nofun)]; exact sm _ _ e
    · rw [List.take_succ, ez]
      show TrA K _ _ (dueL G (G.srt.take j ++ [z])) _
      rw [dueL_snoc]
      rw [List.append_assoc (dueL G (G.srt.take j))] at tD2
      exact tD2
  rintro σ HA ⟨xA, TA, hlA, pkA, ⟨vs, as, eD, tD, nD, fD⟩, v2, rfl⟩
  rw [List.length_map, lks, List.take_length] at tD
  exact ⟨_, rfl, q _ HA (D :: as) xA TA (.lst eD tD nD) fun b hb => by
    rcases List.mem_cons.mp hb with z | z
    · rw [z]; exact nLD
    · exact fD b z⟩
end
end Fd

set_option Elab.async false
set_option linter.all false
set_option maxRecDepth 100000
set_option maxHeartbeats 1000000
namespace Fd
open PySem PySem.Spec PyProof.Rows L2 RZ Fw LamX
/-- a deed as it is drawn -/
def KindD (z : Str) (is : List Int) : Prop := (z = "move" ∧ ∃ i, is = [i]) ∨ (z = "turn" ∧ ∃ i, is = [i]) ∨ (z = "place" ∧ ∃ i j, is = [i, j]) ∨ (z = "show" ∧ is = []) ∨ (z = "hide" ∧ is = [])
abbrev sGone : Stmt := top 49
abbrev sFar : Stmt := top 50
abbrev sDeed : Stmt := top 51
section
variable {P : Program} {w : World} {K : PySem.W.Frag} {mg : Str → Option Value} {base : Heap} {f : Addr} {fd : FuncData} {C CH : Addr}
def spGone (K : PySem.W.Frag) : Sp := fun vs H Q _ => ∃ (sz sp d : Addr) (z : Str) (is : List Int) (W Hh x y : Int) (u : Nat), vs = [.ref sz, .ref sp, .ref d] ∧ SqT K H sz [.int W, .int Hh] ∧ SqT K H sp [.int x, .int y, .int u] ∧ SqT K H d (.str z :: is.map V.int) ∧ KindD z is ∧ u < 4 ∧ 1 ≤ W ∧ 1 ≤ Hh ∧ 0 ≤ x ∧ x < W ∧ 0 ≤ y ∧ y < Hh ∧
  ∀ t H' g1 g2 g3, Same H H' → SqT K H' t [.int g1, .int g2, .int g3] → (∀ r, Acts z is x y u r → g1 = near r.1 W ∧ g2 = near r.2.1 Hh ∧ g3 = r.2.2) → Q (.ref t) H'
theorem near_in {i m : Int} (h1 : 0 ≤ i) (h2 : i < m) : near i m = i := by
  unfold near
  omega
theorem near_eq (i m : Int) (h : 1 ≤ m) : (if (if i > 0 then i else 0) < m - 1 then (if i > 0 then i else 0) else m - 1) = near i m := by
  unfold near
  split <;> split <;> omega
theorem stp_cases {u : Nat} {q : Int × Int} (h : stp[u]? = some q) : (u = 0 ∧ q = (1, 0)) ∨ (u = 1 ∧ q = (0, 1)) ∨ (u = 2 ∧ q = (-1, 0)) ∨ (u = 3 ∧ q = (0, -1)) := by
  rcases u with _ | _ | _ | _ | u
  · exact .inl ⟨rfl, (Option.some.inj h).symm⟩
  · exact .inr (.inl ⟨rfl, (Option.some.inj h).symm⟩)
  · exact .inr (.inr (.inl ⟨rfl, (Option.some.inj h).symm⟩))
  · exact .inr (.inr (.inr ⟨rfl, (Option.some.inj h).symm⟩))
  · simp [stp] at h
theorem scGone : FnScope ["_law_size", "_law_spot", "_law_deed_here", "_law_x", "_law_y", "_law_way"] ["_law_size", "_law_spot", "_law_deed_here"] (defScope sGone) := ⟨rfl, rfl, rfl, by decide +kernel, rfl, by decide +kernel, by decide +kernel⟩
theorem ok_gone {k : Nat} (F : Fun K "_law_gone" "_law_gone" sGone f fd) (m_max : mg "max" = none) (m_min : mg "min" = none) : FnOk P w K mg base CX0 (k + 1) f fd ["_law_size", "_law_spot", "_law_deed_here"] (spGone K) := by
  have sc := scGone
  refine F.ok sc (fun vs H Q E h => ?_) (fun cdv A outer s H vs Q E hr h => ?_)
  · obtain ⟨sz, sp, d, z, is, W, Hh, x, y, u, rfl, _⟩ := h
    rfl
  obtain ⟨sz, sp, d, z, is, W, Hh, x, y, u, rfl, hsz, hsp, hd, kd, hu, hW, hH, hx0, hx1, hy0, hy1, q⟩ := h
  refine ⟨_, (pss_cons (ps_asg (pv 1) (pg_tup (by rfl) (pgs_cons (pg_name (i := 3) sc.nd rfl (.inl rfl)) (pgs_cons (pg_name (i := 4) sc.nd rfl (.inl rfl)) (pgs_cons (pg_name (i := 5) sc.nd rfl (.inl rfl)) pgs_nil)))))
      (pss_cons (ps_if (pt_cmpR op_eq (pe_ix ix_tup (pv 2) pe_int (fun _ _ => rfl)) pe_str (nomark _)) (pss_one (ps_ret (pe_tup (pa_cons (pv 3) (pa_cons (pv 4) (pa_cons (pe_op op_mod (pe_op op_add (pv 5) (pe_ix ix_tup (pv 2) pe_int (fun _ _ => rfl))) pe_int) pa_nil)))))) pss_nil)
      (pss_cons (ps_if (pt_cmpR op_eq (pe_ix ix_tup (pv 2) pe_int (fun _ _ => rfl)) pe_str (nomark _)) (pss_one (ps_par (i := 3) (j := 4) (by rfl) sc.nd rfl rfl (by decide) rfl rfl (pa_cons (pe_ix ix_tup (pv 2) pe_int (fun _ _ => rfl)) (pa_cons (pe_ix ix_tup (pv 2) pe_int (fun _ _ => rfl)) pa_nil)) (by rfl))) pss_nil)
      (pss_cons (ps_if (pt_cmpR op_eq (pe_ix ix_tup (pv 2) pe_int (fun _ _ => rfl)) pe_str (nomark _)) (pss_cons (ps_set (i := 3) sc.nd rfl (.inl rfl) (pe_op op_add (pv 3) (pe_ix ix_list (pe_lst (pa_cons (pe_ix ix_tup (pv 2) pe_int (fun _ _ => rfl)) (pa_cons pe_int (pa_cons (pe_op op_sub pe_int (pe_ix ix_tup (pv 2) pe_int (fun _ _ => rfl))) (pa_cons pe_int pa_nil))))) (pv 5) (fun _ _ => rfl))))
      (pss_one (ps_set (i := 4) sc.nd rfl (.inl rfl) (pe_op op_add (pv 4) (pe_ix ix_list (pe_lst (pa_cons pe_int (pa_cons (pe_ix ix_tup (pv 2) pe_int (fun _ _ => rfl)) (pa_cons pe_int (pa_cons (pe_op op_sub pe_int (pe_ix ix_tup (pv 2) pe_int (fun _ _ => rfl))) pa_nil))))) (pv 5) (fun _ _ => rfl)))))) pss_nil)
      (pss_one (ps_ret (pe_tup (pa_cons (pe_callB (call_min2 rfl) (by rfl) m_min (by decide +kernel) (pa_cons (pe_op op_sub (pe_ix ix_tup (pv 0) pe_int (fun _ _ => rfl)) pe_int) (pa_cons (pe_callB (call_max2 rfl) (by rfl) m_max (by decide +kernel) (pa_cons pe_int (pa_cons (pv 3) pa_nil))) pa_nil))) (pa_cons (pe_callB (call_min2 rfl) (by rfl) m_min (by decide +kernel) (pa_cons (pe_op op_sub (pe_ix ix_tup (pv 0) pe_int (fun _ _ => rfl)) pe_int) (pa_cons (pe_callB (call_max2 rfl) (by rfl) m_max (by decide +kernel) (pa_cons pe_int (pa_cons (pv 4) pa_nil))) pa_nil))) (pa_cons (pv 5) pa_nil)))))))))), ?_⟩
  have fin : ∀ {H1 : Hp} {x' y' : Int} {g1 g2 : Int}, Same H H1 → near x' W = g1 → near y' Hh = g2 → (∀ r, Acts z is x y u r → g1 = near r.1 W ∧ g2 = near r.2.1 Hh ∧ (u : Int) = r.2.2) → ∀ t, H1 t = none → Q (.ref t) (upd H1 t (.tup [.int (if (if x' > 0 then x' else 0) < W - 1 then (if x' > 0 then x' else 0) else W - 1), .int (if (if y' > 0 then y' else 0) < Hh - 1 then (if y' > 0 then y' else 0) else Hh - 1), .int u])) := fun {H1 x' y' g1 g2} s e1 e2 h t nt => by
    rw [near_eq _ _ hW, near_eq _ _ hH, e1, e2]
    exact q t _ _ _ _ (s.trans (same_upd nt)) (.inl (.inl upd_same)) h
  refine ⟨_, rfl, sp, _, rfl, hsp, rfl, _, _, rfl, _, _, rfl, _, _, rfl, rfl, ?_⟩
  refine ⟨_, rfl, d, _, 0, .str z, rfl, rfl, hd, atI_nat (j := 0) rfl, rfl, _, rfl, ?_⟩
  have key0 : ∀ {H1 : Hp}, Same H H1 → SqT K H1 sz [.int W, .int Hh] ∧ SqT K H1 d (.str z :: is.map V.int) := fun s => ⟨seqT s hsz, seqT s hd⟩
  rcases kd with ⟨rfl, i, rfl⟩ | ⟨rfl, i, rfl⟩ | ⟨rfl, i, j, rfl⟩ | ⟨rfl, rfl⟩ | ⟨rfl, rfl⟩
  · refine ifFF ⟨_, rfl, d, _, 0, _, rfl, rfl, hd, atI_nat (j := 0) rfl, rfl, _, rfl, ifFF ⟨_, rfl, d, _, 0, _, rfl, rfl, hd, atI_nat (j := 0) rfl, rfl, _, rfl, iteT ?_⟩⟩
    obtain ⟨v1, e1, m1⟩ : ∃ v1 : Int, atI [V.int i, .int 0, .int (0 - i), .int 0] (u : Int) = some (.int v1) ∧ ∀ q, stp[u]? = some q → v1 = q.1 * i := by
      have : u = 0 ∨ u = 1 ∨ u = 2 ∨ u = 3 := by omega
      rcases this with rfl | rfl | rfl | rfl
      · exact ⟨_, rfl, fun q e => by cases e; omega⟩
      · exact ⟨_, rfl, fun q e => by cases e; omega⟩
      · exact ⟨_, rfl, fun q e => by cases e; omega⟩
      · exact ⟨_, rfl, fun q e => by cases e; omega⟩
    obtain ⟨v2, e2, m2⟩ : ∃ v1 : Int, atI [V.int 0, .int i, .int 0, .int (0 - i)] (u : Int) = some (.int v1) ∧ ∀ q, stp[u]? = some q → v1 = q.2 * i := by
      have : u = 0 ∨ u = 1 ∨ u = 2 ∨ u = 3 := by omega
      rcases this with rfl | rfl | rfl | rfl
      · exact ⟨_, rfl, fun q e => by cases e; omega⟩
      · exact ⟨_, rfl, fun q e => by cases e; omega⟩
      · exact ⟨_, rfl, fun q e => by cases e; omega⟩
      · exact ⟨_, rfl, fun q e => by cases e; omega⟩
    refine ⟨_, rfl, _, rfl, d, _, 1, .int i, rfl, rfl, hd, atI_nat (j := 1) rfl, _, rfl, d, _, 1, .int i, rfl, rfl, hd, atI_nat (j := 1) rfl, _, _, rfl, rfl, by show 4 ≤ sizeLine; decide, fun l nl => ?_⟩
    have s1 := same_upd (o := .lst [V.int i, .int 0, .int (0 - i), .int 0]) nl
    have f1 := upd_same (H := H) (a := l) (o := .lst [V.int i, .int 0, .int (0 - i), .int 0])
    generalize upd H l (.lst [V.int i, .int 0, .int (0 - i), .int 0]) = H1 at *
    obtain ⟨hsz1, hd1⟩ := key0 s1
    refine ⟨_, rfl, l, _, u, _, rfl, rfl, SqL.of f1, e1, _, _, rfl, rfl, ?_⟩
    refine ⟨_, rfl, _, rfl, d, _, 1, .int i, rfl, rfl, hd1, atI_nat (j := 1) rfl, _, rfl, d, _, 1, .int i, rfl, rfl, hd1, atI_nat (j := 1) rfl, _, _, rfl, rfl, by show 4 ≤ sizeLine; decide, fun l2 nl2 => ?_⟩
    have s2 := same_upd (o := .lst [V.int 0, .int i, .int 0, .int (0 - i)]) nl2
    have f2 := upd_same (H := H1) (a := l2) (o := .lst [V.int 0, .int i, .int 0, .int (0 - i)])
    generalize upd H1 l2 (.lst [V.int 0, .int i, .int 0, .int (0 - i)]) = H2 at *
    obtain ⟨hsz2, hd2⟩ := key0 (s1.trans s2)
    refine ⟨_, rfl, l2, _, u, _, rfl, rfl, SqL.of f2, e2, _, _, rfl, rfl, ?_⟩
    refine ⟨_, rfl, sz, _, 0, .int W, rfl, rfl, hsz2, atI_nat (j := 0) rfl, _, _, rfl, rfl, _, rfl, _, _, rfl, _, _, rfl, _, rfl, sz, _, 1, .int Hh, rfl, rfl, hsz2, atI_nat (j := 1) rfl, _, _, rfl, rfl, _, rfl, _, _, rfl, _, _, rfl, _, rfl, by show 3 ≤ sizeLine; decide, fun t nt => fin (s1.trans s2) rfl rfl (fun r hr => ?_) t nt⟩
    rcases hr with ⟨e, _⟩ | ⟨e, _⟩ | ⟨_, i', u', qq, e, eu, es, rfl⟩
    · exact absurd e (by decide)
    · exact absurd e (by decide)
    · injection e with e
      subst e
      obtain rfl : u = u' := by omega
      rw [m1 _ es, m2 _ es]
      exact ⟨rfl, rfl, rfl⟩
  · refine iteT ⟨_, rfl, _, rfl, _, rfl, _, rfl, d, _, 1, .int i, rfl, rfl, hd, atI_nat (j := 1) rfl, _, _, rfl, rfl, _, _, rfl, rfl, (show (0 : Int) < 4 by decide), by show 3 ≤ sizeLine; decide, fun t nt => q t _ _ _ _ (same_upd nt) (.inl (.inl upd_same)) fun r hr => ?_⟩
    rcases hr with ⟨_, i', e, rfl⟩ | ⟨e, _⟩ | ⟨e, _⟩
    · injection e with e
      subst e
      exact ⟨(near_in hx0 hx1).symm, (near_in hy0 hy1).symm, rfl⟩
    · exact absurd e (by decide)
    · exact absurd e (by decide)
  · refine ifFF ⟨_, rfl, d, _, 0, _, rfl, rfl, hd, atI_nat (j := 0) rfl, rfl, _, rfl, iteT ?_⟩
    refine ⟨_, rfl, d, _, 1, .int i, rfl, rfl, hd, atI_nat (j := 1) rfl, _, rfl, d, _, 2, .int j, rfl, rfl, hd, atI_nat (j := 2) rfl, _, _, rfl, ?_⟩
    refine ⟨_, rfl, d, _, 0, _, rfl, rfl, hd, atI_nat (j := 0) rfl, rfl, _, rfl, ifFF ?_⟩
    refine ⟨_, rfl, sz, _, 0, .int W, rfl, rfl, hsz, atI_nat (j := 0) rfl, _, _, rfl, rfl, _, rfl, _, _, rfl, _, _, rfl, _, rfl, sz, _, 1, .int Hh, rfl, rfl, hsz, atI_nat (j := 1) rfl, _, _, rfl, rfl, _, rfl, _, _, rfl, _, _, rfl, _, rfl, by show 3 ≤ sizeLine; decide, fun t nt => fin (Same.refl _) rfl rfl (fun r hr => ?_) t nt⟩
    rcases hr with ⟨e, _⟩ | ⟨_, i', j', e, rfl⟩ | ⟨e, _⟩
    · exact absurd e (by decide)
    · injection e with e e2
      injection e2 with e2
      subst e e2
      exact ⟨rfl, rfl, rfl⟩
    · exact absurd e (by decide)
  · refine ifFF ⟨_, rfl, d, _, 0, _, rfl, rfl, hd, atI_nat (j := 0) rfl, rfl, _, rfl, ifFF ⟨_, rfl, d, _, 0, _, rfl, rfl, hd, atI_nat (j := 0) rfl, rfl, _, rfl, ifFF ?_⟩⟩
    refine ⟨_, rfl, sz, _, 0, .int W, rfl, rfl, hsz, atI_nat (j := 0) rfl, _, _, rfl, rfl, _, rfl, _, _, rfl, _, _, rfl, _, rfl, sz, _, 1, .int Hh, rfl, rfl, hsz, atI_nat (j := 1) rfl, _, _, rfl, rfl, _, rfl, _, _, rfl, _, _, rfl, _, rfl, by show 3 ≤ sizeLine; decide, fun t nt => fin (Same.refl _) rfl rfl (fun r hr => ?_) t nt⟩
    rcases hr with ⟨e, _⟩ | ⟨e, _⟩ | ⟨e, _⟩ <;> exact absurd e (by decide)
  · refine ifFF ⟨_, rfl, d, _, 0, _, rfl, rfl, hd, atI_nat (j := 0) rfl, rfl, _, rfl, ifFF ⟨_, rfl, d, _, 0, _, rfl, rfl, hd, atI_nat (j := 0) rfl, rfl, _, rfl, ifFF ?_⟩⟩
    refine ⟨_, rfl, sz, _, 0, .int W, rfl, rfl, hsz, atI_nat (j := 0) rfl, _, _, rfl, rfl, _, rfl, _, _, rfl, _, _, rfl, _, rfl, sz, _, 1, .int Hh, rfl, rfl, hsz, atI_nat (j := 1) rfl, _, _, rfl, rfl, _, rfl, _, _, rfl, _, _, rfl, _, rfl, by show 3 ≤ sizeLine; decide, fun t nt => fin (Same.refl _) rfl rfl (fun r hr => ?_) t nt⟩
    rcases hr with ⟨e, _⟩ | ⟨e, _⟩ | ⟨e, _⟩ <;> exact absurd e (by decide)
def spFar : Sp := fun vs H Q _ => ∃ (a : Addr) (n : Nat), vs = [.ref a] ∧ Box H a n ∧ n + 3 ≤ 1000000 ∧ ∀ (z : Int) H', Wv z → But a H H' → Box H' a (n + 3) → Q (.int z) H'
theorem scFar : FnScope ["_law_box_here"] ["_law_box_here"] (defScope sFar) := ⟨rfl, rfl, rfl, by decide +kernel, rfl, by decide +kernel, by decide +kernel⟩
theorem ok_far {k : Nat} (F : Fun K "_law_far" "_law_far" sFar f fd) (G : FnG P w K mg base CX0 k "_law_take" ["_law_box_here", "_law_many"] spTake) : FnOk P w K mg base CX0 (k + 1) f fd ["_law_box_here"] spFar := by
  obtain ⟨_, _, G__law_take, m__law_take, k__law_take, b__law_take⟩ := G
  have sc := scFar
  refine F.ok sc (fun vs H Q E h => ?_) (fun cdv A outer s H vs Q E hr h => ?_)
  · obtain ⟨a, n, rfl, _⟩ := h
    rfl
  obtain ⟨a, n, rfl, hB, hn, q⟩ := h
  refine ⟨_, (pss_one (ps_ret (pe_ix ix_list (pe_lst (pa_cons (pe_op op_sub (pe_call G__law_take (hr.mono (by omega)) (by rfl) m__law_take k__law_take b__law_take .nil pass0 (pa_cons (pv 0) (pa_cons pe_int pa_nil))) pe_int) (pa_cons (pe_op op_sub (pe_call G__law_take (hr.mono (by omega)) (by rfl) m__law_take k__law_take b__law_take .nil pass0 (pa_cons (pv 0) (pa_cons pe_int pa_nil))) pe_int) (pa_cons (pe_op op_pow pe_int pe_int) (pa_cons (pe_un un_neg (pe_op op_pow pe_int pe_int)) (pa_cons pe_int pa_nil)))))) (pe_call G__law_take (hr.mono (by omega)) (by rfl) m__law_take k__law_take b__law_take .nil pass0 (pa_cons (pv 0) (pa_cons pe_int pa_nil))) (fun _ _ => rfl)))), ?_⟩
  refine ⟨_, rfl, a, n, 5, rfl, hB, by omega, by decide, by decide, fun r1 H1 r10 r11 s1 B1 => ?_⟩
  refine ⟨r1, 2, rfl, rfl, _, rfl, a, n + 1, 50, rfl, B1, by omega, by decide, by decide, fun r2 H2 r20 r21 s2 B2 => ⟨r2, 25, rfl, rfl, 10, 6, rfl, rfl, ⟨by decide, by decide, by decide⟩, 10, 6, rfl, rfl, ⟨by decide, by decide, by decide⟩, _, rfl, by show 5 ≤ sizeLine; decide, fun l nl => ?_⟩⟩
  have s3 := same_upd (o := .lst [V.int (r1 - 2), .int (r2 - 25), .int (10 ^ (6 : Int).toNat), .int (-(10 ^ (6 : Int).toNat)), .int 0]) nl
  have e3 := upd_same (H := H2) (a := l) (o := .lst [V.int (r1 - 2), .int (r2 - 25), .int (10 ^ (6 : Int).toNat), .int (-(10 ^ (6 : Int).toNat)), .int 0])
  have B3 := B2.same s3
  have al := B2.ne nl
  refine ⟨_, rfl, a, n + 2, 5, rfl, B3, by omega, by decide, by decide, fun r3 H3 r30 r31 s4 B4 => ?_⟩
  obtain ⟨z, wz, hz⟩ : ∃ z : Int, Wv z ∧ atI [V.int (r1 - 2), .int (r2 - 25), .int (10 ^ (6 : Int).toNat), .int (-(10 ^ (6 : Int).toNat)), .int 0] r3 = some (.int z) := by
    have : r3 = 0 ∨ r3 = 1 ∨ r3 = 2 ∨ r3 = 3 ∨ r3 = 4 := by omega
    rcases this with rfl | rfl | rfl | rfl | rfl
    · exact ⟨_, ⟨by omega, by omega⟩, rfl⟩
    · exact ⟨_, ⟨by omega, by omega⟩, rfl⟩
    · exact ⟨_, ⟨by decide, by decide⟩, rfl⟩
    · exact ⟨_, ⟨by decide, by decide⟩, rfl⟩
    · exact ⟨_, ⟨by decide, by decide⟩, rfl⟩
  exact ⟨l, _, r3, _, rfl, rfl, SqL.of (s4 _ _ al.symm e3), hz, q z H3 wz (((s1.trans s2).trans (But.of s3)).trans s4) B4⟩
def spDeed : Sp := fun vs H Q _ => ∃ (a : Addr) (n : Nat), vs = [.ref a] ∧ Box H a n ∧ n + 7 ≤ 1000000 ∧ ∀ (t : Addr) (z : Str) (is : List Int) H', KindD z is → (∀ i ∈ is, Wv i) → But a H H' → Box H' a (n + 7) → H' t = some (.tup (.str z :: is.map V.int)) → H t = none → Q (.ref t) H'
theorem scDeed : FnScope ["_law_box_here", "_law_far_here", "_law_some_here"] ["_law_box_here"] (defScope sDeed) := ⟨rfl, rfl, rfl, by decide +kernel, rfl, by decide +kernel, by decide +kernel⟩
theorem ok_deed {k : Nat} (F : Fun K "_law_deed" "_law_deed" sDeed f fd) (G : FnG P w K mg base CX0 k "_law_take" ["_law_box_here", "_law_many"] spTake) (GF : FnG P w K mg base CX0 k "_law_far" ["_law_box_here"] spFar) : FnOk P w K mg base CX0 (k + 1) f fd ["_law_box_here"] spDeed := by
  obtain ⟨_, _, G__law_take, m__law_take, k__law_take, b__law_take⟩ := G
  obtain ⟨_, _, G__law_far, m__law_far, k__law_far, b__law_far⟩ := GF
  have sc := scDeed
  refine F.ok sc (fun vs H Q E h => ?_) (fun cdv A outer s H vs Q E hr h => ?_)
  · obtain ⟨a, n, rfl, _⟩ := h
    rfl
  obtain ⟨a, n, rfl, hB, hn, q⟩ := h
  refine ⟨_, (pss_cons (ps_set (i := 1) sc.nd rfl (.inl rfl) (pe_call G__law_far (hr.mono (by omega)) (by rfl) m__law_far k__law_far b__law_far .nil pass0 (pa_cons (pv 0) pa_nil)))
      (pss_cons (ps_set (i := 2) sc.nd rfl (.inl rfl) (pe_lst (pa_cons (pe_tup (pa_cons pe_str (pa_cons (pv 1) pa_nil))) (pa_cons (pe_tup (pa_cons pe_str (pa_cons (pv 1) pa_nil))) (pa_cons (pe_tup (pa_cons pe_str (pa_cons (pv 1) pa_nil))) (pa_cons (pe_tup (pa_cons pe_str (pa_cons (pv 1) (pa_cons (pe_call G__law_far (hr.mono (by omega)) (by rfl) m__law_far k__law_far b__law_far .nil pass0 (pa_cons (pv 0) pa_nil)) pa_nil)))) (pa_cons (pe_tup (pa_cons pe_str pa_nil)) (pa_cons (pe_tup (pa_cons pe_str pa_nil)) pa_nil))))))))
      (pss_one (ps_ret (pe_ix ix_list (pv 2) (pe_call G__law_take (hr.mono (by omega)) (by rfl) m__law_take k__law_take b__law_take .nil pass0 (pa_cons (pv 0) (pa_cons pe_int pa_nil))) (fun _ _ => rfl)))))), ?_⟩
  refine ⟨_, rfl, a, n, rfl, hB, by omega, fun i H1 wi s1 B1 => ?_⟩
  have fr : ∀ {Hx : Hp} {nx : Nat} {b : Addr}, But a H Hx → Box Hx a nx → Hx b = none → H b = none := fun s B e => by
    obtain ⟨ob, hob⟩ := B.is
    exact s.free hob e
  refine ⟨_, rfl, by show 2 ≤ sizeLine; decide, fun t1 n1 => ?_⟩
  have c1 := same_upd (o := .tup [V.str "move", .int i]) n1
  have e1 := upd_same (H := H1) (a := t1) (o := .tup [V.str "move", .int i])
  have m1 := fr s1 B1 n1
  have a1 := B1.ne n1
  have B2 := B1.same c1
  generalize upd H1 t1 (.tup [V.str "move", .int i]) = H2 at *
  refine ⟨_, rfl, by show 2 ≤ sizeLine; decide, fun t2 n2 => ?_⟩
  have c2 := same_upd (o := .tup [V.str "move", .int i]) n2
  have e2 := upd_same (H := H2) (a := t2) (o := .tup [V.str "move", .int i])
  have m2 := fr (s1.trans (But.of c1)) B2 n2
  have a2 := B2.ne n2
  have B3 := B2.same c2
  generalize upd H2 t2 (.tup [V.str "move", .int i]) = H3 at *
  refine ⟨_, rfl, by show 2 ≤ sizeLine; decide, fun t3 n3 => ?_⟩
  have c3 := same_upd (o := .tup [V.str "turn", .int i]) n3
  have e3 := upd_same (H := H3) (a := t3) (o := .tup [V.str "turn", .int i])
  have m3 := fr ((s1.trans (But.of c1)).trans (But.of c2)) B3 n3
  have a3 := B3.ne n3
  have B4 := B3.same c3
  generalize upd H3 t3 (.tup [V.str "turn", .int i]) = H4 at *
  have s4 := ((s1.trans (But.of c1)).trans (But.of c2)).trans (But.of c3)
  refine ⟨_, rfl, _, rfl, a, n + 3, rfl, B4, by omega, fun j H5 wj s5 B5 => ?_⟩
  refine ⟨by show 3 ≤ sizeLine; decide, fun t4 n4 => ?_⟩
  have c4 := same_upd (o := .tup [V.str "place", .int i, .int j]) n4
  have e4 := upd_same (H := H5) (a := t4) (o := .tup [V.str "place", .int i, .int j])
  have m4 := fr (s4.trans s5) B5 n4
  have a4 := B5.ne n4
  have B6 := B5.same c4
  generalize upd H5 t4 (.tup [V.str "place", .int i, .int j]) = H6 at *
  refine ⟨by show 1 ≤ sizeLine; decide, fun t5 n5 => ?_⟩
  have c5 := same_upd (o := .tup [V.str "show"]) n5
  have e5 := upd_same (H := H6) (a := t5) (o := .tup [V.str "show"])
  have m5 := fr ((s4.trans s5).trans (But.of c4)) B6 n5
  have a5 := B6.ne n5
  have B7 := B6.same c5
  generalize upd H6 t5 (.tup [V.str "show"]) = H7 at *
  refine ⟨by show 1 ≤ sizeLine; decide, fun t6 n6 => ?_⟩
  have c6 := same_upd (o := .tup [V.str "hide"]) n6
  have e6 := upd_same (H := H7) (a := t6) (o := .tup [V.str "hide"])
  have m6 := fr (((s4.trans s5).trans (But.of c4)).trans (But.of c5)) B7 n6
  have a6 := B7.ne n6
  have B8 := B7.same c6
  generalize upd H7 t6 (.tup [V.str "hide"]) = H8 at *
  refine ⟨by show 6 ≤ sizeLine; decide, fun l nl => ?_⟩
  have c7 := same_upd (o := .lst [V.ref t1, .ref t2, .ref t3, .ref t4, .ref t5, .ref t6]) nl
  have e7 := upd_same (H := H8) (a := l) (o := .lst [V.ref t1, .ref t2, .ref t3, .ref t4, .ref t5, .ref t6])
  have al := B8.ne nl
  have B9 := B8.same c7
  generalize upd H8 l (.lst [V.ref t1, .ref t2, .ref t3, .ref t4, .ref t5, .ref t6]) = H9 at *
  refine ⟨_, rfl, _, rfl, a, n + 6, 6, rfl, B9, by omega, by decide, by decide, fun r HA r0 r1 sA BA => ?_⟩
  have c68 := c6.trans c7
  have c48 := (c4.trans c5).trans c68
  have S := (((s4.trans s5).trans (But.of c48))).trans sA
  have g : ∀ {b u}, b ≠ a → H4 b = some u → HA b = some u := fun nb e => sA _ _ nb (c48 _ _ (s5 _ _ nb e))
  have hl := sA _ _ al.symm e7
  have : r = 0 ∨ r = 1 ∨ r = 2 ∨ r = 3 ∨ r = 4 ∨ r = 5 := by omega
  have fin := fun (t : Addr) (z : Str) (is : List Int) (kz : KindD z is) (hz : ∀ i ∈ is, Wv i) (ht : HA t = some (.tup (.str z :: is.map V.int))) (nt : H t = none) => q t z is HA kz hz S BA ht nt
  rcases this with rfl | rfl | rfl | rfl | rfl | rfl
  · exact ⟨l, _, 0, .ref t1, rfl, rfl, SqL.of hl, rfl, fin t1 "move" [i] (.inl ⟨rfl, i, rfl⟩) (fun x hx => by rw [List.mem_singleton.mp hx]; exact wi) (g a1.symm (c3 _ _ (c2 _ _ e1))) m1⟩
  · exact ⟨l, _, 1, .ref t2, rfl, rfl, SqL.of hl, rfl, fin t2 "move" [i] (.inl ⟨rfl, i, rfl⟩) (fun x hx => by rw [List.mem_singleton.mp hx]; exact wi) (g a2.symm (c3 _ _ e2)) m2⟩
  · exact ⟨l, _, 2, .ref t3, rfl, rfl, SqL.of hl, rfl, fin t3 "turn" [i] (.inr (.inl ⟨rfl, i, rfl⟩)) (fun x hx => by rw [List.mem_singleton.mp hx]; exact wi) (g a3.symm e3) m3⟩
  · exact ⟨l, _, 3, .ref t4, rfl, rfl, SqL.of hl, rfl, fin t4 "place" [i, j] (.inr (.inr (.inl ⟨rfl, i, j, rfl⟩))) (fun x hx => by
      rcases List.mem_cons.mp hx with rfl | hx
      · exact wi
      · rw [List.mem_singleton.mp hx]; exact wj) (sA _ _ a4.symm (c68 _ _ (c5 _ _ e4))) m4⟩
  · exact ⟨l, _, 4, .ref t5, rfl, rfl, SqL.of hl, rfl, fin t5 "show" [] (.inr (.inr (.inr (.inl ⟨rfl, rfl⟩)))) (fun x hx => by cases hx) (sA _ _ a5.symm (c68 _ _ e5)) m5⟩
  · exact ⟨l, _, 5, .ref t6, rfl, rfl, SqL.of hl, rfl, fin t6 "hide" [] (.inr (.inr (.inr (.inr ⟨rfl, rfl⟩)))) (fun x hx => by cases hx) (sA _ _ a6.symm (c7 _ _ e6)) m6⟩
end
end Fd

set_option Elab.async false
set_option linter.all false
set_option maxRecDepth 100000
set_option maxHeartbeats 1000000
namespace Fd
open PySem PySem.Spec PyProof.Rows L2 RZ Fw LamX
/-! ### what a ground tells, as data -/
/-- laid, and at most n deep -/
structure Sh (n : Nat) (d : PyData) : Prop where
  l : d.canLay0 = true
  d : d.depth ≤ n
theorem Sh.le {m n : Nat} {d : PyData} (h : Sh m d) (hn : m ≤ n) : Sh n d := ⟨h.l, Nat.le_trans h.d hn⟩
theorem shA {n : Nat} : ∀ {ds : List PyData}, (∀ d ∈ ds, Sh n d) → PyData.canLayAll0 ds = true ∧ PyData.depthAll ds ≤ n
  | [], _ => ⟨rfl, Nat.zero_le _⟩
  | d :: ds, h => by
    obtain ⟨i1, i2⟩ := shA (ds := ds) fun d hd => h d (List.mem_cons_of_mem _ hd)
    have hd := h d (List.mem_cons_self ..)
    refine ⟨?_, ?_⟩
    · show (d.canLay0 && PyData.canLayAll0 ds) = true
      rw [hd.l, i1]
      rfl
    · show max d.depth (PyData.depthAll ds) ≤ n
      have := hd.d
      omega
theorem Sh.list {n : Nat} {ds : List PyData} (h : ∀ d ∈ ds, Sh n d) : Sh (n + 1) (.list ds) := ⟨(shA h).1, Nat.succ_le_succ (shA h).2⟩
theorem Sh.tuple {n : Nat} {ds : List PyData} (h : ∀ d ∈ ds, Sh n d) : Sh (n + 1) (.tuple ds) := ⟨(shA h).1, Nat.succ_le_succ (shA h).2⟩
theorem Sh.int {n : Nat} (i : Int) : Sh n (.int i) := ⟨rfl, Nat.zero_le _⟩
theorem Sh.bool {n : Nat} (i : Bool) : Sh n (.bool i) := ⟨rfl, Nat.zero_le _⟩
theorem Sh.str {n m : Nat} {z : Str} (h : Asc m z) : Sh n (.str z) := ⟨asc_ok h, Nat.zero_le _⟩
theorem Sh.shaped {n : Nat} {d : PyData} (h : Sh n d) (hn : n ≤ 64) : SeqAt.shaped d = true := by
  unfold SeqAt.shaped
  rw [h.l, decide_eq_true (Nat.le_trans h.d hn)]
  rfl
theorem mem_map2 {α : Type} {g : α → PyData} {l : List α} {p : PyData → Prop} (h : ∀ x ∈ l, p (g x)) : ∀ d ∈ l.map g, p d := fun d hd => by
  obtain ⟨x, hx, rfl⟩ := List.mem_map.mp hd
  exact h x hx
theorem mem_c {p : PyData → Prop} {d : PyData} {ds : List PyData} (h : p d) (t : ∀ e ∈ ds, p e) : ∀ e ∈ d :: ds, p e := fun e he => (List.mem_cons.mp he).elim (fun z => z ▸ h) (t e)
theorem mem_0 {p : PyData → Prop} : ∀ e ∈ ([] : List PyData), p e := fun e he => by cases he
theorem sh_nm {nm : Nms} (h : ∀ q ∈ nm, Asc 8 q.1) : Sh 2 (nmD nm) := .list (mem_map2 fun q hq => .tuple (mem_c (.str (h q hq)) (mem_c (.int _) mem_0)))
theorem sh_rw {rw : Rws} (h : ∀ q ∈ rw, Asc 8 q.1) : Sh 3 (rwD rw) := .list (mem_map2 fun q hq => .tuple (mem_c (.str (h q hq)) (mem_c (.list (mem_map2 fun i _ => .int i)) mem_0)))
theorem okd_int {n : Nat} (i : Int) : OkD (n + 1) (.int i) := trivial
theorem okd_str {n : Nat} (z : Str) : OkD (n + 1) (.str z) := trivial
theorem okd_list {n : Nat} {ds : List PyData} (l : ds.length ≤ 1000) (h : ∀ d ∈ ds, OkD n d) : OkD (n + 1) (.list ds) := ⟨l, h⟩
theorem okd_tup {n : Nat} {ds : List PyData} (l : ds.length ≤ 1000) (h : ∀ d ∈ ds, OkD n d) : OkD (n + 1) (.tuple ds) := ⟨l, h⟩
theorem okd_nm {n : Nat} {nm : Nms} (l : nm.length ≤ 1000) : OkD (n + 3) (nmD nm) := okd_list (by rw [List.length_map]; exact l) (mem_map2 fun q _ => okd_tup (by show 2 ≤ 1000; decide) (mem_c (okd_str _) (mem_c (okd_int _) mem_0)))
theorem okd_rw {n : Nat} {rw : Rws} (l : rw.length ≤ 1000) (h : ∀ q ∈ rw, q.2.length ≤ 1000) : OkD (n + 4) (rwD rw) := okd_list (by rw [List.length_map]; exact l) (mem_map2 fun q hq => okd_tup (by show 2 ≤ 1000; decide) (mem_c (okd_str _) (mem_c (okd_list (by rw [List.length_map]; exact h q hq) (mem_map2 fun _ _ => okd_int _)) mem_0)))
theorem okd_bool {n : Nat} (z : Bool) : OkD (n + 1) (.bool z) := trivial
theorem okd_spot {n : Nat} (x y z : Int) : OkD (n + 2) (.tuple [.int x, .int y, .int z]) := okd_tup (by show 3 ≤ 1000; decide) (mem_c (okd_int _) (mem_c (okd_int _) (mem_c (okd_int _) mem_0)))
theorem sh_ones {G : Gs} (ok : G.Ok) : Sh 2 (onesP G) := .list (mem_map2 fun f hf => .tuple (mem_c (.str (ok.st f (srt_mem.mp hf))) (mem_c (.int _) mem_0)))
theorem sh_met {G : Gs} (ok : G.Ok) (o : One) : Sh 1 (metP G o) := .list (mem_map2 fun z hz => by
  unfold metO at hz
  split at hz
  · exact .str (ok.os z (List.mem_filter.mp hz).1)
  · cases hz)
theorem sh_spot (f : Fig) : Sh 1 (spotD f) := .tuple (mem_c (.int _) (mem_c (.int _) (mem_c (.int _) mem_0)))
theorem sh_duef {G : Gs} (ok : G.Ok) {o : One} (ho : o ∈ G.ones) : ∀ d ∈ dueF G o, Sh 5 d := by
  have hk := ok.fh o ho
  exact mem_c (p := Sh 5) (.list (mem_c ((sh_spot o.f).le (by decide)) (mem_c (.bool _) (mem_c ((sh_nm hk.s1).le (by decide)) (mem_c ((sh_rw hk.s2).le (by decide)) mem_0))))) (mem_c ((sh_met ok o).le (by decide)) mem_0)
theorem sh_duel {G : Gs} (ok : G.Ok) : ∀ d ∈ dueL G G.srt, Sh 5 d := fun d hd => by
  unfold dueL at hd
  rcases List.mem_append.mp hd with hd | hd
  · exact mem_c (p := Sh 5) ((sh_ones ok).le (by decide)) (mem_c (.int _) (mem_c ((sh_nm ok.h.s1).le (by decide)) (mem_c ((sh_rw ok.h.s2).le (by decide)) mem_0))) d hd
  · obtain ⟨o, ho, hd⟩ := List.mem_flatMap.mp hd
    exact sh_duef ok (srt_mem.mp ho) d hd
theorem sh_due {G : Gs} (ok : G.Ok) : Sh 6 (dueD G) := .list (sh_duel ok)
/-! ### rows that are kept -/
def keptN {α : Type} (p : Nat → Bool) : Nat → List α → List α
  | _, [] => []
  | k, x :: xs => if p k then x :: keptN p (k + 1) xs else keptN p (k + 1) xs
theorem keptN_snoc {α : Type} {p : Nat → Bool} {x : α} : ∀ {l : List α} {k : Nat}, keptN p k (l ++ [x]) = keptN p k l ++ if p (k + l.length) then [x] else []
  | [], k => by
    show (if p k then [x] else []) = [] ++ if p (k + 0) then [x] else []
    rfl
  | y :: l, k => by
    have ih := keptN_snoc (p := p) (x := x) (l := l) (k := k + 1)
    rw [List.cons_append]
    show (if p k then y :: keptN p (k + 1) (l ++ [x]) else keptN p (k + 1) (l ++ [x])) = (if p k then y :: keptN p (k + 1) l else keptN p (k + 1) l) ++ _
    rw [ih, List.length_cons, show k + (l.length + 1) = k + 1 + l.length from by omega]
    split <;> rfl
theorem keptN_len {α : Type} {p : Nat → Bool} : ∀ {l : List α} {k : Nat}, (keptN p k l).length ≤ l.length
  | [], _ => Nat.le_refl _
  | y :: l, k => by
    have ih := keptN_len (p := p) (l := l) (k := k + 1)
    show (if p k then y :: keptN p (k + 1) l else keptN p (k + 1) l).length ≤ l.length + 1
    split
    · exact Nat.succ_le_succ ih
    · exact Nat.le_succ_of_le ih
theorem keptN_eq {α : Type} {p : Nat → Bool} : ∀ {l m : List α} {k : Nat}, l.length = m.length → (∀ i, p (k + i) = true → l[i]? = m[i]?) → keptN p k l = keptN p k m
  | [], [], _, _, _ => rfl
  | x :: l, y :: m, k, hl, h => by
    have ih := keptN_eq (p := p) (l := l) (m := m) (k := k + 1) (Nat.succ.inj hl) fun i hi => by
      have := h (i + 1) (by rw [show k + (i + 1) = k + 1 + i from by omega]; exact hi)
      simpa using this
    show (if p k then x :: keptN p (k + 1) l else keptN p (k + 1) l) = (if p k then y :: keptN p (k + 1) m else keptN p (k + 1) m)
    rw [ih]
    by_cases c : p k = true
    · have := h 0 c
      simp only [List.getElem?_cons_zero, Option.some.injEq] at this
      rw [this]
    · rw [if_neg c, if_neg c]
  | [], _ :: _, _, h, _ => nomatch h
  | _ :: _, [], _, h, _ => nomatch h
theorem keptN_mem {α : Type} {p : Nat → Bool} {d : α} : ∀ {l : List α} {k : Nat}, d ∈ keptN p k l → d ∈ l
  | [], _, h => nomatch h
  | x :: l, k, h => by
    have h : d ∈ (if p k then x :: keptN p (k + 1) l else keptN p (k + 1) l) := h
    split at h
    · exact (List.mem_cons.mp h).elim (fun z => by rw [z]; exact List.mem_cons_self ..) fun z => List.mem_cons_of_mem _ (keptN_mem z)
    · exact List.mem_cons_of_mem _ (keptN_mem h)
theorem keptN_dp {K : PySem.W.Frag} {H : Hp} {p : Nat → Bool} : ∀ {vs : List V} {ds : List PyData} {k : Nat}, DpAll K H vs ds → DpAll K H (keptN p k vs) (keptN p k ds)
  | [], _, _, h => by cases h; exact .nil
  | v :: vs, _, k, h => by
    cases h with
    | cons q r =>
      have ih := keptN_dp (p := p) (k := k + 1) r
      show DpAll K H (if p k then v :: keptN p (k + 1) vs else keptN p (k + 1) vs) (if p k then _ :: keptN p (k + 1) _ else keptN p (k + 1) _)
      split
      · exact .cons q ih
      · exact ih
/-! ### the ones' order when one of them changes -/
theorem key_nth {l : List One} (nd : (l.map One.key).Nodup) {i j : Nat} {x y : One} (ei : l[i]? = some x) (ej : l[j]? = some y) (hk : x.key = y.key) : i = j := by
  have q1 : (l.map One.key)[i]? = some y.key := by rw [List.getElem?_map, ei]; exact congrArg some hk
  have q2 : (l.map One.key)[j]? = some y.key := by rw [List.getElem?_map, ej]; rfl
  exact (List.getElem?_inj (List.getElem?_eq_some_iff.mp q1).1 nd).mp (q1.trans q2.symm)
theorem set_map {l : List One} (nd : (l.map One.key).Nodup) {j : Nat} {o o' : One} (ej : l[j]? = some o) : l.set j o' = l.map fun x => if x.key = o.key then o' else x := by
  refine List.ext_getElem? fun i => ?_
  rw [List.getElem?_map, List.getElem?_set]
  by_cases h : j = i
  · subst h
    rw [if_pos rfl, if_pos (List.getElem?_eq_some_iff.mp ej).1, ej]
    show some o' = some (if o.key = o.key then o' else o)
    rw [if_pos rfl]
  · rw [if_neg h]
    cases ei : l[i]? with
    | none => rfl
    | some x =>
      show some x = some (if x.key = o.key then o' else x)
      rw [if_neg fun hk => h (key_nth nd ei ej hk).symm]
theorem srt_nd {G : Gs} (ok : G.Ok) : (G.srt.map One.key).Nodup := ((List.mergeSort_perm G.ones (leO G)).map One.key).nodup_iff.mpr ok.nd
theorem srt_put {G : Gs} (ok : G.Ok) {j r : Nat} {o o' : One} (ej : G.ones[j]? = some o) (er : G.srt[r]? = some o) (hk : o'.key = o.key) : (G.put j o').srt = G.srt.set r o' := by
  rw [set_map (srt_nd ok) er]
  show (G.ones.set j o').mergeSort (leO (G.put j o')) = _
  rw [set_map ok.nd ej]
  have key : ∀ a : One, (if a.key = o.key then o' else a).key = a.key := fun a => by
    split
    · rename_i h; rw [hk, h]
    · rfl
  refine (List.map_mergeSort fun a _ b _ => ?_).symm
  have ka := key_inj (key a)
  have kb := key_inj (key b)
  unfold leO rkO
  rw [ka.1, ka.2, kb.1, kb.2]
  rfl
theorem put_in {G : Gs} (hin : G.In) {j : Nat} {o o' : One} (ej : G.ones[j]? = some o) (hk : o'.key = o.key) : (G.put j o').In := fun x hx => by
  rcases List.mem_or_eq_of_mem_set (show x ∈ G.ones.set j o' from hx) with h | h
  · exact hin x h
  · rw [h, (key_inj hk).1]
    exact hin o (List.mem_of_getElem? ej)
theorem dueL_pos {G : Gs} : ∀ {os : List One} {i : Nat} {x : One}, os[i]? = some x → (dueL G os)[4 + 2 * i]? = some (.list [spotD x.f, .bool x.sh, nmD x.f.ns, rwD x.f.rs]) ∧ (dueL G os)[4 + 2 * i + 1]? = some (metP G x) := fun {os i x} e => by
  have q : ∀ {os : List One} {i : Nat}, os[i]? = some x → (os.flatMap (dueF G))[2 * i]? = some (.list [spotD x.f, .bool x.sh, nmD x.f.ns, rwD x.f.rs]) ∧ (os.flatMap (dueF G))[2 * i + 1]? = some (metP G x) := fun {os} => by
    induction os with
    | nil => intro i h; cases h
    | cons y os ih =>
      intro i h
      rw [List.flatMap_cons]
      show (_ :: _ :: os.flatMap (dueF G))[2 * i]? = _ ∧ (_ :: _ :: os.flatMap (dueF G))[2 * i + 1]? = _
      cases i with
      | zero => cases h; exact ⟨rfl, rfl⟩
      | succ i => exact ih (i := i) h
  have := q e
  unfold dueL
  rw [show 4 + 2 * i = (2 * i) + 4 from by omega, show 2 * i + 4 + 1 = (2 * i + 1) + 4 from by omega]
  exact this
theorem map_key_set {l : List One} {r : Nat} {o o' : One} (er : l[r]? = some o) (hk : o'.key = o.key) : (l.set r o').map oneP = l.map oneP := map_set_same er (by unfold oneP; rw [(key_inj hk).1, (key_inj hk).2])
/-- the rows but those of who is met, and of that one, are as they were -/
theorem kept_put {G : Gs} (ok : G.Ok) {j r : Nat} {o o' : One} (ej : G.ones[j]? = some o) (er : G.srt[r]? = some o) (hk : o'.key = o.key) {p : Nat → Bool} (hp : ∀ k, p k = true → k < 4 ∨ (k % 2 = 0 ∧ k ≠ 4 + 2 * r)) : keptN p 0 (dueL (G.put j o') (G.put j o').srt) = keptN p 0 (dueL G G.srt) := by
  have es := srt_put ok ej er hk
  refine keptN_eq ?_ fun k hpk => ?_
  · rw [dueL_len, dueL_len, es, List.length_set]
  · rw [Nat.zero_add] at hpk
    rw [es]
    rcases hp k hpk with h | ⟨h1, h2⟩
    · have e1 : onesP (G.put j o') = onesP G := by
        unfold onesP
        rw [es, map_key_set er hk]
      have e2 : (G.put j o').ones.length = G.ones.length := List.length_set
      unfold dueL
      rw [List.getElem?_append_left h, List.getElem?_append_left h, e1, e2]
      rfl
    · by_cases h4 : k < 4
      · have e1 : onesP (G.put j o') = onesP G := by
          unfold onesP
          rw [es, map_key_set er hk]
        have e2 : (G.put j o').ones.length = G.ones.length := List.length_set
        unfold dueL
        rw [List.getElem?_append_left h4, List.getElem?_append_left h4, e1, e2]
        rfl
      · obtain ⟨i, rfl⟩ : ∃ i, k = 4 + 2 * i := ⟨(k - 4) / 2, by omega⟩
        have ne : r ≠ i := fun z => h2 (by rw [z])
        have eS : (G.srt.set r o')[i]? = G.srt[i]? := by rw [List.getElem?_set, if_neg ne]
        cases ex : G.srt[i]? with
        | some x => rw [(dueL_pos ex).1, (dueL_pos (eS.trans ex)).1]
        | none =>
          have l := List.getElem?_eq_none_iff.mp ex
          rw [List.getElem?_eq_none_iff.mpr (by rw [dueL_len, List.length_set]; omega), List.getElem?_eq_none_iff.mpr (by rw [dueL_len]; omega)]
end Fd

set_option Elab.async false
set_option linter.all false
set_option maxRecDepth 100000
set_option maxHeartbeats 400000
namespace Fw
open PySem PySem.Spec PyProof.Rows L2
/-! ### a def called while a list is locked: what the def works at is not that list -/
def lkd (sp : Sp) : Sp := fun vs H Q E => ∃ (a : Addr) (xs : List V), H a = some (.lst xs) ∧ ∀ oa : Obj, sp vs (upd H a (.frz oa (.lst xs))) (fun v H' => H' a = some (.frz oa (.lst xs)) → Q v (upd H' a (.lst xs))) E
theorem hok_lock {P : Program} {w : World} {H : Hp} {h : Heap} {a : Addr} {xs : List V} {oa : Obj} (k : HOk P w H h) (ha : H a = some (.lst xs)) (e : h.get? a = some oa) : HOk P w (upd H a (.frz oa (.lst xs))) h := fun b u hb => by
  have ho : ∀ c, H c = some (.own b) → upd H a (.frz oa (.lst xs)) c = some (.own b) := fun c q => by rw [upd_ne (ne_of q ha nofun)]; exact q
  have ht : ∀ c ys, H c = some (.tup ys) → upd H a (.frz oa (.lst xs)) c = some (.tup ys) := fun c ys q => by rw [upd_ne (ne_of q ha nofun)]; exact q
  by_cases z : b = a
  · rw [z, upd_same] at hb
    cases hb
    rw [z] at ho
    exact ⟨by rw [z]; exact e, by rw [z]; exact (k a _ ha).stay (fun c v _ q => q) ho ht⟩
  · rw [upd_ne z] at hb
    exact (k b u hb).stay (fun c v _ q => q) ho ht
theorem hok_unlock {P : Program} {w : World} {H : Hp} {h : Heap} {a : Addr} {xs : List V} {oa : Obj} (k : HOk P w H h) (ha : H a = some (.frz oa (.lst xs))) : HOk P w (upd H a (.lst xs)) h := fun b u hb => by
  have ho : ∀ c d, H c = some (.own d) → upd H a (.lst xs) c = some (.own d) := fun c d q => by rw [upd_ne (ne_of q ha nofun)]; exact q
  have ht : ∀ c ys, H c = some (.tup ys) → upd H a (.lst xs) c = some (.tup ys) := fun c ys q => by rw [upd_ne (ne_of q ha nofun)]; exact q
  by_cases z : b = a
  · rw [z, upd_same] at hb
    cases hb
    obtain ⟨_, x⟩ := k a _ ha
    rw [z]
    exact x.stay (fun c v _ q => q) (fun c q => ho c _ q) ht
  · rw [upd_ne z] at hb
    exact (k b u hb).stay (fun c v _ q => q) (fun c q => ho c _ q) ht
theorem un_lock {fs : List Addr} {H H' : Hp} {h h' : Heap} {a : Addr} {xs : List V} {oa : Obj} (ha : H a = some (.lst xs)) (u : Un fs [] (upd H a (.frz oa (.lst xs))) H' h h') : Un fs [] H (upd H' a (.lst xs)) h h' := by
  have nn : ∀ {b}, H b = none → b ≠ a := fun e => (ne_of_none ha e).symm
  have n1 : ∀ {b}, H b = none → upd H a (.frz oa (.lst xs)) b = none := fun e => by rw [upd_ne (nn e)]; exact e
  refine ⟨fun b o e n => u.keep b o e (n1 n), fun b o e n => u.slot b o e (n1 n), fun b o e n x => ?_, u.there, fun b ys e => ?_, fun b o x e => ?_, fun b ps e => ?_⟩
  · rw [upd_ne (nn n)]; exact u.free b o e (n1 n) x
  · have z := ne_of e ha nofun
    rw [upd_ne z]; exact u.tups b ys (by rw [upd_ne z]; exact e)
  · have z := ne_of e ha nofun
    rw [upd_ne z]; exact u.frzs b o x (by rw [upd_ne z]; exact e)
  · have z := ne_of e ha nofun
    rw [upd_ne z]; exact u.tbls b ps (by rw [upd_ne z]; exact e)
theorem lock_is {P : Program} {w : World} {H : Hp} {h : Heap} {a : Addr} {xs : List V} (k : HOk P w H h) (ha : H a = some (.lst xs)) : ∃ oa, h.get? a = some oa := by
  obtain ⟨_, _, _, _, e⟩ := k a _ ha
  exact ⟨_, e⟩
theorem FnOk.lock {P : Program} {w : World} {K : PySem.W.Frag} {mg : Str → Option Value} {base : Heap} {CX : CXT} {k : Nat} {f : Addr} {fd : FuncData} {ps : List Str} {sp : Sp} (F : FnOk P w K mg base CX k f fd ps sp)
    (hcx : ∀ {outer H s E e s' a xs oa}, H a = some (.lst xs) → CX outer (upd H a (.frz oa (.lst xs))) s E e s' → CX outer H s E e s') : FnOk P w K mg base CX k f fd ps (lkd sp) := by
  refine ⟨fun vs H Q E h => ?_, fun A outer s H args us vs Q E hr he hb hv h => ?_⟩
  · obtain ⟨a, xs, ha, h⟩ := h
    exact F.len _ _ _ _ (h { cls := .none, data := .plain })
  · obtain ⟨a, xs, ha, h⟩ := h
    obtain ⟨oa, eo⟩ := lock_is he.hok ha
    have e1 : Env0 P w K mg base A outer s (upd H a (.frz oa (.lst xs))) := ⟨he.frames, he.mod, fun b o e => ⟨(he.bs b o e).1, by
        have := (he.bs b o e).2
        rw [upd_ne ((ne_of_none ha this).symm)]; exact this⟩, he.bsz, he.funs, fun b m => by
        have := he.frf b m
        rw [upd_ne ((ne_of_none ha this).symm)]; exact this, hok_lock he.hok ha eo, he.bare⟩
    refine codeAny_mono (F.run A outer s _ args us vs _ E hr e1 hb hv (h oa)) fun r s' q => ?_
    cases r with
    | error e => exact hcx ha q
    | ok fl =>
      cases fl with
      | ret u =>
        obtain ⟨v, H', os, bare, un, ok, rv, q⟩ := q
        have fr := un.frzs a oa _ upd_same
        exact ⟨v, _, os, bare, un_lock ha un, hok_unlock ok fr, rv, q fr⟩
      | next => exact q.elim
      | brk => exact q.elim
      | cont => exact q.elim
theorem FnOk.lock0 {P : Program} {w : World} {K : PySem.W.Frag} {mg : Str → Option Value} {base : Heap} {k : Nat} {f : Addr} {fd : FuncData} {ps : List Str} {sp : Sp} (F : FnOk P w K mg base CX0 k f fd ps sp) : FnOk P w K mg base CX0 k f fd ps (lkd sp) := FnOk.lock F fun _ h => h.elim
end Fw

set_option Elab.async false
set_option linter.all false
set_option maxRecDepth 100000
set_option maxHeartbeats 400000
namespace Fw
open PySem PySem.Spec PyProof.Rows L2 LamX
/-- a dict of tuples and None is no code object -/
theorem mix_code {w : World} {d : Addr} {xs : List (NestedKey × Value × Value)} {q : Str} : MixO w d xs ≠ CodeO d q := fun z => by
  unfold MixO CodeO at z
  injection z with z
  let ob : Obj := { cls := .none, data := .fields #[.none, .str q 0] }
  let h0 : Heap := { objs := Array.replicate (d + 1) ob }
  have g : h0.get? d = some ob := by
    unfold Heap.get?
    have : h0.objs[d]? = some ob := by
      show (Array.replicate (d + 1) ob)[d]? = some ob
      rw [Array.getElem?_replicate, if_pos (Nat.lt_succ_self d)]
    rw [this]
  have f : ∃ (oc : Obj) (vs : Array Value) (t : Tok), h0.get? d = some oc ∧ oc.data = Data.fields vs ∧ vs[1]? = some (Value.str q t) := ⟨ob, #[.none, .str q 0], 0, g, rfl, rfl⟩
  have e := congrFun z h0
  rw [← e] at f
  obtain ⟨o, es, ep, ho, _, hd, _⟩ := f
  rw [g] at ho
  cases ho
  cases hd
/-- tables stay where these stay -/
theorem tabs_all {T : List (Addr × Str)} {H H' : Hp} (t : Tabs T H) (e : ∀ b o, H b = some o → ((∃ ps, o = .tbl ps) ∨ ∃ q, o = CodeO b q) → H' b = some o) : Tabs T H' := fun p hp => by
  obtain ⟨ps, h1, h2, h3⟩ := t p hp
  refine ⟨ps, e _ _ h1 (.inl ⟨_, rfl⟩), h2, fun pos cv hc => ?_⟩
  obtain ⟨c, e1, e2⟩ := h3 pos cv hc
  exact ⟨c, e1, e _ _ e2 (.inr ⟨_, rfl⟩)⟩
/-- code objects stay where but lists, dicts of tuples and the dict at d change -/
theorem tabs_soft {T : List (Addr × Str)} {H H' : Hp} {w : World} {d : Addr} {xs : List (NestedKey × Value × Value)} (hd : H d = some (MixO w d xs)) (t : Tabs T H) (e : ∀ b o, H b = some o → b ≠ d → (∀ ys, o ≠ .lst ys) → (∀ kvs, o ≠ .dT kvs) → H' b = some o) : Tabs T H' := fun p hp => by
  obtain ⟨ps, h1, h2, h3⟩ := t p hp
  refine ⟨ps, e _ _ h1 (fun z => by rw [z, hd] at h1; cases h1) (fun _ => nofun) (fun _ => nofun), h2, fun pos cv hc => ?_⟩
  obtain ⟨c, e1, e2⟩ := h3 pos cv hc
  refine ⟨c, e1, e _ _ e2 (fun z => ?_) (fun xs => by unfold CodeO; nofun) (fun xs => by unfold CodeO; nofun)⟩
  rw [z, hd] at e2
  exact mix_code (Option.some.inj e2)
end Fw

set_option Elab.async false
set_option linter.all false
set_option maxRecDepth 100000
set_option maxHeartbeats 1000000
namespace Fd
open PySem PySem.Spec PyProof.Rows L2 RZ Fw LamX
theorem hu65 {k : Nat} {A : Around} (r : Room k A) : A.units + 65 < cLine := by have := r.un; omega
theorem paired_mapL {α β γ : Type} {F : α → β → Prop} {E : γ → β → Prop} {g : α → γ} (h : ∀ a b, F a b → E (g a) b) : ∀ {l : List α} {m : List β}, Paired F l m → Paired E (l.map g) m
  | _, _, .nil => .nil
  | _, _, .cons r t => .cons (h _ _ r) (paired_mapL h t)
theorem tn_pn {K : PySem.W.Frag} {H : Hp} {n : Addr} {nm : Nms} (h : TN H n nm) : Pn K H (.ref n) nm := by
  obtain ⟨ts, h1, h2⟩ := h
  exact ⟨n, _, rfl, .inr (tupX_sq h1), paired_mapL (fun t q e => ⟨t, rfl, .inr (.inl (.inl e))⟩) h2⟩
theorem tr_pr {K : PySem.W.Frag} {H : Hp} {n : Addr} {rw : Rws} (h : TR H n rw) : Pr K H (.ref n) rw := by
  obtain ⟨ts, h1, h2⟩ := h
  exact ⟨n, _, rfl, .inr (tupX_sq h1), paired_mapL (fun t q ⟨r, e, f⟩ => ⟨t, r, rfl, .inr (.inl (.inl e)), .inr (tupX_sq f)⟩) h2⟩
theorem FgX.in_ {K : PySem.W.Frag} {H : Hp} {v : V} {f : Fig} (h : FgX K H v f) : FgIn K H v f := by
  obtain ⟨b, p, n, l, e1, e2, rfl, h1, h2, h3, h4, h5, h6⟩ := h
  exact ⟨b, p, .ref n, .ref l, [.ref e1, .ref e2], rfl, .inr h1, .inr h2, tn_pn h3, tr_pr h4⟩
theorem PlayX.in_ {K : PySem.W.Frag} {H : Hp} {v : V} {G : Gnd} (h : PlayX K H v G) : PlayIn K H v G := by
  obtain ⟨a, s, n, l, f, fs, rfl, h1, h2, h3, h4, h5, h6⟩ := h
  exact ⟨a, s, .ref n, .ref l, f, fs, rfl, .inr h1, .inr h2, tn_pn h3, tr_pr h4, .inr h5, L2.Paired.mapP h6 fun _ _ e => e.in_⟩
theorem shapedL {os : List One} (h : ∀ x ∈ os, Asc 8 x.f.nm) : SeqAt.shaped (.list (os.map oneP)) = true := by
  have h1 : PyData.canLayAll0 (os.map oneP) = true ∧ PyData.depthAll (os.map oneP) ≤ 60 := by
    induction os with
    | nil => exact ⟨rfl, by decide⟩
    | cons x os ih =>
      obtain ⟨i1, i2⟩ := ih fun y hy => h y (List.mem_cons_of_mem _ hy)
      have hx := asc_ok (h x (List.mem_cons_self ..))
      refine ⟨?_, ?_⟩
      · show (PyData.strOk x.f.nm && (true && true) && PyData.canLayAll0 (os.map oneP)) = true
        rw [hx, i1]
        rfl
      · show max (PyData.depth (oneP x)) (PyData.depthAll (os.map oneP)) ≤ 60
        exact Nat.max_le.mpr ⟨by show PyData.depth (.tuple [.str x.f.nm, .int x.no]) ≤ 60; simp only [PyData.depth, PyData.depthAll]; decide, i2⟩
  unfold SeqAt.shaped
  refine Bool.and_eq_true_iff.mpr ⟨h1.1, decide_eq_true ?_⟩
  show PyData.depthAll (os.map oneP) + 1 ≤ 64
  omega
theorem dp_one {K : PySem.W.Frag} {H : Hp} {a : Addr} {o : One} (h : OneT H a o) : Dp K H (.ref a) (oneP o) := .tup (.inl (.inl h)) (.cons (.str _) (.cons (.int _) .nil))
theorem dp_ones {K : PySem.W.Frag} {H : Hp} : ∀ {ss : List Addr} {os : List One}, Paired (OneT H) ss os → DpAll K H (ss.map V.ref) (os.map oneP)
  | _, _, .nil => .nil
  | _, _, .cons r t => .cons (dp_one r) (dp_ones t)
/-- all but a, dicts of tuples and tables stays -/
def Ba (a : Addr) (H H' : Hp) : Prop := ∀ b u, b ≠ a → H b = some u → (∀ kvs, u ≠ .dT kvs) → (∀ D, u ≠ .ext D) → (∀ ps, u ≠ .tbl ps) → H' b = some u
theorem Ba.refl (a : Addr) (H : Hp) : Ba a H H := fun _ _ _ e _ _ _ => e
theorem Ba.trans {a : Addr} {H H1 H2 : Hp} (x : Ba a H H1) (y : Ba a H1 H2) : Ba a H H2 := fun b u n e p q r => y b u n (x b u n e p q r) p q r
theorem Ba.but {a : Addr} {H H' : Hp} (s : But a H H') : Ba a H H' := fun b u n e _ _ _ => s b u n e
theorem Ba.same {a : Addr} {H H' : Hp} (s : Same H H') : Ba a H H' := fun b u _ e _ _ _ => s b u e
theorem Ba.ext {a : Addr} {H H' : Hp} (s : ExtN H H') : Ba a H H' := fun b u _ e _ _ t => s b u e t
theorem Ba.ts {a : Addr} {n : Nat} {H H' : Hp} (s : Ba a H H') (B : Box H a n) : TS H H' := by
  obtain ⟨b0, b1, b2, e, _⟩ := B
  exact ⟨fun b xs h => s b _ (ne_of h e nofun) h (fun _ => nofun) (fun _ => nofun) (fun _ => nofun), fun b o xs h => s b _ (ne_of h e nofun) h (fun _ => nofun) (fun _ => nofun) (fun _ => nofun)⟩
theorem Ba.kp {a : Addr} {n : Nat} {H H' : Hp} {as : List Addr} (s : Ba a H H') (B : Box H a n) (h : a ∉ as) : Kp as H H' :=
  ⟨fun b xs e m => s b _ (fun z => h (by rw [← z]; exact m)) e (fun _ => nofun) (fun _ => nofun) (fun _ => nofun), fun b xs e => (s.ts B).t b xs e, fun b o xs e => (s.ts B).f b o xs e⟩
theorem Ba.lst {a b : Addr} {H H' : Hp} {xs : List V} (s : Ba a H H') (h : b ≠ a) (e : H b = some (.lst xs)) : H' b = some (.lst xs) := s b _ h e (fun _ => nofun) (fun _ => nofun) (fun _ => nofun)
theorem OneV.but {K : PySem.W.Frag} {H H' : Hp} {a b : Addr} {o : One} (h : OneV K H b o) (n : b ≠ a) (s : But a H H') : OneV K H' b o := by
  rcases h with h | (h | ⟨ob, h⟩) | h
  · exact .inl (s _ _ n h)
  · exact .inr (.inl (.inl (s _ _ n h)))
  · exact .inr (.inl (.inr ⟨ob, s _ _ n h⟩))
  · exact .inr (.inr h)
theorem sq_but {K : PySem.W.Frag} {H H' : Hp} {a b : Addr} {xs : List V} (h : SqL K H b xs) (n : b ≠ a) (s : But a H H') : SqL K H' b xs := by
  rcases h with (h | ⟨ob, h⟩) | h
  · exact .inl (.inl (s _ _ n h))
  · exact .inl (.inr ⟨ob, s _ _ n h⟩)
  · exact .inr h
theorem sqT_but {K : PySem.W.Frag} {H H' : Hp} {a b : Addr} {xs : List V} (h : SqT K H b xs) (n : b ≠ a) (s : But a H H') : SqT K H' b xs := by
  rcases h with (h | ⟨ob, h⟩) | h
  · exact .inl (.inl (s _ _ n h))
  · exact .inl (.inr ⟨ob, s _ _ n h⟩)
  · exact .inr h
theorem tr_list {K : PySem.W.Frag} {H : Hp} {v : V} {ds : List PyData} {as : List Addr} (t : Tr K H v (.list ds) as) : ∃ a xs, v = .ref a ∧ H a = some (.lst xs) ∧ DpAll K H xs ds := by
  cases t with
  | lst h1 h2 h3 => exact ⟨_, _, rfl, h1, trA_dp _ _ _ h2⟩
theorem dpAll_pos {K : PySem.W.Frag} {H : Hp} : ∀ {vs : List V} {ds : List PyData} {i : Nat} {d : PyData}, DpAll K H vs ds → ds[i]? = some d → ∃ v, vs[i]? = some v ∧ Dp K H v d
  | _, [], _, _, _, e => by simp at e
  | _, d :: ds, 0, _, .cons q _, e => by cases e; exact ⟨_, rfl, q⟩
  | _, d :: ds, i + 1, _, .cons _ r, e => dpAll_pos (i := i) r e
theorem dp_list {K : PySem.W.Frag} {H : Hp} {v : V} {ds : List PyData} (t : Dp K H v (.list ds)) : ∃ a xs, v = .ref a ∧ SqL K H a xs ∧ DpAll K H xs ds := by
  cases t with
  | lst h1 h2 => exact ⟨_, _, rfl, h1, h2⟩
theorem dp_four {K : PySem.W.Frag} {H : Hp} {xs : List V} {d0 d1 d2 d3 : PyData} (t : DpAll K H xs [d0, d1, d2, d3]) : ∃ x0 x1 x2 x3, xs = [x0, x1, x2, x3] ∧ Dp K H x0 d0 ∧ Dp K H x1 d1 ∧ Dp K H x2 d2 ∧ Dp K H x3 d3 := by
  cases t with
  | cons q0 t => cases t with
    | cons q1 t => cases t with
      | cons q2 t => cases t with
        | cons q3 t => cases t; exact ⟨_, _, _, _, rfl, q0, q1, q2, q3⟩
def FrzA (S : List Addr) (H : Hp) : Prop := ∀ b ∈ S, ∃ o u, H b = some (.frz o u) ∧ ∀ xs, u ≠ .tup xs
theorem frz1 {H : Hp} {a : Addr} {oa : Obj} {ua : List V} (h : H a = some (.frz oa (.lst ua))) : FrzA [a] H := fun b hb => ⟨oa, .lst ua, by rw [List.mem_singleton.mp hb]; exact h, fun _ => nofun⟩
theorem FrzA.no {S : List Addr} {H : Hp} (f : FrzA S H) {b : Addr} {u : HO} (e : H b = some u) (n : ∀ o xs, (∀ ys, xs ≠ .tup ys) → u ≠ .frz o xs) : rmL S H b = some u := by
  rw [rmL_at fun c => ?_]
  · exact e
  · obtain ⟨o, x, h, hn⟩ := f b c
    rw [e] at h
    exact n o x hn (Option.some.inj h)
theorem FrzA.sqT {K : PySem.W.Frag} {S : List Addr} {H : Hp} (f : FrzA S H) {a : Addr} {xs : List V} (h : SqT K H a xs) : SqT K (rmL S H) a xs := by
  rcases h with (h | ⟨o, h⟩) | h
  · exact .inl (.inl (f.no h fun _ _ _ => nofun))
  · exact .inl (.inr ⟨o, f.no h fun o' x hn z => by injection z with _ z; exact hn _ z.symm⟩)
  · exact .inr h
theorem FrzA.hold {C : Addr} {S : List Addr} {H : Hp} {p : Addr} {nm : Nms} {rw : Rws} (f : FrzA S H) (h : HoldAt C H p nm rw) : HoldAt C (rmL S H) p nm rw := by
  obtain ⟨⟨dx, dn, dr, rs, h1, h2, h3, h4⟩, a1, a2, a3, a4, a5⟩ := h
  exact ⟨⟨dx, dn, dr, rs, f.no h1 (fun _ _ _ => nofun), f.no h2 (fun _ _ _ => nofun), f.no h3 (fun _ _ _ => nofun), L2.Paired.mapP h4 fun a q e => f.no e (fun _ _ _ => nofun)⟩, a1, a2, a3, a4, a5⟩
theorem GsAt.rm {w : World} {K : PySem.W.Frag} {C CH : Addr} {S : List Addr} {H : Hp} {g : Addr} {G : Gs} (h : GsAt w K C CH H g G) (f : FrzA S H) : GsAt w K C CH (rmL S H) g G := by
  obtain ⟨⟨dx, dF, dP, dS, dH, ps, hs, h0, n, h1, h2, h3, h4, h5, h6, h7, h8, h9⟩, ok⟩ := h
  refine ⟨⟨dx, dF, dP, dS, dH, ps, hs, h0, n, f.no h1 (fun _ _ _ => nofun), f.no h2 (fun _ _ _ => nofun), f.no h3 (fun _ _ _ => nofun), L2.Paired.mapP h4 fun a q e => f.sqT e, f.no h5 (fun _ _ _ => nofun), ?_, L2.Paired.mapP h7 fun a q e => f.hold e, f.hold h8, h9⟩, ok⟩
  exact h6.same (fun o e => by
    obtain ⟨xs, e', _⟩ := h6
    rw [e'] at e
    cases e
    exact f.no e' (fun _ _ _ => by unfold MixO; nofun)) fun b xs e => f.no e (fun _ _ _ => nofun)
section
variable {w : World} {K : PySem.W.Frag} {C CH : Addr} {T : List (Addr × Str)} {H H' H2 : Hp} {a p : Addr} {ua : List V} {oa : Obj} {G G' : Gs} {v : V} {G0 : Gnd} {n n' m : Nat}
theorem lk_in (ha : H a = some (.lst ua)) (h : GsAt w K C CH (rmL [a] H) p G) : GsAt w K C CH (upd H a (.frz oa (.lst ua))) p G := by
  rw [← rmL_upd (as := [a]) (D := a) (o := .frz oa (.lst ua)) (List.mem_singleton.mpr rfl)] at h
  exact h.same rmL_le
theorem lk_tabs (ha : H a = some (.lst ua)) (t : Tabs T H) : Tabs T (upd H a (.frz oa (.lst ua))) := tabs_all t fun b o e k => by
  rw [upd_ne fun z => ?_]
  · exact e
  · rw [z, ha] at e
    cases e
    rcases k with ⟨_, k⟩ | ⟨_, k⟩ <;> cases k
theorem ul_tabs {o' : HO} (ha : H a = some (.frz oa (.lst ua))) (t : Tabs T H) : Tabs T (upd H a o') := tabs_all t fun b o e k => by
  rw [upd_ne fun z => ?_]
  · exact e
  · rw [z, ha] at e
    cases e
    rcases k with ⟨_, k⟩ | ⟨_, k⟩ <;> cases k
theorem do_tabs {dP dS dH : Addr} (hp : GsA w K C CH H p G dP dS dH) (t : Tabs T H) (bl : ButL [dP, dS, dH] H H') : Tabs T H' := by
  obtain ⟨⟨dx, dF, ps, hs, h0, n0, h1, h2, h3, h4, h5, ⟨xs, h6, _⟩, h7, h8, nPS, hn0⟩, ok⟩ := hp
  refine tabs_all t fun b o e k => bl b o (fun hb => ?_) e
  rcases List.mem_cons.mp hb with z | hb
  · rw [z, h3] at e
    cases e
    rcases k with ⟨_, k⟩ | ⟨_, k⟩ <;> cases k
  · rcases List.mem_cons.mp hb with z | hb
    · rw [z, h5] at e
      cases e
      rcases k with ⟨_, k⟩ | ⟨_, k⟩ <;> cases k
    · have z := List.mem_singleton.mp hb
      rw [z, h6] at e
      cases e
      rcases k with ⟨_, k⟩ | ⟨q, k⟩
      · cases k
      · rw [z] at k; exact mix_code k
/-- behind a call under the lock of the list at a -/
theorem lk_out {dP dS dH : Addr} (ha : H a = some (.lst ua)) (t : Tabs T H) (gA : GsA w K C CH (upd H a (.frz oa (.lst ua))) p G dP dS dH) (bl : ButL [dP, dS, dH] (upd H a (.frz oa (.lst ua))) H') (sf : Soft (upd H a (.frz oa (.lst ua))) H') (h : GsAt w K C CH H' p G') (fr : H' a = some (.frz oa (.lst ua))) :
    Ba a H (upd H' a (.lst ua)) ∧ GsAt w K C CH (rmL [a] (upd H' a (.lst ua))) p G' ∧ Tabs T (upd H' a (.lst ua)) ∧ (upd H' a (.lst ua)) a = some (.lst ua) := by
  refine ⟨fun b u nb e p q _ => ?_, ?_, ul_tabs fr (do_tabs gA (lk_tabs ha t) bl), upd_same⟩
  · rw [upd_ne nb]
    exact sf b u (by rw [upd_ne nb]; exact e) p q
  · rw [rmL_upd (List.mem_singleton.mpr rfl)]
    exact h.rm (frz1 fr)
/-- how things stand between two turns -/
structure St (w : World) (K : PySem.W.Frag) (C CH : Addr) (T : List (Addr × Str)) (H : Hp) (a p : Addr) (v : V) (G0 : Gnd) (G : Gs) (n m : Nat) (H' : Hp) : Prop where
  box : Box H' a n
  gs : GsAt w K C CH (rmL [a] H') p G
  inn : G.In
  tb : Tabs T H'
  pl : PlayX K H' v G0
  wd : G.wide = G0.wide
  hg : G.high = G0.high
  w1 : 1 ≤ G.wide
  h1 : 1 ≤ G.high
  xy : ∀ o ∈ G.ones, 0 ≤ o.f.x ∧ o.f.x < G.wide ∧ 0 ≤ o.f.y ∧ o.f.y < G.high ∧ 0 ≤ o.f.w ∧ o.f.w < 4
  ne : 1 ≤ G.ones.length
  few : G.ones.length ≤ m
  but : Ba a H H'
theorem St.le (st : St w K C CH T H a p v G0 G n m H') {m' : Nat} (h1 : n ≤ n') (h2 : m ≤ m') : St w K C CH T H a p v G0 G n' m' H' :=
  ⟨st.box.le h1, st.gs, st.inn, st.tb, st.pl, st.wd, st.hg, st.w1, st.h1, st.xy, st.ne, Nat.le_trans st.few h2, st.but⟩
theorem St.at (st : St w K C CH T H a p v G0 G n m H') : GsAt w K C CH H' p G := st.gs.same rmL_le
theorem St.ext (st : St w K C CH T H a p v G0 G n m H') (s : ExtN H' H2) (t : Tabs T H2) : St w K C CH T H a p v G0 G n m H2 := by
  obtain ⟨b0, b1, b2, e, r⟩ := id st.box
  exact ⟨⟨b0, b1, b2, s _ _ e nofun, r⟩, st.gs.ext fun b u q t => by
    by_cases z : b = a
    · rw [z, rmL_in (List.mem_singleton.mpr rfl)] at q; cases q
    · rw [rmL_at (fun c => z (List.mem_singleton.mp c))] at q ⊢
      exact s _ _ q t, st.inn, t, st.pl.ts (TS.ext s), st.wd, st.hg, st.w1, st.h1, st.xy, st.ne, st.few, st.but.trans (Ba.ext s)⟩
theorem St.take (st : St w K C CH T H a p v G0 G n m H') (s : But a H' H2) (B : Box H2 a n') : St w K C CH T H a p v G0 G n' m H2 := by
  obtain ⟨b0, b1, b2, e, r⟩ := id st.box
  exact ⟨B, st.gs.same (rmL_but fun b u nb e => s b u (fun z => nb (List.mem_singleton.mpr z)) e), st.inn, tabs_all st.tb fun b o q k => s b o (fun z => by
    rw [z, e] at q
    cases q
    rcases k with ⟨_, k⟩ | ⟨_, k⟩ <;> cases k) q, st.pl.ts (TS.box st.box s), st.wd, st.hg, st.w1, st.h1, st.xy, st.ne, st.few, st.but.trans (Ba.but s)⟩
theorem St.same (st : St w K C CH T H a p v G0 G n m H') (s : Same H' H2) : St w K C CH T H a p v G0 G n m H2 := st.take (But.of s) (st.box.same s)
/-- a deed as it is drawn does something -/
theorem kind_deed {z : Str} {is : List Int} {o : One} {W Hh : Int} {G : Gs} (eW : G.wide = W) (eH : G.high = Hh) (kd : KindD z is) (hW : 1 ≤ W) (hH : 1 ≤ Hh) (xy : 0 ≤ o.f.x ∧ o.f.x < W ∧ 0 ≤ o.f.y ∧ o.f.y < Hh ∧ 0 ≤ o.f.w ∧ o.f.w < 4) :
    ∃ o', Deed G z is o o' ∧ o'.key = o.key ∧ o'.f.ns = o.f.ns ∧ o'.f.rs = o.f.rs ∧ (0 ≤ o'.f.x ∧ o'.f.x < W ∧ 0 ≤ o'.f.y ∧ o'.f.y < Hh ∧ 0 ≤ o'.f.w ∧ o'.f.w < 4) ∧
      (((z = "show" ∨ z = "hide") ∧ o'.f = o.f ∧ o'.sh = decide (V.str z = V.str "show")) ∨ ((z = "move" ∨ z = "turn" ∨ z = "place") ∧ o'.sh = o.sh ∧ ∃ r, Acts z is o.f.x o.f.y o.f.w r ∧ o'.f.x = near r.1 W ∧ o'.f.y = near r.2.1 Hh ∧ o'.f.w = r.2.2)) := by
  have nb : ∀ (i m : Int), 1 ≤ m → 0 ≤ near i m ∧ near i m < m := fun i m h => by unfold near; omega
  have fin : ∀ r, Acts z is o.f.x o.f.y o.f.w r → 0 ≤ r.2.2 ∧ r.2.2 < 4 → (z = "move" ∨ z = "turn" ∨ z = "place") → ∃ o', Deed G z is o o' ∧ o'.key = o.key ∧ o'.f.ns = o.f.ns ∧ o'.f.rs = o.f.rs ∧ (0 ≤ o'.f.x ∧ o'.f.x < W ∧ 0 ≤ o'.f.y ∧ o'.f.y < Hh ∧ 0 ≤ o'.f.w ∧ o'.f.w < 4) ∧
      (((z = "show" ∨ z = "hide") ∧ o'.f = o.f ∧ o'.sh = decide (V.str z = V.str "show")) ∨ ((z = "move" ∨ z = "turn" ∨ z = "place") ∧ o'.sh = o.sh ∧ ∃ r, Acts z is o.f.x o.f.y o.f.w r ∧ o'.f.x = near r.1 W ∧ o'.f.y = near r.2.1 Hh ∧ o'.f.w = r.2.2)) := fun r hr hw hz =>
    ⟨o.at_ (near r.1 W) (near r.2.1 Hh) r.2.2, .inr (.inr ⟨r, hr, by rw [eW, eH]⟩), rfl, rfl, rfl, ⟨(nb _ _ hW).1, (nb _ _ hW).2, (nb _ _ hH).1, (nb _ _ hH).2, hw.1, hw.2⟩, .inr ⟨hz, rfl, r, hr, rfl, rfl, rfl⟩⟩
  rcases kd with ⟨rfl, i, rfl⟩ | ⟨rfl, i, rfl⟩ | ⟨rfl, i, j, rfl⟩ | ⟨rfl, rfl⟩ | ⟨rfl, rfl⟩
  · obtain ⟨u, eu⟩ : ∃ u : Nat, o.f.w = u := ⟨o.f.w.toNat, by omega⟩
    have hu : u < 4 := by omega
    obtain ⟨q, eq⟩ : ∃ q, stp[u]? = some q := ⟨stp[u]'hu, List.getElem?_eq_getElem hu⟩
    exact fin (o.f.x + q.1 * i, o.f.y + q.2 * i, o.f.w) (.inr (.inr ⟨rfl, i, u, q, rfl, eu, eq, rfl⟩)) ⟨xy.2.2.2.2.1, xy.2.2.2.2.2⟩ (.inl rfl)
  · exact fin (o.f.x, o.f.y, (o.f.w + i) % 4) (.inl ⟨rfl, i, rfl, rfl⟩) ⟨by show 0 ≤ (o.f.w + i) % 4; omega, by show (o.f.w + i) % 4 < 4; omega⟩ (.inr (.inl rfl))
  · exact fin (i, j, o.f.w) (.inr (.inl ⟨rfl, i, j, rfl, rfl⟩)) ⟨xy.2.2.2.2.1, xy.2.2.2.2.2⟩ (.inr (.inr rfl))
  · exact ⟨{ o with sh := true }, .inl ⟨rfl, rfl, rfl⟩, rfl, rfl, rfl, xy, .inl ⟨.inl rfl, rfl, rfl⟩⟩
  · exact ⟨{ o with sh := false }, .inr (.inl ⟨rfl, rfl, rfl⟩), rfl, rfl, rfl, xy, .inl ⟨.inr rfl, rfl, by show false = decide (V.str "hide" = V.str "show"); decide +kernel⟩⟩
end
end Fd

set_option Elab.async false
set_option linter.all false
set_option maxRecDepth 100000
set_option maxHeartbeats 2000000
namespace Fd
open PySem PySem.Spec PyProof.Rows L2 RZ Fw LamX
abbrev sRi : Stmt := top 52
def pkp (j k : Nat) : Bool := decide (k < 4) || (decide (k % 2 = 0) && decide (k ≠ 4 + 2 * j))
theorem pkp_at (j : Nat) : ∀ k, pkp j k = true → k < 4 ∨ (k % 2 = 0 ∧ k ≠ 4 + 2 * j) := fun k h => by
  rcases Bool.or_eq_true_iff.mp h with h | h
  · exact .inl (of_decide_eq_true h)
  · obtain ⟨h1, h2⟩ := Bool.and_eq_true_iff.mp h
    exact .inr ⟨of_decide_eq_true h1, of_decide_eq_true h2⟩
theorem pkp_4 {j k : Nat} (h : k < 4) : pkp j k = true := by unfold pkp; rw [decide_eq_true h]; rfl
theorem pkp_y {j k : Nat} (h : k % 2 = 0) (n : ¬ k = 4 + 2 * j) : pkp j k = true := by unfold pkp; rw [decide_eq_true h, decide_eq_true (p := k ≠ 4 + 2 * j) n, Bool.and_self, Bool.or_true]
theorem pkp_at0 {j k : Nat} (h : k = 4 + 2 * j) : pkp j k = false := by unfold pkp; rw [decide_eq_false (p := k ≠ 4 + 2 * j) (fun c => c h), decide_eq_false (show ¬ k < 4 by omega), Bool.and_false]; rfl
theorem pkp_odd {j k : Nat} (h4 : ¬ k < 4) (h : ¬ k % 2 = 0) : pkp j k = false := by unfold pkp; rw [decide_eq_false h4, decide_eq_false h]; rfl
theorem ifTT {p q : Prop} (h : p) : if true = true then p else q := by rw [if_pos rfl]; exact h
section
variable {P : Program} {w : World} {K : PySem.W.Frag} {mg : Str → Option Value} {base : Heap} {f : Addr} {fd : FuncData} {C CH P0 : Addr}
def MthD (P : Program) (w : World) (K : PySem.W.Frag) (mg : Str → Option Value) (base : Heap) (C CH : Addr) (k : Nat) : Prop :=
  ∃ f fd ds e, Meth K C "do" f ∧ FnOk P w K mg base CX0 k f fd ["self", "one", "deed", "params"] (spDo w K C CH) ∧ Binds K fd ["self", "one", "deed", "params"] ds ∧ Vals [.ref e] ds ∧ ∀ H, SqT K H e []
def spRi (P0 : Addr) : Sp := fun vs H Q _ => ∃ (a : Addr) (n : Nat), vs = [.ref a] ∧ Box H a n ∧ n + 5000 ≤ 1000000 ∧ Tabs (TT P0) H ∧ ∀ H', Ba a H H' → Tabs (TT P0) H' → Q (.bl true) H'
structure RightD (P : Program) (w : World) (K : PySem.W.Frag) (mg : Str → Option Value) (base : Heap) (C CH P0 : Addr) (k : Nat) : Prop where
  GC : MthG P w K mg base C k "copy" ["self", "one"] (spGC w K C CH)
  GO : MthG P w K mg base C k "ones" ["self"] (spGo w K C CH P0)
  GS : MthG P w K mg base C k "spot" ["self", "one"] (spGS w K C CH)
  GW : MthG P w K mg base C k "is_shown" ["self", "one"] (spGW w K C CH)
  GL : SpM P w K mg base C k "__len__" ["self"] (spGL w K C CH)
  GD : MthD P w K mg base C CH k
  GP : FnG P w K mg base CX0 k "_law_play" ["_law_box_here"] (spPlay K)
  GT : FnG P w K mg base CX0 k "_law_take" ["_law_box_here", "_law_many"] spTake
  GE : FnG P w K mg base CX0 k "_law_deed" ["_law_box_here"] spDeed
  GTo : FnG P w K mg base CX0 k "_law_told_of" ["_law_ground"] (spLTo w K C CH P0)
  GG : FnG P w K mg base CX0 k "_law_gone" ["_law_size", "_law_spot", "_law_deed_here"] (spGone K)
  GM : FnG P w K mg base CX0 k "_law_same" ["_law_found", "_law_due"] (spSame K 9)
theorem scRi : FnScope ["_law_box_here", "_law_play_here", "_law_ground", "_law_turn", "_law_who", "_law_at", "_law_due", "_law_found", "_law_kept", "_law_ones", "_law_deed_here", "_law_told", "_law_spot", "_law_shown", "_law_k", "_law_row"] ["_law_box_here"] (defScope sRi) := ⟨rfl, rfl, rfl, by decide +kernel, rfl, by decide +kernel, by decide +kernel⟩
theorem ok_ri {k kG : Nat} {fm : Addr} {fmd : FuncData} {psm : List Str} (F : Fun K "_law_right" "_law_right" sRi f fd) (c_G : Cls K C) (hkG : kG + 1 ≤ k) (hk1 : 1 ≤ k) (M_Ground : Mk K C fm) (G_Ground : FnOk P w K mg base CX0 kG fm fmd psm (spGI w K C CH)) (b_Ground : Binds K fmd psm []) (m_Ground : mg "Ground" = some (.ref C))
    (D : RightD P w K mg base C CH P0 (k - 1)) (m_list : mg "list" = none) (m_len : mg "len" = none) (m_enumerate : mg "enumerate" = none) (m_range : mg "range" = none) : FnOk P w K mg base CX0 (k + 1) f fd ["_law_box_here"] (spRi P0) := by
  obtain ⟨⟨_, _, M_copy, G_copy0, b_copy⟩, ⟨_, _, M_ones, G_ones, b_ones⟩, ⟨_, _, M_spot, G_spot, b_spot⟩, ⟨_, _, M_is_shown, G_is_shown, b_is_shown⟩, ⟨_, _, G_len, hs_len, hf_len, b_len⟩, ⟨_, _, _, ed, M_do, G_do0, b_do, d_do, hed⟩, ⟨_, _, G__law_play, m__law_play, k__law_play, b__law_play⟩, ⟨_, _, G__law_take, m__law_take, k__law_take, b__law_take⟩, ⟨_, _, G__law_deed, m__law_deed, k__law_deed, b__law_deed⟩, ⟨_, _, G__law_told_of, m__law_told_of, k__law_told_of, b__law_told_of⟩, ⟨_, _, G__law_gone, m__law_gone, k__law_gone, b__law_gone⟩, ⟨_, _, G__law_same, m__law_same, k__law_same, b__law_same⟩⟩ := D
  have G_copy := FnOk.lock0 G_copy0
  have G_do := FnOk.lock0 G_do0
  have d_copy : Vals [] [] := .nil
  have d_ones : Vals [] [] := .nil
  have d_spot : Vals [] [] := .nil
  have d_is_shown : Vals [] [] := .nil
  have sc := scRi
  refine F.ok sc (fun vs H Q E h => ?_) (fun cdv A outer s H vs Q E hr h => ?_)
  · obtain ⟨a, n, rfl, _⟩ := h
    rfl
  obtain ⟨a, n, rfl, hB, hn, hT, q⟩ := h
  refine ⟨_, (pss_cons (ps_set (i := 1) sc.nd rfl (.inl rfl) (pe_call G__law_play (hr.mono (by omega)) (by rfl) m__law_play k__law_play b__law_play .nil pass0 (pa_cons (pv 0) pa_nil)))
      (pss_cons (ps_set (i := 2) sc.nd rfl (.inl rfl) (pe_lock (pe_make M_Ground G_Ground (hr.mono (by omega)) (by rfl) m_Ground b_Ground .nil pass0 (pa_cons (pv 1) pa_nil))))
      (pss_cons (ps_for PassesOwn.never rfl (pi_range1 (by rfl) m_range (pa_cons (pe_call G__law_take (hr.mono (by omega)) (by rfl) m__law_take k__law_take b__law_take .nil pass0 (pa_cons (pv 0) (pa_cons pe_int pa_nil))) pa_nil)) (pg_name (i := 3) sc.nd rfl (.inl rfl)) (pss_one (ps_expr (pe_meth (pv 2) c_G M_copy G_copy (hr.mono (by omega)) b_copy d_copy pass0 (pa_cons (pe_ix ix_list (pe_meth0 (pv 2) c_G M_ones G_ones (hr.mono (by omega)) b_ones d_ones pass0) (pe_call G__law_take (hr.mono (by omega)) (by rfl) m__law_take k__law_take b__law_take .nil pass0 (pa_cons (pv 0) (pa_cons (pe_callB (Fw.call_lenI G_len (hr.mono (by omega)) hs_len hf_len b_len pass0) (by rfl) m_len (by decide +kernel) (pa_cons (pv 2) pa_nil)) pa_nil))) (fun _ _ => rfl)) pa_nil)))))
      (pss_cons (ps_for PassesOwn.never rfl (pi_range1 (by rfl) m_range (pa_cons pe_int pa_nil)) (pg_name (i := 3) sc.nd rfl (.inl rfl)) (pss_cons (ps_par3 (i := 9) (j := 10) (l := 11) (by rfl) sc.nd rfl rfl rfl (by decide) (by decide) (by decide) rfl rfl rfl (pa_cons (pe_meth0 (pv 2) c_G M_ones G_ones (hr.mono (by omega)) b_ones d_ones pass0) (pa_cons (pe_call G__law_deed (hr.mono (by omega)) (by rfl) m__law_deed k__law_deed b__law_deed .nil pass0 (pa_cons (pv 0) pa_nil)) (pa_cons (pe_call G__law_told_of (hr.mono (by omega)) (by rfl) m__law_told_of k__law_told_of b__law_told_of .nil pass0 (pa_cons (pv 2) pa_nil)) pa_nil))) (by rfl))
      (pss_cons (ps_set (i := 4) sc.nd rfl (.inl rfl) (pe_ix ix_list (pv 9) (pe_call G__law_take (hr.mono (by omega)) (by rfl) m__law_take k__law_take b__law_take .nil pass0 (pa_cons (pv 0) (pa_cons (pe_callB call_len_seq (by rfl) m_len (by decide +kernel) (pa_cons (pv 9) pa_nil)) pa_nil))) (fun _ _ => rfl)))
      (pss_cons (ps_par (i := 12) (j := 13) (by rfl) sc.nd rfl rfl (by decide) rfl rfl (pa_cons (pe_meth (pv 2) c_G M_spot G_spot (hr.mono (by omega)) b_spot d_spot pass0 (pa_cons (pv 4) pa_nil)) (pa_cons (pe_meth (pv 2) c_G M_is_shown G_is_shown (hr.mono (by omega)) b_is_shown d_is_shown pass0 (pa_cons (pv 4) pa_nil)) pa_nil)) (by rfl))
      (pss_cons (ps_set (i := 5) sc.nd rfl (.inr rfl) (pe_op op_add pe_int (pe_op op_mul pe_int (pe_bm PySem.F.plainAttrs_list PySem.F.slot_list_index PySem.F.type_list_index (mt_indexD (hu65 hr)) (pv 9) (pa_cons (pv 4) pa_nil)))))
      (pss_cons (ps_if (pt_cmpR op_notN (pe_meth (pv 2) c_G M_do G_do (hr.mono (by omega)) b_do d_do pass0 (pa_cons (pe_ix ix_list (pe_lst (pa_cons (pv 4) (pa_cons (pe_callTy (show CallR _ (.type "list") (rListO K) from call_list_of) (by rfl) m_list (by decide +kernel) (pa_cons (pv 4) pa_nil)) pa_nil))) (pe_call G__law_take (hr.mono (by omega)) (by rfl) m__law_take k__law_take b__law_take .nil pass0 (pa_cons (pv 0) (pa_cons pe_int pa_nil))) (fun _ _ => rfl)) (pa_cons (pe_ix ix_list (pe_lst (pa_cons (pv 10) (pa_cons (pe_callTy (show CallR _ (.type "list") (rListO K) from call_list_of) (by rfl) m_list (by decide +kernel) (pa_cons (pv 10) pa_nil)) pa_nil))) (pe_call G__law_take (hr.mono (by omega)) (by rfl) m__law_take k__law_take b__law_take .nil pass0 (pa_cons (pv 0) (pa_cons pe_int pa_nil))) (fun _ _ => rfl)) pa_nil))) pe_non (nomark _)) (pss_one (ps_ret pe_bl)) pss_nil)
      (pss_cons (ps_set (i := 6) sc.nd rfl (.inl rfl) (pe_lst (pa_cons (pe_call G__law_gone (hr.mono (by omega)) (by rfl) m__law_gone k__law_gone b__law_gone .nil pass0 (pa_cons (pe_ix ix_tup (pv 1) pe_int (fun _ _ => rfl)) (pa_cons (pv 12) (pa_cons (pv 10) pa_nil)))) (pa_cons (pv 13) pa_nil))))
      (pss_cons (ps_if (pt_cmpR op_in_seq (pe_ix ix_tup (pv 10) pe_int (fun _ _ => rfl)) (pe_tup (pa_cons pe_str (pa_cons pe_str pa_nil))) (by rfl)) (pss_one (ps_set (i := 6) sc.nd rfl (.inl rfl) (pe_lst (pa_cons (pv 12) (pa_cons (pe_cmpR op_eq (pe_ix ix_tup (pv 10) pe_int (fun _ _ => rfl)) pe_str (nomark _)) pa_nil))))) pss_nil)
      (pss_cons (ps_set (i := 7) sc.nd rfl (.inl rfl) (pe_call G__law_told_of (hr.mono (by omega)) (by rfl) m__law_told_of k__law_told_of b__law_told_of .nil pass0 (pa_cons (pv 2) pa_nil)))
      (pss_cons (ps_if (PW.pt (pw_or (pt_not (pt_val (pe_call G__law_same (hr.mono (by omega)) (by rfl) m__law_same k__law_same b__law_same .nil pass0 (pa_cons (pe_slice sl_list (pe_ix ix_list (pv 7) (pv 5) (fun _ _ => rfl)) po_none (po_some pe_int)) (pa_cons (pv 6) pa_nil))))) (pw_or1 (pt_cmpR (op_neD hr.units) (pe_slice sl_list (pe_ix ix_list (pv 7) (pv 5) (fun _ _ => rfl)) (po_some pe_int) po_none) (pe_slice sl_list (pe_ix ix_list (pv 11) (pv 5) (fun _ _ => rfl)) (po_some pe_int) po_none) (nomark _))))) (pss_one (ps_ret pe_bl)) pss_nil)
      (pss_cons (ps_setLc (i := 8) (own := [("_law_k", 14), ("_law_row", 15)]) (g := gTup K 2 (gCons (gName 14) (gCons (gName 15) gNil))) (by rfl) sc.nd rfl rfl (sw_true rfl rfl rfl (by decide +kernel)) (pi_enum (by rfl) m_enumerate (pa_cons (pv 7) pa_nil)) (blkOk_by (own := [("_law_k", 14), ("_law_row", 15)]) (N := ["_law_box_here", "_law_play_here", "_law_ground", "_law_turn", "_law_who", "_law_at", "_law_due", "_law_found", "_law_kept", "_law_ones", "_law_deed_here", "_law_told", "_law_spot", "_law_shown", "_law_k", "_law_row"]) (sc := defScope sRi) (by decide +kernel)) (fun _ _ _ _ _ => (pg_tup (by rfl) (pgs_cons (pg_name (i := 14) sc.nd rfl (.inl rfl)) (pgs_cons (pg_name (i := 15) sc.nd rfl (.inl rfl)) pgs_nil)))) (fun _ _ _ _ _ => (pts_one (PW.pt (pw_or (pt_cmpR op_lt (pv 14) pe_int (nomark _)) (pw_or1 (PW.pt (pw_and (pt_cmpR op_eq (pe_op op_mod (pv 14) pe_int) pe_int (nomark _)) (pw_and1 (pt_cmpR op_ne (pv 14) (pv 5) (nomark _)))))))))) (fun _ _ _ _ _ => (pv 15)))
      (pss_one (ps_if (pt_cmpR (op_neD hr.units) (pv 8) (pe_lc (own := [("_law_k", 14), ("_law_row", 15)]) (g := gTup K 2 (gCons (gName 14) (gCons (gName 15) gNil))) (by rfl) sc.nd  (pi_enum (by rfl) m_enumerate (pa_cons (pv 11) pa_nil)) (blkOk_by (own := [("_law_k", 14), ("_law_row", 15)]) (N := ["_law_box_here", "_law_play_here", "_law_ground", "_law_turn", "_law_who", "_law_at", "_law_due", "_law_found", "_law_kept", "_law_ones", "_law_deed_here", "_law_told", "_law_spot", "_law_shown", "_law_k", "_law_row"]) (sc := defScope sRi) (by decide +kernel)) (fun _ _ _ _ _ => (pg_tup (by rfl) (pgs_cons (pg_name (i := 14) sc.nd rfl (.inl rfl)) (pgs_cons (pg_name (i := 15) sc.nd rfl (.inl rfl)) pgs_nil)))) (fun _ _ _ _ _ => (pts_one (PW.pt (pw_or (pt_cmpR op_lt (pv 14) pe_int (nomark _)) (pw_or1 (PW.pt (pw_and (pt_cmpR op_eq (pe_op op_mod (pv 14) pe_int) pe_int (nomark _)) (pw_and1 (pt_cmpR op_ne (pv 14) (pv 5) (nomark _)))))))))) (fun _ _ _ _ _ => (pv 15))) (nomark _)) (pss_one (ps_ret pe_bl)) pss_nil)))))))))))))
      (pss_one (ps_ret pe_bl)))))), ?_⟩
  refine ⟨_, rfl, a, n, rfl, hB, by omega, fun v G0 H1 s1 B1 px dr => ?_⟩
  obtain ⟨b0, b1, b2, hba, hbx⟩ := id B1
  have T1 : Tabs (TT P0) H1 := tabs_all hT fun b o e k => s1 b o (fun z => by
    obtain ⟨c0, c1, c2, hc, _⟩ := hB
    rw [z, hc] at e
    cases e
    rcases k with ⟨_, k⟩ | ⟨_, k⟩ <;> cases k) e
  refine ⟨a, _, hba, trivial, fun oa => ⟨_, rfl, fun y dy ny ndy nyd => ?_⟩⟩
  have ay : y ≠ a := fun z => by rw [z, upd_same] at ny; cases ny
  have ady : dy ≠ a := fun z => by rw [z, upd_same] at ndy; cases ndy
  have ny1 : H1 y = none := by rw [upd_ne ay] at ny; exact ny
  have ndy1 : H1 dy = none := by rw [upd_ne ady] at ndy; exact ndy
  have ka : ∀ {b u}, b ≠ a → H1 b = some u → (upd (upd (upd H1 a (.frz oa (.lst [V.int b0, .int b1, .int b2]))) dy (.own y)) y (.ins C dy [])) b = some u := fun {b u} n e => by
    rw [upd_ne (ne_of_none e ny1), upd_ne (ne_of_none e ndy1), upd_ne n]
    exact e
  have fa : (upd (upd (upd H1 a (.frz oa (.lst [V.int b0, .int b1, .int b2]))) dy (.own y)) y (.ins C dy [])) a = some (.frz oa (.lst [V.int b0, .int b1, .int b2])) := by
    rw [upd_ne (Ne.symm ay), upd_ne (Ne.symm ady)]
    exact upd_same
  have yy : (upd (upd (upd H1 a (.frz oa (.lst [V.int b0, .int b1, .int b2]))) dy (.own y)) y (.ins C dy [])) y = some (.ins C dy []) := upd_same
  generalize upd (upd (upd H1 a (.frz oa (.lst [V.int b0, .int b1, .int b2]))) dy (.own y)) y (.ins C dy []) = HE at *
  have TE : TS H1 HE := ⟨fun b xs e => ka (ne_of e hba nofun) e, fun b o xs e => ka (ne_of e hba nofun) e⟩
  have tbE : Tabs (TT P0) HE := tabs_all T1 fun b o e k => ka (fun z => by
    rw [z, hba] at e
    cases e
    rcases k with ⟨_, k⟩ | ⟨_, k⟩ <;> cases k) e
  refine ⟨y, dy, v, G0, rfl, yy, (px.ts TE).in_, dr.ok, fun H2 bl hg => ⟨rfl, ?_⟩⟩
  have fa2 : H2 a = some (.frz oa (.lst [V.int b0, .int b1, .int b2])) := bl a _ (fun z => ay (List.mem_singleton.mp z).symm) fa
  refine ⟨fa2, ?_⟩
  have tb2 : Tabs (TT P0) H2 := tabs_all tbE fun b o e k => bl b o (fun z => by
    rw [List.mem_singleton.mp z, yy] at e
    cases e
    rcases k with ⟨_, k⟩ | ⟨_, k⟩ <;> cases k) e
  have gs := (GsAt.of hg (fun z => by have := dr.one; rw [z] at this; cases this)).rm (S := [a]) (frz1 fa2)
  have k2 : ∀ {b u}, b ≠ a → H1 b = some u → (upd H2 a (.lst [V.int b0, .int b1, .int b2])) b = some u := fun {b u} n e => by
    rw [upd_ne n]
    exact bl b u (fun z => by rw [List.mem_singleton.mp z, ny1] at e; cases e) (ka n e)
  have B3 : Box (upd H2 a (.lst [V.int b0, .int b1, .int b2])) a (n + 3000) := ⟨b0, b1, b2, upd_same, hbx⟩
  have T3 : TS H1 (upd H2 a (.lst [V.int b0, .int b1, .int b2])) := ⟨fun b xs e => k2 (ne_of e hba nofun) e, fun b o xs e => k2 (ne_of e hba nofun) e⟩
  have tb3 : Tabs (TT P0) (upd H2 a (.lst [V.int b0, .int b1, .int b2])) := ul_tabs fa2 tb2
  rw [← rmL_upd (as := [a]) (D := a) (o := .lst [V.int b0, .int b1, .int b2]) (List.mem_singleton.mpr rfl)] at gs
  generalize upd H2 a (.lst [V.int b0, .int b1, .int b2]) = H3 at *
  have but3 : Ba a H H3 := (Ba.but s1).trans fun b u nb e _ _ _ => k2 nb e
  have px3 := px.ts T3
  have st0 : St w K C CH (TT P0) H a y v G0 (gs0 G0) (n + 3000) 4 H3 := by
    refine ⟨B3, gs, fun o ho => ?_, tb3, px3, rfl, rfl, dr.w0, dr.h0, fun o ho => ?_, ?_, ?_, but3⟩
    · obtain ⟨f', hf, rfl⟩ := List.mem_map.mp ho
      exact List.mem_map.mpr ⟨f', hf, rfl⟩
    · obtain ⟨f', hf, rfl⟩ := List.mem_map.mp ho
      exact (dr.f4 f' hf).2.2.2.2.2.2.2
    · show 1 ≤ (G0.figs.map _).length
      rw [List.length_map]; exact dr.one
    · show (G0.figs.map _).length ≤ 4
      rw [List.length_map]; exact dr.few
  clear gs but3 px3 tb3 T3 B3 k2 tb2 fa2 hg bl tbE TE fa yy ka ndy1 ny1 ady ay ny ndy nyd T1 hba hbx px s1
  -- copies
  refine ⟨_, rfl, a, _, 5, rfl, st0.box, by omega, by decide, by decide, fun rc HR rc0 rc1 sR BR => ?_⟩
  have st1 := st0.take sR BR
  refine ⟨rc, rfl, by omega, by omega, for_it walk_range (fun i σ H' => ∃ G, St w K C CH (TT P0) H a y v G0 G (n + 3001 + i) (4 + i) H' ∧ ∃ v3 v4 v5 v6 v7 v8 v9 v10 v11 v12 v13 v14 v15, σ = [some (.ref a), some v, some (.ref y), v3, v4, v5, v6, v7, v8, v9, v10, v11, v12, v13, v14, v15])
    ⟨gs0 G0, st1, none, none, none, none, none, none, none, none, none, none, none, none, none, rfl⟩ (fun _ _ _ _ _ => trivial) ?_ ?_⟩
  · rintro i x σ _ H7 hi ⟨G, st, v3, v4, v5, v6, v7, v8, v9, v10, v11, v12, v13, v14, v15, rfl⟩ ⟨rfl, rfl⟩
    have hi : i < 4 := by omega
    obtain ⟨gdx, ga, gb, gc, gd, hpi⟩ := st.at.get
    refine ⟨_, rfl, y, gdx, _, rfl, hpi, by kernel_rfl, ?_⟩
    refine ⟨_, rfl, y, gdx, _, rfl, hpi, by kernel_rfl, y, G, rfl, st.at, st.inn, st.tb, fun lo H8 bs x1 tb8 nlo hlo pk => ?_⟩
    have st8 := st.ext x1 tb8
    have hpi8 := x1 _ _ hpi nofun
    have nlo8 : lo ≠ a := fun z => by
      obtain ⟨c0, c1, c2, hc, _⟩ := st.box
      exact nlo.ne hc (fun _ => nofun) z.symm
    have lbs := paired_len pk
    have ne := st.ne
    have fw := st.few
    refine ⟨_, rfl, _, rfl, y, gdx, _, rfl, hpi8, y, G, rfl, st8.at, ⟨_, rfl, by omega, by omega⟩, a, _, _, rfl, st8.box, by omega, by omega, by omega, fun r H9 r0 r1 s9 B9 => ?_⟩
    have st9 := st8.take s9 B9
    obtain ⟨j, rfl⟩ : ∃ j : Nat, r = (j : Int) := ⟨r.toNat, by omega⟩
    have hj : j < bs.length := by rw [lbs, srt_len]; omega
    have T9 := TS.box st8.box s9
    obtain ⟨o, ej, hb8⟩ := paired_at pk (List.getElem?_eq_getElem hj)
    have hb := T9.t _ _ hb8
    have hg := srt_mem.mp (List.mem_of_getElem? ej)
    refine ⟨lo, _, (j : Int), .ref bs[j], rfl, rfl, SqL.of (s9 _ _ nlo8 hlo), atI_nat (by rw [List.getElem?_map, List.getElem?_eq_getElem hj]; rfl), ?_⟩
    obtain ⟨c0, c1, c2, hc, hcx⟩ := id st9.box
    refine ⟨a, _, hc, fun oa => ?_⟩
    have gl := lk_in (oa := oa) hc st9.gs
    have hbL : OneT (upd H9 a (.frz oa (.lst [V.int c0, .int c1, .int c2]))) bs[j] o := by
      unfold OneT
      rw [upd_ne (ne_of hb hc nofun)]; exact hb
    obtain ⟨dP, dS, dH, gA⟩ := gl.a
    refine ⟨y, bs[j], dP, dS, dH, G, o, rfl, gA, .inl hbL, hg, by omega, fun t H12 nn fr bl sf ga2 ht nt f12 => ?_⟩
    obtain ⟨k1, k2, k3, k4⟩ := lk_out hc st9.tb gA bl sf ga2.at f12
    refine ⟨G.push { o with no := (nn : Int) }, ⟨⟨c0, c1, c2, k4, hcx.1, hcx.2.1, hcx.2.2.1, hcx.2.2.2.1, by have := hcx.2.2.2.2; omega⟩, k2, fun o' ho' => ?_, k3, st9.pl.ts (k1.ts st9.box), st9.wd, st9.hg, st9.w1, st9.h1, fun o' ho' => ?_, ?_, ?_, st9.but.trans k1⟩, _, _, _, _, _, _, _, _, _, _, _, _, _, rfl⟩
    · rcases List.mem_append.mp (show o' ∈ G.ones ++ [_] from ho') with h | h
      · exact st9.inn _ h
      · rw [List.mem_singleton.mp h]; exact st9.inn o hg
    · rcases List.mem_append.mp (show o' ∈ G.ones ++ [_] from ho') with h | h
      · exact st9.xy _ h
      · rw [List.mem_singleton.mp h]; exact st9.xy o hg
    · show 1 ≤ (G.ones ++ [_]).length
      rw [List.length_append]; exact Nat.le_add_left 1 _
    · show (G.ones ++ [_]).length ≤ 4 + (i + 1)
      rw [List.length_append]
      have := st9.few
      show G.ones.length + 1 ≤ _
      omega
  rintro σ H7 ⟨G, st, v3, v4, v5, v6, v7, v8, v9, v10, v11, v12, v13, v14, v15, rfl⟩
  have st := st.le (n' := n + 3100) (m' := 8) (by omega) (by omega)
  refine ⟨30, rfl, by decide, by decide, for_it walk_range (fun i σ H' => ∃ G, St w K C CH (TT P0) H a y v G0 G (n + 3100 + 10 * i) 8 H' ∧ ∃ v3 v4 v5 v6 v7 v8 v9 v10 v11 v12 v13 v14 v15, σ = [some (.ref a), some v, some (.ref y), v3, v4, v5, v6, v7, v8, v9, v10, v11, v12, v13, v14, v15])
    ⟨G, st, v3, v4, v5, v6, v7, v8, v9, v10, v11, v12, v13, v14, v15, rfl⟩ (fun _ _ _ _ _ => trivial) ?_ ?_⟩
  · clear st v3 v4 v5 v6 v7 v8 v9 v10 v11 v12 v13 v14 v15
    rintro i x σ _ H7 hi ⟨G, st, v3, v4, v5, v6, v7, v8, v9, v10, v11, v12, v13, v14, v15, rfl⟩ ⟨rfl, rfl⟩
    have hi : i < 30 := hi
    obtain ⟨gdx, ga, gb, gc, gd, hpi⟩ := st.at.get
    refine ⟨_, rfl, y, gdx, _, rfl, hpi, by kernel_rfl, y, G, rfl, st.at, st.inn, st.tb, fun lo H8 bs x1 tb8 nlo hlo pk => ?_⟩
    have st8 := st.ext x1 tb8
    have nlo8 : lo ≠ a := fun z => by
      obtain ⟨c0, c1, c2, hc, _⟩ := st.box
      exact nlo.ne hc (fun _ => nofun) z.symm
    have lbs := paired_len pk
    refine ⟨_, rfl, a, _, rfl, st8.box, by omega, fun t z is H9 kz wz s9 B9 et nt => ?_⟩
    have st9 := st8.take s9 B9
    have T9 := TS.box st8.box s9
    have pk9 := L2.Paired.mapP pk fun _ _ e => T9.t _ _ e
    have hlo9 := s9 _ _ nlo8 hlo
    clear pk hlo s9 B9 T9 nlo x1 tb8 st
    refine ⟨_, rfl, y, G, rfl, st9.at, st9.inn, st9.tb, fun tv H10 as x2 tb10 tr fr => ⟨_, _, _, rfl, ?_⟩⟩
    have st10 := st9.ext x2 tb10
    have aas : a ∉ as := fun hm => by
      obtain ⟨c0, c1, c2, hc, _⟩ := st9.box
      obtain ⟨ps, q⟩ := fr a hm _ hc
      cases q
    have pk10 := L2.Paired.mapP pk9 fun _ _ e => x2 _ _ e nofun
    have hlo10 := x2 _ _ hlo9 nofun
    have et10 := x2 _ _ et nofun
    clear pk9 hlo9 et x2 tb10 fr st9
    show tSeq _ _ _ [some (.ref a), some v, some (.ref y), _, _, _, _, _, _, some (.ref lo), some (.ref t), some tv, _, _, _, _] H10
    have ne := st10.ne
    have fw := st10.few
    refine ⟨_, rfl, _, rfl, _, rfl, lo, _, rfl, .inl (SqL.of hlo10), a, _, _, rfl, st10.box, by omega, by rw [List.length_map, lbs, srt_len]; omega, by rw [List.length_map, lbs, srt_len]; omega, fun r H11 r0 r1 s11 B11 => ?_⟩
    rw [List.length_map] at r1
    obtain ⟨j, rfl⟩ : ∃ j : Nat, r = (j : Int) := ⟨r.toNat, by omega⟩
    have hj : j < bs.length := by omega
    have kp11 := (Ba.but s11).kp st10.box aas
    have T11 := TS.box st10.box s11
    obtain ⟨o, ej, hb10⟩ := paired_at pk10 (List.getElem?_eq_getElem hj)
    have hb := T11.t _ _ hb10
    have hg := srt_mem.mp (List.mem_of_getElem? ej)
    have pk11 := L2.Paired.mapP pk10 fun _ _ e => T11.t _ _ e
    have hlo := s11 _ _ nlo8 hlo10
    have et11 := T11.t _ _ et10
    have tr11 := tr_kp _ _ _ kp11 tr
    have st11 := st10.take s11 B11
    refine ⟨lo, _, (j : Int), .ref bs[j], rfl, rfl, SqL.of hlo, atI_nat (by rw [List.getElem?_map, List.getElem?_eq_getElem hj]; rfl), ?_⟩
    clear hb10 pk10 hlo10 et10 tr s11 B11 kp11 T11 st10
    show tSeq _ _ _ [some (.ref a), some v, some (.ref y), _, some (.ref bs[j]), _, _, _, _, some (.ref lo), some (.ref t), some tv, _, _, _, _] H11
    obtain ⟨gdx, ga, gb, gc, gd, hpi⟩ := st11.at.get
    refine ⟨_, rfl, y, gdx, _, rfl, hpi, by kernel_rfl, _, rfl, y, bs[j], G, o, rfl, st11.at, .inl hb, hg, fun sp H12 s12 hsp => ⟨_, rfl, y, gdx, _, rfl, s12 _ _ hpi, by kernel_rfl, _, rfl, y, bs[j], G, o, rfl, st11.at.same s12, .inl (s12 _ _ hb), hg, fun H13 s13 => ⟨_, _, rfl, ?_⟩⟩⟩
    have sA := s12.trans s13
    have st13 := st11.same sA
    have hb13 := sA _ _ hb
    have et13 := sA _ _ et11
    have tr13 := tr_kp _ _ _ (Kp.same sA) tr11
    have hlo13 := sA _ _ hlo
    have pk13 := L2.Paired.mapP pk11 fun _ _ e => sA _ _ e
    have hsp13 := seqT s13 hsp
    have hpi13 := sA _ _ hpi
    clear hb et11 tr11 hlo pk11 hsp s12 s13 st11 hpi
    show tSeq _ _ _ [some (.ref a), some v, some (.ref y), _, some (.ref bs[j]), _, _, _, _, some (.ref lo), some (.ref t), some tv, some (.ref sp), some (.bl o.sh), _, _] H13
    have ok := st13.gs.ok
    have eidx : ∀ (m : Nat) (z' : PyData), m < j → (G.srt.map oneP)[m]? = some z' → PyData.eqv z' (oneP o) = false := fun m z' hm e => by
      rw [List.getElem?_map] at e
      obtain ⟨x, ex, rfl⟩ := Option.map_eq_some_iff.mp e
      rw [eqv_one, decide_eq_false fun hk => ?_]
      have := key_nth (srt_nd ok) ex ej hk
      omega
    refine ⟨_, rfl, .inl ⟨rfl, _, SqL.of hlo13⟩, _, rfl, lo, .ref bs[j], oneP o, G.srt.map oneP, j, oneP o, rfl, rfl, .lst (SqL.of hlo13) (dp_ones pk13), dp_one hb13, shapedL fun x hx => ok.st x (srt_mem.mp hx), shaped_one (ok.st o hg), by rw [List.getElem?_map, ej]; rfl, by rw [eqv_one]; exact decide_eq_true rfl, eidx, _, _, rfl, rfl, .inl ⟨by decide, by decide⟩, _, _, rfl, rfl, ?_⟩
    clear hlo13 pk13 eidx
    show tSeq _ _ _ [some (.ref a), some v, some (.ref y), _, some (.ref bs[j]), some (.int (4 + 2 * (j : Int))), _, _, _, some (.ref lo), some (.ref t), some tv, some (.ref sp), some (.bl o.sh), _, _] H13
    refine ⟨_, rfl, y, gdx, _, rfl, hpi13, by kernel_rfl, ?_⟩
    -- who, as a tuple or a list
    refine ⟨_, rfl, _, rfl, bs[j], _, rfl, .inr (.inl (.inl hb13)), fun l1 n1 => ⟨by show 2 ≤ sizeLine; decide, fun L1 m1 => ?_⟩⟩
    have c1 := same_upd (o := .lst [V.str o.f.nm, .int o.no]) n1
    have g1 := upd_same (H := H13) (a := l1) (o := .lst [V.str o.f.nm, .int o.no])
    generalize upd H13 l1 (.lst [V.str o.f.nm, .int o.no]) = H14 at *
    have c2 := same_upd (o := .lst [V.ref bs[j], .ref l1]) m1
    have g2 := upd_same (H := H14) (a := L1) (o := .lst [V.ref bs[j], .ref l1])
    generalize upd H14 L1 (.lst [V.ref bs[j], .ref l1]) = H15 at *
    have sB := c1.trans c2
    have st15 := st13.same sB
    have al1 := st13.box.ne n1
    have aL1 := (st13.same c1).box.ne m1
    refine ⟨_, rfl, a, _, 2, rfl, st15.box, by omega, by decide, by decide, fun r1' H16 r10' r11' s16 B16 => ?_⟩
    have st16 := st15.take s16 B16
    have hL1 := s16 _ _ aL1.symm g2
    have hl1 := s16 _ _ al1.symm (c2 _ _ g1)
    have T16 := (TS.same sB).trans (TS.box st15.box s16)
    have hb16 := T16.t _ _ hb13
    obtain ⟨b', eb', ba', hbv⟩ : ∃ b', atI [V.ref bs[j], .ref l1] r1' = some (.ref b') ∧ b' ≠ a ∧ OneV K H16 b' o := by
      obtain ⟨c0, c1, c2, hc, _⟩ := st16.box
      have : r1' = 0 ∨ r1' = 1 := by omega
      rcases this with rfl | rfl
      · exact ⟨bs[j], rfl, ne_of hb16 hc nofun, .inl hb16⟩
      · exact ⟨l1, rfl, al1.symm, .inr (SqL.of hl1)⟩
    refine ⟨L1, _, r1', .ref b', rfl, rfl, SqL.of hL1, eb', ?_⟩
    have et16 := T16.t _ _ et13
    have tr16 := tr_kp _ _ _ ((Ba.but s16).kp st15.box aas) (tr_kp _ _ _ (Kp.same sB) tr13)
    have hsp16 := sqT_ts hsp13 T16
    clear hb13 et13 tr13 hsp13 hpi13 T16 sB st15 hL1 hl1 eb' c1 c2 g1 g2 n1 m1 s16 B16 st13 hb16 al1 aL1
    refine ⟨_, rfl, _, rfl, t, _, rfl, .inr (.inl (.inl et16)), fun l1 n1 => ⟨by show 2 ≤ sizeLine; decide, fun L1 m1 => ?_⟩⟩
    have c1 := same_upd (o := .lst (V.str z :: is.map V.int)) n1
    have g1 := upd_same (H := H16) (a := l1) (o := .lst (V.str z :: is.map V.int))
    generalize upd H16 l1 (.lst (V.str z :: is.map V.int)) = H17 at *
    have c2 := same_upd (o := .lst [V.ref t, .ref l1]) m1
    have g2 := upd_same (H := H17) (a := L1) (o := .lst [V.ref t, .ref l1])
    generalize upd H17 L1 (.lst [V.ref t, .ref l1]) = H18 at *
    have sB := c1.trans c2
    have st18 := st16.same sB
    have al1 := st16.box.ne n1
    have aL1 := (st16.same c1).box.ne m1
    refine ⟨_, rfl, a, _, 2, rfl, st18.box, by omega, by decide, by decide, fun r2' H19 r20' r21' s19 B19 => ?_⟩
    have st19 := st18.take s19 B19
    have hL1 := s19 _ _ aL1.symm g2
    have hl1 := s19 _ _ al1.symm (c2 _ _ g1)
    have T19 := (TS.same sB).trans (TS.box st18.box s19)
    have et19 := T19.t _ _ et16
    obtain ⟨d', ed', da', hdv⟩ : ∃ d', atI [V.ref t, .ref l1] r2' = some (.ref d') ∧ d' ≠ a ∧ (SqL K H19 d' (.str z :: is.map V.int) ∨ SqT K H19 d' (.str z :: is.map V.int)) := by
      obtain ⟨c0, c1, c2, hc, _⟩ := st19.box
      have : r2' = 0 ∨ r2' = 1 := by omega
      rcases this with rfl | rfl
      · exact ⟨t, rfl, ne_of et19 hc nofun, .inr (.inl (.inl et19))⟩
      · exact ⟨l1, rfl, al1.symm, .inl (SqL.of hl1)⟩
    refine ⟨L1, _, r2', .ref d', rfl, rfl, SqL.of hL1, ed', ?_⟩
    have tr19 := tr_kp _ _ _ ((Ba.but s19).kp st18.box aas) (tr_kp _ _ _ (Kp.same sB) tr16)
    have hsp19 := sqT_ts hsp16 T19
    have hbv19 : OneV K H19 b' o := (hbv.same sB).but ba' s19
    have hba' := ba'
    clear et16 tr16 hsp16 T19 sB st18 hL1 hl1 ed' c1 c2 g1 g2 n1 m1 s19 B19 st16 al1 aL1 hbv
    replace st19 := st19.le (n' := n + 3100 + 10 * (i + 1)) (by omega) (Nat.le_refl _)
    obtain ⟨i0, ei⟩ := List.mem_iff_getElem?.mp hg
    have xy := st19.xy o hg
    obtain ⟨o', dd, hk, hns, hrs, xy', wh⟩ := kind_deed (o := o) (G := G) rfl rfl kz st19.w1 st19.h1 xy
    have li : is.length ≤ 100 := by
      rcases kz with ⟨_, i, e⟩ | ⟨_, i, e⟩ | ⟨_, i, k, e⟩ | ⟨_, e⟩ | ⟨_, e⟩ <;> rw [e] <;> simp
    obtain ⟨c0, c1, c2, hc, hcx⟩ := id st19.box
    refine ⟨a, _, hc, fun oa => ?_⟩
    have gl := lk_in (oa := oa) hc st19.gs
    have kL : ∀ {b u}, b ≠ a → H19 b = some u → (upd H19 a (.frz oa (.lst [V.int c0, .int c1, .int c2]))) b = some u := fun {b u} n e => by rw [upd_ne n]; exact e
    have sL : But a H19 (upd H19 a (.frz oa (.lst [V.int c0, .int c1, .int c2]))) := fun b u n e => kL n e
    obtain ⟨dP, dS, dH, gA⟩ := gl.a
    have hdL : Sq K (upd H19 a (.frz oa (.lst [V.int c0, .int c1, .int c2]))) d' (.str z :: is.map V.int) := hdv.elim (fun h => .inl (sq_but h da' sL)) fun h => .inr (sqT_but h da' sL)
    have bL : OneV K (upd H19 a (.frz oa (.lst [V.int c0, .int c1, .int c2]))) b' o := hbv19.but hba' sL
    refine ⟨y, b', d', ed, dP, dS, dH, z, is, G, i0, o, o', rfl, gA, bL, ei, hdL, li, wz, hed _, dd, fun Hx bl sf ga2 fx => ?_⟩
    obtain ⟨k1, k2, k3, k4⟩ := lk_out hc st19.tb gA bl sf ga2.at fx
    have km : (G.put i0 o').ones.map One.key = G.ones.map One.key := map_set_same ei hk
    have st20 : St w K C CH (TT P0) H a y v G0 (G.put i0 o') (n + 3100 + 10 * (i + 1)) 8 (upd Hx a (.lst [V.int c0, .int c1, .int c2])) := by
      refine ⟨⟨c0, c1, c2, k4, hcx⟩, k2, put_in st19.inn ei hk, k3, st19.pl.ts (k1.ts st19.box), st19.wd, st19.hg, st19.w1, st19.h1, fun o1 ho1 => ?_, ?_, ?_, st19.but.trans k1⟩
      · rcases List.mem_or_eq_of_mem_set (show o1 ∈ G.ones.set i0 o' from ho1) with h | h
        · exact st19.xy o1 h
        · rw [h]; exact xy'
      · show 1 ≤ (G.ones.set i0 o').length
        rw [List.length_set]; exact st19.ne
      · show (G.ones.set i0 o').length ≤ 8
        rw [List.length_set]; exact st19.few
    have tr20 := tr_kp _ _ _ (k1.kp st19.box aas) tr19
    have hsp20 := sqT_ts hsp19 (k1.ts st19.box)
    have et20 := (k1.ts st19.box).t _ _ et19
    have eW := st19.wd
    have eH := st19.hg
    have w1 := st19.w1
    have h1 := st19.h1
    generalize upd Hx a (.lst [V.int c0, .int c1, .int c2]) = H20 at *
    clear k1 k2 k3 k4 fx sf bl ga2 gA bL hdL sL kL gl hc hcx hbv19 hdv tr19 hsp19 et19 dd
    refine ⟨rfl, _, rfl, ?_⟩
    rw [show (!decide (V.non = V.non)) = false from by rw [decide_eq_true rfl]; rfl]
    refine ifFF ?_
    obtain ⟨pa, psz, pn, pl, pf, fs, ev, p1, p2, p3⟩ := id st20.pl
    obtain ⟨u, eu⟩ : ∃ u : Nat, o.f.w = u := ⟨o.f.w.toNat, by omega⟩
    refine ⟨_, rfl, pa, _, 0, .ref psz, ev, rfl, p1, atI_nat (j := 0) rfl, _, rfl, _, rfl, psz, sp, t, z, is, G0.wide, G0.high, o.f.x, o.f.y, u, rfl, p2, by rw [← eu]; exact hsp20, .inl (.inl et20), kz, by omega, by omega, by omega, xy.1, by omega, xy.2.2.1, by omega, fun g H21 g1 g2 g3 s21 hgt mg => ⟨_, rfl, by show 2 ≤ sizeLine; decide, fun dl ndl => ?_⟩⟩
    have c1 := same_upd (o := .lst [V.ref g, .bl o.sh]) ndl
    have hdl := upd_same (H := H21) (a := dl) (o := .lst [V.ref g, .bl o.sh])
    replace hgt := seqT c1 hgt
    generalize upd H21 dl (.lst [V.ref g, .bl o.sh]) = H22 at *
    have s22 := s21.trans c1
    have et22 := s22 _ _ et20
    have hsp22 := seqT s22 hsp20
    show tSeq _ _ _ [some (.ref a), some v, some (.ref y), _, some (.ref bs[j]), some (.int (4 + 2 * (j : Int))), some (.ref dl), _, _, some (.ref lo), some (.ref t), some tv, some (.ref sp), some (.bl o.sh), _, _] H22
    refine ⟨_, rfl, t, _, 0, .str z, rfl, rfl, .inl (.inl et22), atI_nat (j := 0) rfl, by show 2 ≤ sizeLine; decide, fun tt ntt => ?_⟩
    have c3 := same_upd (o := .tup [V.str "show", .str "hide"]) ntt
    have ett := upd_same (H := H22) (a := tt) (o := .tup [V.str "show", .str "hide"])
    generalize upd H22 tt (.tup [V.str "show", .str "hide"]) = H23 at *
    have s23 := s22.trans c3
    refine ⟨tt, _, rfl, .inr (.inl (.inl ett)), rfl, rfl, _, rfl, ?_⟩
    have st23 := st20.same s23
    have tr23 := tr_kp _ _ _ (Kp.same s23) tr20
    rcases wh with ⟨hz, ef, es⟩ | ⟨hz, es, r, hr1, ex, ey, ew⟩
    · rw [show inV (V.str z) [V.str "show", .str "hide"] = true from by rcases hz with rfl | rfl <;> decide +kernel]
      refine ifTT ⟨_, rfl, _, rfl, t, _, 0, .str z, rfl, rfl, .inl (.inl (c3 _ _ et22)), atI_nat (j := 0) rfl, rfl, by show 2 ≤ sizeLine; decide, fun dl nl => ?_⟩
      have c4 := same_upd (o := .lst [V.ref sp, .bl (decide (V.str z = V.str "show"))]) nl
      have hdl := upd_same (H := H23) (a := dl) (o := .lst [V.ref sp, .bl (decide (V.str z = V.str "show"))])
      generalize upd H23 dl (.lst [V.ref sp, .bl (decide (V.str z = V.str "show"))]) = H30 at *
      rw [← es] at hdl
      have hgt : SqT K H30 sp [.int o'.f.x, .int o'.f.y, .int o'.f.w] := by rw [ef]; exact seqT (c3.trans c4) hsp22
      have st30 := st23.same c4
      have tr30 := tr_kp _ _ _ (Kp.same c4) tr23
      clear st23 tr23 c4 c3 ett et22 hsp22 s23 s22 nl
      show tSeq _ _ _ [some (.ref a), some v, some (.ref y), _, some (.ref bs[j]), some (.int (4 + 2 * (j : Int))), some (.ref dl), _, _, some (.ref lo), some (.ref t), some tv, some (.ref sp), some (.bl o.sh), _, _] H30
      refine ⟨_, rfl, y, _, rfl, st30.at, st30.inn, st30.tb, fun fv H31 as2 x31 tb31 tr2 fr2 => ?_⟩
      have st31 := st30.ext x31 tb31
      have hdl31 := x31 _ _ hdl nofun
      have hgt31 := sqT_extN hgt x31
      have tr31 := tr_kp _ _ _ (Kp.ext x31) tr30
      obtain ⟨fa, fxs, rfl, hfa, hfd⟩ := tr_list tr2
      obtain ⟨ta, txs, rfl, hta, htd⟩ := tr_list tr31
      obtain ⟨rv, erv, drv⟩ := dpAll_pos hfd (dueL_pos (by rw [srt_put ok ei ej hk]; rw [List.getElem?_set, if_pos rfl, if_pos (List.getElem?_eq_some_iff.mp ej).1])).1
      obtain ⟨wv, ewv, dwv⟩ := dpAll_pos htd (dueL_pos ej).1
      obtain ⟨ra, rxs, rfl, hra, hrd⟩ := dp_list drv
      obtain ⟨wa, wxs, rfl, hwa, hwd⟩ := dp_list dwv
      obtain ⟨f0, f1, f2, f3, rfl, d0, d1, d2, d3⟩ := dp_four hrd
      obtain ⟨w0, w1, w2, w3, rfl, e0, e1, e2, e3⟩ := dp_four hwd
      show tSeq _ _ _ [some (.ref a), some v, some (.ref y), _, some (.ref bs[j]), some (.int (4 + 2 * (j : Int))), some (.ref dl), some (.ref fa), _, some (.ref lo), some (.ref t), some (.ref ta), some (.ref sp), some (.bl o.sh), _, _] H31
      refine ⟨_, rfl, _, rfl, fa, _, ((4 + 2 * j : Nat) : Int), .ref ra, rfl, by push_cast; rfl, SqL.of hfa, atI_nat erv, _, rfl, ra, _, rfl, hra, fun l1 n1 => ?_⟩
      rw [show cutV [f0, f1, f2, f3] none (some 2) = [f0, f1] from cut_to _ 2]
      have c1 := same_upd (o := .lst [f0, f1]) n1
      have g1 := upd_same (H := H31) (a := l1) (o := .lst [f0, f1])
      generalize upd H31 l1 (.lst [f0, f1]) = H32 at *
      refine ⟨_, rfl, .ref l1, .ref dl, .list [spotD o'.f, .bool o'.sh], rfl, .lst (SqL.of g1) (.cons (dp_same c1 _ _ d0) (.cons (dp_same c1 _ _ d1) .nil)), .lst (SqL.of (c1 _ _ hdl31)) (.cons (.tup (seqT c1 hgt31) (.cons (.int _) (.cons (.int _) (.cons (.int _) .nil)))) (.cons (.bl _) .nil)), okd_list (n := 8) (by show 2 ≤ 1000; decide) (mem_c (okd_spot (n := 6) _ _ _) (mem_c (okd_bool _) mem_0)), fun H33 c2 => ?_⟩
      refine ⟨_, rfl, ifFF ?_⟩
      have s33 := c1.trans c2
      refine ⟨_, rfl, _, rfl, fa, _, ((4 + 2 * j : Nat) : Int), .ref ra, rfl, by push_cast; rfl, SqL.of (s33 _ _ hfa), atI_nat erv, _, rfl, ra, _, rfl, s33.seq hra, fun l2 n2 => ?_⟩
      rw [show cutV [f0, f1, f2, f3] (some 2) none = [f2, f3] from cut_from _ 2]
      have c3 := same_upd (o := .lst [f2, f3]) n2
      have g2 := upd_same (H := H33) (a := l2) (o := .lst [f2, f3])
      generalize upd H33 l2 (.lst [f2, f3]) = H34 at *
      have s34 := s33.trans c3
      refine ⟨_, rfl, _, rfl, ta, _, ((4 + 2 * j : Nat) : Int), .ref wa, rfl, by push_cast; rfl, SqL.of (s34 _ _ hta), atI_nat ewv, _, rfl, wa, _, rfl, s34.seq hwa, fun l3 n3 => ?_⟩
      rw [show cutV [w0, w1, w2, w3] (some 2) none = [w2, w3] from cut_from _ 2]
      have c4 := same_upd (o := .lst [w2, w3]) n3
      have g3 := upd_same (H := H34) (a := l3) (o := .lst [w2, w3])
      generalize upd H34 l3 (.lst [w2, w3]) = HZ at *
      have sZ := s34.trans c4
      have sh2 : Sh 5 (.list [nmD o.f.ns, rwD o.f.rs]) := by
        have hk := ok.fh o hg
        exact .list (mem_c ((sh_nm hk.s1).le (by decide)) (mem_c ((sh_rw hk.s2).le (by decide)) mem_0))
      rw [hns] at d2
      rw [hrs] at d3
      refine ⟨_, _, .lst (SqL.of (c4 _ _ g2)) (.cons (dp_same sZ _ _ d2) (.cons (dp_same sZ _ _ d3) .nil)), .lst (SqL.of g3) (.cons (dp_same sZ _ _ e2) (.cons (dp_same sZ _ _ e3) .nil)), sh2.shaped (by decide), sh2.shaped (by decide), _, rfl, ?_⟩
      rw [SeqAt.eqv_refl _ sh2.l]
      refine ifFF ?_
      have hfZ := sZ _ _ hfa
      have htZ := sZ _ _ hta
      have dfZ := dpAll_same sZ _ _ hfd
      have dtZ := dpAll_same sZ _ _ htd
      have stZ := st31.same sZ
      have lfx : fxs.length ≤ 100 := by rw [dpAll_len hfd, dueL_len, srt_len]; have := st30.few; omega
      have ltx : txs.length ≤ 100 := by rw [dpAll_len htd, dueL_len, srt_len]; have := fw; omega
      clear c1 c2 c3 c4 g1 g2 g3 n1 n2 n3 s33 s34 hra hwa drv dwv d0 d1 d2 d3 e0 e1 e2 e3 hfa hta hfd htd st31 tr31 hdl31 hgt31 erv ewv x31 tb31 tr2 fr2 hrd hwd st30 hdl hgt tr30
      show tSeq _ _ _ [some (.ref a), some v, some (.ref y), _, some (.ref bs[j]), some (.int (4 + 2 * (j : Int))), some (.ref dl), some (.ref fa), _, some (.ref lo), some (.ref t), some (.ref ta), some (.ref sp), some (.bl o.sh), _, _] HZ
      refine ⟨_, rfl, fa, _, rfl, SqL.of hfZ, fun D1 nD1 => lc_it walk_enum (fun i HB => Same HZ HB ∧ HB D1 = some (.lst (keptN (pkp j) 0 (fxs.take i)))) ⟨same_upd nD1, upd_same⟩ (fun _ _ _ h => SqL.of (h.1 _ _ hfZ)) ?_ ?_⟩
      · rintro i v HB HC hi ⟨sm, hD⟩ ⟨T, x, z, rfl, nT, rfl, ex, ez⟩
        cases (Option.some.inj ex)
        dsimp only at ez
        have sT := same_upd (o := .tup [V.int (i : Nat), z]) nT
        have eT := upd_same (H := HB) (a := T) (o := .tup [V.int (i : Nat), z])
        generalize upd HB T (.tup [V.int (i : Nat), z]) = HC at *
        have hi' := (List.getElem?_eq_some_iff.mp ez).1
        have ltk : (fxs.take i).length = i := by rw [List.length_take]; omega
        have tks : keptN (pkp j) 0 (fxs.take (i + 1)) = keptN (pkp j) 0 (fxs.take i) ++ if (pkp j) i then [z] else [] := by
          rw [List.take_succ, ez]
          show keptN (pkp j) 0 (fxs.take i ++ [z]) = _
          rw [keptN_snoc, ltk, Nat.zero_add]
        have yes : (pkp j) i = true → HC D1 = some (.lst (keptN (pkp j) 0 (fxs.take i))) ∧ (keptN (pkp j) 0 (fxs.take i)).length < sizeLine ∧ Same HZ (upd HC D1 (.lst (keptN (pkp j) 0 (fxs.take i) ++ [z]))) ∧ (upd HC D1 (.lst (keptN (pkp j) 0 (fxs.take i) ++ [z]))) D1 = some (.lst (keptN (pkp j) 0 (fxs.take (i + 1)))) := fun c => by
          refine ⟨sT _ _ hD, small1000 (Nat.le_trans keptN_len (by rw [ltk]; omega)), Fd.Same.putN (sm.trans sT) nD1, ?_⟩
          rw [upd_same, tks, if_pos c]
        have no : (pkp j) i = false → Same HZ HC ∧ HC D1 = some (.lst (keptN (pkp j) 0 (fxs.take (i + 1)))) := fun c => by
          refine ⟨sm.trans sT, ?_⟩
          rw [tks, if_neg (by rw [c]; exact Bool.false_ne_true), List.append_nil]
          exact sT _ _ hD
        refine ⟨T, _, rfl, .inl (.inl eT), rfl, _, _, rfl, _, _, rfl, rfl, rfl, ?_⟩
        refine ⟨_, rfl, _, _, rfl, rfl, _, rfl, ?_⟩
        by_cases h4 : (i : Int) < 4
        · rw [decide_eq_true h4]
          have c : (pkp j) i = true := pkp_4 (by omega)
          obtain ⟨y1, y2, y3, y4⟩ := yes c
          exact ifTT (ifTT ⟨_, rfl, _, y1, y2, y3, y4⟩)
        · rw [decide_eq_false h4]
          refine ifFF ⟨_, rfl, _, _, rfl, rfl, (show (0 : Int) < 2 by decide), rfl, _, rfl, ?_⟩
          by_cases h2 : (i : Int) % 2 = 0
          · rw [show decide (V.int ((i : Int) % 2) = V.int 0) = true from decide_eq_true (by rw [h2])]
            refine ifTT ⟨_, rfl, _, rfl, rfl, _, rfl, ?_⟩
            by_cases hat : i = 4 + 2 * j
            · rw [show (!decide (V.int (i : Nat) = V.int (4 + 2 * (j : Int)))) = false from by rw [decide_eq_true (by rw [hat]; push_cast; rfl)]; rfl]
              exact ifFF (no (pkp_at0 hat))
            · rw [show (!decide (V.int (i : Nat) = V.int (4 + 2 * (j : Int)))) = true from by rw [decide_eq_false (fun c => by injection c with c; omega)]; rfl]
              have c : (pkp j) i = true := pkp_y (by omega) hat
              obtain ⟨y1, y2, y3, y4⟩ := yes c
              exact ifTT ⟨_, rfl, _, y1, y2, y3, y4⟩
          · rw [show decide (V.int ((i : Int) % 2) = V.int 0) = false from decide_eq_false (fun c => h2 (by injection c))]
            exact ifFF (ifFF (no (pkp_odd (by omega) (by omega))))
      rintro HY ⟨sY, hD1⟩
      rw [List.take_length] at hD1
      replace htZ := sY _ _ htZ
      replace dfZ := dpAll_same sY _ _ dfZ
      replace dtZ := dpAll_same sY _ _ dtZ
      replace stZ := stZ.same sY
      clear sY sZ hfZ nD1
      generalize HY = HZ at *
      dsimp only [gName, List.set]
      refine ⟨_, rfl, _, rfl, ta, _, rfl, SqL.of htZ, fun D2 nD2 => lc_it walk_enum (fun i HB => Same HZ HB ∧ HB D2 = some (.lst (keptN (pkp j) 0 (txs.take i)))) ⟨same_upd nD2, upd_same⟩ (fun _ _ _ h => SqL.of (h.1 _ _ htZ)) ?_ ?_⟩
      · rintro i v HB HC hi ⟨sm, hD⟩ ⟨T, x, z, rfl, nT, rfl, ex, ez⟩
        cases (Option.some.inj ex)
        dsimp only at ez
        have sT := same_upd (o := .tup [V.int (i : Nat), z]) nT
        have eT := upd_same (H := HB) (a := T) (o := .tup [V.int (i : Nat), z])
        generalize upd HB T (.tup [V.int (i : Nat), z]) = HC at *
        have hi' := (List.getElem?_eq_some_iff.mp ez).1
        have ltk : (txs.take i).length = i := by rw [List.length_take]; omega
        have tks : keptN (pkp j) 0 (txs.take (i + 1)) = keptN (pkp j) 0 (txs.take i) ++ if (pkp j) i then [z] else [] := by
          rw [List.take_succ, ez]
          show keptN (pkp j) 0 (txs.take i ++ [z]) = _
          rw [keptN_snoc, ltk, Nat.zero_add]
        have yes : (pkp j) i = true → HC D2 = some (.lst (keptN (pkp j) 0 (txs.take i))) ∧ (keptN (pkp j) 0 (txs.take i)).length < sizeLine ∧ Same HZ (upd HC D2 (.lst (keptN (pkp j) 0 (txs.take i) ++ [z]))) ∧ (upd HC D2 (.lst (keptN (pkp j) 0 (txs.take i) ++ [z]))) D2 = some (.lst (keptN (pkp j) 0 (txs.take (i + 1)))) := fun c => by
          refine ⟨sT _ _ hD, small1000 (Nat.le_trans keptN_len (by rw [ltk]; omega)), Fd.Same.putN (sm.trans sT) nD2, ?_⟩
          rw [upd_same, tks, if_pos c]
        have no : (pkp j) i = false → Same HZ HC ∧ HC D2 = some (.lst (keptN (pkp j) 0 (txs.take (i + 1)))) := fun c => by
          refine ⟨sm.trans sT, ?_⟩
          rw [tks, if_neg (by rw [c]; exact Bool.false_ne_true), List.append_nil]
          exact sT _ _ hD
        refine ⟨T, _, rfl, .inl (.inl eT), rfl, _, _, rfl, _, _, rfl, rfl, rfl, ?_⟩
        refine ⟨_, rfl, _, _, rfl, rfl, _, rfl, ?_⟩
        by_cases h4 : (i : Int) < 4
        · rw [decide_eq_true h4]
          have c : (pkp j) i = true := pkp_4 (by omega)
          obtain ⟨y1, y2, y3, y4⟩ := yes c
          exact ifTT (ifTT ⟨_, rfl, _, y1, y2, y3, y4⟩)
        · rw [decide_eq_false h4]
          refine ifFF ⟨_, rfl, _, _, rfl, rfl, (show (0 : Int) < 2 by decide), rfl, _, rfl, ?_⟩
          by_cases h2 : (i : Int) % 2 = 0
          · rw [show decide (V.int ((i : Int) % 2) = V.int 0) = true from decide_eq_true (by rw [h2])]
            refine ifTT ⟨_, rfl, _, rfl, rfl, _, rfl, ?_⟩
            by_cases hat : i = 4 + 2 * j
            · rw [show (!decide (V.int (i : Nat) = V.int (4 + 2 * (j : Int)))) = false from by rw [decide_eq_true (by rw [hat]; push_cast; rfl)]; rfl]
              exact ifFF (no (pkp_at0 hat))
            · rw [show (!decide (V.int (i : Nat) = V.int (4 + 2 * (j : Int)))) = true from by rw [decide_eq_false (fun c => by injection c with c; omega)]; rfl]
              have c : (pkp j) i = true := pkp_y (by omega) hat
              obtain ⟨y1, y2, y3, y4⟩ := yes c
              exact ifTT ⟨_, rfl, _, y1, y2, y3, y4⟩
          · rw [show decide (V.int ((i : Int) % 2) = V.int 0) = false from decide_eq_false (fun c => h2 (by injection c))]
            exact ifFF (ifFF (no (pkp_odd (by omega) (by omega))))
      rintro HY ⟨sY, hD2⟩
      rw [List.take_length] at hD2
      have shk : Sh 6 (.list (keptN (pkp j) 0 (dueL G G.srt))) := .list fun d hd => sh_duel ok d (keptN_mem hd)
      have ke := kept_put ok ei ej hk (pkp_at j)
      refine ⟨_, _, .lst (SqL.of (sY _ _ hD1)) (by rw [← ke]; exact keptN_dp (dpAll_same sY _ _ dfZ)), .lst (SqL.of hD2) (keptN_dp (dpAll_same sY _ _ dtZ)), shk.shaped (by decide), shk.shaped (by decide), _, rfl, ?_⟩
      rw [SeqAt.eqv_refl _ shk.l]
      exact ifFF ⟨_, (stZ.same sY).le (by omega) (Nat.le_refl _), _, _, _, _, _, _, _, _, _, _, _, _, _, rfl⟩
    · rw [show inV (V.str z) [V.str "show", .str "hide"] = false from by rcases hz with rfl | rfl | rfl <;> decide +kernel]
      refine ifFF ?_
      obtain ⟨m1, m2, m3⟩ := mg r (by rw [← eu]; exact hr1)
      rw [← eW] at m1
      rw [← eH] at m2
      have hdl := c3 _ _ hdl
      rw [← es] at hdl
      have hgt : SqT K H23 g [.int o'.f.x, .int o'.f.y, .int o'.f.w] := by rw [ex, ey, ew, ← m1, ← m2, ← m3]; exact seqT c3 hgt
      have st30 := st23
      have tr30 := tr23
      clear st23 tr23 c3 ett et22 hsp22 s23 s22
      show tSeq _ _ _ [some (.ref a), some v, some (.ref y), _, some (.ref bs[j]), some (.int (4 + 2 * (j : Int))), some (.ref dl), _, _, some (.ref lo), some (.ref t), some tv, some (.ref sp), some (.bl o.sh), _, _] H23
      refine ⟨_, rfl, y, _, rfl, st30.at, st30.inn, st30.tb, fun fv H31 as2 x31 tb31 tr2 fr2 => ?_⟩
      have st31 := st30.ext x31 tb31
      have hdl31 := x31 _ _ hdl nofun
      have hgt31 := sqT_extN hgt x31
      have tr31 := tr_kp _ _ _ (Kp.ext x31) tr30
      obtain ⟨fa, fxs, rfl, hfa, hfd⟩ := tr_list tr2
      obtain ⟨ta, txs, rfl, hta, htd⟩ := tr_list tr31
      obtain ⟨rv, erv, drv⟩ := dpAll_pos hfd (dueL_pos (by rw [srt_put ok ei ej hk]; rw [List.getElem?_set, if_pos rfl, if_pos (List.getElem?_eq_some_iff.mp ej).1])).1
      obtain ⟨wv, ewv, dwv⟩ := dpAll_pos htd (dueL_pos ej).1
      obtain ⟨ra, rxs, rfl, hra, hrd⟩ := dp_list drv
      obtain ⟨wa, wxs, rfl, hwa, hwd⟩ := dp_list dwv
      obtain ⟨f0, f1, f2, f3, rfl, d0, d1, d2, d3⟩ := dp_four hrd
      obtain ⟨w0, w1, w2, w3, rfl, e0, e1, e2, e3⟩ := dp_four hwd
      show tSeq _ _ _ [some (.ref a), some v, some (.ref y), _, some (.ref bs[j]), some (.int (4 + 2 * (j : Int))), some (.ref dl), some (.ref fa), _, some (.ref lo), some (.ref t), some (.ref ta), some (.ref sp), some (.bl o.sh), _, _] H31
      refine ⟨_, rfl, _, rfl, fa, _, ((4 + 2 * j : Nat) : Int), .ref ra, rfl, by push_cast; rfl, SqL.of hfa, atI_nat erv, _, rfl, ra, _, rfl, hra, fun l1 n1 => ?_⟩
      rw [show cutV [f0, f1, f2, f3] none (some 2) = [f0, f1] from cut_to _ 2]
      have c1 := same_upd (o := .lst [f0, f1]) n1
      have g1 := upd_same (H := H31) (a := l1) (o := .lst [f0, f1])
      generalize upd H31 l1 (.lst [f0, f1]) = H32 at *
      refine ⟨_, rfl, .ref l1, .ref dl, .list [spotD o'.f, .bool o'.sh], rfl, .lst (SqL.of g1) (.cons (dp_same c1 _ _ d0) (.cons (dp_same c1 _ _ d1) .nil)), .lst (SqL.of (c1 _ _ hdl31)) (.cons (.tup (seqT c1 hgt31) (.cons (.int _) (.cons (.int _) (.cons (.int _) .nil)))) (.cons (.bl _) .nil)), okd_list (n := 8) (by show 2 ≤ 1000; decide) (mem_c (okd_spot (n := 6) _ _ _) (mem_c (okd_bool _) mem_0)), fun H33 c2 => ?_⟩
      refine ⟨_, rfl, ifFF ?_⟩
      have s33 := c1.trans c2
      refine ⟨_, rfl, _, rfl, fa, _, ((4 + 2 * j : Nat) : Int), .ref ra, rfl, by push_cast; rfl, SqL.of (s33 _ _ hfa), atI_nat erv, _, rfl, ra, _, rfl, s33.seq hra, fun l2 n2 => ?_⟩
      rw [show cutV [f0, f1, f2, f3] (some 2) none = [f2, f3] from cut_from _ 2]
      have c3 := same_upd (o := .lst [f2, f3]) n2
      have g2 := upd_same (H := H33) (a := l2) (o := .lst [f2, f3])
      generalize upd H33 l2 (.lst [f2, f3]) = H34 at *
      have s34 := s33.trans c3
      refine ⟨_, rfl, _, rfl, ta, _, ((4 + 2 * j : Nat) : Int), .ref wa, rfl, by push_cast; rfl, SqL.of (s34 _ _ hta), atI_nat ewv, _, rfl, wa, _, rfl, s34.seq hwa, fun l3 n3 => ?_⟩
      rw [show cutV [w0, w1, w2, w3] (some 2) none = [w2, w3] from cut_from _ 2]
      have c4 := same_upd (o := .lst [w2, w3]) n3
      have g3 := upd_same (H := H34) (a := l3) (o := .lst [w2, w3])
      generalize upd H34 l3 (.lst [w2, w3]) = HZ at *
      have sZ := s34.trans c4
      have sh2 : Sh 5 (.list [nmD o.f.ns, rwD o.f.rs]) := by
        have hk := ok.fh o hg
        exact .list (mem_c ((sh_nm hk.s1).le (by decide)) (mem_c ((sh_rw hk.s2).le (by decide)) mem_0))
      rw [hns] at d2
      rw [hrs] at d3
      refine ⟨_, _, .lst (SqL.of (c4 _ _ g2)) (.cons (dp_same sZ _ _ d2) (.cons (dp_same sZ _ _ d3) .nil)), .lst (SqL.of g3) (.cons (dp_same sZ _ _ e2) (.cons (dp_same sZ _ _ e3) .nil)), sh2.shaped (by decide), sh2.shaped (by decide), _, rfl, ?_⟩
      rw [SeqAt.eqv_refl _ sh2.l]
      refine ifFF ?_
      have hfZ := sZ _ _ hfa
      have htZ := sZ _ _ hta
      have dfZ := dpAll_same sZ _ _ hfd
      have dtZ := dpAll_same sZ _ _ htd
      have stZ := st31.same sZ
      have lfx : fxs.length ≤ 100 := by rw [dpAll_len hfd, dueL_len, srt_len]; have := st30.few; omega
      have ltx : txs.length ≤ 100 := by rw [dpAll_len htd, dueL_len, srt_len]; have := fw; omega
      clear c1 c2 c3 c4 g1 g2 g3 n1 n2 n3 s33 s34 hra hwa drv dwv d0 d1 d2 d3 e0 e1 e2 e3 hfa hta hfd htd st31 tr31 hdl31 hgt31 erv ewv x31 tb31 tr2 fr2 hrd hwd st30 hdl hgt tr30
      show tSeq _ _ _ [some (.ref a), some v, some (.ref y), _, some (.ref bs[j]), some (.int (4 + 2 * (j : Int))), some (.ref dl), some (.ref fa), _, some (.ref lo), some (.ref t), some (.ref ta), some (.ref sp), some (.bl o.sh), _, _] HZ
      refine ⟨_, rfl, fa, _, rfl, SqL.of hfZ, fun D1 nD1 => lc_it walk_enum (fun i HB => Same HZ HB ∧ HB D1 = some (.lst (keptN (pkp j) 0 (fxs.take i)))) ⟨same_upd nD1, upd_same⟩ (fun _ _ _ h => SqL.of (h.1 _ _ hfZ)) ?_ ?_⟩
      · rintro i v HB HC hi ⟨sm, hD⟩ ⟨T, x, z, rfl, nT, rfl, ex, ez⟩
        cases (Option.some.inj ex)
        dsimp only at ez
        have sT := same_upd (o := .tup [V.int (i : Nat), z]) nT
        have eT := upd_same (H := HB) (a := T) (o := .tup [V.int (i : Nat), z])
        generalize upd HB T (.tup [V.int (i : Nat), z]) = HC at *
        have hi' := (List.getElem?_eq_some_iff.mp ez).1
        have ltk : (fxs.take i).length = i := by rw [List.length_take]; omega
        have tks : keptN (pkp j) 0 (fxs.take (i + 1)) = keptN (pkp j) 0 (fxs.take i) ++ if (pkp j) i then [z] else [] := by
          rw [List.take_succ, ez]
          show keptN (pkp j) 0 (fxs.take i ++ [z]) = _
          rw [keptN_snoc, ltk, Nat.zero_add]
        have yes : (pkp j) i = true → HC D1 = some (.lst (keptN (pkp j) 0 (fxs.take i))) ∧ (keptN (pkp j) 0 (fxs.take i)).length < sizeLine ∧ Same HZ (upd HC D1 (.lst (keptN (pkp j) 0 (fxs.take i) ++ [z]))) ∧ (upd HC D1 (.lst (keptN (pkp j) 0 (fxs.take i) ++ [z]))) D1 = some (.lst (keptN (pkp j) 0 (fxs.take (i + 1)))) := fun c => by
          refine ⟨sT _ _ hD, small1000 (Nat.le_trans keptN_len (by rw [ltk]; omega)), Fd.Same.putN (sm.trans sT) nD1, ?_⟩
          rw [upd_same, tks, if_pos c]
        have no : (pkp j) i = false → Same HZ HC ∧ HC D1 = some (.lst (keptN (pkp j) 0 (fxs.take (i + 1)))) := fun c => by
          refine ⟨sm.trans sT, ?_⟩
          rw [tks, if_neg (by rw [c]; exact Bool.false_ne_true), List.append_nil]
          exact sT _ _ hD
        refine ⟨T, _, rfl, .inl (.inl eT), rfl, _, _, rfl, _, _, rfl, rfl, rfl, ?_⟩
        refine ⟨_, rfl, _, _, rfl, rfl, _, rfl, ?_⟩
        by_cases h4 : (i : Int) < 4
        · rw [decide_eq_true h4]
          have c : (pkp j) i = true := pkp_4 (by omega)
          obtain ⟨y1, y2, y3, y4⟩ := yes c
          exact ifTT (ifTT ⟨_, rfl, _, y1, y2, y3, y4⟩)
        · rw [decide_eq_false h4]
          refine ifFF ⟨_, rfl, _, _, rfl, rfl, (show (0 : Int) < 2 by decide), rfl, _, rfl, ?_⟩
          by_cases h2 : (i : Int) % 2 = 0
          · rw [show decide (V.int ((i : Int) % 2) = V.int 0) = true from decide_eq_true (by rw [h2])]
            refine ifTT ⟨_, rfl, _, rfl, rfl, _, rfl, ?_⟩
            by_cases hat : i = 4 + 2 * j
            · rw [show (!decide (V.int (i : Nat) = V.int (4 + 2 * (j : Int)))) = false from by rw [decide_eq_true (by rw [hat]; push_cast; rfl)]; rfl]
              exact ifFF (no (pkp_at0 hat))
            · rw [show (!decide (V.int (i : Nat) = V.int (4 + 2 * (j : Int)))) = true from by rw [decide_eq_false (fun c => by injection c with c; omega)]; rfl]
              have c : (pkp j) i = true := pkp_y (by omega) hat
              obtain ⟨y1, y2, y3, y4⟩ := yes c
              exact ifTT ⟨_, rfl, _, y1, y2, y3, y4⟩
          · rw [show decide (V.int ((i : Int) % 2) = V.int 0) = false from decide_eq_false (fun c => h2 (by injection c))]
            exact ifFF (ifFF (no (pkp_odd (by omega) (by omega))))
      rintro HY ⟨sY, hD1⟩
      rw [List.take_length] at hD1
      replace htZ := sY _ _ htZ
      replace dfZ := dpAll_same sY _ _ dfZ
      replace dtZ := dpAll_same sY _ _ dtZ
      replace stZ := stZ.same sY
      clear sY sZ hfZ nD1
      generalize HY = HZ at *
      dsimp only [gName, List.set]
      refine ⟨_, rfl, _, rfl, ta, _, rfl, SqL.of htZ, fun D2 nD2 => lc_it walk_enum (fun i HB => Same HZ HB ∧ HB D2 = some (.lst (keptN (pkp j) 0 (txs.take i)))) ⟨same_upd nD2, upd_same⟩ (fun _ _ _ h => SqL.of (h.1 _ _ htZ)) ?_ ?_⟩
      · rintro i v HB HC hi ⟨sm, hD⟩ ⟨T, x, z, rfl, nT, rfl, ex, ez⟩
        cases (Option.some.inj ex)
        dsimp only at ez
        have sT := same_upd (o := .tup [V.int (i : Nat), z]) nT
        have eT := upd_same (H := HB) (a := T) (o := .tup [V.int (i : Nat), z])
        generalize upd HB T (.tup [V.int (i : Nat), z]) = HC at *
        have hi' := (List.getElem?_eq_some_iff.mp ez).1
        have ltk : (txs.take i).length = i := by rw [List.length_take]; omega
        have tks : keptN (pkp j) 0 (txs.take (i + 1)) = keptN (pkp j) 0 (txs.take i) ++ if (pkp j) i then [z] else [] := by
          rw [List.take_succ, ez]
          show keptN (pkp j) 0 (txs.take i ++ [z]) = _
          rw [keptN_snoc, ltk, Nat.zero_add]
        have yes : (pkp j) i = true → HC D2 = some (.lst (keptN (pkp j) 0 (txs.take i))) ∧ (keptN (pkp j) 0 (txs.take i)).length < sizeLine ∧ Same HZ (upd HC D2 (.lst (keptN (pkp j) 0 (txs.take i) ++ [z]))) ∧ (upd HC D2 (.lst (keptN (pkp j) 0 (txs.take i) ++ [z]))) D2 = some (.lst (keptN (pkp j) 0 (txs.take (i + 1)))) := fun c => by
          refine ⟨sT _ _ hD, small1000 (Nat.le_trans keptN_len (by rw [ltk]; omega)), Fd.Same.putN (sm.trans sT) nD2, ?_⟩
          rw [upd_same, tks, if_pos c]
        have no : (pkp j) i = false → Same HZ HC ∧ HC D2 = some (.lst (keptN (pkp j) 0 (txs.take (i + 1)))) := fun c => by
          refine ⟨sm.trans sT, ?_⟩
          rw [tks, if_neg (by rw [c]; exact Bool.false_ne_true), List.append_nil]
          exact sT _ _ hD
        refine ⟨T, _, rfl, .inl (.inl eT), rfl, _, _, rfl, _, _, rfl, rfl, rfl, ?_⟩
        refine ⟨_, rfl, _, _, rfl, rfl, _, rfl, ?_⟩
        by_cases h4 : (i : Int) < 4
        · rw [decide_eq_true h4]
          have c : (pkp j) i = true := pkp_4 (by omega)
          obtain ⟨y1, y2, y3, y4⟩ := yes c
          exact ifTT (ifTT ⟨_, rfl, _, y1, y2, y3, y4⟩)
        · rw [decide_eq_false h4]
          refine ifFF ⟨_, rfl, _, _, rfl, rfl, (show (0 : Int) < 2 by decide), rfl, _, rfl, ?_⟩
          by_cases h2 : (i : Int) % 2 = 0
          · rw [show decide (V.int ((i : Int) % 2) = V.int 0) = true from decide_eq_true (by rw [h2])]
            refine ifTT ⟨_, rfl, _, rfl, rfl, _, rfl, ?_⟩
            by_cases hat : i = 4 + 2 * j
            · rw [show (!decide (V.int (i : Nat) = V.int (4 + 2 * (j : Int)))) = false from by rw [decide_eq_true (by rw [hat]; push_cast; rfl)]; rfl]
              exact ifFF (no (pkp_at0 hat))
            · rw [show (!decide (V.int (i : Nat) = V.int (4 + 2 * (j : Int)))) = true from by rw [decide_eq_false (fun c => by injection c with c; omega)]; rfl]
              have c : (pkp j) i = true := pkp_y (by omega) hat
              obtain ⟨y1, y2, y3, y4⟩ := yes c
              exact ifTT ⟨_, rfl, _, y1, y2, y3, y4⟩
          · rw [show decide (V.int ((i : Int) % 2) = V.int 0) = false from decide_eq_false (fun c => h2 (by injection c))]
            exact ifFF (ifFF (no (pkp_odd (by omega) (by omega))))
      rintro HY ⟨sY, hD2⟩
      rw [List.take_length] at hD2
      have shk : Sh 6 (.list (keptN (pkp j) 0 (dueL G G.srt))) := .list fun d hd => sh_duel ok d (keptN_mem hd)
      have ke := kept_put ok ei ej hk (pkp_at j)
      refine ⟨_, _, .lst (SqL.of (sY _ _ hD1)) (by rw [← ke]; exact keptN_dp (dpAll_same sY _ _ dfZ)), .lst (SqL.of hD2) (keptN_dp (dpAll_same sY _ _ dtZ)), shk.shaped (by decide), shk.shaped (by decide), _, rfl, ?_⟩
      rw [SeqAt.eqv_refl _ shk.l]
      exact ifFF ⟨_, (stZ.same sY).le (by omega) (Nat.le_refl _), _, _, _, _, _, _, _, _, _, _, _, _, _, rfl⟩
  rintro σ H7 ⟨G, st, _⟩
  exact q _ st.but st.tb
end
end Fd

set_option Elab.async false
set_option linter.all false
set_option maxRecDepth 100000
set_option maxHeartbeats 1000000
namespace Fd
open PySem PySem.Spec PyProof.Rows L2 RZ Fw LamX
section
variable {P : Program} {w : World} {K : PySem.W.Frag} {mg : Str → Option Value} {base : Heap} {f : Addr} {fd : FuncData} {P0 : Addr}
abbrev sLaw : Stmt := top 53
def spLaw (K : PySem.W.Frag) (P0 : Addr) : Sp := fun vs H Q _ => ∃ (a : Addr) (ns : List Int), vs = [.ref a] ∧ SqL K H a (ns.map V.int) ∧ ns.length ≤ 63 ∧ Tabs (TT P0) H ∧ ∀ H', Q (.bl true) H'
structure LawD (P : Program) (w : World) (K : PySem.W.Frag) (mg : Str → Option Value) (base : Heap) (P0 : Addr) (k : Nat) : Prop where
  GB : FnG P w K mg base CX0 k "_law_box" ["_law_script", "_law_k"] (spBox K)
  GR : FnG P w K mg base CX0 k "_law_right" ["_law_box_here"] (spRi P0)
  m_all : mg "all" = none
  m_min : mg "min" = none
  m_len : mg "len" = none
  m_range : mg "range" = none
theorem scLaw : FnScope ["_law_script", "_law_k"] ["_law_script"] (defScope sLaw) := ⟨rfl, rfl, rfl, by decide +kernel, rfl, by decide +kernel, by decide +kernel⟩
theorem law_body {k : Nat} (D : LawD P w K mg base P0 k) (cdv : Value) (A : Around) (outer : List Env) (s : Shared) (H : Hp) (vs : List V) (Q : VK) (E : XK) (hr : Room k (A.deeper (envOfC "law" (defScope sLaw) s.heap.objs.size f cdv))) (h : spLaw K P0 vs H Q E) :
    ∃ t, PSs (cxOf CX0 P w K mg base ["_law_script", "_law_k"] "law" (defScope sLaw) f cdv A outer s H E).nox (defBody sLaw) t ∧ t { nx := fun _ H' => Q .non H', rt := Q } (L2.start ["_law_script", "_law_k"] vs) H := by
  obtain ⟨⟨_, _, G__law_box, m__law_box, k__law_box, b__law_box⟩, ⟨_, _, G__law_right, m__law_right, k__law_right, b__law_right⟩, m_all, m_min, m_len, m_range⟩ := D
  have sc := scLaw
  obtain ⟨a, ns, rfl, hS, hl, hT, q⟩ := h
  refine ⟨_, (pss_one (ps_ret (pe_callB (cr_all rfl) (by rfl) m_all (by decide +kernel) (pa_cons (pe_lc (own := [("_law_k", 1)]) (by rfl) sc.nd  (pi_range1 (by rfl) m_range (pa_cons (pe_op op_add pe_int (pe_callB (call_min2 rfl) (by rfl) m_min (by decide +kernel) (pa_cons pe_int (pa_cons (pe_callB call_len_seq (by rfl) m_len (by decide +kernel) (pa_cons (pv 0) pa_nil)) pa_nil)))) pa_nil)) (blkOk_by (own := [("_law_k", 1)]) (N := ["_law_script", "_law_k"]) (sc := defScope sLaw) (by decide +kernel)) (fun _ _ _ _ _ => (pg_name (i := 1) sc.nd rfl (.inl rfl))) (fun _ _ _ _ _ => pts_nil) (fun _ _ _ _ _ => (pe_call G__law_right (hr.mono (by omega)) (by rfl) m__law_right k__law_right b__law_right .nil pass0 (pa_cons (pe_call G__law_box (hr.mono (by omega)) (by rfl) m__law_box k__law_box b__law_box .nil pass0 (pa_cons (pv 0) (pa_cons (pv 1) pa_nil))) pa_nil)))) pa_nil)))), ?_⟩
  have key : ∀ H' : Hp, (∀ u, H a = some u → (∀ kvs, u ≠ .dT kvs) → (∀ E, u ≠ .ext E) → (∀ ps, u ≠ .tbl ps) → H' a = some u) → SqL K H' a (ns.map V.int) := fun H' s => by
    rcases hS with (h | ⟨o, h⟩) | h
    · exact .inl (.inl (s _ h nofun nofun nofun))
    · exact .inl (.inr ⟨o, s _ h nofun nofun nofun⟩)
    · exact .inr h
  have ln : (ns.map V.int).length = ns.length := List.length_map ..
  refine ⟨_, rfl, a, _, rfl, .inl hS, _, _, rfl, _, _, rfl, rfl, _, rfl, ?_, ?_, fun D nD => lc_it walk_range (fun i H' => (∀ u, H a = some u → (∀ kvs, u ≠ .dT kvs) → (∀ E, u ≠ .ext E) → (∀ ps, u ≠ .tbl ps) → H' a = some u) ∧ Tabs (TT P0) H' ∧ H' D = some (.lst (List.replicate i (.bl true)))) ⟨fun u e _ _ _ => by rw [upd_ne (ne_of_none e nD)]; exact e, hT.ext (same_upd nD), upd_same⟩ (fun _ _ _ _ => trivial) ?_ ?_⟩
  · rw [ln]; split <;> omega
  · rw [ln]; split <;> omega
  · rintro i x _ H1 hi ⟨x1, T1, hD⟩ ⟨rfl, ex⟩
    obtain rfl : x = V.int i := ex.trans (congrArg V.int (Int.zero_add _))
    have hi5 : i < 5 := by
      have : i < (1 + (if ((ns.map V.int).length : Int) < 4 then ((ns.map V.int).length : Int) else 4)).toNat := hi
      split at this <;> omega
    refine ⟨rfl, yesI (iteT ?_)⟩
    refine ⟨_, rfl, _, rfl, a, i, ns, rfl, key _ x1, by omega, fun p H2 s2 np Bp => ?_⟩
    have pD : D ≠ p := ne_of_none hD np
    have hD2 := s2 _ _ hD
    refine ⟨p, 0, rfl, Bp, by decide, T1.ext s2, fun H3 x3 T3 => ?_⟩
    have hD3 := x3.lst pD hD2
    refine ⟨_, hD3, ?_, fun u e m1 m2 m3 => ?_, tabs_put T3 hD3, ?_⟩
    · rw [List.length_replicate]
      exact small1000 (by omega)
    · rw [upd_ne (ne_of_none e nD)]
      exact x3 _ _ (ne_of_none (x1 _ e m1 m2 m3) np) (s2 _ _ (x1 _ e m1 m2 m3)) m1 m2 m3
    · rw [upd_same, List.replicate_succ']
  · rintro H1 ⟨x1, T1, hD⟩
    refine ⟨D, List.replicate _ true, rfl, SqL.of (by rw [hD, List.map_replicate]), ?_⟩
    rw [all_rep]
    exact q _
end
end Fd

set_option Elab.async false
set_option linter.all false
set_option maxRecDepth 100000
set_option maxHeartbeats 4000000
namespace Fd
open PySem PySem.Spec PyProof.Rows L2 LamX
section
variable {P : Program} {w : World} {K : PySem.W.Frag} {mg : Str → Option Value} {base : Heap}
theorem FnG.mono {CX : CXT} {k j : Nat} {x : Str} {ps : List Str} {sp : Sp} (G : FnG P w K mg base CX k x ps sp) (h : k ≤ j) : FnG P w K mg base CX j x ps sp := by
  obtain ⟨f, fd, F, r⟩ := G
  exact ⟨f, fd, F.mono h, r⟩
/-- one entry of a def, by its body there -/
theorem enter {x qual : Str} {st : Stmt} {f : Addr} {fd : FuncData} {N ps : List Str} {k : Nat} {A : Around} {outer : List Env} {s : Shared} {H : Hp} {args : Args} {us : List Value} {vs : List V} {Q : VK} {E : XK} (F : Fun K x qual st f fd) (S : FnScope N ps (defScope st))
    (hl : vs.length = ps.length) (hr : Room (k + 1) A) (e0 : Env0 P w K mg base A outer s H) (hb : BindsTo s fd args (ps.zip us)) (r : Vals vs us)
    (body : ∀ cdv : Value, Room k (A.deeper (envOfC qual (defScope st) s.heap.objs.size f cdv)) → ∃ t, PSs (cxOf CX0 P w K mg base N qual (defScope st) f cdv A outer s H E).nox (defBody st) t ∧ t { nx := fun _ H' => Q .non H', rt := Q } (L2.start N vs) H) :
    codeAny (model P w) A (.call (.ref f) args) (CR CX0 outer P w H s Q E) s := by
  obtain ⟨oc, od, kV, doc, pm, an, cdv, ct, osl, rfl, lk, hcd⟩ := F.ex
  obtain ⟨t, ht, hq⟩ := body cdv (hr.deeper _)
  have old : ∀ b o, base.get? b = some o → s.heap.get? b = some o := fun b o e => (e0.bs b o e).1
  refine codeAny_call_function hr.depth ((e0.mod.kin.keeps old) _ _ lk) rfl S.co S.gen rfl (PySem.W.codeRec_of (e0.mod.kin.keeps old) hcd) (hb _ _ _ _ (wpAny_newFunctionEnv_cells S.kind (fun y hy => ?_) fun env he s1 x => ?_))
  · exact (S.par y.1 (List.of_mem_zip (show (y.1, y.2) ∈ ps.zip us from hy)).1).elim .inl fun z => .inr ⟨z, PySem.W.cellsFrom_some _ _ _ (.inl z)⟩
  subst he
  refine ⟨(e0.mod.nolimit.keeps old).keeps x.toInCall.keep, codeAny_func (wpAny_mono (ht.nox.run [] s1 _ H _ (inv_start S hr.hd e0 hl r x) hq) (fun fl s' hs => ?_) fun _ _ hs => hs)⟩
  cases fl with
  | ret u =>
    obtain ⟨v, _, H', J, rv, q⟩ := hs
    exact ⟨v, H', J.os, J.bare, J.base, J.hok, rv, q⟩
  | next =>
    obtain ⟨_, H', J, q⟩ := hs
    exact ⟨.non, H', J.os, J.bare, J.base, J.hok, (rfl : RelV .non Value.none), q⟩
  | brk => obtain ⟨_, _, _, q⟩ := hs; exact q.elim
  | cont => obtain ⟨_, _, _, q⟩ := hs; exact q.elim
end
/-- the tracked heap at the law's entry: the table at T, and the script or not -/
structure EntryT (P : Program) (w : World) (K : PySem.W.Frag) (T a : Addr) (h : Heap) (H : Hp) : Prop where
  tab : H T = some (.tbl #[])
  ok : HOk P w H h
  one : ∀ b, b ≠ T → H b = none ∨ (b = a ∧ K.lookup a = none ∧ ∃ (ob : Obj) (xs : List V), H b = some (.frz ob (.lst xs)))
theorem entry_ofT {P : Program} {w : World} {K : PySem.W.Frag} {T a : Addr} {h : Heap} {vs : List Value} {ns : List Int} (KX : K.In h) (hT : h.get? T = some { cls := .none, data := .fields #[] }) (ha : h.get? a = some { cls := .type "list", data := .seq vs.toArray }) (hi : IntsAre vs ns) (hl : ns.length ≤ sizeLine) :
    ∃ H, EntryT P w K T a h H ∧ SqL K H a (ns.map V.int) := by
  have aT : a ≠ T := fun z => by
    rw [z, hT] at ha
    cases ha
  cases hk : K.lookup a with
  | some o =>
    have e := KX a o hk
    rw [ha] at e
    cases e
    refine ⟨upd (fun _ => none) T (.tbl #[]), ⟨upd_same, fun b u z => ?_, fun b n => .inl (upd_ne n)⟩, .inr ⟨_, vs.toArray, _, hk, rfl, rfl, rfl, by rw [List.size_toArray, hi.length]; exact hl, by simpa using vals_ints hi⟩⟩
    by_cases e : b = T
    · subst e
      rw [upd_same] at z
      cases z
      exact hT
    · rw [upd_ne e] at z; cases z
  | none =>
    have u1 : upd (upd (fun _ => none) T (.tbl #[])) a (.frz { cls := .type "list", data := .seq vs.toArray } (.lst (ns.map V.int))) a = some _ := upd_same
    refine ⟨upd (upd (fun _ => none) T (.tbl #[])) a (.frz { cls := .type "list", data := .seq vs.toArray } (.lst (ns.map V.int))), ⟨by rw [upd_ne (Ne.symm aT)]; exact upd_same, fun b u z => ?_, fun b n => ?_⟩, .inl (.inr ⟨_, u1⟩)⟩
    · by_cases e : b = a
      · subst e
        rw [upd_same] at z
        cases z
        exact ⟨ha, by rw [List.length_map]; exact hl, vs, _, vals_ints hi, ha⟩
      · rw [upd_ne e] at z
        by_cases e : b = T
        · subst e
          rw [upd_same] at z
          cases z
          exact hT
        · rw [upd_ne e] at z; cases z
    · by_cases e : b = a
      · subst e
        exact .inr ⟨rfl, hk, _, _, u1⟩
      · exact .inl (by rw [upd_ne e, upd_ne n])
section
variable {P : Program} {w : World} {K : PySem.W.Frag} {mg mb : Str → Option Value}
theorem law_atT {k : Nat} {fa a c0 T : Addr} {fd : FuncData} {x : Str} {st : Stmt} {N : List Str} {nm : Str} {s₁ : Shared} {vs : List Value} {ns : List Int} (F : Fun K nm nm st fa fd) (S : FnScope N [x] (defScope st))
    (KX : K.In s₁.heap) (hns : s₁.heap.Ns mainGlobals mg) (hb : s₁.heap.Ns builtinsNs mb) (hbb : ∀ x : Str, x ≠ "__name__" → mb x = bootBuiltins x) (hlim : s₁.heap.NoLimit) (hg : s₁.gens = #[])
    (hT : s₁.heap.get? T = some { cls := .none, data := .fields #[] }) (nT : K.lookup T = none) (C : PySem.W.CodeHd s₁.heap c0 T)
    (hbm : ∃ (bm : Addr) (ob : Obj), mg "__builtins__" = some (.ref bm) ∧ bm ≠ builtinsNs ∧ s₁.heap.get? bm = some ob ∧ ob.cls = .type "module" ∧ ob.dict = some builtinsNs ∧ ob.data = .plain)
    (ha : s₁.heap.get? a = some { cls := .type "list", data := .seq vs.toArray }) (hi : IntsAre vs ns) (hl : ns.length ≤ sizeLine) (hr : Room (k + 1) callerA) (hbind : ∀ (s : Shared) (u : Value), BindsTo s fd ⟨[u], []⟩ [(x, u)])
    (body : ∀ (base : Heap) (cdv : Value) (H : Hp), K.In base → base.Ns mainGlobals mg → TabB base mg c0 T → SqL K H a (ns.map V.int) → Tabs (TT T) H → Room k (callerA.deeper (envOfC nm (defScope st) s₁.heap.objs.size fa cdv)) →
      ∃ t, PSs (cxOf CX0 P w K mg base N nm (defScope st) fa cdv callerA [] s₁ H fun _ _ _ => False).nox (defBody st) t ∧ t { nx := fun _ _ => V.non = .bl true, rt := fun v _ => v = .bl true } (L2.start N [.ref a]) H) :
    codeAny (model P w) callerA (.call (.ref fa) ⟨[.ref a], []⟩) (fun r s' => r = .ok (.ret (.bool true)) ∧ OldK s₁.heap s'.heap ∧ s'.os = s₁.os ∧ AllBare s'.gens) s₁ := by
  obtain ⟨H, en, hS⟩ := entry_ofT (P := P) (w := w) KX hT ha hi hl
  have aT : a ≠ T := fun z => by
    rw [z, hT] at ha
    cases ha
  -- what is not the table and not the script's list is not tracked
  have noD : ∀ {b : Addr} {o : Obj}, s₁.heap.get? b = some o → (∀ vs n, o.data ≠ .seq vs n) → o.data ≠ .fields #[] → H b = none := fun {b o} e h1 h2 => by
    by_cases z : b = T
    · subst z
      rw [hT] at e
      cases e
      exact (h2 rfl).elim
    · rcases en.one b z with q | ⟨q, _⟩
      · exact q
      · subst q
        rw [ha] at e
        cases e
        exact (h1 _ _ rfl).elim
  have noA : ∀ {b : Addr} {o : Obj} {es : Array DictEntry} {ep : Nat}, s₁.heap.get? b = some o → o.data = .dict es ep → H b = none := fun {b o es ep} e d => by
    refine noD e (fun vs n z => ?_) fun z => ?_
    · rw [d] at z
      cases z
    · rw [d] at z
      cases z
  have kb : K.In (hidT s₁.heap H) := fun b o e => hidT_get (KX b o e) (by
    by_cases z : b = T
    · rw [z, nT] at e
      cases e
    · rcases en.one b z with q | ⟨q, q2, _⟩
      · exact q
      · rw [q, q2] at e
        cases e)
  have nb : ∀ {b : Addr} {m : Str → Option Value}, s₁.heap.Ns b m → (hidT s₁.heap H).Ns b m := fun ⟨o, es, ep, e, d, r⟩ => ⟨o, es, ep, hidT_get e (noA e d), d, r⟩
  have lim : (hidT s₁.heap H).NoLimit := by
    obtain ⟨mc, h1, h2⟩ := hlim
    exact ⟨mc, nb h1, h2⟩
  have TB : TabB (hidT s₁.heap H) mg c0 T := by
    refine ⟨?_, ?_, fun z => ?_⟩
    · obtain ⟨o, us, file, tf, flags, tg, inF, text, tt, e1, r1, r2, r3, r⟩ := C
      refine ⟨o, us, file, tf, flags, tg, inF, text, tt, hidT_get e1 (noD e1 (fun vs n z => ?_) fun z => ?_), r1, r2, r3, r⟩
      · rw [r2] at z
        cases z
      · rw [r2] at z
        cases z
        simp at r3
    · obtain ⟨bm, ob, b1, b2, b3, b4, b5, b6⟩ := hbm
      have nG : bm ≠ mainGlobals := fun q => by
        obtain ⟨o, es, ep, e, hd, _⟩ := hns
        rw [q, e] at b3
        cases b3
        rw [hd] at b6
        cases b6
      have nP : bm ≠ T := fun q => by
        rw [q, hT] at b3
        cases b3
        cases b6
      refine ⟨bm, ob, b1, b2, nG, nP, hidT_get b3 (noD b3 (fun vs n z => ?_) fun z => ?_), b4, b5, b6⟩
      · rw [b6] at z
        cases z
      · rw [b6] at z
        cases z
    · obtain ⟨o, es, ep, e, hd, _⟩ := hns
      rw [z, hT] at e
      cases e
      cases hd
  have e0 : Env0 P w K mg (hidT s₁.heap H) callerA [] s₁ H := ⟨rfl, ⟨kb, nb hns, ⟨mb, nb hb, hbb⟩, lim⟩, fun b o e => of_hidT e, Nat.le_of_eq (hidT_size _ _), trivial, fun b hb => absurd (show b ∈ ([] : List Addr) from hb) (by simp), en.ok, .of_eq hg⟩
  have tabs : Tabs (TT T) H := fun p hp => by
    obtain rfl := List.mem_singleton.mp hp
    exact TabS.nil en.tab
  refine codeAny_mono (enter (vs := [.ref a]) (us := [.ref a]) (Q := fun v _ => v = .bl true) (E := fun _ _ _ => False) F S rfl hr e0 (hbind s₁ (.ref a)) (.cons rfl .nil) fun cdv hr' => body _ cdv H kb (nb hns) TB hS tabs hr') fun r s' h => ?_
  cases r with
  | error e => exact h.elim
  | ok fl =>
    cases fl with
    | ret u =>
      obtain ⟨v, H', os, bare, un, ok', rv, q⟩ := h
      obtain rfl : v = .bl true := q
      obtain rfl : u = Value.bool true := rv
      have key : ∀ b o, b ≠ T → s₁.heap.get? b = some o → s'.heap.get? b = some o := fun b o n e => by
        rcases en.one b n with z | ⟨_, _, ob, xs, z⟩
        · exact un.keep b o e z (fun y => absurd (show b ∈ ([] : List Addr) from y) (by simp)) (by simp)
        · obtain ⟨e1, _⟩ := en.ok b _ z
          obtain ⟨e2, _⟩ := ok' b _ (un.frzs b ob _ z)
          rw [e] at e1
          cases e1
          exact e2
      obtain ⟨more, z⟩ := un.tbls T #[] en.tab
      have grown : s'.heap.get? T = some { cls := .none, data := .fields more } := by
        have := ok' T _ z
        rw [Array.empty_append] at this
        exact this
      refine ⟨rfl, ⟨fun b o e => ?_, fun b o e => ?_⟩, os, bare⟩
      · by_cases n : b = T
        · subst n
          rw [hT] at e
          cases e
          exact .inr (.inl ⟨(C.tab hT).isCodeTable, rfl, #[], more, rfl, by rw [Array.empty_append]; exact grown⟩)
        · exact .inl (key b o n e)
      · by_cases n : b = T
        · subst n
          exact ⟨_, grown⟩
        · exact ⟨o, key b o n e⟩
    | next => exact h.elim
    | brk => exact h.elim
    | cont => exact h.elim
end
theorem walk_exT {l : PySem.W.OpenLaw} {n : Nat} {q : Program} {loose : List Str} {XP : (Str → Option Value) → Heap → Prop} {YP : World → Heap → Prop} {d : DefRec} (hn : l.most = some n) (hn2 : n ≤ 63) (hdf : d.params.defaults = []) (hd : d.name = "law")
    (F : ∀ (w : World) (mg : Str → Option Value) (fa : Addr) (h : Heap), YP w h → h.Ns mainGlobals mg → mg "law" = some (.ref fa) →
      ∃ (K : PySem.W.Frag) (fd : FuncData) (c0 T : Addr), K.In h ∧ K.lookup T = none ∧ h.get? T = some { cls := .none, data := .fields #[] } ∧ PySem.W.CodeHd h c0 T ∧ Fun K "law" "law" sLaw fa fd ∧ (∀ (s : Shared) (v : Value), BindsTo s fd ⟨[v], []⟩ [("_law_script", v)]) ∧ ∀ base : Heap, K.In base → base.Ns mainGlobals mg → TabB base mg c0 T → LawD l.prog w K mg base T 40) :
    PySem.W.WalkO q loose XP YP l.row.toRowW d [] (fun f vs => PySem.call f vs) := by
  refine Att.attach_call hn hdf fun w s₀ s₁ mg mb fa o pm cd doc a vs ns G Y ho hd' hcd hmg hobj hints hlen hg => ?_
  rw [hd] at hmg
  obtain ⟨K, fd, c0, T, hK, nT, hT, C, hF, hb, hL⟩ := F w mg fa _ Y G.T.g hmg
  exact law_atT (k := 40) (x := "_law_script") hF scLaw hK G.T.g G.T.b G.T.builtins G.T.nolimit hg hT nT C G.T.bmain hobj hints (Nat.le_trans (Nat.le_trans hlen hn2) (by decide)) ⟨rfl, by decide, by decide⟩ hb
    fun base cdv H kb nb TB hS tabs hr => law_body (hL base kb nb TB) cdv callerA [] s₁ H [.ref a] (fun v _ => v = .bl true) (fun _ _ _ => False) hr ⟨a, ns, rfl, hS, Nat.le_trans hlen hn2, tabs, fun _ => rfl⟩
end Fd

set_option Elab.async false
set_option linter.all false
set_option maxRecDepth 100000
set_option maxHeartbeats 2000000
/-! A module's top with one expression in its midst that the kernel can't run (it leans on the world's hashes): real steps ahead of it and behind it, the expression by wp. -/
namespace Fw
open PySem PySem.W PySem.Calls PyProof.Rows
/-! ### real steps -/
section
variable {tb : String → Option Builtin} {p : Program} {w : World} {n₀ : Nat} {ann : Option Value}
theorem go_one {s s' : Shared} {t t' : Thread} (h1 : through t = false) (h2 : stepOk n₀ ann t = true) (h3 : step (denote tb) p w s t = .go s' t') {m : Nat} {r : Shared × Thread} (h : topGo tb p w n₀ ann m s' t' = some r) : topGo tb p w n₀ ann (m + 1) s t = some r := by
  unfold topGo
  rw [h1, h2, h3]
  exact h
/-- one step of a topGo, looked at -/
theorem go_out {s : Shared} {t : Thread} {m : Nat} {r : Shared × Thread} (h : topGo tb p w n₀ ann (m + 1) s t = some r) : through t = false ∧ stepOk n₀ ann t = true ∧ ∃ s' t', step (denote tb) p w s t = .go s' t' ∧ topGo tb p w n₀ ann m s' t' = some r := by
  unfold topGo at h
  cases h1 : through t with
  | true => rw [h1] at h; exact nomatch h
  | false =>
    cases h2 : stepOk n₀ ann t with
    | false => rw [h1, h2] at h; exact nomatch h
    | true =>
      rw [h1, h2] at h
      cases h3 : step (denote tb) p w s t with
      | halt o x => rw [h3] at h; exact nomatch h
      | go s' t' => rw [h3] at h; exact ⟨rfl, rfl, s', t', rfl, h⟩
theorem go_trans : ∀ {n m : Nat} {s s1 : Shared} {t t1 : Thread} {r : Shared × Thread}, topGo tb p w n₀ ann n s t = some (s1, t1) → topGo tb p w n₀ ann m s1 t1 = some r → ∃ k, topGo tb p w n₀ ann k s t = some r
  | 0, m, s, s1, t, t1, r, h, q => by
    cases (show some (s, t) = some (s1, t1) from h)
    exact ⟨m, q⟩
  | n + 1, m, s, s1, t, t1, r, h, q => by
    obtain ⟨h1, h2, s', t', h3, h4⟩ := go_out h
    obtain ⟨k, hk⟩ := go_trans h4 q
    exact ⟨k + 1, go_one h1 h2 h3 hk⟩
/-- what real steps of the top leave alone -/
theorem go_keeps : ∀ {n : Nat} {s s' : Shared} {t t' : Thread}, topGo tb p w n₀ ann n s t = some (s', t') → s'.heap.life = s.heap.life ∧ s'.os = s.os ∧
    ∀ b o, b < n₀ → b ≠ mainNs → b ≠ cStatics → ann ≠ some (.ref b) → s.heap.get? b = some o → s'.heap.get? b = some o
  | 0, s, s', t, t', h => by
    cases (show some (s, t) = some (s', t') from h)
    exact ⟨rfl, rfl, fun _ _ _ _ _ _ e => e⟩
  | n + 1, s, s', t, t', h => by
    obtain ⟨h1, h2, s1, t1, h3, h4⟩ := go_out h
    obtain ⟨l, os, fr⟩ := go_keeps h4
    obtain ⟨hc, hk⟩ := Bool.and_eq_true_iff.mp h2
    refine ⟨l.trans (step_life (denote tb) p w s s1 t t1 h3), os.trans (step_os_same h3 (by revert hk; cases t.cur <;> simp)), fun b o q1 q2 q3 q4 q5 => fr b o q1 q2 q3 q4 ?_⟩
    have e := step_heap (denote tb) p w s s1 t t1 h3
    cases hcur : t.cur with
    | update a _ f _ =>
      rw [hcur] at e hk
      rw [e]
      have ne : b ≠ a := fun z => by
        subst z
        simp only [Bool.or_eq_true, Nat.ble_eq, beq_iff_eq] at hk
        rcases hk with ((z | z) | z) | z
        · omega
        · exact q2 z
        · exact q3 z
        · exact q4 z
      rw [Heap.get?_update_ne _ _ _ _ ne]
      exact q5
    | alloc x _ =>
      rw [hcur] at e
      rw [e]
      exact Heap.get?_push_of_some x q5
    | _ =>
      rw [hcur] at e
      rw [e]
      exact q5
section
variable {α : Type} {B : List Frame} {K' : α → Sem Fin} {H' : Value → Sem Fin} {gd : Bool → Bool} {lv : List Value → List Value} {res : α → Flow}
/-- a piece that comes to its end: the same steps with what stands behind it -/
theorem seg_goes (hB : splitAtGen B = none) : ∀ (n : Nat) {s s' : Shared} {t t' : Thread} {f : Flow} {c' : Code} {p' : Pos}, Rel2 (fun a => .pure (.done (res a))) K' deadEnd H' gd lv B t t' →
    segRun tb p w n₀ ann B.length n s t = some (f, s', c', p') → ∃ a m, res a = f ∧ topGo tb p w n₀ ann m s t' = some (s', ⟨K' a, c', p', B⟩)
  | 0, _, _, _, _, _, _, _, _, h => nomatch (show (none : Option (Flow × Shared × Code × Pos)) = some _ from h)
  | n + 1, s, s', t, t', f, c', p', R, h => by
    obtain ⟨cur, code, pos, st⟩ := t
    obtain ⟨cur', code', pos', st'⟩ := t'
    obtain ⟨ec, ep, R⟩ := R
    dsimp only at ec ep R
    subst ec ep
    replace h : (match endAt B.length ⟨cur, code, pos, st⟩ with
      | some g => some (g, s, code, pos)
      | none => match stepOk n₀ ann ⟨cur, code, pos, st⟩ with
        | false => none
        | true => match step (denote tb) p w s ⟨cur, code, pos, st⟩ with
          | .go s' t' => segRun tb p w n₀ ann B.length n s' t'
          | .halt _ _ => none) = some (f, s', c', p') := h
    cases he : endAt B.length ⟨cur, code, pos, st⟩ with
    | some g =>
      rw [he] at h
      cases h
      rcases R with ⟨u1, u2, x, u3, u4⟩ | ⟨u1, F⟩
      · have v1 := u1.symm
        have v2 := u2.symm
        subst v1 v2 u3 u4
        cases x with
        | pure a =>
          have z : some (res a) = some f := by
            rw [← he]
            simp only [endAt, Sem.wrap, beq_self_eq_true]
          exact ⟨a, 0, Option.some.inj z, rfl⟩
        | _ => exact absurd he (by simp [endAt, Sem.wrap])
      · have e : (st.length == B.length) = false := beq_eq_false_iff_ne.mpr (Nat.ne_of_gt F.longer.1)
        simp only [endAt, e] at he
        exact nomatch he
    | none =>
      rw [he] at h
      cases hk : stepOk n₀ ann ⟨cur, code, pos, st⟩ with
      | false => rw [hk] at h; exact nomatch h
      | true =>
        rw [hk] at h
        cases hs : step (denote tb) p w s ⟨cur, code, pos, st⟩ with
        | halt o x => rw [hs] at h; exact nomatch h
        | go s2 t2 =>
          rw [hs] at h
          have h : segRun tb p w n₀ ann B.length n s2 t2 = some (f, s', c', p') := h
          rcases R with ⟨u1, u2, x, u3, u4⟩ | ⟨u1, F⟩
          · have v1 := u1.symm
            have v2 := u2.symm
            subst v1 v2 u3 u4
            have np : ∀ a, x ≠ .pure a := fun a z => by
              subst z
              simp [endAt, Sem.wrap] at he
            have nr : ∀ e, x ≠ .raise e := fun e z => by
              subst z
              obtain ⟨x1, x2, x3, x4, x5⟩ := s
              simp only [Sem.wrap, step] at hs
              exact nomatch hs
            obtain ⟨k1, k2⟩ := okOuter (K' := K') (H' := H') np nr hk
            obtain ⟨t3, k3, R3⟩ := step_outer (K' := K') (H' := H') hB np hs
            obtain ⟨a, m, ea, hm⟩ := seg_goes hB n R3 h
            exact ⟨a, m + 1, ea, go_one k2 k1 k3 hm⟩
          · subst u1
            obtain ⟨k1, k2⟩ := okInner hB F hk
            obtain ⟨t3, k3, R3⟩ := step_inner hB F hs
            obtain ⟨a, m, ea, hm⟩ := seg_goes hB n R3 h
            exact ⟨a, m + 1, ea, go_one k2 k1 k3 hm⟩
end
end
theorem clean0 : leftWithCleanup (#[] : Array GenState) = false := by simp [leftWithCleanup]
theorem step_halt_done {den : Code → Sem Fin} {p : Program} {w : World} {s S : Shared} {t : Thread} {f : Flow} (h : step den p w s t = .halt (.done f) S) : through t = true := by
  obtain ⟨heap, gens, drawn, toks, os⟩ := s
  obtain ⟨cur, code, pos, stack⟩ := t
  cases cur <;> simp only [step, finish] at h <;> (repeat' split at h) <;> simp_all [through]
/-! ### a run that ends -/
section
variable {p : Program} {w : World} {n₀ : Nat} {ann : Option Value}
/-- the run from here ends, at S, each thread on the way calm -/
def Halts (p : Program) (w : World) (s : Shared) (t : Thread) (S : Shared) : Prop :=
  ∃ n f, runN (denote table) p w n s t = .halted (.done f) S ∧ ∀ k s1 t1, runN (denote table) p w k s t = .running s1 t1 → t1.calm = true
theorem halts_step {s s' S : Shared} {t t' : Thread} (hc : t.calm = true) (hs : step (denote table) p w s t = .go s' t') (h : Halts p w s' t' S) : Halts p w s t S := by
  obtain ⟨n, f, h1, h2⟩ := h
  refine ⟨n + 1, f, by simp only [runN, hs]; exact h1, fun k s1 t1 q => ?_⟩
  cases k with
  | zero => cases (show Run.running s t = .running s1 t1 from q); exact hc
  | succ k =>
    simp only [runN, hs] at q
    exact h2 k s1 t1 q
theorem halts_go : ∀ {m : Nat} {s s' S : Shared} {t t' : Thread}, topGo table p w n₀ ann m s t = some (s', t') → Halts p w s' t' S → Halts p w s t S
  | 0, s, s', S, t, t', h, q => by
    cases (show some (s, t) = some (s', t') from h)
    exact q
  | m + 1, s, s', S, t, t', h, q => by
    obtain ⟨h1, h2, s1, t1, h3, h4⟩ := go_out h
    exact halts_step (Bool.and_eq_true_iff.mp h2).1 h3 (halts_go h4 q)
theorem halts_through {s : Shared} {t : Thread} (h : through t = true) (hg : s.gens = #[]) : Halts p w s t s := by
  obtain ⟨cur, code, pos, st⟩ := t
  obtain ⟨h1, h2⟩ := Bool.and_eq_true_iff.mp h
  have h1 : st = [] := List.isEmpty_iff.mp h1
  subst h1
  cases cur with
  | pure fin =>
    cases fin with
    | done f =>
      obtain ⟨hp, gs, d, tk, os⟩ := s
      have hg : gs = #[] := hg
      subst hg
      have e : step (denote table) p w ⟨hp, #[], d, tk, os⟩ ⟨.pure (.done f), code, pos, []⟩ = .halt (.done f) ⟨hp, #[], d, tk, os⟩ := by
        show finish (.done f) ⟨hp, #[], d, tk, os⟩ = _
        unfold finish
        rw [if_neg (by rw [clean0]; exact Bool.false_ne_true)]
      refine ⟨1, f, by simp only [runN, e], fun k s1 t1 q => ?_⟩
      cases k with
      | zero =>
        cases (show Run.running _ _ = .running s1 t1 from q)
        rfl
      | succ k =>
        simp only [runN, e] at q
        exact nomatch q
    | again c => exact nomatch h2
  | _ => exact nomatch h2
theorem halts_top : ∀ {N : Nat} {s S : Shared} {t : Thread}, topRun table p w n₀ ann N s t = some S → S.gens = #[] → Halts p w s t S
  | 0, _, _, _, h, _ => nomatch (show (none : Option Shared) = some _ from h)
  | N + 1, s, S, t, h, hg => by
    unfold topRun at h
    cases h1 : through t with
    | true =>
      rw [h1] at h
      cases (show some s = some S from h)
      exact halts_through h1 hg
    | false =>
      cases h2 : stepOk n₀ ann t with
      | false => rw [h1, h2] at h; exact nomatch h
      | true =>
        rw [h1, h2] at h
        cases h3 : step (denote table) p w s t with
        | halt o x => rw [h3] at h; exact nomatch h
        | go s' t' =>
          rw [h3] at h
          exact halts_step (Bool.and_eq_true_iff.mp h2).1 h3 (halts_top h hg)
theorem forget_bare {s S : Shared} (h : s.forget = S.forget) (hg : S.gens = #[]) : s = S := by
  obtain ⟨hp, gs, d, tk, os⟩ := s
  obtain ⟨hp', gs', d', tk', os'⟩ := S
  have hg : gs' = #[] := hg
  subst hg
  have h : (⟨hp, gs.map GenState.forget, d, tk, os⟩ : Shared) = ⟨hp', #[], d', tk', os'⟩ := by
    have z : (⟨hp, gs.map GenState.forget, d, tk, os⟩ : Shared) = ⟨hp', (#[] : Array GenState).map GenState.forget, d', tk', os'⟩ := h
    rw [z, Array.map_empty]
  injection h with h1 h2 h3 h4 h5
  have hz : gs = #[] := by
    have := congrArg Array.size h2
    simp only [Array.size_map] at this
    exact Array.eq_empty_of_size_eq_zero this
  subst h1 h3 h4 h5 hz
  rfl
theorem halts_runs {s S : Shared} {cur : Sem Fin} {c : Code} {pos : Pos} {st : List Frame} (h : Halts p w s ⟨cur, c, pos, st⟩ S) (hg : S.gens = #[]) : ∃ f, Runs (model p w) ⟨c, none, none, [], none⟩ pos cur st s (.ret (.ok f)) S := by
  obtain ⟨n, f, h1, h2⟩ := h
  obtain ⟨s', h3, h4⟩ := runN_calm_runNI (denote table) p w h1 h2
  have e := forget_bare (s := s') (S := S) (by first | exact h4 | exact h4.symm) hg
  subst e
  exact ⟨f, (halts_iff (M := model p w) (r := .ok f)).mp ⟨n, h3⟩ |>.1⟩
theorem runs_halts {s S : Shared} {cur : Sem Fin} {c : Code} {pos : Pos} {st : List Frame} {f : Flow} (h : Runs (model p w) ⟨c, none, none, [], none⟩ pos cur st s (.ret (.ok f)) S) (hg : S.gens = #[]) : Halts p w s ⟨cur, c, pos, st⟩ S := by
  have hl : leftWithCleanup S.gens = false := by rw [hg]; exact clean0
  obtain ⟨n, hn⟩ := (halts_iff (M := model p w) (r := .ok f)).mpr ⟨h, hl⟩
  obtain ⟨s'', h1, h2, h3⟩ := runNI_real (denote table) p w (show runNI (denote table) p w n s ⟨cur, c, pos, st⟩ = .halted (.done f) S from hn) rfl
  have e := forget_bare h2 hg
  subst e
  exact ⟨n, f, h1, h3⟩
/-- an expression by wp, with what stands behind it -/
theorem halts_mid {α : Type} {m : Sem α} {K : α → Sem Fin} {H : Value → Sem Fin} {gd : Bool → Bool} {lv : List Value → List Value} {s S : Shared} {c : Code} {pos : Pos} {B : List Frame} {Q : α → Pos → Shared → Prop} (hg : S.gens = #[])
    (hw : Sem.wp (model p w) ((⟨c, none, none, [], none⟩ : Ctx).over B) m Q (fun _ _ _ => False) pos s) (hk : ∀ a p' s', Q a p' s' → Halts p w s' ⟨K a, c, p', B⟩ S) : Halts p w s ⟨m.wrap K H gd lv, c, pos, B⟩ S := by
  obtain ⟨e, s'', hr, f, he, hS⟩ := runs_wrap_of_wp (M := model p w) (Γ := ⟨c, none, none, [], none⟩) (fs := B) (Φ := fun e s'' => ∃ f, e = .ret (.ok f) ∧ s'' = S) K H gd lv m hw
    (fun a p' s' q => by
      obtain ⟨f, r⟩ := halts_runs (hk a p' s' q) hg
      exact ⟨_, _, r, f, rfl, rfl⟩) (fun _ _ _ q => q.elim)
  subst he hS
  exact runs_halts hr hg
/-- the end, seen by the scheduler -/
theorem halts_sched {s S : Shared} {t : Thread} (h : Halts p w s t S) (hr : s.asleep) : ∃ n t', schedN (denote table) p w n (.single s t) = .running (.single S t') ∧ through t' = true := by
  obtain ⟨n, f, h1, h2⟩ := h
  have last : ∀ (n : Nat) (s : Shared) (t : Thread), runN (denote table) p w n s t = .halted (.done f) S → ∃ k s' t', runN (denote table) p w k s t = .running s' t' ∧ step (denote table) p w s' t' = .halt (.done f) S := by
    intro n
    induction n with
    | zero => intro s t h; exact nomatch h
    | succ n ih =>
      intro s t h
      cases hs : step (denote table) p w s t with
      | go s' t' =>
        simp only [runN, hs] at h
        obtain ⟨k, s1, t1, q1, q2⟩ := ih s' t' h
        exact ⟨k + 1, s1, t1, by simp only [runN, hs]; exact q1, q2⟩
      | halt o s' =>
        simp only [runN, hs] at h
        cases h
        exact ⟨0, s, t, rfl, hs⟩
  obtain ⟨k, s', t', q1, q2⟩ := last n s t h1
  have e := step_halt_same (denote table) p w s' S t' _ q2
  subst e
  refine ⟨k, t', ?_, ?_⟩
  · have goes : ∀ (k j : Nat) (s : Shared) (t : Thread) (s1 : Shared) (t1 : Thread), j < k → (∃ s2 t2, runN (denote table) p w k s t = .running s2 t2) → runN (denote table) p w j s t = .running s1 t1 → ∃ s3 t3, step (denote table) p w s1 t1 = .go s3 t3 := by
      intro k
      induction k with
      | zero => intro j s t s1 t1 hj; omega
      | succ k ih =>
        intro j s t s1 t1 hj ⟨s2, t2, r⟩ q
        cases hs : step (denote table) p w s t with
        | halt o x => simp only [runN, hs] at r; exact nomatch r
        | go s' t' =>
          cases j with
          | zero =>
            cases (show Run.running s t = .running s1 t1 from q)
            exact ⟨s', t', hs⟩
          | succ j =>
            simp only [runN, hs] at r q
            exact ih j s' t' s1 t1 (by omega) ⟨s2, t2, r⟩ q
    rw [schedN_prefix (denote table) p w k s t hr fun j s1 t1 hj r => ⟨h2 j s1 t1 r, fun z => by
      obtain ⟨s3, t3, q3⟩ := goes k j s t s1 t1 hj ⟨_, _, q1⟩ r
      rw [q3] at z
      exact nomatch z⟩, q1]
    rfl
  · exact step_halt_done q2
end
end Fw

set_option Elab.async false
set_option linter.all false
set_option maxRecDepth 100000
set_option maxHeartbeats 2000000
/-! An open row from its top, world by world: the top's end is told for each world by itself, no bound of steps is asked. -/
namespace Fw
open PySem PySem.W PySem.Calls PyProof.Rows HandSHeadRun
/-- the top's end at a world -/
structure TopEnd (p q : Program) (loose : List Str) (Xt : Shared → Bool) {α : Type} (Yf : Shared → α) (Ya : World → α) (w : World) (s₀ s₁ : Shared) : Prop where
  run : Halts p w s₀ (topStub p) s₁
  ns : s₀.heap.isNs mainGlobals = true
  g0 : s₀.gens = #[]
  g1 : s₁.gens = #[]
  life : s₁.heap.life = s₀.heap.life
  os : s₁.os = s₀.os
  keeps : ∀ b o, b < s₀.heap.objs.size → b ≠ mainNs → b ≠ cStatics → s₀.heap.nsMap mainGlobals "__annotations__" ≠ some (.ref b) → s₀.heap.get? b = some o → s₁.heap.get? b = some o
  looks : looksF p s₀.heap s₁ = true
  seen : openSeen q loose (importedModules p.main.body) Xt true s₁ = openGood q loose
  obs : Yf s₁ = Ya w
def TopsE (p q : Program) (loose : List Str) (Xt : Shared → Bool) {α : Type} (Yf : Shared → α) (Ya : World → α) : Prop :=
  ∀ w : World, ∃ (N : Nat) (s₀ s₁ : Shared), fencedOpening table p w N = some s₀ ∧ TopEnd p q loose Xt Yf Ya w s₀ s₁
section
variable {p q : Program} {loose : List Str} {Xt : Shared → Bool} {XP : (Str → Option Value) → Heap → Prop} {α : Type} {Yf : Shared → α} {Ya : World → α}
/-- what stands behind the top -/
structure Stands (p q : Program) (loose : List Str) (XP : (Str → Option Value) → Heap → Prop) (w : World) (a b : Shared) : Prop where
  ran : TopRan p w a b
  sleeps : b.asleep
  bare : b.gens = #[]
  ns : b.heap.isNs mainGlobals = true
  gr : Ground q loose [] XP w b (b.heap.nsMap mainGlobals) (b.heap.nsMap builtinsNs) b.heap
theorem stands (T : TopsE p q loose Xt Yf Ya) (hX : ∀ s, Xt s = true → XP (s.heap.nsMap mainGlobals) s.heap) (hch : chainsOk q = true) (w : World) :
    (∃ s, AfterRun (opening p) w s) ∧ ∀ s, AfterRun (opening p) w s → ∃ a, fenceModules? p s = some a ∧ a.gens = #[] ∧ ∃ b, Stands p q loose XP w a b ∧ Yf b = Ya w := by
  obtain ⟨N, a, b, hf, E⟩ := T w
  obtain ⟨s, hi, hfe⟩ := Option.bind_eq_some_iff.mp hf
  have A := AfterImport.of_importEnds hi
  refine ⟨⟨s, A⟩, fun s' hs' => ?_⟩
  have es : s' = s := AfterImport.unique hs' A
  subst es
  have za : a.asleep := Shared.asleep_of_life (fence_lifeW hfe) A.life
  have lk : (staticsOk (importedModules p.main.body) a.heap b.heap && namesBound p b.heap && gensDone b && laidKept a.heap b.heap) = true := E.looks
  obtain ⟨lk, k4⟩ := Bool.and_eq_true_iff.mp lk
  obtain ⟨lk, k3⟩ := Bool.and_eq_true_iff.mp lk
  obtain ⟨k1, k2⟩ := Bool.and_eq_true_iff.mp lk
  obtain ⟨G, _, hns, c1, c2, c3, c4⟩ := ground_of_open (w := w) hX hch E.seen
  refine ⟨a, hfe, E.g0, b, ⟨⟨halts_sched E.run za, E.life, Shared.rest_eq E.os, fun x o hx nx => ?_, c1, statics_of_ok k1, c2, c3, c4, gens_of_done k3, names_of_bound k2, laid_of_kept k4⟩, Shared.asleep_of_life E.life za, E.g1, hns, G⟩, E.obs⟩
  exact E.keeps x o (Heap.lt_size hx) (fun z => nx (.inl z)) (fun z => nx (.inr (.inl z))) (fun z => nx (.inr (.inr ((Pin.globalOf_eq E.ns _).trans z)))) hx
end
/-- the row, from its top's ends and the walk of its call -/
theorem holdsE {r : OpenRow} {q : Program} {loose : List Str} {Xt : Shared → Bool} {XP : (Str → Option Value) → Heap → Prop} {H : Hook} {d : DefRec} {kwd : List (Str × Expr)}
    (T : TopsE r.prog q loose Xt H.obs H.val) (hX : ∀ s, Xt s = true → XP (s.heap.nsMap mainGlobals) s.heap) (hXk : ∀ mg h h', XP mg h → (∀ b o, h.get? b = some o → h'.get? b = some o) → XP mg h')
    (hdef : defOf q r.name = some (d, kwd)) (hp : r.prog.theDef r.name = some (d.params, d.body, d.scope)) (hk : kwWritten? d.params.kwonlyargs d.params.kw_defaults = some kwd) (hRf : ∀ s, Xt s = true → RecFacts r.records s.heap)
    (hwr : (!r.writes || r.records.isEmpty) = true) (k1 : r.wellSaid = true) (ok : (chainsOk q && opensWell r.prog && (frees r.toRowW && r.within.isEmpty)) = true) (hb : r.prog.bare) (hw : r.toRowW.promised)
    (call : WalkO q loose XP H.says r.toRowW d kwd fun f vs => PySem.call f vs) : r.Holds := by
  obtain ⟨ok12, ok34⟩ := Bool.and_eq_true_iff.mp ok
  obtain ⟨hch, opens⟩ := Bool.and_eq_true_iff.mp ok12
  obtain ⟨ok3, ok4⟩ := Bool.and_eq_true_iff.mp ok34
  obtain ⟨hsame, hu, ha, hap, hm⟩ := frees_parts ok3
  refine ⟨k1, hw, ⟨hb, opens, by show r.toRowW.makers.map _ = []; rw [hm]; rfl⟩, hw.witness, fun w => ⟨(stands T hX hch w).1, fun s' hs' => ?_⟩⟩
  obtain ⟨a, hf, ga, b, S, y⟩ := (stands (XP := fun mg h => XP mg h ∧ RecFacts r.toRowW.records h) T (fun s hs => ⟨hX s hs, hRf s hs⟩) hch w).2 s' hs'
  have G2 := S.gr
  have RF := G2.X.2
  have G1 : Ground q loose [] XP w b (b.heap.nsMap mainGlobals) (b.heap.nsMap builtinsNs) b.heap :=
    ⟨G2.T, G2.B, G2.D, G2.TE, G2.TD, G2.W, G2.X.1, G2.cls, G2.has, G2.apart, G2.once, G2.K⟩
  refine ⟨a, hf, ga, b, S.ran, fun n hn => ?_, RF.1, RF.2.1, ?_⟩
  · have en : n = r.name := by
      split at hn <;> simp_all
    subst en
    exact pinned_of_view S.ns G1 hdef hp hk
  have G := RF.ground (R := r.toRowW.records) G1
  refine ClaimW.callFrom_of_specG (c := r.toRowW.claim) S.sleeps S.bare fun args hpre hlay ord hord => ?_
  obtain ⟨⟨vs, s₁⟩, laid⟩ := Option.isSome_iff_exists.mp (layAllW_isSome (P := w.params) (ord := ord) G.has args r.toRowW.args b (pre_splitW hpre).1)
  have keeps := layAllW_keeps _ _ _ laid
  have rest := layAllW_rest _ _ _ laid
  obtain ⟨as, hrd, hin, hold⟩ := reads_layAllW hord _ _ _ laid hlay s₁.heap (fun _ _ e => e)
  have L : Laid r.toRowW.records w b s₁ args vs as := ⟨⟨ord, hord, laid⟩, hrd, hin, hold, keeps, rest.1.trans S.bare, rest.2.2.1⟩
  have Gk := G.keeps hXk keeps
  obtain ⟨fa, o, pm, cd, doc, dV, kV, h1, h2, h3, h4, h5⟩ := Gk.fn hdef
  have W := call w b s₁ _ _ Gk (H.keeps _ _ _ (H.of w b y) keeps) fa o pm cd doc dV kV h2 h3 h4 h5 (defOf_name hdef ▸ h1) L.gens args vs as hpre hlay L.reads L.well (L.low G.low)
  have idf := ident_freeW hu ha hap
  have wi : r.toRowW.claim.within = [] := List.isEmpty_iff.mp ok4
  refine ⟨vs, s₁, laid, wpAny_bind (wpAny_nsGet Gk.T.g ?_)⟩
  rw [h1]
  refine wpAny_bind (wpAny_mono W (fun v s' g => ?_) fun e s' g => ?_)
  · have z := g.laid (c := r.toRowW.claim) hsame wi idf L
    exact wpAny_pure ⟨_, rfl, z.1, z.2.1, z.2.2, fun qq => ⟨namesKept_of S.ran S.ns r.keeps keeps g.2.1.old, noTable hwr qq⟩⟩
  · have z := g.laid (c := r.toRowW.claim) hsame wi idf L
    exact ⟨z.1, z.2.1, z.2.2, fun qq => ⟨namesKept_of S.ran S.ns r.keeps keeps g.2.1.old, noTable hwr qq⟩⟩
end Fw

set_option Elab.async false
set_option linter.all false
set_option maxRecDepth 100000
set_option maxHeartbeats 2000000
/-! A display of 18 pairs whose keys are tuples of two texts, whose values are tuples of texts: what it leaves, object by object. -/
namespace Fw
open PySem PySem.W PySem.Calls PyProof.Rows
abbrev PK : Type := Str × Str × List Str
def key (p : PK) : List Str := [p.1, p.2.1]
def toksV : Nat → List Str → List Value
  | _, [] => []
  | t, x :: r => .str x t :: toksV (t + 1) r
/-- a tuple of texts, their tokens from t on -/
def tO (t : Nat) (zs : List Str) : Obj := { cls := .type "tuple", data := .seq (toksV t zs).toArray }
def dO (es : List DictEntry) : Obj := { cls := .type "dict", data := .dict es.toArray es.length }
def lo : Nat → List PK → List Obj
  | _, [] => []
  | t, p :: r => tO t (key p) :: tO (t + 2) p.2.2 :: lo (t + p.2.2.length + 5) r
def lt : Nat → List PK → Nat
  | t, [] => t
  | t, p :: r => lt (t + p.2.2.length + 5) r
def lx : Nat → List PK → List (List Str × Addr × Value)
  | _, [] => []
  | a, p :: r => (key p, a, .ref (a + 1)) :: lx (a + 2) r
theorem lo_app : ∀ (a b : List PK) (t : Nat), lo t (a ++ b) = lo t a ++ lo (lt t a) b
  | [], _, _ => rfl
  | p :: a, b, t => by
    show _ :: _ :: lo _ (a ++ b) = _
    rw [lo_app a b]
    rfl
theorem lt_app : ∀ (a b : List PK) (t : Nat), lt t (a ++ b) = lt (lt t a) b
  | [], _, _ => rfl
  | p :: a, b, t => lt_app a b _
theorem lo_len : ∀ (a : List PK) (t : Nat), (lo t a).length = 2 * a.length
  | [], _ => rfl
  | p :: a, t => by
    show (lo _ a).length + 1 + 1 = 2 * (a.length + 1)
    rw [lo_len a]
    omega
theorem lx_app : ∀ (a b : List PK) (i : Nat), lx i (a ++ b) = lx i a ++ lx (i + 2 * a.length) b
  | [], _, _ => rfl
  | p :: a, b, i => by
    show _ :: lx (i + 2) (a ++ b) = _
    rw [lx_app a b, show i + 2 + 2 * a.length = i + 2 * (p :: a).length by rw [List.length_cons]; omega]
    rfl
theorem lx_keys : ∀ (a : List PK) (i : Nat), (lx i a).map (·.1) = a.map key
  | [], _ => rfl
  | p :: a, i => by
    show _ :: (lx _ a).map _ = _
    rw [lx_keys a]
    rfl
theorem lx_len : ∀ (a : List PK) (i : Nat), (lx i a).length = a.length
  | [], _ => rfl
  | p :: a, i => congrArg (· + 1) (lx_len a _)
/-! ### a heap with objects behind -/
def ext (h : Heap) (l : List Obj) : Heap := ⟨h.objs ++ l.toArray, h.life⟩
theorem ext_nil (h : Heap) : ext h [] = h := by
  obtain ⟨o, l⟩ := h
  show (⟨o ++ ([] : List Obj).toArray, l⟩ : Heap) = ⟨o, l⟩
  rw [show o ++ ([] : List Obj).toArray = o by simp]
theorem ext_push (h : Heap) (l : List Obj) (o : Obj) : (ext h l).push o = ext h (l ++ [o]) := by
  show (⟨(h.objs ++ l.toArray).push o, h.life⟩ : Heap) = ⟨h.objs ++ (l ++ [o]).toArray, h.life⟩
  rw [show (h.objs ++ l.toArray).push o = h.objs ++ (l ++ [o]).toArray by simp]
theorem ext_size (h : Heap) (l : List Obj) : (ext h l).objs.size = h.objs.size + l.length := by
  show (h.objs ++ l.toArray).size = _
  simp
theorem ext_get {h : Heap} {l : List Obj} {i : Nat} {o : Obj} (e : l[i]? = some o) (ho : ∀ c d s, o ≠ ⟨c, d, .freed, s⟩) : (ext h l).get? (h.objs.size + i) = some o := by
  have g : (h.objs ++ l.toArray)[h.objs.size + i]? = some o := by
    rw [Array.getElem?_append_right (by omega), show h.objs.size + i - h.objs.size = i by omega]
    simpa using e
  unfold Heap.get? ext
  rw [g]
  obtain ⟨c, d, dt, s⟩ := o
  cases dt <;> first | rfl | exact absurd rfl (ho c d s)
theorem ext_upd (h : Heap) (o : Obj) (l : List Obj) (f : Obj → Obj) : (ext h (o :: l)).update h.objs.size f = ext h (f o :: l) := by
  show (⟨(h.objs ++ (o :: l).toArray).modify h.objs.size f, h.life⟩ : Heap) = ⟨h.objs ++ (f o :: l).toArray, h.life⟩
  congr 1
  apply Array.ext_getElem?
  intro i
  rw [Array.getElem?_modify]
  by_cases e : h.objs.size = i
  · subst e
    rw [if_pos rfl, Array.getElem?_append_right (Nat.le_refl _), Array.getElem?_append_right (Nat.le_refl _)]
    simp
  · rw [if_neg e]
    by_cases q : i < h.objs.size
    · rw [Array.getElem?_append_left q, Array.getElem?_append_left q]
    · rw [Array.getElem?_append_right (by omega), Array.getElem?_append_right (by omega)]
      obtain ⟨k, hk⟩ : ∃ k, i - h.objs.size = k + 1 := ⟨i - h.objs.size - 1, by omega⟩
      rw [hk]
      simp
section
variable {prog : Program} {w : World} {A : Around} {E : Value → Shared → Prop} {env : Env}
theorem items_of : ∀ (zs : List Str) (t : Nat), ItemsAre (strKind prog w) zs (toksV t zs)
  | [], _ => .nil
  | x :: r, t => .cons (by show Value.isStrOf x (.str x t) = true; simp [Value.isStrOf]) (items_of r (t + 1))
theorem tO_key {h : Heap} {l : List Obj} {i t : Nat} {zs : List Str} (e : l[i]? = some (tO t zs)) : IsTupleKey (strKind prog w) (ext h l) zs (h.objs.size + i) :=
  ⟨_, _, _, ext_get e (fun c d s z => by injection z with _ _ z _; exact nomatch z), rfl, rfl, by simpa using items_of zs t⟩
theorem lx_is {h : Heap} {l : List Obj} : ∀ (L : List PK) (t i : Nat), (∀ j o, (lo t L)[j]? = some o → l[i + j]? = some o) → ∀ x ∈ lx (h.objs.size + i) L, IsTupleKey (strKind prog w) (ext h l) x.1 x.2.1
  | [], _, _, _, x, hx => nomatch hx
  | p :: r, t, i, hl, x, hx => by
    rcases List.mem_cons.mp hx with z | z
    · subst z
      exact tO_key (hl 0 _ rfl)
    · refine lx_is r (t + p.2.2.length + 5) (i + 2) (fun j o e => ?_) x z
      rw [show i + 2 + j = i + (j + 2) by omega]
      exact hl (j + 2) o e
/-- texts, written -/
inductive CS : List Expr → List Str → Prop where
  | nil : CS [] []
  | cons {x : Str} {k : Nat} {pos : Pos} {es : List Expr} {zs : List Str} : CS es zs → CS (.Constant (.str x) k pos :: es) (x :: zs)
theorem wp_items {pos : Pos} : ∀ {es : List Expr} {zs : List Str} {s : Shared} {Q : List Value → Shared → Prop}, CS es zs → Q (toksV s.toks zs) { s with toks := s.toks + zs.length } → wpAny (model prog w) A (spliced (backTo pos (starEach es env))) Q E s
  | _, _, s, Q, .nil, h => wpAny_items_nil h
  | _, _, s, Q, .cons (zs := zs) c, h => wpAny_items_cons (wpAny_Constant_str (wp_items c (by
      show Q (_ :: toksV (s.toks + 1) zs) { s with toks := s.toks + 1 + zs.length }
      rw [show s.toks + 1 + zs.length = s.toks + (zs.length + 1) by omega]
      exact h)))
theorem toksV_len : ∀ (zs : List Str) (t : Nat), (toksV t zs).length = zs.length
  | [], _ => rfl
  | x :: r, t => congrArg (· + 1) (toksV_len r _)
theorem wp_tuple {es : List Expr} {zs : List Str} {k : Nat} {pos : Pos} {s : Shared} {Q : Value → Shared → Prop} (c : CS es zs) (hz : zs.length ≤ 100) (h : Q (.ref s.heap.objs.size) { s with heap := s.heap.push (tO s.toks zs), toks := s.toks + zs.length }) :
    wpAny (model prog w) A (eval (.Tuple es k pos) env) Q E s :=
  wpAny_Tuple (wp_items c ⟨by rw [toksV_len]; exact Nat.le_trans hz (by decide), h⟩)
/-- the pairs, as they are evaluated -/
inductive PairsAre (env : Env) (pos : Pos) : List (Sem Value × Sem Value) → List PK → Prop where
  | nil : PairsAre env pos [] []
  | cons {ke ve : List Expr} {kk vk : Nat} {kp vp : Pos} {p : PK} {ps : List (Sem Value × Sem Value)} {r : List PK} : CS ke (key p) → CS ve p.2.2 → p.2.2.length ≤ 100 → PairsAre env pos ps r →
    PairsAre env pos ((eval (.Tuple ke kk kp) env, (do let x ← eval (.Tuple ve vk vp) env; standAt pos; pure x)) :: ps) (p :: r)
/-- the state behind some of the pairs: the dict first, then keys and values -/
def mid (w : World) (prog : Program) (s : Shared) (L : List PK) : Shared := { s with heap := ext s.heap (dO ((lx (s.heap.objs.size + 1) L).map (entryOfKey (tupleKind (strKind prog w)))) :: lo s.toks L), toks := lt s.toks L }
/-- d[k] = v of a new key: the entry is the last -/
theorem wp_new {s : Shared} {L : List PK} {p : PK} {h : Heap} {t : Nat} {Q : Unit → Shared → Prop} (hu : A.units < cLine) (hs : s.heap = ext h (dO ((lx (h.objs.size + 1) L).map (entryOfKey (tupleKind (strKind prog w)))) :: lo t (L ++ [p])))
    (hn : ((L ++ [p]).map key).Nodup) (hz : L.length ≤ 1000) (q : Q () { s with heap := ext h (dO ((lx (h.objs.size + 1) (L ++ [p])).map (entryOfKey (tupleKind (strKind prog w)))) :: lo t (L ++ [p])), toks := s.toks + 3 }) :
    wpAny (model prog w) A (dictSet h.objs.size (.ref (h.objs.size + 1 + 2 * L.length)) (.ref (h.objs.size + 1 + 2 * L.length + 1))) Q E s := by
  obtain ⟨hp, g, d, tk, os⟩ := s
  have hs : hp = _ := hs
  have is : ∀ x ∈ lx (h.objs.size + 1) (L ++ [p]), IsTupleKey (strKind prog w) hp x.1 x.2.1 := by
    rw [hs]
    exact lx_is (L ++ [p]) t 1 fun j o e => by rw [show 1 + j = j + 1 by omega]; exact e
  have mine : IsTupleKey (strKind prog w) hp (key p) (h.objs.size + 1 + 2 * L.length) := is (key p, _, _) (by
    rw [lx_app]
    exact List.mem_append_right _ (List.mem_cons_self ..))
  have hd : hp.get? h.objs.size = some (dO ((lx (h.objs.size + 1) L).map (entryOfKey (tupleKind (strKind prog w))))) := by
    rw [hs]
    exact ext_get (h := h) (i := 0) rfl (fun c d s z => by injection z with _ _ z _; exact nomatch z)
  have nk : ∀ (j : Nat) (x : Addr × Value), (lx (h.objs.size + 1) L)[j]? ≠ some (key p, x) := fun j x z => by
    rw [List.map_append, List.nodup_append] at hn
    have m1 : key p ∈ L.map key := by
      rw [← lx_keys L (h.objs.size + 1)]
      exact List.mem_map.mpr ⟨_, List.mem_of_getElem? z, rfl⟩
    exact hn.2.2 _ m1 _ (List.mem_singleton.mpr rfl) rfl
  unfold dictSet
  try with_reducible refine wpAny_holding ?_
  refine wpAny_bind ((tupleKind (strKind prog w)).pyHash hu mine ?_)
  unfold dictSetHashed
  try with_reducible refine wpAny_holding ?_
  refine wpAny_bind (wpAny_dictFind_heap (knd := tupleKind (strKind prog w)) (s := ⟨hp, g, d, tk + 3, os⟩) hu mine hd rfl (by simp) (fun x hx => is x (by rw [lx_app]; exact List.mem_append_left _ hx)) (by
    rw [lx_keys]
    rw [List.map_append, List.nodup_append] at hn
    exact hn.1) (fun _ => ?_) fun j x z => absurd z (nk j x))
  refine wpAny_bind (wpAny_rule (wpAny_updateDictKeys (s := ⟨hp, g, d, tk + 3, os⟩) hd rfl ?_ (by
    rw [List.size_toArray, List.length_map, lx_len]
    exact Nat.le_trans hz (by decide))))
  have e : hp.update h.objs.size (Obj.mapDictKeys fun es => es.push ⟨(tupleKind (strKind prog w)).hash (key p), .ref (h.objs.size + 1 + 2 * L.length), .ref (h.objs.size + 1 + 2 * L.length + 1)⟩) = ext h (dO ((lx (h.objs.size + 1) (L ++ [p])).map (entryOfKey (tupleKind (strKind prog w)))) :: lo t (L ++ [p])) := by
    rw [hs, ext_upd]
    congr 2
    rw [lx_app, List.map_append]
    show (⟨_, _, _, _⟩ : Obj) = ⟨_, _, _, _⟩
    simp [dO, Obj.mapDictKeys, lx, entryOfKey]
  rw [e]
  exact q
/-- pair by pair -/
theorem wp_long {pos : Pos} {s : Shared} (hu : A.units < cLine) : ∀ (rest done : List PK) (pairs : List (Sem Value × Sem Value)) (Q : PUnit → Shared → Prop), PairsAre env pos pairs rest → ((done ++ rest).map key).Nodup → (done ++ rest).length ≤ 1000 → Q PUnit.unit (mid w prog s (done ++ rest)) →
    wpAny (model prog w) A (forIn pairs PUnit.unit fun (x : Sem Value × Sem Value) (_ : PUnit) => (do let kv ← x.1; let vv ← holding [kv] x.2; holding [kv, vv] (dictSet s.heap.objs.size kv vv); pure (ForInStep.yield PUnit.unit) : Sem (ForInStep PUnit))) Q E (mid w prog s done)
  | _, done, _, Q, .nil, _, _, q => by
    rw [List.append_nil] at q
    rw [List.forIn_nil]
    exact wpAny_pure q
  | _, done, _, Q, .cons (ke := ke) (ve := ve) (kk := kk) (vk := vk) (kp := kp) (vp := vp) (p := p) (ps := ps) (r := r) c1 c2 c3 c4, hn, hl, q => by
    rw [List.forIn_cons]
    dsimp only
    have ed : done ++ p :: r = (done ++ [p]) ++ r := by simp
    rw [ed] at hn hl q
    have hl' : (done ++ [p]).length ≤ 1000 := Nat.le_trans (by rw [List.length_append (as := done ++ [p])]; exact Nat.le_add_right _ _) hl
    have hn' : ((done ++ [p]).map key).Nodup := by
      rw [List.map_append] at hn
      exact (List.nodup_append.mp hn).1
    refine wpAny_bind (wpAny_bind (wp_tuple (k := kk) (pos := kp) c1 (by show 2 ≤ 100; decide) (wpAny_bind (wpAny_holding (wpAny_bind (wp_tuple (k := vk) (pos := vp) c2 c3 (wpAny_bind (wpAny_standAt (wpAny_pure ?_)))))))))
    have es : s.heap.objs.size + 1 + 2 * done.length = (mid w prog s done).heap.objs.size := by
      show _ = (ext s.heap _).objs.size
      rw [ext_size, List.length_cons, lo_len]
      omega
    have e2 : ∀ o, ((mid w prog s done).heap.push o).objs.size = s.heap.objs.size + 1 + 2 * done.length + 1 := fun o => by
      rw [Heap.size_push, es]
    have e1 : (ext s.heap (dO ((lx (s.heap.objs.size + 1) done).map (entryOfKey (tupleKind (strKind prog w)))) :: lo s.toks done)).objs.size = s.heap.objs.size + 1 + 2 * done.length := es.symm
    have eo : lo s.toks (done ++ [p]) = lo s.toks done ++ [tO (lt s.toks done) (key p)] ++ [tO (lt s.toks done + 2) p.2.2] := by
      rw [lo_app]
      simp [lo]
    have et : lt s.toks (done ++ [p]) = lt s.toks done + p.2.2.length + 5 := by
      rw [lt_app]
      rfl
    refine wpAny_bind (wpAny_holding ?_)
    show wpAny _ _ (dictSet s.heap.objs.size (.ref (mid w prog s done).heap.objs.size) (.ref ((mid w prog s done).heap.push _).objs.size)) _ _ _
    rw [e2, ← es]
    refine wp_new (t := s.toks) (p := p) hu ?_ hn' (by rw [List.length_append] at hl'; omega) (wpAny_pure ?_)
    · show ((ext s.heap _).push _).push _ = _
      rw [ext_push, ext_push, eo]
      rfl
    · refine (congrArg (fun x => wpAny (model prog w) A _ Q E x) ?_).mp (wp_long hu r (done ++ [p]) ps Q c4 hn hl q)
      show mid w prog s (done ++ [p]) = _
      unfold mid
      rw [et]
      show Shared.mk _ _ _ _ _ = Shared.mk _ _ _ _ _
      congr 1
      show lt s.toks done + p.2.2.length + 5 = lt s.toks done + 2 + p.2.2.length + 3
      omega
end
end Fw

set_option Elab.async false
set_option linter.all false
set_option maxRecDepth 100000
set_option maxHeartbeats 2000000
namespace Fw
open PySem PySem.W PySem.Calls PyProof.Rows
theorem ext_ext (h : Heap) (a b : List Obj) : ext (ext h a) b = ext h (a ++ b) := by
  show (⟨(h.objs ++ a.toArray) ++ b.toArray, h.life⟩ : Heap) = ⟨h.objs ++ (a ++ b).toArray, h.life⟩
  congr 1
  simp
section
variable {prog : Program} {w : World} {A : Around} {E : Value → Shared → Prop} {env : Env}
theorem pairs_len {pos : Pos} : ∀ {ps : List (Sem Value × Sem Value)} {L : List PK}, PairsAre env pos ps L → ps.length = L.length
  | _, _, .nil => rfl
  | _, _, .cons _ _ _ r => congrArg (· + 1) (pairs_len r)
theorem wp_sub_long {pos : Pos} {s : Shared} {ps : List (Sem Value × Sem Value)} {L : List PK} {Q : Addr → Shared → Prop} (hu : A.units < cLine) (c : PairsAre env pos ps L) (h15 : 15 < ps.length) (hn : (L.map key).Nodup) (hl : L.length ≤ 1000) (q : Q s.heap.objs.size (mid w prog s L)) :
    wpAny (model prog w) A (subDict ps) Q E s := by
  unfold subDict
  refine wpAny_bind (wpAny_alloc ?_)
  refine wpAny_bind (wpAny_holding ?_)
  rw [if_neg (by omega)]
  refine wpAny_bind (wpAny_rule ?_)
  have e : (Shared.mk (s.heap.push { cls := .type "dict", data := .dict #[] }) s.gens s.drawn s.toks s.os) = mid w prog s [] := by
    have z : s.heap.push { cls := .type "dict", data := .dict #[] } = ext s.heap [dO []] := by
      have z := ext_push s.heap [] { cls := .type "dict", data := .dict #[] }
      rw [ext_nil] at z
      exact z
    show Shared.mk _ _ _ _ _ = Shared.mk (ext s.heap [dO []]) _ _ _ _
    rw [z]
    rfl
  rw [e]
  exact wpAny_bind (wp_long (E := E) hu L [] ps _ c hn hl (wpAny_pure (wpAny_pure q)))
theorem wp_sub_one {pos : Pos} {s : Shared} {ps : List (Sem Value × Sem Value)} {p : PK} {Q : Addr → Shared → Prop} (hu : A.units < cLine) (c : PairsAre env pos ps [p]) (q : Q s.heap.objs.size (mid w prog s [p])) :
    wpAny (model prog w) A (subDict ps) Q E s := by
  cases c with
  | cons c1 c2 c3 c4 =>
    rename_i ke ve kk vk kp vp ps
    cases c4
    unfold subDict
    refine wpAny_bind (wpAny_alloc ?_)
    refine wpAny_bind (wpAny_holding ?_)
    rw [if_pos (by show 1 ≤ 15; decide)]
    unfold evalPairs
    refine wpAny_bind (wpAny_bind (wp_tuple (k := kk) (pos := kp) c1 (by show 2 ≤ 100; decide) (wpAny_bind (wpAny_holding (wpAny_bind (wp_tuple (k := vk) (pos := vp) c2 c3 (wpAny_bind (wpAny_standAt (wpAny_pure ?_)))))))))
    unfold evalPairs
    refine wpAny_bind (wpAny_holding (wpAny_pure (wpAny_pure ?_)))
    refine wpAny_holding ?_
    rw [List.forIn_cons]
    dsimp only
    have e1 : (s.heap.push { cls := .type "dict", data := .dict #[] }).objs.size = s.heap.objs.size + 1 + 2 * ([] : List PK).length := by rw [Heap.size_push]; rfl
    have e2 : ∀ o, ((s.heap.push { cls := .type "dict", data := .dict #[] }).push o).objs.size = s.heap.objs.size + 1 + 2 * ([] : List PK).length + 1 := fun o => by rw [Heap.size_push, Heap.size_push]; rfl
    rw [e1, e2]
    refine wpAny_bind (wpAny_bind (wpAny_bind (wp_new (t := s.toks) (p := p) (L := []) hu ?_ (by simp) (Nat.zero_le _) (wpAny_pure ?_))))
    · show ((s.heap.push _).push _).push _ = _
      conv => lhs; rw [← ext_nil s.heap]
      rw [ext_push, ext_push, ext_push]
      rfl
    · dsimp only
      rw [List.forIn_nil]
      refine wpAny_pure (wpAny_pure (wpAny_pure ?_))
      refine (congrArg (fun x => Q s.heap.objs.size x) ?_).mp q
      unfold mid
      show Shared.mk _ _ _ _ _ = Shared.mk _ _ _ _ _
      congr 1
      show s.toks + p.2.2.length + 5 = s.toks + 2 + p.2.2.length + 3
      omega
/-- the state behind the whole display -/
def fin (w : World) (prog : Program) (s : Shared) (L : List PK) (p : PK) : Shared :=
  let m := s.heap.objs.size
  let a := m + 1 + 2 * L.length
  let k := tupleKind (strKind prog w)
  { s with heap := ext s.heap (dO ((lx (m + 1) L ++ lx (a + 1) [p]).map (entryOfKey k)) :: (lo s.toks L ++ dO ((lx (a + 1) [p]).map (entryOfKey k)) :: lo (lt s.toks L) [p])), toks := lt s.toks (L ++ [p]) }
theorem wp_merge {s : Shared} {L : List PK} {p : PK} {Q : Unit → Shared → Prop} (hu : A.units < cLine) (hn : ((L ++ [p]).map key).Nodup) (hl : L.length ≤ 1000) (h0 : L ≠ []) (hm : sysModules < s.heap.objs.size) (q : Q () (fin w prog s L p)) :
    wpAny (model prog w) A (mergeMapping s.heap.objs.size (.ref (s.heap.objs.size + 1 + 2 * L.length)) false) Q E (mid w prog (mid w prog s L) [p]) := by
  have ea : (ext s.heap (dO ((lx (s.heap.objs.size + 1) L).map (entryOfKey (tupleKind (strKind prog w)))) :: lo s.toks L)).objs.size = s.heap.objs.size + 1 + 2 * L.length := by
    rw [ext_size, List.length_cons, lo_len]
    omega
  have eS : mid w prog (mid w prog s L) [p] = { s with heap := ext s.heap (dO ((lx (s.heap.objs.size + 1) L).map (entryOfKey (tupleKind (strKind prog w)))) :: (lo s.toks L ++ dO ((lx (s.heap.objs.size + 1 + 2 * L.length + 1) [p]).map (entryOfKey (tupleKind (strKind prog w)))) :: lo (lt s.toks L) [p])), toks := lt s.toks (L ++ [p]) } := by
    unfold mid
    dsimp only
    rw [ea, ext_ext, lt_app]
    rfl
  rw [eS]
  generalize hH : ext s.heap (dO ((lx (s.heap.objs.size + 1) L).map (entryOfKey (tupleKind (strKind prog w)))) :: (lo s.toks L ++ dO ((lx (s.heap.objs.size + 1 + 2 * L.length + 1) [p]).map (entryOfKey (tupleKind (strKind prog w)))) :: lo (lt s.toks L) [p])) = H
  have nf : ∀ es c d sl, dO es ≠ ⟨c, d, .freed, sl⟩ := fun es c d sl z => by injection z with _ _ z _; exact nomatch z
  have gd : H.get? s.heap.objs.size = some (dO ((lx (s.heap.objs.size + 1) L).map (entryOfKey (tupleKind (strKind prog w))))) := by
    rw [← hH]
    exact ext_get (h := s.heap) (i := 0) rfl (nf _)
  have gs : H.get? (s.heap.objs.size + 1 + 2 * L.length) = some (dO ((lx (s.heap.objs.size + 1 + 2 * L.length + 1) [p]).map (entryOfKey (tupleKind (strKind prog w))))) := by
    rw [← hH, show s.heap.objs.size + 1 + 2 * L.length = s.heap.objs.size + (1 + 2 * L.length) by omega]
    refine ext_get (h := s.heap) (i := 1 + 2 * L.length) ?_ (nf _)
    rw [show 1 + 2 * L.length = 2 * L.length + 1 by omega, List.getElem?_cons_succ, List.getElem?_append_right (by rw [lo_len]; exact Nat.le_refl _), lo_len, Nat.sub_self]
    rfl
  have is1 : ∀ x ∈ lx (s.heap.objs.size + 1) L, IsTupleKey (strKind prog w) H x.1 x.2.1 := by
    rw [← hH]
    refine lx_is L s.toks 1 fun j o e => ?_
    rw [show 1 + j = j + 1 by omega, List.getElem?_cons_succ, List.getElem?_append_left (by
      have := (List.getElem?_eq_some_iff.mp e).1
      exact this)]
    exact e
  have is2 : IsTupleKey (strKind prog w) H (key p) (s.heap.objs.size + 1 + 2 * L.length + 1) := by
    rw [← hH, show s.heap.objs.size + 1 + 2 * L.length + 1 = s.heap.objs.size + (2 * L.length + 2) by omega]
    refine tO_key (t := lt s.toks L) ?_
    rw [show 2 * L.length + 2 = (2 * L.length + 1) + 1 by omega, List.getElem?_cons_succ, List.getElem?_append_right (by rw [lo_len]; omega), lo_len, show 2 * L.length + 1 - 2 * L.length = 1 by omega]
    rfl
  have nk : ∀ (j : Nat) (x : Addr × Value), (lx (s.heap.objs.size + 1) L)[j]? ≠ some (key p, x) := fun j x z => by
    rw [List.map_append, List.nodup_append] at hn
    have m1 : key p ∈ L.map key := by
      rw [← lx_keys L (s.heap.objs.size + 1)]
      exact List.mem_map.mpr ⟨_, List.mem_of_getElem? z, rfl⟩
    exact hn.2.2 _ m1 _ (List.mem_singleton.mpr rfl) rfl
  have hT : (Shared.mk H s.gens s.drawn (lt s.toks (L ++ [p])) s.os).TypeIs (.ref (s.heap.objs.size + 1 + 2 * L.length)) "dict" := ⟨_, gs, rfl⟩
  unfold mergeMapping
  refine wpAny_bind (wpAny_isInstance hT isSubtype_dict_dict ?_)
  rw [if_pos rfl]
  refine wpAny_bind (wpAny_specialOf hT F.slot_dict_iter.lookup ?_)
  rw [show ((some (Value.builtin "dict.__iter__") : Option Value) == some (Value.builtin "dict.__iter__")) = true from beq_self_eq_true _]
  refine wpAny_bind (wpAny_pure ?_)
  dsimp only
  rw [if_neg (by
    rw [beq_iff_eq]
    intro z
    have y := hm
    rw [← z] at y
    exact absurd y (Nat.not_lt.mpr (by omega)))]
  refine wpAny_bind (wpAny_dictEntries gd rfl ?_)
  rw [if_neg (by
    intro z
    have : ((lx (s.heap.objs.size + 1) L).map (entryOfKey (tupleKind (strKind prog w)))) = [] := by simpa using z
    rw [List.map_eq_nil_iff] at this
    have := congrArg List.length this
    rw [lx_len] at this
    exact h0 (List.eq_nil_of_length_eq_zero this))]
  refine wpAny_bind (wpAny_dictEntries gs rfl ?_)
  refine wpAny_bind (wpAny_dictEpoch gs rfl ?_)
  show wpAny _ _ (forIn (List.range 1) PUnit.unit _ >>= _) _ _ _
  rw [show List.range 1 = [0] from rfl, List.forIn_cons]
  refine wpAny_bind (wpAny_bind (wpAny_bind (wpAny_dictEntries gs rfl ?_)))
  show wpAny _ _ (do
    holding [Value.ref (s.heap.objs.size + 1 + 2 * L.length + 1), Value.ref (s.heap.objs.size + 1 + 2 * L.length + 1 + 1)] (dictPut s.heap.objs.size ((tupleKind (strKind prog w)).hash (key p)) (Value.ref (s.heap.objs.size + 1 + 2 * L.length + 1)) (Value.ref (s.heap.objs.size + 1 + 2 * L.length + 1 + 1)))
    let x ← dictEpoch (s.heap.objs.size + 1 + 2 * L.length)
    if (x != 1) = true then do
        let _ ← (unsupported "dict.changed-during-merge" : Sem PUnit)
        pure (ForInStep.yield PUnit.unit)
      else pure (ForInStep.yield PUnit.unit) : Sem (ForInStep PUnit)) _ _ _
  refine wpAny_bind (wpAny_holding ?_)
  unfold dictPut
  refine wpAny_bind (wpAny_dictFind_heap (knd := tupleKind (strKind prog w)) hu is2 gd rfl (by simp) is1 (by
    rw [lx_keys]
    rw [List.map_append, List.nodup_append] at hn
    exact hn.1) (fun _ => ?_) fun j x z => absurd z (nk j x))
  refine wpAny_updateDictKeys gd rfl ?_ (by
    rw [List.size_toArray, List.length_map, lx_len]
    exact Nat.le_trans hl (by decide))
  have eH : H.update s.heap.objs.size (Obj.mapDictKeys fun es => es.push ⟨(tupleKind (strKind prog w)).hash (key p), .ref (s.heap.objs.size + 1 + 2 * L.length + 1), .ref (s.heap.objs.size + 1 + 2 * L.length + 1 + 1)⟩) = (fin w prog s L p).heap := by
    rw [← hH, ext_upd]
    show ext s.heap _ = ext s.heap _
    congr 2
    rw [List.map_append]
    show (⟨_, _, _, _⟩ : Obj) = ⟨_, _, _, _⟩
    simp [dO, Obj.mapDictKeys, lx, entryOfKey]
  rw [eH]
  have e9 : s.heap.objs.size + 1 + 2 * L.length = s.heap.objs.size + (2 * L.length + 1) := by omega
  have gs' : (fin w prog s L p).heap.get? (s.heap.objs.size + 1 + 2 * L.length) = some (dO ((lx (s.heap.objs.size + 1 + 2 * L.length + 1) [p]).map (entryOfKey (tupleKind (strKind prog w))))) := by
    refine (congrArg (fun a => (fin w prog s L p).heap.get? a) e9).trans (ext_get (h := s.heap) (i := 2 * L.length + 1) ?_ (nf _))
    rw [List.getElem?_cons_succ, List.getElem?_append_right (by rw [lo_len]; exact Nat.le_refl _), lo_len, Nat.sub_self]
    rfl
  refine wpAny_bind (wpAny_dictEpoch gs' rfl ?_)
  rw [if_neg (by show ¬ ((1 : Nat) != 1) = true; decide)]
  refine wpAny_pure ?_
  dsimp only
  rw [List.forIn_nil]
  exact wpAny_pure (wpAny_pure q)
end
end Fw

set_option Elab.async false
set_option linter.all false
set_option maxRecDepth 100000
set_option maxHeartbeats 2000000
namespace Fw
open PySem PySem.W PySem.Calls PyProof.Rows
abbrev PS : Type := Sem Value × Sem Value
theorem gather (f : (Option (Sem Value) × Sem Value) → (Option Addr × List PS) → Sem (ForInStep (Option Addr × List PS))) (hf : ∀ (p : PS) (run : List PS), run.length + 1 < 17 → f (some p.1, p.2) (none, run) = pure (.yield (none, run ++ [p]))) (rest : List PS) :
    ∀ (a run : List PS), run.length + a.length < 17 → forIn ((a ++ rest).map fun p => (some p.1, p.2)) ((none : Option Addr), run) f = forIn (rest.map fun p => (some p.1, p.2)) ((none : Option Addr), run ++ a) f
  | [], run, _ => by rw [List.append_nil]; rfl
  | p :: a, run, h => by
    rw [List.length_cons] at h
    rw [List.cons_append, List.map_cons, List.forIn_cons, hf p run (by omega), pure_bind]
    dsimp only
    rw [gather f hf rest a (run ++ [p]) (by rw [List.length_append]; show run.length + 1 + a.length < 17; omega), List.append_assoc]
    rfl
section
variable {prog : Program} {w : World} {A : Around} {E : Value → Shared → Prop} {env : Env}
theorem wp_display {pos : Pos} {s : Shared} {a : List PS} {b c : PS} {L : List PK} {p : PK} {Q : Value → Shared → Prop} (hu : A.units < cLine) (ha : a.length = 16) (c1 : PairsAre env pos (a ++ [b]) L) (c2 : PairsAre env pos [c] [p]) (hn : ((L ++ [p]).map key).Nodup) (hm : sysModules < s.heap.objs.size)
    (q : Q (.ref s.heap.objs.size) (fin w prog s L p)) : wpAny (model prog w) A (dictDisplay ((a ++ [b, c]).map fun p => (some p.1, p.2))) Q E s := by
  have hL : L.length = 17 := by
    rw [← pairs_len c1, List.length_append, ha]
    rfl
  have hn1 : (L.map key).Nodup := by
    rw [List.map_append] at hn
    exact (List.nodup_append.mp hn).1
  unfold dictDisplay
  dsimp only
  rw [gather _ (fun p run h => by
    have hne : ((run ++ [(p.1, p.2)]).length == 17) = false := by simp; omega
    simp only [hne, Bool.false_eq_true, if_false]) [b, c] a [] (by rw [ha]; decide)]
  rw [List.nil_append, List.map_cons, List.forIn_cons]
  have e17 : ((a ++ [(b.1, b.2)]).length == 17) = true := by rw [List.length_append, ha]; rfl
  have ne : (a ++ [(b.1, b.2)]).isEmpty = false := by cases a <;> rfl
  simp only [e17, if_true, ne, Bool.false_eq_true, if_false]
  refine wpAny_bind (wpAny_bind (wpAny_bind (wpAny_bind (wp_sub_long (w := w) (prog := prog) hu c1 (by rw [List.length_append, ha]; show 15 < 17; decide) hn1 (by rw [hL]; decide) ?_))))
  refine wpAny_pure (wpAny_pure ?_)
  dsimp only
  rw [List.map_cons, List.map_nil, List.forIn_cons]
  simp only [List.nil_append, List.length_singleton, show ((1 : Nat) == 17) = false from rfl, Bool.false_eq_true, if_false]
  refine wpAny_bind (wpAny_pure ?_)
  dsimp only
  rw [List.forIn_nil]
  refine wpAny_pure ?_
  simp only [List.isEmpty_cons, Bool.false_eq_true, if_false]
  refine wpAny_bind (wpAny_bind (wpAny_holding (wp_sub_one (w := w) (prog := prog) hu c2 ?_)))
  have es : (mid w prog s L).heap.objs.size = s.heap.objs.size + 1 + 2 * L.length := by
    show (ext s.heap _).objs.size = _
    rw [ext_size, List.length_cons, lo_len]
    omega
  rw [es]
  refine wpAny_bind (wpAny_onRaise (wpAny_holding (wp_merge hu hn (by rw [hL]; decide) (fun z => by rw [z] at hL; exact nomatch hL) hm ?_)))
  exact wpAny_pure (wpAny_pure q)
end
end Fw

set_option Elab.async false
set_option linter.all false
set_option maxRecDepth 100000
set_option maxHeartbeats 2000000
/-! The top with the display in its midst, run in the kernel ahead of it and behind it. -/
noncomputable section
namespace Fw
open PySem PySem.W PySem.Calls PyProof.Rows HandSHeadRun
section
variable (st : SharedT → Thread → Option (SharedT × Thread)) (n0 : Nat) (ann : Option Value)
def goS : Nat → SharedT → Thread → Option (SharedT × Thread)
  | 0, s, t => some (s, t)
  | m + 1, s, t => match through t with
    | true => none
    | false => match stepOk n0 ann t with
      | false => none
      | true => match st s t with
        | some (s', t') => frS s' fun s' => goS m s' t'
        | none => none
def segF : Nat → SharedT → Thread → Option (Flow × SharedT × Code × Pos)
  | 0, _, _ => none
  | m + 1, s, t => match endAt 1 t with
    | some f => some (f, s, t.code, t.pos)
    | none => match stepOk n0 ann t with
      | false => none
      | true => match st s t with
        | some (s', t') => frS s' fun s' => segF m s' t'
        | none => none
end
section
variable {tb : String → Option Builtin} {p : Program} {w : World} {n0 : Nat} {ann : Option Value}
theorem goS_ok : ∀ {m : Nat} {s s' : SharedT} {t t' : Thread}, goS (stepT (denote tb) p w) n0 ann m s t = some (s', t') → topGo tb p w n0 ann m s.abs t = some (s'.abs, t')
  | 0, s, s', t, t', h => by
    cases (show some (s, t) = some (s', t') from h)
    rfl
  | m + 1, s, s', t, t', h => by
    have h : (match through t with
      | true => none
      | false => match stepOk n0 ann t with
        | false => none
        | true => match stepT (denote tb) p w s t with
          | some (s', t') => frS s' fun s' => goS (stepT (denote tb) p w) n0 ann m s' t'
          | none => none) = some (s', t') := h
    cases h1 : through t with
    | true => rw [h1] at h; exact nomatch h
    | false =>
      cases h2 : stepOk n0 ann t with
      | false => rw [h1, h2] at h; exact nomatch h
      | true =>
        rw [h1, h2] at h
        cases h3 : stepT (denote tb) p w s t with
        | none => rw [h3] at h; exact nomatch h
        | some r =>
          obtain ⟨s2, t2⟩ := r
          rw [h3] at h
          have h : (frS s2 fun s' => goS (stepT (denote tb) p w) n0 ann m s' t2) = some (s', t') := h
          rw [frS_eq] at h
          exact go_one h1 h2 (stepT_spec h3) (goS_ok h)
theorem segF_ok : ∀ {m : Nat} {s s' : SharedT} {t : Thread} {f : Flow} {c : Code} {q : Pos}, segF (stepT (denote tb) p w) n0 ann m s t = some (f, s', c, q) → segRun tb p w n0 ann 1 m s.abs t = some (f, s'.abs, c, q)
  | 0, _, _, _, _, _, _, h => nomatch (show (none : Option (Flow × SharedT × Code × Pos)) = some _ from h)
  | m + 1, s, s', t, f, c, q, h => by
    have h : (match endAt 1 t with
      | some f => some (f, s, t.code, t.pos)
      | none => match stepOk n0 ann t with
        | false => none
        | true => match stepT (denote tb) p w s t with
          | some (s', t') => frS s' fun s' => segF (stepT (denote tb) p w) n0 ann m s' t'
          | none => none) = some (f, s', c, q) := h
    unfold segRun
    cases h1 : endAt 1 t with
    | some g =>
      rw [h1] at h
      cases (show some (g, s, t.code, t.pos) = some (f, s', c, q) from h)
      rfl
    | none =>
      cases h2 : stepOk n0 ann t with
      | false => rw [h1, h2] at h; exact nomatch h
      | true =>
        rw [h1, h2] at h
        cases h3 : stepT (denote tb) p w s t with
        | none => rw [h3] at h; exact nomatch h
        | some r =>
          obtain ⟨s2, t2⟩ := r
          rw [h3] at h
          have h : (frS s2 fun s' => segF (stepT (denote tb) p w) n0 ann m s' t2) = some (f, s', c, q) := h
          rw [frS_eq] at h
          show (match step (denote tb) p w s.abs t with
            | .go s' t' => segRun tb p w n0 ann 1 m s' t'
            | .halt _ _ => none) = some (f, s'.abs, c, q)
          rw [stepT_spec h3]
          exact segF_ok h
end
/-! ### the display's objects behind a tree -/
def finObjs (w : World) (prog : Program) (m t : Nat) (L : List PK) (p : PK) : List Obj :=
  dO ((lx (m + 1) L ++ lx (m + 1 + 2 * L.length + 1) [p]).map (entryOfKey (tupleKind (strKind prog w)))) :: (lo t L ++ dO ((lx (m + 1 + 2 * L.length + 1) [p]).map (entryOfKey (tupleKind (strKind prog w)))) :: lo (lt t L) [p])
def layT (w : World) (prog : Program) (L : List PK) (p : PK) (s : SharedT) : Option SharedT := match putAll (finObjs w prog s.n s.toks L p) s.tree s.n with
  | some (t, n) => frNat n fun n => some ⟨t, n, s.life, s.gens, s.drawn, lt s.toks (L ++ [p]), s.os⟩
  | none => none
theorem ext_foldl : ∀ (l : List Obj) (h : Heap), l.foldl (fun h o => h.push o) h = ext h l
  | [], h => (ext_nil h).symm
  | o :: l, h => by
    show l.foldl _ (h.push o) = _
    rw [ext_foldl l (h.push o)]
    have z := ext_push h [] o
    rw [ext_nil] at z
    rw [z, ext_ext]
    rfl
theorem layT_ok {w : World} {prog : Program} {L : List PK} {p : PK} {s s' : SharedT} (h : layT w prog L p s = some s') : s'.abs = fin w prog s.abs L p := by
  unfold layT at h
  cases e : putAll (finObjs w prog s.n s.toks L p) s.tree s.n with
  | none => rw [e] at h; exact nomatch h
  | some r =>
    obtain ⟨t, n⟩ := r
    rw [e] at h
    have h : (frNat n fun n => some (⟨t, n, s.life, s.gens, s.drawn, lt s.toks (L ++ [p]), s.os⟩ : SharedT)) = some s' := h
    rw [frNat_eq] at h
    cases h
    have q := putAll_ok (life := s.life) e
    rw [ext_foldl] at q
    have sz : (absHeap s.tree s.n s.life).objs.size = s.n := absHeap_size s.tree s.n s.life
    show Shared.mk (absHeap t n s.life) s.gens s.drawn _ s.os = Shared.mk (ext (absHeap s.tree s.n s.life) _) s.gens s.drawn _ s.os
    rw [q]
    show _ = Shared.mk (ext (absHeap s.tree s.n s.life) (finObjs w prog (absHeap s.tree s.n s.life).objs.size s.toks L p)) s.gens s.drawn _ s.os
    rw [sz]
    rfl
/-! ### the whole -/
structure Plan where
  p : Program
  env : Env
  q0 : Pos
  pos0 : Pos
  l : List Stmt
  rest : List Stmt
  x : Str
  np : Pos
  keys : List (Option Expr)
  values : List Expr
  dpos : Pos
  apos : Pos
  L : List PK
  pk : PK
  k0 : Nat
  kB : Nat
  kL : Nat
  kF : Nat
  M : Nat
def Plan.st (D : Plan) : Stmt := .Assign [.Name D.x D.np] (.Dict D.keys D.values D.dpos) D.apos
def Plan.b (D : Plan) : List Stmt := D.l ++ D.st :: D.rest
def Plan.c (D : Plan) : Code := .body (behindTheImports D.p) D.env
def Plan.B (D : Plan) : List Frame := [topFrame D.q0]
def Plan.F (D : Plan) (v : Value) : Sem Flow := do
  standAt D.np
  bindName D.env D.x v
  pure .next
structure Big where
  tA : Thread
  n1 : Nat
  cB : Code
  c1 : Code
  c3 : Code
  s4 : SharedT
def bigF (st : SharedT → Thread → Option (SharedT × Thread)) (D : Plan) (w : World) (os : OsState) (p2 : Pos) : Option Big := match putAll (boot_heap w.params).objs.toList .nil 0 with
  | none => none
  | some (t, n) => frNat n fun n0 => match goS st n0 (bootAnn w) D.k0 (bootT w os (t, n0)) (topStub D.p) with
    | none => none
    | some (sA, tA) => match segF st n0 (bootAnn w) D.kB sA (blockOf (behindTheImports D.p) D.env D.c D.pos0 D.B) with
      | some (.next, sB, cB, pB) => (match segF st n0 (bootAnn w) D.kL sB (piecesOf D.l D.env D.c pB D.B) with
        | some (.next, s1, c1, _) => (match layT w D.p D.L D.pk s1 with
          | some s2 => (match segF st n0 (bootAnn w) D.kF s2 ⟨(D.F (.ref s1.n)).wrap doneF deadEnd id id, D.c, p2, D.B⟩ with
            | some (.next, s3, c3, p3) => (match goF st n0 (bootAnn w) D.M s3 (restOf D.rest D.env D.c p3 D.B) with
              | some s4 => some ⟨tA, s1.n, cB, c1, c3, s4⟩
              | none => none)
            | _ => none)
          | none => none)
        | _ => none)
      | _ => none
end Fw

end
set_option Elab.async false
set_option linter.all false
set_option maxRecDepth 100000
set_option maxHeartbeats 2000000
noncomputable section
namespace Fw
open PySem PySem.W PySem.Calls PyProof.Rows HandSHeadRun
/-- an expression by wp, with what stands behind it; its end told by a property -/
theorem halts_mid' {p : Program} {w : World} {α : Type} {m : Sem α} {K : α → Sem Fin} {H : Value → Sem Fin} {gd : Bool → Bool} {lv : List Value → List Value} {s : Shared} {c : Code} {pos : Pos} {B : List Frame} {Q : α → Pos → Shared → Prop} {G : Shared → Prop}
    (hw : Sem.wp (model p w) ((⟨c, none, none, [], none⟩ : Ctx).over B) m Q (fun _ _ _ => False) pos s) (hk : ∀ a p' s', Q a p' s' → ∃ S, Halts p w s' ⟨K a, c, p', B⟩ S ∧ S.gens = #[] ∧ G S) : ∃ S, Halts p w s ⟨m.wrap K H gd lv, c, pos, B⟩ S ∧ S.gens = #[] ∧ G S := by
  obtain ⟨e, S, hr, f, he, hg, hS⟩ := runs_wrap_of_wp (M := model p w) (Γ := ⟨c, none, none, [], none⟩) (fs := B) (Φ := fun e s'' => ∃ f, e = .ret (.ok f) ∧ s''.gens = #[] ∧ G s'') K H gd lv m hw
    (fun a p' s' q => by
      obtain ⟨S, h1, h2, h3⟩ := hk a p' s' q
      obtain ⟨f, r⟩ := halts_runs h1 h2
      exact ⟨_, _, r, f, rfl, h2, h3⟩) (fun _ _ _ q => q.elim)
  subst he
  exact ⟨S, runs_halts hr hg, hg, hS⟩
/-- what an end keeps of a state -/
structure Keeps (n₀ : Nat) (ann : Option Value) (s S : Shared) : Prop where
  life : S.heap.life = s.heap.life
  os : S.os = s.os
  fr : ∀ b o, b < n₀ → b ≠ mainNs → b ≠ cStatics → ann ≠ some (.ref b) → s.heap.get? b = some o → S.heap.get? b = some o
theorem Keeps.trans {n₀ : Nat} {ann : Option Value} {a b c : Shared} (x : Keeps n₀ ann a b) (y : Keeps n₀ ann b c) : Keeps n₀ ann a c :=
  ⟨y.life.trans x.life, y.os.trans x.os, fun i o h1 h2 h3 h4 h => y.fr i o h1 h2 h3 h4 (x.fr i o h1 h2 h3 h4 h)⟩
theorem keeps_go {p : Program} {w : World} {tb : String → Option Builtin} {n₀ : Nat} {ann : Option Value} {n : Nat} {s s' : Shared} {t t' : Thread} (h : topGo tb p w n₀ ann n s t = some (s', t')) : Keeps n₀ ann s s' := by
  obtain ⟨a, b, c⟩ := go_keeps h
  exact ⟨a, b, c⟩
theorem keeps_fin {w : World} {prog : Program} {n₀ : Nat} {ann : Option Value} (s : Shared) (L : List PK) (p : PK) : Keeps n₀ ann s (fin w prog s L p) :=
  ⟨rfl, rfl, fun b o _ _ _ _ h => by
    have lt := Heap.lt_size h
    show (ext s.heap _).get? b = some o
    unfold Heap.get? ext at *
    rw [Array.getElem?_append_left lt]
    exact h⟩
section
variable {D : Plan} {w : World} {os : OsState}
/-- the Around of the top's body -/
def topA (D : Plan) : Around := { handled := none, depth := frameCount [(.builtin "claim.caller" {}, D.q0)] + D.c.weight, frames := none, guards := none, units := D.c.cUnits + unitsOf [(.builtin "claim.caller" {}, D.q0)] }
theorem top_in : ((⟨D.c, none, none, [], none⟩ : Ctx).over D.B).In (topA D) :=
  ⟨rfl, Nat.le_refl _, fun l hl => (nomatch (show (none : Option (List Env)) = some l from hl)), fun g hg => (nomatch (show (none : Option (List Code)) = some g from hg)), Nat.le_refl _⟩
/-- what must be shown of a plan -/
structure Plan.Ok (D : Plan) : Prop where
  body : behindTheImports D.p = D.l ++ D.st :: D.rest
  sw : swapsWith (.Dict D.keys D.values D.dpos) (some (.Name D.x D.np)) D.apos.line D.env = pure false
  shape : ∃ (a : List PS) (b c : PS), a.length = 16 ∧ (evalEachOpt D.keys D.env).zip ((evalEach D.values D.env).map fun v => do let x ← v; standAt D.dpos; pure x) = (a ++ [b, c]).map (fun p => (some p.1, p.2)) ∧ PairsAre D.env D.dpos (a ++ [b]) D.L ∧ PairsAre D.env D.dpos [c] [D.pk]
  nd : ((D.L ++ [D.pk]).map key).Nodup
  un : D.c.cUnits + unitsOf [(.builtin "claim.caller" {}, D.q0)] < cLine
theorem big_ends {D : Plan} {w : World} {os : OsState} {G : SharedT → Prop} (O : D.Ok)
    (run : ∀ p2, ∃ r, bigF (stepT (denote table) D.p w) D w os p2 = some r ∧ r.tA = ⟨denote table D.c, D.c, D.pos0, D.B⟩ ∧ Nat.blt sysModules r.n1 = true ∧ r.cB = D.c ∧ r.c1 = D.c ∧ r.c3 = D.c ∧ r.s4.gens = #[] ∧ G r.s4) (hz : (⟨boot_heap w.params, #[], boot_drawn, boot_toks, os⟩ : Shared).asleep) :
    ∃ S : SharedT, Halts D.p w ⟨boot_heap w.params, #[], boot_drawn, boot_toks, os⟩ (topStub D.p) S.abs ∧ S.gens = #[] ∧ Keeps (boot_heap w.params).objs.size (bootAnn w) ⟨boot_heap w.params, #[], boot_drawn, boot_toks, os⟩ S.abs ∧ G S := by
  -- what the run is, piece by piece
  have parts : ∀ p2, ∃ (sA sB s1 s2 s3 s4 : SharedT) (pB p1 p3 : Pos) (t : PySem.W.BT) (n : Nat), putAll (boot_heap w.params).objs.toList .nil 0 = some (t, n) ∧ goS (stepT (denote table) D.p w) n (bootAnn w) D.k0 (bootT w os (t, n)) (topStub D.p) = some (sA, ⟨denote table D.c, D.c, D.pos0, D.B⟩) ∧
      segF (stepT (denote table) D.p w) n (bootAnn w) D.kB sA (blockOf (behindTheImports D.p) D.env D.c D.pos0 D.B) = some (.next, sB, D.c, pB) ∧ segF (stepT (denote table) D.p w) n (bootAnn w) D.kL sB (piecesOf D.l D.env D.c pB D.B) = some (.next, s1, D.c, p1) ∧ Nat.blt sysModules s1.n = true ∧ layT w D.p D.L D.pk s1 = some s2 ∧
      segF (stepT (denote table) D.p w) n (bootAnn w) D.kF s2 ⟨(D.F (.ref s1.n)).wrap doneF deadEnd id id, D.c, p2, D.B⟩ = some (.next, s3, D.c, p3) ∧ goF (stepT (denote table) D.p w) n (bootAnn w) D.M s3 (restOf D.rest D.env D.c p3 D.B) = some s4 ∧ s4.gens = #[] ∧ G s4 := by
    intro p2
    obtain ⟨r, hr, e1, en1, e2, e3, e4, hg, hG⟩ := run p2
    unfold bigF at hr
    split at hr
    · exact nomatch hr
    rename_i t n ht
    rw [frNat_eq] at hr
    split at hr
    · exact nomatch hr
    rename_i sA tA hA
    split at hr
    · rename_i sB cB pB hB
      split at hr
      · rename_i s1 c1 p1 h1
        split at hr
        · rename_i s2 h2
          split at hr
          · rename_i s3 c3 p3 h3
            split at hr
            · rename_i s4 h4
              cases hr
              dsimp only at e1 en1 e2 e3 e4 hg hG
              subst e1 e2 e3 e4
              exact ⟨sA, sB, s1, s2, s3, s4, pB, p1, p3, t, n, ht, hA, hB, h1, en1, h2, h3, h4, hg, hG⟩
            · exact nomatch hr
          · exact nomatch hr
        · exact nomatch hr
      · exact nomatch hr
    · exact nomatch hr
  obtain ⟨sA, sB, s1, s2, _, _, pB, p1, _, t, n, ht, hA, hB, h1, n1, h2, _⟩ := parts default
  have eh := putAll_heap ht
  have en : (boot_heap w.params).objs.size = n := by
    rw [← eh]
    exact absHeap_size t n _
  have eb : (bootT w os (t, n)).abs = ⟨boot_heap w.params, #[], boot_drawn, boot_toks, os⟩ := by
    show (⟨absHeap t n (boot_heap w.params).life, #[], boot_drawn, boot_toks, os⟩ : Shared) = _
    rw [eh]
  have suffix : ∀ p2, ∃ (s3 s4 : SharedT) (p3 : Pos), segF (stepT (denote table) D.p w) n (bootAnn w) D.kF s2 ⟨(D.F (.ref s1.n)).wrap doneF deadEnd id id, D.c, p2, D.B⟩ = some (.next, s3, D.c, p3) ∧ goF (stepT (denote table) D.p w) n (bootAnn w) D.M s3 (restOf D.rest D.env D.c p3 D.B) = some s4 ∧ s4.gens = #[] ∧ G s4 := by
    intro p2
    obtain ⟨sA', sB', s1', s2', s3, s4, pB', p1', p3, t', n', ht', hA', hB', h1', _, h2', h3, h4, hg, hG⟩ := parts p2
    rw [ht] at ht'
    cases ht'
    rw [hA] at hA'
    cases hA'
    rw [hB] at hB'
    cases hB'
    rw [h1] at h1'
    cases h1'
    rw [h2] at h2'
    cases h2'
    exact ⟨s3, s4, p3, h3, h4, hg, hG⟩
  have goA := goS_ok hA
  rw [eb] at goA
  have kA := keeps_go goA
  have sB0 : splitAtGen D.B = none := rfl
  obtain ⟨_, mB, _, goB⟩ := seg_goes (res := fun _ : Unit => Flow.next) (K' := fun _ => (execs (behindTheImports D.p) D.env).wrap doneF (leaveH D.env) id id) (H' := Sem.raise) (B := D.B) sB0 D.kB (t := blockOf (behindTheImports D.p) D.env D.c D.pos0 D.B)
    (t' := ⟨(blockStart (behindTheImports D.p) D.env).wrap (fun _ => (execs (behindTheImports D.p) D.env).wrap doneF (leaveH D.env) id id) .raise id id, D.c, D.pos0, D.B⟩) ⟨rfl, rfl, .inl ⟨rfl, rfl, _, rfl, rfl⟩⟩ (segF_ok hB)
  have kB := keeps_go goB
  obtain ⟨fC, mC, eC, goC⟩ := seg_goes (res := fun f : Flow => f) (K' := fun f => match f with | .next => (execs (D.st :: D.rest) D.env).wrap doneF (leaveH D.env) id id | f => doneF f) (H' := leaveH D.env) (B := D.B) sB0 D.kL (t := piecesOf D.l D.env D.c pB D.B)
    (t' := ⟨(execs D.l D.env).wrap (fun f => match f with | .next => (execs (D.st :: D.rest) D.env).wrap doneF (leaveH D.env) id id | f => doneF f) (leaveH D.env) id id, D.c, pB, D.B⟩) ⟨rfl, rfl, .inl ⟨rfl, rfl, _, rfl, rfl⟩⟩ (segF_ok h1)
  have eC : fC = .next := eC
  subst eC
  have kC := keeps_go goC
  have K1 : Keeps n (bootAnn w) ⟨boot_heap w.params, #[], boot_drawn, boot_toks, os⟩ s1.abs := (kA.trans kB).trans kC
  have sz : s1.abs.heap.objs.size = s1.n := absHeap_size s1.tree s1.n s1.life
  -- behind the display
  have behind : ∀ p', ∃ S, Halts D.p w (fin w D.p s1.abs D.L D.pk) ⟨(D.F (.ref s1.abs.heap.objs.size)).wrap (fun f => match f with | .next => (execs D.rest D.env).wrap doneF (leaveH D.env) id id | f => doneF f) (leaveH D.env) id id, D.c, p', D.B⟩ S ∧ S.gens = #[] ∧
      ∃ S4 : SharedT, S = S4.abs ∧ S4.gens = #[] ∧ Keeps n (bootAnn w) s1.abs S ∧ G S4 := by
    intro p'
    obtain ⟨s3, s4, p3, h3, h4, hg, hG⟩ := suffix p'
    rw [sz, ← layT_ok h2]
    obtain ⟨fE, mE, eE, goE⟩ := seg_goes (res := fun f : Flow => f) (K' := fun f => match f with | .next => (execs D.rest D.env).wrap doneF (leaveH D.env) id id | f => doneF f) (H' := leaveH D.env) (B := D.B) sB0 D.kF (t := ⟨(D.F (.ref s1.n)).wrap doneF deadEnd id id, D.c, p', D.B⟩)
      (t' := ⟨(D.F (.ref s1.n)).wrap (fun f => match f with | .next => (execs D.rest D.env).wrap doneF (leaveH D.env) id id | f => doneF f) (leaveH D.env) id id, D.c, p', D.B⟩) ⟨rfl, rfl, .inl ⟨rfl, rfl, _, rfl, rfl⟩⟩ (segF_ok h3)
    have eE : fE = .next := eE
    subst eE
    have top := goF_ok h4
    have kE := keeps_go goE
    have k2 : Keeps n (bootAnn w) s1.abs s2.abs := by
      rw [layT_ok h2]
      exact keeps_fin _ _ _
    have K3 := (K1.trans k2).trans kE
    obtain ⟨_, l4, o4, f4⟩ := topRun_spec _ _ _ _ (Shared.asleep_of_life K3.life hz) top
    have k4 : Keeps n (bootAnn w) s3.abs s4.abs := ⟨l4, o4, f4⟩
    exact ⟨s4.abs, halts_go goE (halts_top top hg), hg, s4, rfl, hg, (k2.trans kE).trans k4, hG⟩
  have ex : exec D.st D.env = ((do standAt D.apos; eval (.Dict D.keys D.values D.dpos) D.env) : Sem Value) >>= D.F := by
    show exec (.Assign [.Name D.x D.np] (.Dict D.keys D.values D.dpos) D.apos) D.env = _
    rw [exec_Assign_Name _ _ _ _ _ O.sw]
    rfl
  obtain ⟨a, b, c, ha, hsh, c1, c2⟩ := O.shape
  have hu : (topA D).units < cLine := O.un
  have hm : sysModules < s1.abs.heap.objs.size := by
    rw [sz]
    exact Nat.le_of_ble_eq_true n1
  have wpD : wpAny (model D.p w) (topA D) ((do standAt D.apos; eval (.Dict D.keys D.values D.dpos) D.env) : Sem Value) (fun v s' => v = .ref s1.abs.heap.objs.size ∧ s' = fin w D.p s1.abs D.L D.pk) (fun _ _ => False) s1.abs := by
    refine wpAny_bind (wpAny_standAt ?_)
    rw [arm_eval_Dict, hsh]
    exact wpAny_bind (wpAny_standAt (wp_display hu ha c1 c2 O.nd hm ⟨rfl, rfl⟩))
  obtain ⟨S, hS, hg, S4, rfl, hg4, hk4, hG⟩ := halts_mid' (p := D.p) (w := w) (K := fun v => (D.F v).wrap (fun f => match f with | .next => (execs D.rest D.env).wrap doneF (leaveH D.env) id id | f => doneF f) (leaveH D.env) id id) (H := leaveH D.env) (gd := id) (lv := id) (c := D.c) (pos := p1) (B := D.B)
    (G := fun S => ∃ S4 : SharedT, S = S4.abs ∧ S4.gens = #[] ∧ Keeps n (bootAnn w) s1.abs S ∧ G S4) (wpD _ p1 top_in) (fun v p' s' q => by
      obtain ⟨rfl, rfl⟩ := q
      exact behind p')
  refine ⟨S4, ?_, hg4, by rw [en]; exact K1.trans hk4, hG⟩
  refine halts_go goA ?_
  have eB : denote table D.c = (blockStart (behindTheImports D.p) D.env).wrap (fun _ => (execs (behindTheImports D.p) D.env).wrap doneF (leaveH D.env) id id) .raise id id := body_wrap _
  rw [eB]
  refine halts_go goB ?_
  rw [show (execs (behindTheImports D.p) D.env).wrap doneF (leaveH D.env) id id = (execs D.l D.env).wrap (fun f => match f with | .next => (execs (D.st :: D.rest) D.env).wrap doneF (leaveH D.env) id id | f => doneF f) (leaveH D.env) id id by rw [O.body, execs_app_wrap]; rfl]
  refine halts_go goC ?_
  show Halts D.p w s1.abs ⟨(execs (D.st :: D.rest) D.env).wrap doneF (leaveH D.env) id id, D.c, p1, D.B⟩ S4.abs
  rw [execs_cons_wrap, ex, Sem.bind_eq_wrap', Sem.wrap_wrap]
  exact hS
end
end Fw

end
set_option Elab.async false
set_option linter.all false
set_option maxRecDepth 100000
set_option maxHeartbeats 2000000
noncomputable section
namespace Fw
open PySem PySem.W PySem.Calls PyProof.Rows HandSHeadRun
/-- what is read off a run's end -/
def seeB (D : Plan) (q : Program) (loose : List Str) (Xt : Shared → Bool) {α : Type} (ob : SharedT → α) (w : World) (r : Big) := (r.tA, Nat.blt sysModules r.n1, r.cB, r.c1, r.c3, r.s4.gens.size, looksF D.p (boot_heap w.params) r.s4.abs, seenQ q loose (importedModules D.p.main.body) Xt r.s4.abs, ob r.s4)
def RunB (D : Plan) (q : Program) (loose : List Str) (Xt : Shared → Bool) {α : Type} (ob : SharedT → α) (val : World → α) : Prop :=
  ∀ (w : World) (os : OsState) (p2 : Pos), (bigF (stepQ (denQ tabQ) D.p w) D w os p2).map (seeB D q loose Xt ob w) = some (⟨denQ tabQ D.c, D.c, D.pos0, D.B⟩, true, D.c, D.c, D.c, 0, true, openGood q loose, val w)
theorem tops_of {D : Plan} {q : Program} {loose : List Str} {Xt : Shared → Bool} {H : Hook} {ob : SharedT → H.α} (O : D.Ok) (ho : ∀ s : SharedT, ob s = H.obs s.abs) (e : opening D.p = plainProg D.p.main.scope.names) (f : ∀ s, fenceModules? D.p s = some s) (run : RunB D q loose Xt ob H.val) :
    TopsE D.p q loose Xt H.obs H.val := fun w => by
  obtain ⟨⟨hp, gs, dr, tk, os⟩, hf, e0⟩ := Option.map_eq_some_iff.mp (boot_open (N := 600) e rfl f w)
  obtain ⟨rfl, rfl, rfl, rfl⟩ : hp = boot_heap w.params ∧ gs = Array.mk [] ∧ dr = boot_drawn ∧ tk = boot_toks := by simpa using e0
  rw [← table_eq_tree] at hf
  obtain ⟨s, hi, hfe⟩ := Option.bind_eq_some_iff.mp hf
  have A := AfterImport.of_importEnds hi
  have hz := Shared.asleep_of_life (fence_lifeW hfe) A.life
  have eq : ∀ p2, bigF (stepQ (denQ tabQ) D.p w) D w os p2 = bigF (stepT (denote table) D.p w) D w os p2 := fun p2 => by
    rw [← stepQ_eq, ← denQ_eq, ← tabQ_eq, table_eq_tree]
  obtain ⟨S, hS, hg, kS, g1, g2, g3⟩ := big_ends (w := w) (os := os) (G := fun S => looksF D.p (boot_heap w.params) S.abs = true ∧ openSeen q loose (importedModules D.p.main.body) Xt true S.abs = openGood q loose ∧ H.obs S.abs = H.val w) O (fun p2 => by
    obtain ⟨r, hr, hv⟩ := Option.map_eq_some_iff.mp (run w os p2)
    rw [eq] at hr
    have hv : seeB D q loose Xt ob w r = _ := hv
    unfold seeB at hv
    simp only [Prod.mk.injEq] at hv
    obtain ⟨v1, v2, v3, v4, v5, v6, v7, v8, v9⟩ := hv
    refine ⟨r, hr, ?_, v2, v3, v4, v5, Array.eq_empty_of_size_eq_zero v6, v7, ?_, ?_⟩
    · rw [v1, ← denQ_eq, ← tabQ_eq, table_eq_tree]
    · rw [seenQ_eq]
      exact v8
    · rw [← ho]
      exact v9) hz
  exact ⟨600, _, S.abs, hf, ⟨hS, boot_ns _, rfl, hg, kS.life, kS.os, kS.fr, g1, g2, g3⟩⟩
/-- a row whose top has the display in its midst -/
theorem head_big {r : OpenRow} {D : Plan} {q : Program} {loose : List Str} {H : Hook} {ob : SharedT → H.α} {d : DefRec} {kwd : List (Str × Expr)} (hD : D.p = r.prog) (O : D.Ok) (ho : ∀ s : SharedT, ob s = H.obs s.abs) (e : opening D.p = plainProg D.p.main.scope.names) (f : ∀ s, fenceModules? D.p s = some s)
    (run : RunB D q loose (fun s => xlAt q [] s && recOk r.toRowW.records s) ob H.val) (hdef : defOf q r.name = some (d, kwd)) (hp : r.prog.theDef r.name = some (d.params, d.body, d.scope)) (hk : kwWritten? d.params.kwonlyargs d.params.kw_defaults = some kwd)
    (hwr : (!r.writes || r.records.isEmpty) = true) (k1 : r.wellSaid = true) (ok : (chainsOk q && opensWell r.prog && (frees r.toRowW && r.within.isEmpty)) = true) (hb : r.prog.bare) (hw : r.toRowW.promised)
    (call : WalkO q loose (XL q []) H.says r.toRowW d kwd fun f vs => PySem.call f vs) : r.Holds := by
  have T := tops_of O ho e f run
  rw [hD] at T
  exact holdsE T (fun s z => xl_of s (Bool.and_eq_true_iff.mp z).1) XL.keeps hdef hp hk (fun s z => recFacts_of (Bool.and_eq_true_iff.mp z).2) hwr k1 ok hb hw call
/-! ### the hook: functions, facts, and some objects outright -/
def obsX (fa : List He.Fa) (fn : List He.FnD) (gs : List (Str × Addr)) (m k n : Nat) (g : Addr → Option Obj) : He.Al × Bool × List (Option Obj) :=
  let K := He.frG g (List.range n)
  (He.obsE fa fn K, gs.all fun x => He.eqO (nsIn K mainGlobals x.1) (some (some (.ref x.2))), (List.range k).map fun i => K.lookup (m + i))
def hookX (fa : List He.Fa) (fn : List He.FnD) (gs : List (Str × Addr)) (m k n : Nat) (os : World → List Obj) : Hook where
  α := He.Al × Bool × List (Option Obj)
  obs := fun s => obsX fa fn gs m k n s.heap.get?
  val := fun w => (He.valE fn, true, (os w).map some)
  says := fun w h => ∃ K : Frag, K.In h ∧ He.SaysE fa fn K ∧ (∀ x ∈ gs, nsIn K mainGlobals x.1 = some (some (.ref x.2))) ∧ ∀ i o, (os w)[i]? = some o → K.lookup (m + i) = some o
  of := fun w s e => by
    have e1 := congrArg (fun z : He.Al × Bool × List (Option Obj) => z.1) e
    have e2 := congrArg (fun z : He.Al × Bool × List (Option Obj) => z.2.1) e
    have e3 : (List.range k).map (fun i => (He.frG s.heap.get? (List.range n)).lookup (m + i)) = (os w).map some := congrArg (fun z : He.Al × Bool × List (Option Obj) => z.2.2) e
    refine ⟨_, He.frG_in, e1, fun x hx => He.eqO_ok (List.all_eq_true.mp e2 x hx), fun i o h => ?_⟩
    have z : ((List.range k).map (fun i => (He.frG s.heap.get? (List.range n)).lookup (m + i)))[i]? = ((os w).map some)[i]? := by rw [e3]
    rw [List.getElem?_map, List.getElem?_map, h] at z
    cases q : (List.range k)[i]? with
    | none => rw [q] at z; exact nomatch z
    | some j =>
      rw [q] at z
      have ej : j = i := by
        have := (List.getElem?_eq_some_iff.mp q)
        obtain ⟨h1, h2⟩ := this
        rw [List.getElem_range] at h2
        exact h2.symm
      subst ej
      exact Option.some.inj z
  keeps := fun _ _ _ ⟨K, hK, c⟩ k => ⟨K, Frag.In.keeps hK k, c⟩
def obX (fa : List He.Fa) (fn : List He.FnD) (gs : List (Str × Addr)) (m k n : Nat) (s : SharedT) : He.Al × Bool × List (Option Obj) := obsX fa fn gs m k n (getT s)
theorem obX_eq (fa : List He.Fa) (fn : List He.FnD) (gs : List (Str × Addr)) (m k n : Nat) (os : World → List Obj) (s : SharedT) : obX fa fn gs m k n s = (hookX fa fn gs m k n os).obs s.abs := by
  have e : getT s = s.abs.heap.get? := funext (getT_eq s)
  show obsX fa fn gs m k n (getT s) = obsX fa fn gs m k n s.abs.heap.get?
  rw [e]
end Fw

end
set_option Elab.async false
set_option linter.all false
set_option maxRecDepth 100000
set_option maxHeartbeats 2000000
namespace PySem
namespace FellX
open PySem.W PySem.Calls PyProof.Rows PySem.HandSPX Builtin Builtin.ObjectAttr
abbrev rtTail : List Value := [.type "RuntimeError", .type "Exception", .type "BaseException", .type "object"]
/-- a first field of a fresh error whose class stands straight under RuntimeError -/
theorem rt_osa {prog : Program} {w : World} {A : Around} {R : Result → Shared → Prop} {hp : Heap} {gs : Array GenState} {dr : Drawn} {n : Nat} {os : OsState}
    {K : W.Frag} {f : Str} {tk : Tok} {v : Value} {x C : Addr} {fv : Array Value} {cd : ClassData} (X : K.In hp)
    (hx : hp.get? x = some { cls := .ref C, data := .fields fv }) (hcd : W.clsIn K C = some cd) (hm : cd.mro = .ref C :: rtTail) (hh : cd.hasDict = true)
    (ha : W.findIn K (.ref C) f = some none)
    (hq : ∀ h' tk' dx, (∀ b o, b ≠ x → hp.get? b = some o → h'.get? b = some o) → hp.objs.size ≤ dx → dx ≠ x →
      h'.get? x = some { cls := .ref C, dict := some dx, data := .fields fv } → h'.Ns1 dx (fun y => if y = f then some v else none) →
      R (.ok (.ret .none)) ⟨h', gs, dr, tk', os⟩) :
    codeAny (model prog w) A (.call (.builtin "object.__setattr__") ⟨[.ref x, .str f tk, v], []⟩) R ⟨hp, gs, dr, n, os⟩ := by
  have J : W.InstAt hp x { cls := .ref C, data := .fields fv } C none := ⟨hx, rfl, rfl, trivial⟩
  have S := F.store_object
  have hob : cd.mro.contains (.type "object") = true := by
    rw [hm, List.contains_cons, show rtTail.contains (.type "object") = true by decide +kernel, Bool.or_true]
  have xs : x ≠ hp.objs.size := Nat.ne_of_lt (Heap.lt_size hx)
  have su : W.Looks (model prog w) hp (isInstance (.ref x) (.type "object")) true := J.type.andThen
    (W.looks_mroIn X (by unfold W.mroIn; rw [hcd, Option.bind_some, if_neg (by rw [hm]; intro z; cases z), hob]))
  refine codeAny_call_builtin S.slot.plain S.entry
    (@W.check_slot (model prog w) _ _ ⟨hp, gs, dr, n, os⟩ "object.__setattr__" "object" "__setattr__" (.ref x) [.str f tk, v] [] _ S.kind S.split su
      (S.args (.ref x) (.str f tk) v) ?_)
  have lm : W.Looks (model prog w) hp (mroOf (.ref C)) cd.mro := (W.looks_clsIn X hcd).andThen .now
  have lt : W.Looks (model prog w) hp (storeTaker? none) none := .now
  have lc : W.Looks (model prog w) hp (classData C) cd := W.looks_clsIn X hcd
  rw [W.osa_eq, refuse_eq]
  refine wpAny_bind (wpAny_bind (J.type.at (wpAny_bind (lm.at ?_))))
  rw [hm, refuseLoop_ref, show refuseLoop (Value.ref x) "__setattr__" rtTail = pure () from F.store_RuntimeError.passes _]
  refine wpAny_pure (wpAny_bind (J.type.at (wpAny_bind
    ((W.looks_findIn X ha).at (wpAny_bind (lt.at ?_))))))
  show wpAny _ _ (storeInOwnDict (.ref x) (.ref C) (.str f tk) f v false) _ _ _
  obtain ⟨_, _, mro, _, _, hd, _, _, _, _, _⟩ := cd
  dsimp only at hh
  subst hh
  unfold storeInOwnDict ownDictForStores
  repeat (first
    | with_reducible refine store_in_new ?_ ?_
    | with_reducible refine wpAny_loadPart_at hx ?_
    | with_reducible refine lc.at ?_
    | wp_step)
  · exact ⟨_, #[], _, (Heap.get?_update_ne _ _ _ _ xs.symm).trans (Heap.get?_push_at rfl rfl), rfl,
      fun e he => absurd he (by simp), fun _ => rfl⟩
  · intro h' tk' hn' hs
    have hx' : (hp.push { cls := .type "dict", data := .dict #[] }).get? x = some { cls := .ref C, data := .fields fv } :=
      Heap.get?_push_of_some _ hx
    refine hq h' tk' hp.objs.size (fun b o nb e => ?_) (Nat.le_refl _) xs.symm ?_ hn'
    · exact (hs.2 b (Nat.ne_of_lt (Heap.lt_size e))).trans
        ((Heap.get?_update_ne _ _ _ _ nb).trans (Heap.get?_push_of_some _ e))
    · exact (hs.2 x xs).trans (Heap.get?_update_self _ hx' rfl)
end FellX
end PySem
namespace PySem
namespace FellX
open PySem.W PySem.Calls PyProof.Rows PySem.HandSPX
/-! ### the text of __init__ -/
def iA (p1 p2 : Pos) : Arguments := { posonlyargs := [], args := [{ arg := "self", annotation := none, pos := p1 }, { arg := "word", annotation := none, pos := p2 }], vararg := none, kwonlyargs := [], kw_defaults := [], kwarg := none, defaults := [] }
def iB (q1 q2 q3 q4 : Pos) : List Stmt := [.Assign [.Attribute (.Name "self" q1) "word" q2] (.Name "word" q3) q4]
def iS : Scope := { kind := .function, names := [(PySem.Str.ofString "self", .local), (PySem.Str.ofString "word", .local)], isGenerator := false, isCoroutine := false, more := [] }
/-- what the written part says of Fell, at C, and of its __init__, at fI -/
structure FellTxt (K : Frag) (mg : Str → Option Value) (C fI : Addr) : Prop where
  gC : mg "Fell" = some (.ref C)
  cls : ∃ nm q N bs bm sn sub ab col dd k0 k1 k2 k3 k5, K.lookup C = some (excClassObj nm q C N bs bm true sn sub ab col dd k0 k1 k2 k3 k5 "RuntimeError.__new__") ∧ bm = rtTail
  sa : findIn K (.ref C) "__setattr__" = some (some (.builtin "object.__setattr__"))
  ga : findIn K (.ref C) "__getattribute__" = some (some (.builtin "BaseException.__getattribute__"))
  gg : findIn K (.ref C) "__getattr__" = some none
  noN : findIn K (.ref C) "word" = some none
  iC : findIn K (.ref C) "__init__" = some (some (.ref fI))
  tC : typeIn K (.ref fI) = some (.type "function")
  kC : keepIn K (.ref C) = true
  exC : subIn K (.ref C) (.type "BaseException") = some true
  tyC : typeIn K (.ref C) = some (.type "type")
  hdC : hasDictIn K C = true
  te : exmOne K (.ref C) (.ref C) = some true
  fn : ∃ (oc : Value) (od : Option Addr) (doc pm : Value) (an : Option Addr) (cdv ct : Value) (osl : Array (Option Value)) (p1 p2 q1 q2 q3 q4 : Pos),
    K.lookup fI = some ⟨oc, od, .func (fnOf "__init__" "Fell.__init__" (iA p1 p2) (iB q1 q2 q3 q4) iS .none .none doc pm an cdv ct), osl⟩ ∧ codeIn K cdv "Fell.__init__" = true
theorem one_size (v : Value) : [v].length ≤ sizeLine := by
  rw [sizeLine_eq]
  exact (by decide : 1 ≤ 16777216)
theorem kept_but {K : Frag} {h h' : Heap} {x : Addr} (X : K.In h) (hx : K.lookup x = none) (k : ∀ b o, b ≠ x → h.get? b = some o → h'.get? b = some o) : K.In h' := fun a o e =>
  k a o (fun z => by rw [z, hx] at e; cases e) (X a o e)
theorem ldC {M : Model} {s : Shared} {name : Str} {scope : Scope} {L a : Addr} {cd : Value} {m : Str → Option Value} {x : Str} {pos : Pos} {v : Value} {Q : Value → Shared → Prop} {A : Around} {E : Value → Shared → Prop} (hn : s.heap.Ns L m) (hv : m x = some v) (h : Q v s)
    (hk : scope.kind = .function := by rfl) (hl : (envOfC name scope L a cd).kindOf x = some .local := by rfl) (hd : (x == ("__debug__" : Str)) = false := by decide) :
    wpAny M A (eval (.Name x pos) (envOfC name scope L a cd)) Q E s := wpAny_Name (wpAny_loadName_local hk hl hn hv h) hd
/-- what __init__ leaves of a fresh exception at x -/
structure InitEnd (h h' : Heap) (x C dx t1 : Addr) (v : Value) : Prop where
  keep : ∀ b o, b ≠ x → h.get? b = some o → h'.get? b = some o
  obj : h'.get? x = some { cls := .ref C, dict := some dx, data := .fields #[.ref t1, .none, .none, .none, .bool false, .none] }
  dbig : h.objs.size ≤ dx
  dne : dx ≠ x
  ns : h'.Ns1 dx (fun y => if y = "word" then some v else none)
/-- a made Fell -/
structure OwnMade (h h' : Heap) (e C d : Addr) (v : Value) : Prop where
  keep : ∀ b o, h.get? b = some o → h'.get? b = some o
  new : h.objs.size ≤ e
  obj : ∃ oe vs, h'.get? e = some oe ∧ oe.cls = .ref C ∧ oe.dict = some d ∧ oe.data = .fields vs ∧ vs[1]? = some .none
  dbig : h.objs.size ≤ d
  dne : d ≠ e
  ns : h'.Ns1 d (fun y => if y = "word" then some v else none)
section
variable {prog : Program} {w : World} {A : Around} {E : Value → Shared → Prop} {R : Result → Shared → Prop} {s : Shared} {K : Frag} {mg : Str → Option Value} {C fI : Addr}
theorem fell_init (T : FellTxt K mg C fI) {x t0 : Addr} {v : Value} (X : K.In s.heap) (hlim : s.heap.NoLimit) (hx : s.heap.get? x = some (excO C t0)) (hnx : K.lookup x = none) (hroom : A.depth < recursionLimit)
    (hq : ∀ h' tk dx, InitEnd s.heap h' x C dx t0 v → R (.ok (.ret .none)) { s with heap := h', toks := tk }) :
    codeAny (model prog w) A (.call (.ref fI) ⟨[.ref x, v], []⟩) R s := by
  obtain ⟨oc, od, doc, pm, an, cdv, ct, osl, p1, p2, q1, q2, q3, q4, ho, hcd⟩ := T.fn
  obtain ⟨nm, q, N, bs, bm, sn, sub, ab, col, dd, k0, k1, k2, k3, k5, hC, hbm⟩ := T.cls
  have hcl : clsIn K C = some { name := nm, bases := bs, mro := .ref C :: bm, ns := N, qualname := q, hasDict := true, slotNames := sn, subclasses := sub, abstract := ab, collection := col, hasDel := false } := by unfold clsIn; rw [hC] <;> rfl
  refine Att.call_fn (binds := [("self", .ref x), ("word", v)]) X hlim ho hcd hroom (BindsTo.of_eq (by first | rfl | with_unfolding_all rfl)) (by first | rfl | decide | with_unfolding_all rfl) (fun s₁ IC => ?_) rfl rfl rfl
  obtain ⟨h₁, tk₁, rfl⟩ := IC.toInCall.same
  have k : ∀ b o, s.heap.get? b = some o → h₁.get? b = some o := IC.toInCall.keep
  have hn := IC.toInCall.ns
  have hxL : s.heap.objs.size ≠ x := Nat.ne_of_gt (Heap.lt_size hx)
  have X₁ : K.In h₁ := X.keeps k
  have hx₁ := k _ _ hx
  -- self.by = by
  show wpAny _ _ (execs _ _) _ _ _
  refine wpAny_execs_cons (plainObj_wpAny_Assign_Attribute ?_)
  refine ldC (v := v) hn (by first | rfl | with_unfolding_all rfl | kernel_rfl) (ldC (v := .ref x) hn (by first | rfl | with_unfolding_all rfl | kernel_rfl) ?_)
  refine set_plain X₁ (ox := excO C t0) (od := none) ⟨hx₁, rfl, rfl, trivial⟩ T.sa ?_
  refine rt_osa X₁ hx₁ hcl (show (Value.ref C :: bm) = .ref C :: rtTail by rw [hbm]) rfl T.noN (fun h₃ tk₃ dx k₃ dn dne hx₃ hn₃ => ?_)
  show wpAny _ _ (execs _ _) _ _ _
  have z : s.heap.objs.size < h₁.objs.size := hn.lt
  exact wpAny_execs_nil (hq h₃ tk₃ dx ⟨fun b o hb e => k₃ b o hb (k b o e), hx₃, Nat.le_of_lt (Nat.lt_of_lt_of_le z dn), dne, hn₃⟩)
theorem fell_made (T : FellTxt K mg C fI) {v : Value} (X : K.In s.heap) (hlim : s.heap.NoLimit) (hroom : A.depth + 1 < recursionLimit)
    (hq : ∀ h' tk e d, OwnMade s.heap h' e C d v → R (.ok (.ret (.ref e))) { s with heap := h', toks := tk }) :
    codeAny (model prog w) A (.call (.ref C) ⟨[v], []⟩) R s := by
  obtain ⟨nm, q, N, bs, bm, sn, sub, ab, col, dd, k0, k1, k2, k3, k5, hC, hbm⟩ := T.cls
  obtain ⟨hp, g, dr, tk, os⟩ := s
  have k : ∀ b o, hp.get? b = some o → ((hp.push (kdv_tup [v])).push (excO C hp.objs.size)).get? b = some o := fun b o e => Heap.get?_push_of_some _ (Heap.get?_push_of_some _ e)
  have hget : ((hp.push (kdv_tup [v])).push (excO C hp.objs.size)).get? (hp.objs.size + 1) = some (excO C hp.objs.size) := by heap_get
  have hnx : K.lookup (hp.objs.size + 1) = none := by
    cases e : K.lookup (hp.objs.size + 1) with
    | none => rfl
    | some o =>
      have z : hp.get? (hp.objs.size + 1) = some o := X _ _ e
      exact absurd (Nat.lt_of_succ_lt (Heap.lt_size z)) (Nat.lt_irrefl _)
  refine call_own F.excBase_RuntimeError (fun X => by rw [hbm]) (X _ _ hC) (looks_findIn X T.iC) (fun self => bind_fn X self T.tC) (one_size v) ?_
  refine fell_init (s := ⟨(hp.push (kdv_tup [v])).push (excO C hp.objs.size), g, dr, tk, os⟩) T (X.keeps k) (hlim.keeps k) hget hnx ?_ fun h' tk' dx ⟨k', hx, dn, dne, hns⟩ => ?_
  · show A.depth + 1 < recursionLimit
    exact hroom
  · have old : ∀ b o, hp.get? b = some o → h'.get? b = some o := fun b o e => k' b o (Nat.ne_of_lt (Nat.lt_succ_of_lt (Heap.lt_size e))) (k b o e)
    have z : hp.objs.size + 1 + 1 ≤ dx := by
      first
        | (simpa only [Heap.size_push] using dn)
        | exact dn
        | (have q := dn; rw [Heap.size_push, Heap.size_push] at q; exact q)
    exact ⟨rfl, hq h' tk' (hp.objs.size + 1) dx ⟨old, Nat.le_succ _, ⟨_, _, hx, rfl, rfl, rfl, rfl⟩, Nat.le_trans (Nat.le_trans (Nat.le_succ _) (Nat.le_succ _)) z, dne, hns⟩⟩
end
end FellX
end PySem
namespace L2
open PySem PySem.Spec PyProof.Rows
theorem relO_fell {v : V} {v' : Value} (r : RelV v v') (f : Str) : RelO (List.lookup f [(("word" : Str), v)]) (if f = "word" then some v' else none) := by
  by_cases hw : f = "word"
  · subst hw
    rw [if_pos rfl]
    have q : List.lookup ("word" : Str) [(("word" : Str), v)] = some v := by simp [List.lookup]
    rw [q]
    exact r
  · rw [if_neg hw]
    have qw : (f == ("word" : Str)) = false := by simpa using hw
    have q2 : List.lookup f [(("word" : Str), v)] = none := by simp [List.lookup, qw]
    rw [q2]
    trivial
section
variable {X : Cx} {C fI : Addr}
/-- Fell(e) -/
def tMkFell (C : Addr) (ta : TA) : St → Hp → XK → Prop := fun σ H Q => ta σ H fun vs H1 => ∃ v, vs = [v] ∧ ∀ d, H1 d = none → Q (.ref C) (some d) (upd H1 d (.xd [(("word" : Str), v)]))
theorem pmk_fell {a : Expr} {ta : TA} {p pos : Pos} {k : Nat} (T : PySem.FellX.FellTxt X.K X.mg C fI) (hr : Room k X.A) (ha : PA X [a] ta) (hg : Gl X "Fell" := by rfl)
    (he : starEach (a :: []) X.env = (false, eval a X.env) :: starEach [] X.env := by rfl) (hpl : (backTo pos (starEach [] X.env)).any (·.1) = false := by rfl) :
    PMk X (.Call (.Name "Fell" p) [a] [] pos) (tMkFell C ta) := by
  intro pins s σ H Q I h
  refine wpAny_Call_Name_kw (ld_glob I hg T.gC ?_)
  refine PySem.W.callWith_K (h₀ := X.base) I.ok.mod.kin T.kC (thn (ha.run pos pins s σ H _ I h) fun us s1 hh => ?_) he hpl
  obtain ⟨vs, H1, I1, r1, v, ev, q1⟩ := hh
  subst ev
  refine ⟨I1.kIn, ?_⟩
  cases r1 with
  | cons rv rn =>
    rename_i v' us'
    cases rn
    show wpAny _ _ (call (.ref C) [v']) _ _ _
    have hlim := I1.nolimit
    obtain ⟨hp, g, dr, tk, os⟩ := s1
    refine wpAny_call (PySem.FellX.fell_made T I1.kIn hlim (by have := hr.dp; omega) fun h' tk' e d M => ?_)
    show MkP X pins σ Q (.ref e) ⟨h', g, dr, tk', os⟩
    obtain ⟨oe, fv, hoe, hc, hd, hdat, h1⟩ := M.obj
    have hns := M.ns
    obtain ⟨G', g1, g2⟩ := restrict h' fun b => decide (b ≠ e)
    have gk : ∀ b, b ≠ e → G'.get? b = h'.get? b := fun b hb => g1 b (decide_eq_true hb)
    have ge : G'.get? e = none := g2 e (by simp)
    have old : ∀ b o, hp.get? b = some o → G'.get? b = some o := fun b o q => (gk b (Nat.ne_of_lt (Nat.lt_of_lt_of_le (Heap.lt_size q) M.new))).trans (M.keep b o q)
    have ob : ObjOk X.prog X.w (upd H1 d (.xd [(("word" : Str), v)])) G' d (.xd [(("word" : Str), v)]) :=
      ⟨_, hns.at (fun o q => (gk d M.dne).trans q), fun f => relO_fell rv f⟩
    have J : Inv X pins σ (upd H1 d (.xd [(("word" : Str), v)])) ⟨G', g, dr, tk', os⟩ := I1.laid (t' := tk') old M.dbig ob
    refine ⟨e, oe, fv, ⟨G', g, dr, tk', os⟩, _, .ref C, some d, rfl, J, fun b o q => ?_, ge, hoe, ⟨hc, hd⟩, hdat, h1, ?_, rfl, I1.bare, raises_own T.exC T.tyC, q1 d (I1.hok.fresh M.dbig)⟩
    · by_cases hb : b = e
      · have q' : G'.get? b = some o := q
        rw [hb, ge] at q'; cases q'
      · exact (gk b hb).symm.trans q
    · rw [upd_ne (Ne.symm M.dne)]
      exact I1.hok.fresh M.new
/-- raise Fell(e) -/
def tRaiseFell (C : Addr) (W : WX) (ta : TA) : TS := fun _ σ H => tMkFell C ta σ H fun cls d H' => W cls d σ H'
theorem ps_raiseFell {a : Expr} {ta : TA} {W : WX} {p pos pos2 : Pos} {k : Nat} (hc : X.calm = true) (T : PySem.FellX.FellTxt X.K X.mg C fI) (hr : Room k X.A) (tk : Takes X W) (ha : PA X [a] ta) (hg : Gl X "Fell" := by rfl)
    (he : starEach (a :: []) X.env = (false, eval a X.env) :: starEach [] X.env := by rfl) (hpl : (backTo pos (starEach [] X.env)).any (·.1) = false := by rfl) :
    PS X (.Raise (some (.Call (.Name "Fell" p) [a] [] pos)) none pos2) (tRaiseFell C W ta) := ps_raise hc tk (pmk_fell T hr ha hg he hpl)
/-- low.by, low the exception that the suite holds (at a; its class cls, its dict d) -/
def tWord (C : Addr) (a : Addr) (cls : Value) (d : Option Addr) (te : TE) : TE := fun σ H Q => te σ H fun x H1 => x = .ref a ∧ cls = .ref C ∧ ∃ (dd : Addr) (v : V), d = some dd ∧ H1 dd = some (.xd [(("word" : Str), v)]) ∧ Q v H1
theorem pe_word {a : Addr} {oe : Obj} {cls : Value} {d : Option Addr} {pn : List (Addr × Obj)} {e : Expr} {te : TE} {pos : Pos} (T : PySem.FellX.FellTxt X.K X.mg C fI) (hz : Zc cls d oe) (hf : ∃ vs, oe.data = .fields vs) (he : PE (X.suite a ((a, oe) :: pn)) e te)
    (hb : attributeBase e "word" X.env (eval e X.env) = eval e X.env := by rfl) :
    PE (X.suite a ((a, oe) :: pn)) (.Attribute e "word" pos) (tWord C a cls d te) := by
  refine ⟨fun pins s σ H Q I h => ?_⟩
  refine attr_of hb (thn (he.run pins s σ H _ I h) fun u s1 hh => ?_)
  obtain ⟨x, H1, I1, rx, ex, ec, dd, v, ed, ea, q⟩ := hh
  subst ex
  obtain rfl : u = Value.ref a := rx
  subst ec
  subst ed
  obtain ⟨ha, _⟩ := I1.pin (a, oe) (List.mem_append_left _ List.mem_cons_self)
  obtain ⟨vs, hd⟩ := hf
  have hx : ObjOk X.prog X.w H1 s1.heap dd (.xd [(("word" : Str), v)]) := I1.hok dd _ ea
  obtain ⟨mA, hns, hr⟩ := hx
  obtain ⟨od, ho, hl⟩ := lookIn_ns hns
  have l : List.lookup ("word" : Str) [(("word" : Str), v)] = some v := by simp [List.lookup]
  obtain ⟨u, hu, ru⟩ := RelO.some_of (v := v) (o := mA "word") (by rw [← l]; exact hr "word")
  have J : PySem.W.InstAt s1.heap a oe C (some od) := ⟨ha, hz.1, by unfold PySem.W.notCls; rw [hd] <;> rfl, by rw [hz.2]; exact ho⟩
  exact HandSPX.exc_get I1.kIn J T.ga T.gg T.exC (PySem.W.findObj_own T.hdC T.noN rfl (by rw [hl, hu])) (handed_of ru) ⟨v, H1, I1.tok _, ru, q⟩
end
end L2


set_option Elab.async false
set_option linter.all false
set_option maxRecDepth 100000
set_option maxHeartbeats 2000000
/-! A try whose suite keeps the error by another name: behind it the error is tracked, its class and its fields are read. -/
namespace L2
open PySem PySem.Spec PyProof.Rows
/-- a caught error at a: its class, its own dict -/
def ErrO (cls : Value) (d : Option Addr) (a : Addr) : HO :=
  .ext fun h => ∃ (oe : Obj) (vs : Array Value), h.get? a = some oe ∧ Zc cls d oe ∧ oe.data = .fields vs
theorem errO_at {P : Program} {w : World} {H : Hp} {h : Heap} {a : Addr} {cls : Value} {d : Option Addr}
    (hk : HOk P w H h) (e : H a = some (ErrO cls d a)) : ∃ (oe : Obj) (vs : Array Value), h.get? a = some oe ∧ Zc cls d oe ∧ oe.data = .fields vs :=
  (show ObjOk P w H h a (ErrO cls d a) from hk a _ e).1
section
variable {X : Cx} {pins : List (Addr × Obj)} {σ : St} {H : Hp} {s : Shared}
/-- what was pinned is tracked from here on -/
theorem Inv.track {a : Addr} {oe : Obj} {cls : Value} {d : Option Addr} (I : Inv X ((a, oe) :: pins) σ H s) (hz : Zc cls d oe) (hf : ∃ vs, oe.data = .fields vs)
    (h0 : ∀ o, X.s_0.heap.get? a = some o → a ∉ X.ex → False) (hp : ∀ p ∈ X.pn ++ pins, p.1 ≠ a) : Inv X pins σ (upd H a (ErrO cls d a)) s := by
  have mem : (a, oe) ∈ X.pn ++ (a, oe) :: pins := List.mem_append_right _ List.mem_cons_self
  obtain ⟨ga, na, nl, nf, nc⟩ := I.pin _ mem
  dsimp only at ga na nl nf nc
  obtain ⟨vs, hv⟩ := hf
  have ne : ∀ {b : Addr} {o : HO}, H b = some o → b ≠ a := fun q => ne_of_none q na
  refine ⟨I.ok, I.os, I.bare, ⟨I.base.keep, I.base.slot, fun b o e n hx => ?_, I.base.there, fun b xs q => ?_, fun b o u q => ?_, fun b ps q => ?_⟩,
    I.loc, I.cell, ?_, fun x c e => ?_, fun p hm => ?_, ?_, I.len⟩
  · by_cases hb : b = a
    · subst hb
      exact (h0 o e hx).elim
    · rw [upd_ne hb]
      exact I.base.free b o e n hx
  · have q' := I.base.tups b xs q
    rw [upd_ne (ne q')]
    exact q'
  · have q' := I.base.frzs b o u q
    rw [upd_ne (ne q')]
    exact q'
  · obtain ⟨more, q'⟩ := I.base.tbls b ps q
    exact ⟨more, by rw [upd_ne (ne q')]; exact q'⟩
  · rw [upd_ne nl.symm]
    exact I.free
  · have nca : c ≠ a := fun z => by
      obtain ⟨v, o, go, hd⟩ := I.cell x c e
      rw [z, ga] at go
      cases go
      exact nc _ hd
    rw [upd_ne nca]
    exact I.freeC x c e
  · have hm' : p ∈ X.pn ++ (a, oe) :: pins := by
      rcases List.mem_append.mp hm with z | z
      · exact List.mem_append_left _ z
      · exact List.mem_append_right _ (List.mem_cons_of_mem _ z)
    obtain ⟨g1, n1, r1⟩ := I.pin p hm'
    exact ⟨g1, by rw [upd_ne (hp p hm)]; exact n1, r1⟩
  · exact I.hok.laidN (fun _ _ q => q) na ⟨⟨oe, vs, ga, hz, hv⟩, ⟨oe, ga⟩, fun _ _ ⟨o, v, q, r⟩ k => ⟨o, v, k o q, r⟩⟩
end
/-- what «except x as n» wishes of an error of the body, the error being tracked behind the suite -/
def wKeep (K : PySem.W.Frag) (c : Value) (i : Nat) (ts : Addr → Value → Option Addr → TS) (Wout : WX) (D : Ends) : WX := fun cls d σ H =>
  ∃ b, PySem.W.exmOne K cls c = some b ∧ (b = false → Wout cls d σ H) ∧ (b = true → ∀ a, H a = none →
    ts a cls d ({ nx := fun σ' H' => H' a = none → D.nx (σ'.set i none) (upd H' a (ErrO cls d a)), rt := fun _ _ => False, bk := fun _ _ => False, ct := fun _ _ => False } : Ends) (σ.set i (some (.ref a))) H)
section
variable {X : Cx} {x n : Str} {c : Value} {i : Nat} {body suite : List Stmt} {b₀ : Stmt} {np pos pos' : Pos} {tb : WX → TS} {ts : Addr → Value → Option Addr → TS} {Wout : WX}
theorem ps_try_keep (hs : X.stack = X.env :: X.outer) (hf : X.env.frame = some X.env.locals) (hN : X.N.Nodup) (hi : X.N[i]? = some n)
    (hln : X.env.kindOf n = some .local) (hc : Names X x c) (tk : Takes X Wout)
    (hb : ∀ (W : WX) (pn : List (Addr × Obj)) (xe : Value → Shared → Prop), Takes (X.tr pn xe) W →
      PassesOwn (model X.prog X.w) X.A X.env xe → PSs (X.tr pn xe) body (tb W))
    (hsu : ∀ (a : Addr) (oe : Obj) (cls : Value) (d : Option Addr) (pn : List (Addr × Obj)), Zc cls d oe → (∃ vs, oe.data = .fields vs) →
      PSs (X.suite a ((a, oe) :: pn)) (b₀ :: suite) (ts a cls d)) :
    PS X (.Try body [.ExceptHandler (some (.Name x np)) (some n) (b₀ :: suite) pos'] [] [] pos) (fun D σ H => tb (wKeep X.K c i ts Wout D) D σ H) := by
  refine ⟨fun pins s σ H D I h => ?_⟩
  have fr : X.A.frames = some (X.env :: X.outer) := by rw [I.ok.frames, hs]
  refine wpAny_Try_except ?_
  refine wpAny_mono ((hb (wKeep X.K c i ts Wout D) (X.pn ++ pins)
    (fun e s₁ => wpAny (model X.prog X.w) X.A (noteFrame e X.env) (fun _ s₂ =>
      wpAny (model X.prog X.w) X.A (setFlight e none) (fun _ s₃ =>
        wpAny (model X.prog X.w) X.A (handleBy e X.env [.ExceptHandler (some (.Name x np)) (some n) (b₀ :: suite) pos'])
          (SP X pins D) X.xe s₃) X.xe s₂) X.xe s₁)
    (fun u s' xx => ?_) PassesOwn.looking).run [] s σ H D (I.toTry _) h) (fun f s1 end1 => ?_) (fun e s1 he => he)
  · obtain ⟨a, B, sI, pi', σ1, H1, cls, d, rfl, I1', nb, up, sky, na, os, ag, b, hb1, hno, hyes⟩ := xx
    have I1 : Inv X pins σ1 H1 sI := I1'.ofTry I.ok
    have sk : Sky B (X.env :: X.outer) a (Zc cls d) X.env.locals s'.heap := by rw [← hs]; exact sky
    show wpAny (model X.prog X.w) X.A (noteFrame (.ref a) X.env) _ _ _
    refine Sky.land Zc.steady fr hf sk fun h3 fl up3 => ?_
    have I3 : Inv X pins σ1 H1 { s' with heap := h3 } := I1.landed nb fl.1 (up.trans up3) os ag
    obtain ⟨o3, v3, g3, z3, d3⟩ := fl.there
    have nfr : a ∉ frs (X.env :: X.outer) := fun hm => by
      obtain ⟨_, o', e', hnf⟩ := fl.2.2.1.mem hm
      rw [g3] at e'
      cases e'
      exact hnf _ d3
    have nL : a ≠ X.env.locals := fun z => nfr (List.mem_filterMap.mpr ⟨X.env, List.mem_cons_self, by rw [hf, z]⟩)
    have nF : a ∉ X.fs := fun hm => by
      obtain ⟨e, he, q⟩ := List.mem_filterMap.mp hm
      exact nfr (List.mem_filterMap.mpr ⟨e, List.mem_cons_of_mem _ he, q⟩)
    have nB : B.get? a = none := by
      rcases sky with z | z | z
      · exact z.2.1
      · exact z.2.1
      · exact z.2.1
    have gone : ∀ {b : Addr} {o : Obj}, sI.heap.get? b = some o → b ∉ frs X.stack → b ≠ a := fun {b o} q hb z => by
      have q' := nb b o q hb
      rw [z, nB] at q'
      cases q'
    have h0 : ∀ o, X.s_0.heap.get? a = some o → a ∉ X.ex → False := fun o q hx => by
      obtain ⟨o', q'⟩ := I1.base.there a o q hx
      exact gone q' (by rw [hs]; exact nfr) rfl
    have hp : ∀ p ∈ X.pn ++ pins, p.1 ≠ a := fun p hm => by
      obtain ⟨g, _, nl, nf, _⟩ := I1.pin p hm
      refine gone g fun hq => ?_
      rcases List.mem_cons.mp (I1.stkSub _ hq) with z | z
      · exact nl z
      · exact nf z
    have S3 := I3.suite g3 d3 na nL nF
    refine wpAny_handleBy_cons (codeAny_handlers_test ?_) (by intro q; cases q)
    have LT : PySem.W.Looks (model X.prog X.w) h3 (typeOf (.ref a)) cls := fun _ _ _ _ k q =>
      wpAny_typeOf_ref (k _ _ g3) (by rw [z3.1]; exact q)
    have LM := PySem.W.exm_one (M := model X.prog X.w) I3.kIn LT hb1
    have nameIs : ∀ {Q : Value → Shared → Prop} {E : Value → Shared → Prop}, Q c { s' with heap := h3 } →
        wpAny (model X.prog X.w) (X.A.mark (some (.ref a))) (eval (.Name x np) X.env) Q E { s' with heap := h3 } := fun {Q E} q => by
      obtain ⟨hg, hdbg, hm | ⟨hm, hv, hnn⟩⟩ := hc
      · exact ld_glob (X := X.suite a ((a, o3) :: (X.pn ++ pins))) S3 hg hm q hdbg
      · exact ld_blt (X := X.suite a ((a, o3) :: (X.pn ++ pins))) S3 hg hm hv q hnn hdbg
    refine nameIs (LM.here ?_)
    cases b with
    | true =>
      refine codeAny_handlers_suite_as ?_
      refine HandSPX.lands_againZ fl fun h4 fl4 up4 => ?_
      have I4 : Inv X pins σ1 H1 { s' with heap := h4 } := I1.landed nb fl4.1 ((up.trans up3).trans up4) os ag
      obtain ⟨o4, v4, g4, z4, d4⟩ := fl4.there
      have S4 := I4.suite g4 d4 na nL nF
      refine store_ok (X := X.suite a ((a, o4) :: (X.pn ++ pins))) (v := .ref a) S4 hN hi (.inl hln) rfl (fun s5 S5 => ?_) (.inr hln)
      refine wpAny_mono ((hsu a o4 cls d (X.pn ++ pins) z4 ⟨_, d4⟩).run [] s5 _ H1 _ S5 (hyes rfl a na)) (fun f s6 e6 => ?_) (fun _ _ z => False.elim z)
      cases f with
      | next =>
        obtain ⟨σ6, H6, S6, q6⟩ := e6
        have K6 : Inv X ((a, o4) :: pins) σ6 H6 s6 := ⟨I.ok, S6.os, S6.bare, S6.base, S6.loc, S6.cell, S6.free, S6.freeC, fun p hm => S6.pin p (by
          rw [List.append_nil]
          rcases List.mem_append.mp hm with z | z
          · exact List.mem_cons_of_mem _ (List.mem_append_left _ z)
          · rcases List.mem_cons.mp z with z | z
            · rw [z]; exact List.mem_cons_self
            · exact List.mem_cons_of_mem _ (List.mem_append_right _ z)), S6.hok, S6.len⟩
        have n6 : H6 a = none := (S6.pin (a, o4) (List.mem_append_left _ List.mem_cons_self)).2.1
        exact gone_ok K6 hN hi hln fun s7 K7 => ⟨_, _, K7.track z4 ⟨_, d4⟩ h0 hp, q6 n6⟩
      | brk => obtain ⟨_, _, _, q6⟩ := e6; exact q6.elim
      | cont => obtain ⟨_, _, _, q6⟩ := e6; exact q6.elim
      | ret u => obtain ⟨_, _, _, _, _, q6⟩ := e6; exact q6.elim
    | false =>
      show wpAny _ X.A (handleBy (.ref a) X.env []) _ _ _
      refine wpAny_handleBy_nil ?_
      obtain ⟨k1, k2, k3, oe, vs, T, oT, ts', he, hz, hd, h1, hr⟩ := id fl
      unfold PySem.passOn
      refine wpAny_bind (wpAny_field he hd h1 ?_)
      rw [if_neg (show ¬ ((Value.ref T == Value.none) = true) from by simp)]
      have fin : wpAny (model X.prog X.w) X.A (setFlight (.ref a) X.env.frame) (fun _ s4 =>
          wpAny (model X.prog X.w) X.A (throw (.ref a) : Sem Flow) (SP X pins D) X.xe s4) X.xe { s' with heap := h3 } := by
        rw [hf]
        refine HandSPX.setFlight_upZ fl fun h4 hh4 up4 => wpAny_throw (tk _ _ ?_)
        exact ⟨a, B, sI, pins, σ1, H1, cls, d, rfl, I1, nb, (up.trans up3).trans up4,
          .inr (.inr (by rw [hs]; exact hh4)), na, os, ag, hno rfl⟩
      first
        | exact wpAny_bind (wpAny_pure (wpAny_bind fin))
        | exact wpAny_bind fin
  · cases f with
    | next => obtain ⟨σ', H', J', q⟩ := end1; exact wpAny_execs_nil ⟨σ', H', J'.ofTry I.ok, q⟩
    | brk => obtain ⟨σ', H', J', q⟩ := end1; exact ⟨σ', H', J'.ofTry I.ok, q⟩
    | cont => obtain ⟨σ', H', J', q⟩ := end1; exact ⟨σ', H', J'.ofTry I.ok, q⟩
    | ret u => obtain ⟨v, σ', H', J', r, q⟩ := end1; exact ⟨v, σ', H', J'.ofTry I.ok, r, q⟩
end
/-! ### what a tracked error tells -/
/-- what its class says -/
structure ErrC (K : PySem.W.Frag) (C : Addr) : Prop extends XfC K C where
  ac : PySem.W.findIn K (.ref C) "__class__" = some (some (.builtin "object.__class__"))
  sg : PySem.W.specialIn K (.builtin "object.__class__") "__get__" = some (some (.builtin "getset_descriptor.__get__"))
  tk : PySem.W.takesIn K (.builtin "object.__class__") = some true
  mo : PySem.W.mroIn K C (.type "object") = some true
section
variable {X : Cx} {pins : List (Addr × Obj)} {σ : St} {H : Hp} {s : Shared} {C a d : Addr} {fs : List (Str × V)}
theorem errO_inst (I : Inv X pins σ H s) (ea : H a = some (ErrO (.ref C) (some d) a)) (ed : H d = some (.xd fs)) :
    ∃ (oe : Obj) (od : Obj), PySem.W.InstAt s.heap a oe C (some od) ∧ ∃ mA : Str → Option Value, (∀ n, PySem.W.lookIn n od = some (mA n)) ∧ ∀ f, RelO (fs.lookup f) (mA f) := by
  obtain ⟨oe, vs, g, hz, hv⟩ := errO_at I.hok ea
  obtain ⟨mA, hns, hr⟩ := (show ObjOk X.prog X.w H s.heap d (.xd fs) from I.hok d _ ed)
  obtain ⟨od, ho, hl⟩ := lookIn_ns hns
  exact ⟨oe, od, ⟨g, hz.1, by unfold PySem.W.notCls; rw [hv] <;> rfl, by rw [hz.2]; exact ho⟩, mA, hl, hr⟩
/-- e.f of a tracked error -/
def tErrF (C : Addr) (f : Str) (te : TE) : TE := fun σ H Q => te σ H fun x H1 => ∃ (a d : Addr) (fs : List (Str × V)) (v : V),
  x = .ref a ∧ H1 a = some (ErrO (.ref C) (some d) a) ∧ H1 d = some (.xd fs) ∧ fs.lookup f = some v ∧ Q v H1
theorem pe_errF {e : Expr} {te : TE} {pos : Pos} {n : Str} (T : ErrC X.K C) (hno : PySem.W.findIn X.K (.ref C) n = some none) (he : PE X e te)
    (hb : attributeBase e n X.env (eval e X.env) = eval e X.env := by rfl) : PE X (.Attribute e n pos) (tErrF C n te) := by
  refine ⟨fun pins s σ H Q I h => attr_of hb (thn (he.run pins s σ H _ I h) fun u s1 hh => ?_)⟩
  obtain ⟨x, H1, I1, rx, a, d, fs, v, rfl, ea, ed, l, q⟩ := hh
  obtain rfl : u = Value.ref a := rx
  obtain ⟨oe, od, J, mA, hl, hr⟩ := errO_inst I1 ea ed
  obtain ⟨u, hu, ru⟩ := RelO.some_of (v := v) (o := mA n) (by rw [← l]; exact hr n)
  exact HandSPX.exc_get I1.kIn J T.ga T.gg T.exC (PySem.W.findObj_own T.hdC hno rfl (by rw [hl, hu])) (handed_of ru) ⟨v, H1, I1.tok _, ru, q⟩
/-- isinstance(e, T) of a tracked error, T a built-in class -/
def rIsErr (K : PySem.W.Frag) (C : Addr) : List V → Hp → VK → Prop := fun xs H Q => ∃ (a d : Addr) (fs : List (Str × V)) (n : String) (b : Bool),
  xs = [.ref a, .ty n] ∧ H a = some (ErrO (.ref C) (some d) a) ∧ H d = some (.xd fs) ∧ PySem.W.kitOne K (.ref C) (.type n) = some b ∧ Q (.bl b) H
theorem call_isErr (T : ErrC X.K C) : CallR X (.builtin "isinstance") (rIsErr X.K C) := by
  intro pins s σ H xs us Q I r h
  obtain ⟨a, d, fs, n, b, rfl, ea, ed, e, q⟩ := h
  obtain ⟨u1, u2, rfl, r1, r2⟩ := vals2 r
  cases (show u1 = Value.ref a from r1)
  cases (show u2 = Value.type n from r2)
  obtain ⟨oe, od, J, _⟩ := errO_inst I ea ed
  have hcl : (PySem.W.clsIn X.K C).isSome = true := by
    obtain ⟨cd, hc, _⟩ := PySem.W.any_some T.hdC
    rw [hc]
    rfl
  exact PySem.W.kia_one (PySem.W.kitx_exc hcl T.ga T.gg T.exC T.ac T.sg T.tk T.mo) I.kIn J e (fun z => nomatch z) fun tk => ⟨.bl b, H, I.tok tk, rfl, q⟩
end
end L2

set_option Elab.async false
set_option linter.all false
set_option maxRecDepth 100000
set_option maxHeartbeats 2000000
/-! the hook with any looks at the fragment (ck), and some objects outright by their addresses; the class Fell by such looks -/
noncomputable section
namespace Fw
open PySem PySem.W PySem.Calls PyProof.Rows HandSHeadRun
def obsY (fa : List He.Fa) (fn : List He.FnD) (ck : Frag → Bool) (as : List Addr) (n : Nat) (g : Addr → Option Obj) : He.Al × Bool × List (Option Obj) :=
  let K := He.frG g (List.range n)
  (He.obsE fa fn K, ck K, as.map fun a => K.lookup a)
def hookY (fa : List He.Fa) (fn : List He.FnD) (ck : Frag → Bool) (as : List Addr) (n : Nat) (os : World → List Obj) : Hook where
  α := He.Al × Bool × List (Option Obj)
  obs := fun s => obsY fa fn ck as n s.heap.get?
  val := fun w => (He.valE fn, true, (os w).map some)
  says := fun w h => ∃ K : Frag, K.In h ∧ He.SaysE fa fn K ∧ ck K = true ∧ ∀ (i : Nat) (a : Addr) (o : Obj), as[i]? = some a → (os w)[i]? = some o → K.lookup a = some o
  of := fun w s e => by
    have e1 := congrArg (fun z : He.Al × Bool × List (Option Obj) => z.1) e
    have e2 := congrArg (fun z : He.Al × Bool × List (Option Obj) => z.2.1) e
    have e3 : as.map (fun a => (He.frG s.heap.get? (List.range n)).lookup a) = (os w).map some := congrArg (fun z : He.Al × Bool × List (Option Obj) => z.2.2) e
    refine ⟨_, He.frG_in, e1, e2, fun i a o ha ho => ?_⟩
    have z : (as.map (fun a => (He.frG s.heap.get? (List.range n)).lookup a))[i]? = ((os w).map some)[i]? := by rw [e3]
    rw [List.getElem?_map, List.getElem?_map, ha, ho] at z
    exact Option.some.inj z
  keeps := fun _ _ _ ⟨K, hK, c⟩ k => ⟨K, Frag.In.keeps hK k, c⟩
def obY (fa : List He.Fa) (fn : List He.FnD) (ck : Frag → Bool) (as : List Addr) (n : Nat) (s : SharedT) : He.Al × Bool × List (Option Obj) := obsY fa fn ck as n (getT s)
theorem obY_eq (fa : List He.Fa) (fn : List He.FnD) (ck : Frag → Bool) (as : List Addr) (n : Nat) (os : World → List Obj) (s : SharedT) : obY fa fn ck as n s = (hookY fa fn ck as n os).obs s.abs := by
  have e : getT s = s.abs.heap.get? := funext (getT_eq s)
  show obsY fa fn ck as n (getT s) = obsY fa fn ck as n s.abs.heap.get?
  rw [e]
/-! ### the class Fell -/
def clsB (K : Frag) (C : Addr) : Bool := match K.lookup C with
  | some ⟨.type "type", _, .cls cd, sl⟩ => (match cd.mro, sl.toList with
    | .ref C' :: bm, [_, _, _, _, some (.builtin n), _] => decide (C' = C) && decide (n = "RuntimeError.__new__") && !cd.hasDel && cd.hasDict && decide (bm = PySem.FellX.rtTail)
    | _, _ => false)
  | _ => false
theorem clsB_ok {K : Frag} {C : Addr} (q : clsB K C = true) : ∃ nm qn N bs bm sn sub ab col dd k0 k1 k2 k3 k5, K.lookup C = some (excClassObj nm qn C N bs bm true sn sub ab col dd k0 k1 k2 k3 k5 "RuntimeError.__new__") ∧ bm = PySem.FellX.rtTail := by
  unfold clsB at q
  split at q
  · rename_i dd cd sl ho
    split at q
    · rename_i C' bm k0 k1 k2 k3 n k5 hm hs
      simp only [Bool.and_eq_true, decide_eq_true_eq, Bool.not_eq_true'] at q
      obtain ⟨⟨⟨⟨rfl, rfl⟩, hdel⟩, hdct⟩, ht⟩ := q
      obtain ⟨nm, bs, mro, ns, qn, hd, sn, sub, ab, col, del⟩ := cd
      dsimp only at hm hdel hdct
      subst hm hdel hdct
      have hsl : sl = #[k0, k1, k2, k3, some (.builtin "RuntimeError.__new__"), k5] := by
        obtain ⟨l⟩ := sl
        simp only at hs
        rw [hs]
      subst hsl
      exact ⟨nm, qn, ns, bs, bm, sn, sub, ab, col, dd, k0, k1, k2, k3, k5, ho, ht⟩
    · cases q
  · cases q
def kwB (K : Frag) (a : Addr) : Bool := match K.lookup a with
  | some ⟨_, _, .func fd, _⟩ => decide (fd.kwdefaults = .none)
  | _ => false
def fellB (K : Frag) : Bool :=
  let C := He.ga K "Fell"
  let I := He.ma K C "__init__"
  clsB K C && He.eqO (findIn K (.ref C) "__setattr__") (some (some (.builtin "object.__setattr__"))) && He.eqO (findIn K (.ref C) "__getattribute__") (some (some (.builtin "BaseException.__getattribute__"))) && He.eqO (findIn K (.ref C) "__getattr__") (some none) &&
  He.eqO (findIn K (.ref C) "word") (some none) && He.eqO (findIn K (.ref C) "__init__") (some (some (.ref I))) && decide (typeIn K (.ref I) = some (.type "function")) && keepIn K (.ref C) && decide (subIn K (.ref C) (.type "BaseException") = some true) && decide (typeIn K (.ref C) = some (.type "type")) &&
  hasDictIn K C && decide (subIn K (.ref C) (.ref C) = some true) && kwB K I && He.eqO (findIn K (.ref C) "__class__") (some (some (.builtin "object.__class__"))) && He.eqO (specialIn K (.builtin "object.__class__") "__get__") (some (some (.builtin "getset_descriptor.__get__"))) &&
  decide (takesIn K (.builtin "object.__class__") = some true) && decide (mroIn K C (.type "object") = some true) && decide (subIn K (.ref C) (.type "RuntimeError") = some true)
theorem fell_of {K : Frag} {h : Heap} {mg : Str → Option Value} (X : K.In h) (G : h.Ns mainGlobals mg) (g : (He.Fa.glo "Fell").ok K = true) (q : fellB K = true) {p1 p2 q1 q2 q3 q4 : Pos}
    (fn : ∃ oc od osl kV doc pm an cdv ct, K.lookup (He.ma K (He.ga K "Fell") "__init__") = some ⟨oc, od, .func (fnOf "__init__" "Fell.__init__" (PySem.FellX.iA p1 p2) (PySem.FellX.iB q1 q2 q3 q4) PySem.FellX.iS .none kV doc pm an cdv ct), osl⟩ ∧ codeIn K cdv "Fell.__init__" = true) :
    PySem.FellX.FellTxt K mg (He.ga K "Fell") (He.ma K (He.ga K "Fell") "__init__") ∧ L2.ErrC K (He.ga K "Fell") ∧ subIn K (.ref (He.ga K "Fell")) (.type "RuntimeError") = some true := by
  unfold fellB at q
  dsimp only at q
  simp only [Bool.and_eq_true, decide_eq_true_eq] at q
  obtain ⟨⟨⟨⟨⟨⟨⟨⟨⟨⟨⟨⟨⟨⟨⟨⟨⟨c1, c2⟩, c3⟩, c4⟩, c5⟩, c6⟩, c7⟩, c8⟩, c9⟩, c10⟩, c11⟩, c12⟩, c13⟩, c14⟩, c15⟩, c16⟩, c17⟩, c18⟩ := q
  obtain ⟨oc, od, osl, kV, doc, pm, an, cdv, ct, l, e⟩ := fn
  have ek : kV = .none := by
    unfold kwB at c13
    rw [l] at c13
    exact of_decide_eq_true c13
  subst ek
  refine ⟨⟨He.glo_ok X G g, clsB_ok c1, He.eqO_ok c2, He.eqO_ok c3, He.eqO_ok c4, He.eqO_ok c5, He.eqO_ok c6, c7, c8, c9, c10, c11, exm_ref c9 c11 c10 c12, ⟨oc, od, doc, pm, an, cdv, ct, osl, p1, p2, q1, q2, q3, q4, l, e⟩⟩,
    { ga := He.eqO_ok c3, gg := He.eqO_ok c4, exC := c9, hdC := c11, ac := He.eqO_ok c14, sg := He.eqO_ok c15, tk := c16, mo := c17 }, c18⟩
end Fw

end
set_option Elab.async false
set_option linter.all false
set_option maxRecDepth 100000
set_option maxHeartbeats 2000000
/-! the hook with any looks at the fragment (ck), empty tables left out, and the tables of the defs tf -/
noncomputable section
namespace Fw
open PySem PySem.W PySem.Calls PyProof.Rows HandSHeadRun
def obsZ (fa : List He.Fa) (fn : List He.FnD) (ck : Frag → Bool) (tf : List He.Defn) (n : Nat) (g : Addr → Option Obj) : He.Al × Bool :=
  let K := He.frT g (List.range n)
  (He.obsE fa fn K, ck K && He.tabsB g tf K)
structure SaysZ (fa : List He.Fa) (fn : List He.FnD) (ck : Frag → Bool) (tf : List He.Defn) (h : Heap) (K : Frag) : Prop where
  e : He.SaysE fa fn K
  ck : ck K = true
  hd : ∀ p ∈ tf, codeHdIn K (He.cT K p).1 (He.cT K p).2 = true
  out : ∀ p ∈ tf, K.lookup (He.cT K p).2 = none
  empty : ∀ p ∈ tf, h.get? (He.cT K p).2 = some { cls := .none, data := .fields #[] }
theorem saysZ_of {fa : List He.Fa} {fn : List He.FnD} {ck : Frag → Bool} {tf : List He.Defn} {n : Nat} {h : Heap} (e : obsZ fa fn ck tf n h.get? = (He.valE fn, true)) : SaysZ fa fn ck tf h (He.frT h.get? (List.range n)) := by
  have e1 : He.obsE fa fn (He.frT h.get? (List.range n)) = He.valE fn := congrArg (fun z : He.Al × Bool => z.1) e
  have e2 : (ck (He.frT h.get? (List.range n)) && He.tabsB h.get? tf (He.frT h.get? (List.range n))) = true := congrArg (fun z : He.Al × Bool => z.2) e
  obtain ⟨h1, h2⟩ := Bool.and_eq_true_iff.mp e2
  have key : ∀ p ∈ tf, codeHdIn (He.frT h.get? (List.range n)) (He.cT (He.frT h.get? (List.range n)) p).1 (He.cT (He.frT h.get? (List.range n)) p).2 = true ∧ ∃ o, h.get? (He.cT (He.frT h.get? (List.range n)) p).2 = some o ∧ He.emptyTab o = true := fun p hp => by
    obtain ⟨h3, h4⟩ := Bool.and_eq_true_iff.mp (List.all_eq_true.mp h2 p hp)
    refine ⟨h3, ?_⟩
    cases q : h.get? (He.cT (He.frT h.get? (List.range n)) p).2 with
    | none => rw [q] at h4; cases h4
    | some o => rw [q] at h4; exact ⟨o, rfl, h4⟩
  exact ⟨e1, h1, fun p hp => (key p hp).1, fun p hp => by
    obtain ⟨_, o, q, z⟩ := key p hp
    exact He.frT_none q z, fun p hp => by
    obtain ⟨_, o, q, z⟩ := key p hp
    rw [q, He.emptyTab_eq z]⟩
def hookZ (fa : List He.Fa) (fn : List He.FnD) (ck : Frag → Bool) (tf : List He.Defn) (n : Nat) : Hook where
  α := He.Al × Bool
  obs := fun s => obsZ fa fn ck tf n s.heap.get?
  val := fun w => (He.valE fn, true)
  says := fun w h => ∃ K : Frag, K.In h ∧ SaysZ fa fn ck tf h K
  of := fun w s e => ⟨_, He.frT_in, saysZ_of e⟩
  keeps := fun _ _ _ ⟨K, hK, c⟩ k => ⟨K, Frag.In.keeps hK k, ⟨c.e, c.ck, c.hd, c.out, fun p hp => k _ _ (c.empty p hp)⟩⟩
def obZ (fa : List He.Fa) (fn : List He.FnD) (ck : Frag → Bool) (tf : List He.Defn) (n : Nat) (s : SharedT) : He.Al × Bool := obsZ fa fn ck tf n (getT s)
theorem obZ_eq (fa : List He.Fa) (fn : List He.FnD) (ck : Frag → Bool) (tf : List He.Defn) (n : Nat) (s : SharedT) : obZ fa fn ck tf n s = (hookZ fa fn ck tf n).obs s.abs := by
  have e : getT s = s.abs.heap.get? := funext (getT_eq s)
  show obsZ fa fn ck tf n (getT s) = obsZ fa fn ck tf n s.abs.heap.get?
  rw [e]
end Fw

end
set_option Elab.async false
set_option linter.all false
set_option maxRecDepth 100000
set_option maxHeartbeats 2000000
/-! keyword-only defaults read off the fragment -/
noncomputable section
namespace Fw
open PySem PySem.Spec PySem.W PyProof.Rows L2
def kwO (K : Frag) (p : He.Defn) (x : Str) : Option Value := match K.lookup (He.fAd K p) with
  | some ⟨_, _, .func fd, _⟩ => (match fd.kwdefaults with
    | .ref D => (match nsIn K D x with
      | some (some u) => some u
      | _ => none)
    | _ => none)
  | _ => none
theorem kwO_ok {K : Frag} {p : He.Defn} {x : Str} {u : Value} {oc : Value} {od : Option Addr} {fd : FuncData} {osl : Array (Option Value)} (h : kwO K p x = some u) (l : K.lookup (He.fAd K p) = some ⟨oc, od, .func fd, osl⟩) : ∃ D : Addr, fd.kwdefaults = .ref D ∧ nsIn K D x = some (some u) := by
  unfold kwO at h
  rw [l] at h
  dsimp only at h
  split at h
  · rename_i D hD
    split at h
    · rename_i v hv
      cases h
      exact ⟨D, hD, hv⟩
    · cases h
  · cases h
/-- an empty tuple of the fragment -/
def emT (K : Frag) : Option Value → Bool
  | some (.ref e) => (match K.lookup e with
    | some ⟨.type c, _, .seq its _, _⟩ => decide (c = "tuple") && its.isEmpty
    | _ => false)
  | _ => false
theorem emT_ok {K : Frag} {v : Option Value} (h : emT K v = true) : ∃ e : Addr, v = some (.ref e) ∧ ∀ H, SqT K H e [] := by
  unfold emT at h
  split at h
  · rename_i e
    split at h
    · rename_i c od its n sl hl
      obtain ⟨h1, h2⟩ := Bool.and_eq_true_iff.mp h
      have h1 := of_decide_eq_true h1
      have h2 := Array.isEmpty_iff.mp h2
      subst h1 h2
      exact ⟨e, rfl, fun H => .inr ⟨_, #[], n, hl, rfl, rfl, by decide, .nil⟩⟩
    · cases h
  · cases h
/-- one keyword-only value behind n by place -/
theorem kb_one {K : Frag} {fd : FuncData} {ps : List Str} {z : Str} {n : Nat} (h : ∀ (us ws : List Value), us.length = n → ws.length = 1 → bindArgs fd ⟨us, [z].zip ws⟩ = pure (ps.zip (us ++ ws))) : KBn K fd ps n [z] (· ++ ·) (· ++ ·) :=
  ⟨fun s us ws _ l1 l2 => .of_eq (h us ws l1 l2), fun r1 r2 => r1.append r2⟩
theorem funD_of {K : Frag} {x qual : Str} {st : Stmt} {f : Addr} {oc : Value} {od an : Option Addr} {osl : Array (Option Value)} {kV doc pm cdv ct : Value} {p : He.Defn} {z : Str} {u : Value} {v : V} (e : He.fAd K p = f)
    (l : K.lookup f = some ⟨oc, od, .func (PySem.W.fnOf x qual (defArgs st) (defBody st) (defScope st) .none kV doc pm an cdv ct), osl⟩) (c : PySem.W.codeIn K cdv qual = true) (k : PySem.W.keepIn K (.ref f) = true)
    (h : kwO K p z = some u) (r : RelV v u) : FunD K x qual (defArgs st) (defBody st) (defScope st) [] [(z, v)] f (PySem.W.fnOf x qual (defArgs st) (defBody st) (defScope st) .none kV doc pm an cdv ct) := by
  subst e
  obtain ⟨D, e1, e2⟩ := kwO_ok h l
  exact ⟨⟨oc, od, .none, kV, doc, pm, an, cdv, ct, osl, rfl, l, c, .inl ⟨rfl, rfl⟩, .inr ⟨D, e1, fun q hq => by
    rw [List.mem_singleton.mp hq]
    exact ⟨u, e2, r⟩⟩⟩, k⟩
/-- isinstance may ask of the class x -/
def isiB (K : Frag) (x : Str) : Bool := decide (findIn K (.ref (He.ga K x)) "__class__" = some (some (.builtin "object.__class__"))) && decide (specialIn K (.builtin "object.__class__") "__get__" = some (some (.builtin "getset_descriptor.__get__"))) && decide (takesIn K (.builtin "object.__class__") = some true) && decide (mroIn K (He.ga K x) (.type "object") = some true)
/-- a tuple of n references in the fragment -/
def refs? : List Value → Bool
  | [] => true
  | .ref _ :: l => refs? l
  | _ :: _ => false
def refT (K : Frag) (a : Addr) (n : Nat) : Bool := match K.lookup a with
  | some ⟨.type c, _, .seq its _, _⟩ => decide (c = "tuple") && (decide (its.toList.length = n) && refs? its.toList)
  | _ => false
theorem refs_vals : ∀ {l : List Value}, refs? l = true → ∃ xs : List V, xs.length = l.length ∧ Vals xs l
  | [], _ => ⟨[], rfl, .nil⟩
  | v :: l, h => by
    cases v with
    | ref a =>
      obtain ⟨xs, h1, h2⟩ := refs_vals (l := l) h
      exact ⟨.ref a :: xs, by rw [List.length_cons, List.length_cons, h1], .cons rfl h2⟩
    | _ => cases h
theorem refT_ok {K : Frag} {a : Addr} {n : Nat} (h : refT K a n = true) (hn : n ≤ sizeLine) : ∃ xs : List V, xs.length = n ∧ ∀ H, SqT K H a xs := by
  unfold refT at h
  split at h
  · rename_i c od its m sl hl
    obtain ⟨h1, h2⟩ := Bool.and_eq_true_iff.mp h
    obtain ⟨h2, h3⟩ := Bool.and_eq_true_iff.mp h2
    have h1 := of_decide_eq_true h1
    have h2 := of_decide_eq_true h2
    subst h1
    obtain ⟨xs, e1, e2⟩ := refs_vals h3
    exact ⟨xs, by rw [e1, h2], fun H => .inr ⟨_, its, m, hl, rfl, rfl, by rw [← Array.length_toList, h2]; exact hn, e2⟩⟩
  · cases h
end Fw

end
set_option Elab.async false
set_option linter.all false
set_option maxRecDepth 100000
set_option maxHeartbeats 2000000
/-! as hookZ, and some objects outright by their addresses; the table of steps -/
noncomputable section
namespace Fw
open PySem PySem.W PySem.Calls PyProof.Rows HandSHeadRun L2
def obsV (fa : List He.Fa) (fn : List He.FnD) (ck : Frag → Bool) (tf : List He.Defn) (as : List Addr) (n : Nat) (g : Addr → Option Obj) : (He.Al × Bool) × List (Option Obj) :=
  (obsZ fa fn ck tf n g, as.map fun a => (He.frT g (List.range n)).lookup a)
def hookV (fa : List He.Fa) (fn : List He.FnD) (ck : Frag → Bool) (tf : List He.Defn) (as : List Addr) (n : Nat) (os : World → List Obj) : Hook where
  α := (He.Al × Bool) × List (Option Obj)
  obs := fun s => obsV fa fn ck tf as n s.heap.get?
  val := fun w => ((He.valE fn, true), (os w).map some)
  says := fun w h => ∃ K : Frag, K.In h ∧ SaysZ fa fn ck tf h K ∧ ∀ (i : Nat) (a : Addr) (o : Obj), as[i]? = some a → (os w)[i]? = some o → K.lookup a = some o
  of := fun w s e => by
    have e1 : obsZ fa fn ck tf n s.heap.get? = (He.valE fn, true) := congrArg (fun z : (He.Al × Bool) × List (Option Obj) => z.1) e
    have e3 : as.map (fun a => (He.frT s.heap.get? (List.range n)).lookup a) = (os w).map some := congrArg (fun z : (He.Al × Bool) × List (Option Obj) => z.2) e
    refine ⟨_, He.frT_in, saysZ_of e1, fun i a o ha ho => ?_⟩
    have z : (as.map (fun a => (He.frT s.heap.get? (List.range n)).lookup a))[i]? = ((os w).map some)[i]? := by rw [e3]
    rw [List.getElem?_map, List.getElem?_map, ha, ho] at z
    exact Option.some.inj z
  keeps := fun _ _ _ ⟨K, hK, c, d⟩ k => ⟨K, Frag.In.keeps hK k, ⟨c.e, c.ck, c.hd, c.out, fun p hp => k _ _ (c.empty p hp)⟩, d⟩
def obV (fa : List He.Fa) (fn : List He.FnD) (ck : Frag → Bool) (tf : List He.Defn) (as : List Addr) (n : Nat) (s : SharedT) : (He.Al × Bool) × List (Option Obj) := obsV fa fn ck tf as n (getT s)
theorem obV_eq (fa : List He.Fa) (fn : List He.FnD) (ck : Frag → Bool) (tf : List He.Defn) (as : List Addr) (n : Nat) (os : World → List Obj) (s : SharedT) : obV fa fn ck tf as n s = (hookV fa fn ck tf as n os).obs s.abs := by
  have e : getT s = s.abs.heap.get? := funext (getT_eq s)
  show obsV fa fn ck tf as n (getT s) = obsV fa fn ck tf as n s.abs.heap.get?
  rw [e]
/-- a pair of ints -/
def ptT (K : Frag) (v : Value) (q : Int × Int) : Bool := match v with
  | .ref a => (match K.lookup a with
    | some ⟨.type c, _, .seq its _, _⟩ => decide (c = "tuple") && (match its.toList with
      | [.int x _, .int y _] => decide (x = q.1) && decide (y = q.2)
      | _ => false)
    | _ => false)
  | _ => false
theorem ptT_ok {K : Frag} {v : Value} {q : Int × Int} (h : ptT K v q = true) : ∃ a : Addr, v = .ref a ∧ ∀ H, SqT K H a [.int q.1, .int q.2] := by
  unfold ptT at h
  split at h
  · rename_i a
    split at h
    · rename_i c od its m sl hl
      obtain ⟨h1, h2⟩ := Bool.and_eq_true_iff.mp h
      have h1 := of_decide_eq_true h1
      subst h1
      split at h2
      · rename_i x t1 y t2 ei
        obtain ⟨h3, h4⟩ := Bool.and_eq_true_iff.mp h2
        have h3 := of_decide_eq_true h3
        have h4 := of_decide_eq_true h4
        subst h3 h4
        refine ⟨a, rfl, fun H => .inr ⟨_, its, m, hl, rfl, rfl, ?_, ?_⟩⟩
        · rw [← Array.length_toList, ei]; exact (by show 2 ≤ sizeLine; decide)
        · rw [ei]
          exact .cons ⟨_, rfl⟩ (.cons ⟨_, rfl⟩ .nil)
      · cases h2
    · cases h
  · cases h
def stpB (K : Frag) (a : Addr) : Bool := match K.lookup a with
  | some ⟨.type c, _, .seq its _, _⟩ => decide (c = "tuple") && (match its.toList with
    | [v0, v1, v2, v3] => ptT K v0 (1, 0) && ptT K v1 (0, 1) && ptT K v2 (-1, 0) && ptT K v3 (0, -1)
    | _ => false)
  | _ => false
theorem stpB_ok {K : Frag} {a : Addr} (h : stpB K a = true) : ∃ ts : List Addr, (∀ H, SqT K H a (ts.map V.ref)) ∧ ∀ H, Paired (fun t (q : Int × Int) => SqT K H t [.int q.1, .int q.2]) ts [(1, 0), (0, 1), (-1, 0), (0, -1)] := by
  unfold stpB at h
  split at h
  · rename_i c od its m sl hl
    obtain ⟨h1, h2⟩ := Bool.and_eq_true_iff.mp h
    have h1 := of_decide_eq_true h1
    subst h1
    split at h2
    · rename_i v0 v1 v2 v3 ei
      simp only [Bool.and_eq_true] at h2
      obtain ⟨⟨⟨q0, q1⟩, q2⟩, q3⟩ := h2
      obtain ⟨a0, rfl, s0⟩ := ptT_ok q0
      obtain ⟨a1, rfl, s1⟩ := ptT_ok q1
      obtain ⟨a2, rfl, s2⟩ := ptT_ok q2
      obtain ⟨a3, rfl, s3⟩ := ptT_ok q3
      refine ⟨[a0, a1, a2, a3], fun H => .inr ⟨_, its, m, hl, rfl, rfl, ?_, ?_⟩, fun H => .cons (s0 H) (.cons (s1 H) (.cons (s2 H) (.cons (s3 H) .nil)))⟩
      · rw [← Array.length_toList, ei]; exact (by show 4 ≤ sizeLine; decide)
      · rw [ei]
        exact .cons rfl (.cons rfl (.cons rfl (.cons rfl .nil)))
    · cases h2
  · cases h
end Fw

end
set_option Elab.async false
set_option linter.all false
set_option maxRecDepth 100000
set_option maxHeartbeats 2000000
/-! A display of at most 15 pairs whose keys are texts: what it leaves, object by object. -/
namespace Fw
open PySem PySem.W PySem.Calls PyProof.Rows
abbrev SV : Type := Str × Value
section
variable {prog : Program} {w : World} {A : Around} {E : Value → Shared → Prop} {env : Env}
def sEs (w : World) (prog : Program) : Nat → List SV → List DictEntry
  | _, [] => []
  | t, p :: r => ⟨(strKind prog w).hash p.1, .str p.1 t, p.2⟩ :: sEs w prog (t + 1) r
def kvs : Nat → List SV → List (Value × Value)
  | _, [] => []
  | t, p :: r => (.str p.1 t, p.2) :: kvs (t + 1) r
theorem sEs_app : ∀ (a b : List SV) (t : Nat), sEs w prog t (a ++ b) = sEs w prog t a ++ sEs w prog (t + a.length) b
  | [], _, _ => rfl
  | p :: a, b, t => by
    show _ :: sEs w prog (t + 1) (a ++ b) = _
    rw [sEs_app a b, show t + 1 + a.length = t + (p :: a).length by rw [List.length_cons]; omega]
    rfl
theorem sEs_len : ∀ (a : List SV) (t : Nat), (sEs w prog t a).length = a.length
  | [], _ => rfl
  | p :: a, t => congrArg (· + 1) (sEs_len a _)
theorem sEs_mem : ∀ {a : List SV} {t : Nat} {e : DictEntry}, e ∈ sEs w prog t a → ∃ p ∈ a, ∃ t', e = ⟨(strKind prog w).hash p.1, .str p.1 t', p.2⟩
  | [], _, _, h => nomatch h
  | p :: a, t, e, h => by
    rcases List.mem_cons.mp h with z | z
    · exact ⟨p, List.mem_cons_self .., t, z⟩
    · obtain ⟨q, hq, r⟩ := sEs_mem z
      exact ⟨q, List.mem_cons_of_mem _ hq, r⟩
/-- the state with the dict laid behind h -/
def midS (w : World) (prog : Program) (s : Shared) (t k : Nat) (L : List SV) : Shared := { s with heap := ext s.heap [dO (sEs w prog t L)], toks := k }
theorem wp_setS {s : Shared} {t k : Nat} {L : List SV} {x : Str} {v : Value} {Q : Unit → Shared → Prop} (hn : x ∉ L.map (·.1)) (hz : L.length ≤ 1000)
    (q : Q () (midS w prog s t (k + 1) (L ++ [(x, v)]))) : wpAny (model prog w) A (dictSet s.heap.objs.size (.str x (t + L.length)) v) Q E (midS w prog s t k L) := by
  have is : (strKind prog w).is x (.str x (t + L.length)) = true := by show Value.isStrOf x (.str x (t + L.length)) = true; simp [Value.isStrOf]
  have hd : (midS w prog s t (k + 1) L).heap.get? s.heap.objs.size = some (dO (sEs w prog t L)) := ext_get (h := s.heap) (i := 0) rfl (fun c d s z => by injection z with _ _ z _; exact nomatch z)
  unfold dictSet
  try with_reducible refine wpAny_holding ?_
  refine wpAny_bind ((strKind prog w).pyHash is ?_)
  unfold dictSetHashed
  try with_reducible refine wpAny_holding ?_
  refine wpAny_bind (wpAny_dictFind_of (knd := strKind prog w) (s := midS w prog s t (k + 1) L) is hd rfl (fun e he => ?_) ?_)
  · obtain ⟨p, _, t', rfl⟩ := sEs_mem (List.mem_toArray.mp he)
    exact ⟨p.1, by show Value.isStrOf p.1 (.str p.1 t') = true; simp [Value.isStrOf], rfl⟩
  have no : (sEs w prog t L).toArray.findIdx? (fun e => (strKind prog w).is x e.key) = none := by
    rw [List.findIdx?_toArray, List.findIdx?_eq_none_iff]
    intro e he
    obtain ⟨p, hp, t', rfl⟩ := sEs_mem he
    show Value.isStrOf x (.str p.1 t') = false
    cases hh : Value.isStrOf x (.str p.1 t') with
    | false => rfl
    | true =>
      obtain ⟨u, hu⟩ := Value.isStrOf_shape hh
      injection hu with hx _
      exact absurd (List.mem_map.mpr ⟨p, hp, hx⟩) hn
  rw [no]
  refine wpAny_bind (wpAny_rule (wpAny_updateDictKeys (s := midS w prog s t (k + 1) L) hd rfl ?_ (by
    rw [List.size_toArray, sEs_len]
    exact Nat.le_trans hz (by decide))))
  have e : (ext s.heap [dO (sEs w prog t L)]).update s.heap.objs.size (Obj.mapDictKeys fun es => es.push ⟨(strKind prog w).hash x, .str x (t + L.length), v⟩) = ext s.heap [dO (sEs w prog t (L ++ [(x, v)]))] := by
    rw [ext_upd]
    congr 2
    rw [sEs_app]
    show (⟨_, _, _, _⟩ : Obj) = ⟨_, _, _, _⟩
    simp [dO, Obj.mapDictKeys, sEs]
  show Q () { s with heap := (ext s.heap [dO (sEs w prog t L)]).update s.heap.objs.size _, toks := k + 1 }
  rw [e]
  exact q
theorem wp_storeS {s : Shared} {t : Nat} : ∀ (rest done : List SV) (k : Nat) (Q : PUnit → Shared → Prop), ((done ++ rest).map (·.1)).Nodup → (done ++ rest).length ≤ 1000 → Q PUnit.unit (midS w prog s t (k + rest.length) (done ++ rest)) →
    wpAny (model prog w) A (forIn (kvs (t + done.length) rest) PUnit.unit fun (x : Value × Value) (_ : PUnit) => (do dictSet s.heap.objs.size x.1 x.2; pure (ForInStep.yield PUnit.unit) : Sem (ForInStep PUnit))) Q E (midS w prog s t k done)
  | [], done, k, Q, _, _, q => by
    rw [List.append_nil] at q
    show wpAny _ _ (forIn [] PUnit.unit _) _ _ _
    rw [List.forIn_nil]
    exact wpAny_pure q
  | p :: r, done, k, Q, hn, hl, q => by
    have ed : done ++ p :: r = (done ++ [p]) ++ r := by simp
    rw [ed] at hn hl q
    show wpAny _ _ (forIn ((Value.str p.1 (t + done.length), p.2) :: kvs (t + done.length + 1) r) PUnit.unit _) _ _ _
    rw [List.forIn_cons]
    dsimp only
    have hn' : p.1 ∉ done.map (·.1) := fun z => by
      rw [List.map_append, List.map_append] at hn
      exact (List.nodup_append.mp (List.nodup_append.mp hn).1).2.2 _ z _ (List.mem_singleton.mpr rfl) rfl
    have hl' : done.length ≤ 1000 := by
      rw [List.length_append, List.length_append] at hl
      omega
    refine wpAny_bind (wpAny_bind (wp_setS hn' hl' (wpAny_pure ?_)))
    dsimp only
    have := wp_storeS (s := s) (t := t) r (done ++ [p]) (k + 1) Q hn hl (by
      rw [show k + 1 + r.length = k + (p :: r).length by rw [List.length_cons]; omega]
      exact q)
    rw [show t + (done ++ [p]).length = t + done.length + 1 by rw [List.length_append]; rfl] at this
    exact this
/-- pairs, written: a text, and what comes to a value wherever the objects of s stand -/
inductive PairsS (prog : Program) (w : World) (A : Around) (E : Value → Shared → Prop) (env : Env) (s : Shared) : List (Sem Value × Sem Value) → List SV → Prop where
  | nil : PairsS prog w A E env s [] []
  | cons {x : Str} {k : Nat} {kp : Pos} {m : Sem Value} {v : Value} {ps : List (Sem Value × Sem Value)} {r : List SV} :
      (∀ (s' : Shared) (Q : Value → Shared → Prop), (∀ b o, s.heap.get? b = some o → s'.heap.get? b = some o) → Q v s' → wpAny (model prog w) A m Q E s') → PairsS prog w A E env s ps r →
      PairsS prog w A E env s ((eval (.Constant (.str x) k kp) env, m) :: ps) ((x, v) :: r)
theorem pairsS_len {s : Shared} : ∀ {ps : List (Sem Value × Sem Value)} {L : List SV}, PairsS prog w A E env s ps L → ps.length = L.length
  | _, _, .nil => rfl
  | _, _, .cons _ r => congrArg (· + 1) (pairsS_len r)
theorem wp_pairsS {s s' : Shared} : ∀ {ps : List (Sem Value × Sem Value)} {L : List SV} {k : Nat} {Q : List (Value × Value) → Shared → Prop}, PairsS prog w A E env s ps L → (∀ b o, s.heap.get? b = some o → s'.heap.get? b = some o) →
    Q (kvs k L) { s' with toks := k + L.length } → wpAny (model prog w) A (evalPairs ps) Q E { s' with toks := k }
  | _, _, k, Q, .nil, _, q => by
    unfold evalPairs
    exact wpAny_pure q
  | _, _, k, Q, .cons (r := r) h c, hk, q => by
    unfold evalPairs
    refine wpAny_bind (wpAny_Constant_str (wpAny_bind (wpAny_holding (h _ _ hk (wpAny_bind (wpAny_holding ?_))))))
    refine wp_pairsS (k := k + 1) c hk (wpAny_pure ?_)
    rw [show k + 1 + r.length = k + (r.length + 1) by omega]
    exact q
theorem wp_subS {s : Shared} {ps : List (Sem Value × Sem Value)} {L : List SV} {Q : Addr → Shared → Prop} (c : PairsS prog w A E env s ps L) (h15 : ps.length ≤ 15) (hn : (L.map (·.1)).Nodup) (q : Q s.heap.objs.size (midS w prog s s.toks (s.toks + 2 * L.length) L)) :
    wpAny (model prog w) A (subDict ps) Q E s := by
  have ll := pairsS_len c
  unfold subDict
  refine wpAny_bind (wpAny_alloc ?_)
  refine wpAny_bind (wpAny_holding ?_)
  rw [if_pos h15]
  have e : ∀ k, ({ s with heap := s.heap.push { cls := .type "dict", data := .dict #[] }, toks := k } : Shared) = midS w prog s s.toks k [] := fun k => by
    have z : s.heap.push { cls := .type "dict", data := .dict #[] } = ext s.heap [dO []] := by
      have z := ext_push s.heap [] { cls := .type "dict", data := .dict #[] }
      rw [ext_nil] at z
      exact z
    show Shared.mk _ _ _ _ _ = Shared.mk (ext s.heap [dO []]) _ _ _ _
    rw [z]
  refine wpAny_bind (wp_pairsS (s := s) (s' := { s with heap := s.heap.push { cls := .type "dict", data := .dict #[] } }) (k := s.toks) c (fun b o z => Heap.get?_push_of_some _ z) ?_)
  refine wpAny_holding ?_
  show wpAny _ _ _ _ _ ({ s with heap := s.heap.push { cls := .type "dict", data := .dict #[] }, toks := s.toks + L.length } : Shared)
  rw [e]
  refine wpAny_bind (wp_storeS (s := s) (t := s.toks) L [] (s.toks + L.length) _ hn (by show L.length ≤ 1000; omega) (wpAny_pure (wpAny_pure ?_)))
  rw [show s.toks + L.length + L.length = s.toks + 2 * L.length by omega]
  exact q
theorem wp_displayS {pos : Pos} {s : Shared} {keys : List (Option Expr)} {values : List Expr} {ps : List (Sem Value × Sem Value)} {L : List SV} {Q : Value → Shared → Prop}
    (hshape : (evalEachOpt keys env).zip ((evalEach values env).map fun v => do let x ← v; standAt pos; pure x) = ps.map fun p => (some p.1, p.2)) (c : PairsS prog w A E env s ps L) (h0 : ps ≠ []) (h15 : ps.length ≤ 15) (hn : (L.map (·.1)).Nodup)
    (q : Q (.ref s.heap.objs.size) (midS w prog s s.toks (s.toks + 2 * L.length) L)) : wpAny (model prog w) A (eval (.Dict keys values pos) env) Q E s := by
  rw [arm_eval_Dict, hshape, dictDisplay_pairs ps h0 (by omega)]
  exact wpAny_bind (wpAny_standAt (wpAny_bind (wp_subS c h15 hn (wpAny_pure q))))
end
end Fw

set_option Elab.async false
set_option linter.all false
set_option maxRecDepth 100000
set_option maxHeartbeats 2000000
/-! A display of more than 17 and at most 32 pairs, keys texts, values tuples of texts: what it leaves, object by object. -/
namespace Fw
open PySem PySem.W PySem.Calls PyProof.Rows
abbrev SP : Type := Str × List Str
abbrev E3 : Type := Str × Nat × Value
section
variable {prog : Program} {w : World} {A : Around} {E : Value → Shared → Prop} {env : Env}
/-- c: tokens behind a pair -/
def ta (c : Nat) : Nat → List SP → List Obj
  | _, [] => []
  | t, p :: r => tO (t + 1) p.2 :: ta c (t + p.2.length + c) r
def tk (c : Nat) : Nat → List SP → Nat
  | t, [] => t
  | t, p :: r => tk c (t + p.2.length + c) r
def te (c : Nat) : Nat → Nat → List SP → List E3
  | _, _, [] => []
  | a, t, p :: r => (p.1, t, .ref a) :: te c (a + 1) (t + p.2.length + c) r
theorem ta_app (c : Nat) : ∀ (a b : List SP) (t : Nat), ta c t (a ++ b) = ta c t a ++ ta c (tk c t a) b
  | [], _, _ => rfl
  | p :: a, b, t => by
    show _ :: ta c _ (a ++ b) = _
    rw [ta_app c a b]
    rfl
theorem tk_app (c : Nat) : ∀ (a b : List SP) (t : Nat), tk c t (a ++ b) = tk c (tk c t a) b
  | [], _, _ => rfl
  | p :: a, b, t => tk_app c a b _
theorem ta_len (c : Nat) : ∀ (a : List SP) (t : Nat), (ta c t a).length = a.length
  | [], _ => rfl
  | p :: a, t => congrArg (· + 1) (ta_len c a _)
theorem te_app (c : Nat) : ∀ (a b : List SP) (i t : Nat), te c i t (a ++ b) = te c i t a ++ te c (i + a.length) (tk c t a) b
  | [], _, _, _ => rfl
  | p :: a, b, i, t => by
    show _ :: te c (i + 1) _ (a ++ b) = _
    rw [te_app c a b, show i + 1 + a.length = i + (p :: a).length by rw [List.length_cons]; omega]
    rfl
theorem te_keys (c : Nat) : ∀ (a : List SP) (i t : Nat), (te c i t a).map (·.1) = a.map (·.1)
  | [], _, _ => rfl
  | p :: a, i, t => by
    show _ :: (te c _ _ a).map _ = _
    rw [te_keys c a]
    rfl
theorem te_len (c : Nat) : ∀ (a : List SP) (i t : Nat), (te c i t a).length = a.length
  | [], _, _ => rfl
  | p :: a, i, t => congrArg (· + 1) (te_len c a _ _)
def ent (w : World) (prog : Program) (x : E3) : DictEntry := ⟨(strKind prog w).hash x.1, .str x.1 x.2.1, x.2.2⟩
def dE (w : World) (prog : Program) (l : List E3) : Obj := dO (l.map (ent w prog))
theorem nf_dE (l : List E3) : ∀ c d sl, dE w prog l ≠ ⟨c, d, .freed, sl⟩ := fun c d sl z => by injection z with _ _ z _; exact nomatch z
theorem dE_push (l : List E3) (x : E3) : Obj.mapDictKeys (fun es => es.push (ent w prog x)) (dE w prog l) = dE w prog (l ++ [x]) := by
  show (⟨_, _, _, _⟩ : Obj) = ⟨_, _, _, _⟩
  simp [dE, dO, Obj.mapDictKeys]
theorem wp_findE {hp : Heap} {d : Addr} {g dr tks os} {l : List E3} {x : Str} {t : Nat} {Q : Option Nat → Shared → Prop} (hd : hp.get? d = some (dE w prog l)) (hn : x ∉ l.map (·.1)) (q : Q none ⟨hp, g, dr, tks, os⟩) :
    wpAny (model prog w) A (dictFind d (.str x t) ((strKind prog w).hash x)) Q E ⟨hp, g, dr, tks, os⟩ := by
  have is : (strKind prog w).is x (.str x t) = true := by show Value.isStrOf x (.str x t) = true; simp [Value.isStrOf]
  refine wpAny_dictFind_of (knd := strKind prog w) is hd rfl (fun e he => ?_) ?_
  · obtain ⟨y, hy, rfl⟩ := List.mem_map.mp (List.mem_toArray.mp he)
    exact ⟨y.1, by show Value.isStrOf y.1 (.str y.1 y.2.1) = true; simp [Value.isStrOf], rfl⟩
  have no : (l.map (ent w prog)).toArray.findIdx? (fun e => (strKind prog w).is x e.key) = none := by
    rw [List.findIdx?_toArray, List.findIdx?_eq_none_iff]
    intro e he
    obtain ⟨y, hy, rfl⟩ := List.mem_map.mp he
    show Value.isStrOf x (.str y.1 y.2.1) = false
    cases hh : Value.isStrOf x (.str y.1 y.2.1) with
    | false => rfl
    | true =>
      obtain ⟨u, hu⟩ := Value.isStrOf_shape hh
      injection hu with hx _
      exact absurd (List.mem_map.mpr ⟨y, hy, hx⟩) hn
  rw [no]
  exact q
theorem wp_setE {h hp : Heap} {g dr tks os} {l : List E3} {rest : List Obj} {x : Str} {t : Nat} {v : Value} {Q : Unit → Shared → Prop} (hs : hp = ext h (dE w prog l :: rest)) (hn : x ∉ l.map (·.1)) (hz : l.length ≤ 1000)
    (q : Q () ⟨ext h (dE w prog (l ++ [(x, t, v)]) :: rest), g, dr, tks + 1, os⟩) : wpAny (model prog w) A (dictSet h.objs.size (.str x t) v) Q E ⟨hp, g, dr, tks, os⟩ := by
  subst hs
  have is : (strKind prog w).is x (.str x t) = true := by show Value.isStrOf x (.str x t) = true; simp [Value.isStrOf]
  have hd : (ext h (dE w prog l :: rest)).get? h.objs.size = some (dE w prog l) := ext_get (h := h) (i := 0) rfl (nf_dE l)
  unfold dictSet
  try with_reducible refine wpAny_holding ?_
  refine wpAny_bind ((strKind prog w).pyHash is ?_)
  unfold dictSetHashed
  try with_reducible refine wpAny_holding ?_
  refine wpAny_bind (wp_findE hd hn ?_)
  refine wpAny_bind (wpAny_rule (wpAny_updateDictKeys hd rfl ?_ (by
    rw [List.size_toArray, List.length_map]
    exact Nat.le_trans hz (by decide))))
  rw [ext_upd]
  show Q () ⟨ext h (Obj.mapDictKeys (fun es => es.push (ent w prog (x, t, v))) (dE w prog l) :: rest), g, dr, tks + 1, os⟩
  rw [dE_push]
  exact q
/-- the pairs, as they are evaluated -/
inductive PairsT (env : Env) (pos : Pos) : List (Sem Value × Sem Value) → List SP → Prop where
  | nil : PairsT env pos [] []
  | cons {ve : List Expr} {x : Str} {kk vk : Nat} {kp vp : Pos} {zs : List Str} {ps : List (Sem Value × Sem Value)} {r : List SP} : CS ve zs → zs.length ≤ 100 → PairsT env pos ps r →
    PairsT env pos ((eval (.Constant (.str x) kk kp) env, (do let x ← eval (.Tuple ve vk vp) env; standAt pos; pure x)) :: ps) ((x, zs) :: r)
theorem pairsT_len {pos : Pos} : ∀ {ps : List (Sem Value × Sem Value)} {L : List SP}, PairsT env pos ps L → ps.length = L.length
  | _, _, .nil => rfl
  | _, _, .cons _ _ r => congrArg (· + 1) (pairsT_len r)
/-- behind some of the pairs -/
def midT (w : World) (prog : Program) (s : Shared) (L : List SP) : Shared := { s with heap := ext s.heap (dE w prog (te 2 (s.heap.objs.size + 1) s.toks L) :: ta 2 s.toks L), toks := tk 2 s.toks L }
theorem wp_longT {pos : Pos} {s : Shared} : ∀ (rest done : List SP) (pairs : List (Sem Value × Sem Value)) (Q : PUnit → Shared → Prop), PairsT env pos pairs rest → ((done ++ rest).map (·.1)).Nodup → (done ++ rest).length ≤ 1000 → Q PUnit.unit (midT w prog s (done ++ rest)) →
    wpAny (model prog w) A (forIn pairs PUnit.unit fun (x : Sem Value × Sem Value) (_ : PUnit) => (do let kv ← x.1; let vv ← holding [kv] x.2; holding [kv, vv] (dictSet s.heap.objs.size kv vv); pure (ForInStep.yield PUnit.unit) : Sem (ForInStep PUnit))) Q E (midT w prog s done)
  | _, done, _, Q, .nil, _, _, q => by
    rw [List.append_nil] at q
    rw [List.forIn_nil]
    exact wpAny_pure q
  | _, done, _, Q, .cons (ve := ve) (x := x) (kk := kk) (vk := vk) (kp := kp) (vp := vp) (zs := zs) (ps := ps) (r := r) c2 c3 c4, hn, hl, q => by
    rw [List.forIn_cons]
    dsimp only
    have ed : done ++ (x, zs) :: r = (done ++ [(x, zs)]) ++ r := by simp
    rw [ed] at hn hl q
    have hl' : (done ++ [(x, zs)]).length ≤ 1000 := Nat.le_trans (by rw [List.length_append (as := done ++ [(x, zs)])]; exact Nat.le_add_right _ _) hl
    have hn' : x ∉ (te 2 (s.heap.objs.size + 1) s.toks done).map (·.1) := fun z => by
      rw [te_keys] at z
      rw [List.map_append, List.map_append] at hn
      exact (List.nodup_append.mp (List.nodup_append.mp hn).1).2.2 _ z _ (List.mem_singleton.mpr rfl) rfl
    refine wpAny_bind (wpAny_bind (wpAny_Constant_str (wpAny_bind (wpAny_holding (wpAny_bind (wp_tuple (k := vk) (pos := vp) c2 c3 (wpAny_bind (wpAny_standAt (wpAny_pure ?_)))))))))
    have es : (ext s.heap (dE w prog (te 2 (s.heap.objs.size + 1) s.toks done) :: ta 2 s.toks done)).objs.size = s.heap.objs.size + 1 + done.length := by
      rw [ext_size, List.length_cons, ta_len]
      omega
    refine wpAny_bind (wpAny_holding ?_)
    show wpAny _ _ (dictSet s.heap.objs.size (.str x (tk 2 s.toks done)) (.ref (ext s.heap (dE w prog (te 2 (s.heap.objs.size + 1) s.toks done) :: ta 2 s.toks done)).objs.size)) _ _ _
    rw [es]
    refine wp_setE (h := s.heap) (rest := ta 2 s.toks (done ++ [(x, zs)])) ?_ hn' (by rw [te_len]; rw [List.length_append] at hl'; omega) (wpAny_pure ?_)
    · show (ext s.heap _).push _ = _
      rw [ext_push, ta_app]
      rfl
    · refine (congrArg (fun y => wpAny (model prog w) A _ Q E y) ?_).mp (wp_longT r (done ++ [(x, zs)]) ps Q c4 hn hl q)
      unfold midT
      rw [te_app, tk_app]
      show Shared.mk _ _ _ _ _ = Shared.mk _ _ _ _ _
      congr 1
      show tk 2 s.toks done + zs.length + 2 = tk 2 s.toks done + 1 + zs.length + 1
      omega
theorem wp_sub_longT {pos : Pos} {s : Shared} {ps : List (Sem Value × Sem Value)} {L : List SP} {Q : Addr → Shared → Prop} (c : PairsT env pos ps L) (h15 : 15 < ps.length) (hn : (L.map (·.1)).Nodup) (hl : L.length ≤ 1000) (q : Q s.heap.objs.size (midT w prog s L)) :
    wpAny (model prog w) A (subDict ps) Q E s := by
  unfold subDict
  refine wpAny_bind (wpAny_alloc ?_)
  refine wpAny_bind (wpAny_holding ?_)
  rw [if_neg (by omega)]
  refine wpAny_bind (wpAny_rule ?_)
  have e : (Shared.mk (s.heap.push { cls := .type "dict", data := .dict #[] }) s.gens s.drawn s.toks s.os) = midT w prog s [] := by
    have z : s.heap.push { cls := .type "dict", data := .dict #[] } = ext s.heap [dO []] := by
      have z := ext_push s.heap [] { cls := .type "dict", data := .dict #[] }
      rw [ext_nil] at z
      exact z
    show Shared.mk _ _ _ _ _ = Shared.mk (ext s.heap [dO []]) _ _ _ _
    rw [z]
    rfl
  rw [e]
  exact wpAny_bind (wp_longT (E := E) L [] ps _ c hn hl (wpAny_pure (wpAny_pure q)))
/-- keys and values of a short run -/
def kvT (l : List E3) : List (Value × Value) := l.map fun x => (.str x.1 x.2.1, x.2.2)
theorem wp_pairsT {pos : Pos} {h : Heap} {l : List Obj} {g dr os} : ∀ {ps : List (Sem Value × Sem Value)} {L : List SP} (done : List SP) (t : Nat) {Q : List (Value × Value) → Shared → Prop}, PairsT env pos ps L →
    Q (kvT (te 1 (h.objs.size + l.length + done.length) (tk 1 t done) L)) ⟨ext h (l ++ ta 1 t (done ++ L)), g, dr, tk 1 t (done ++ L), os⟩ → wpAny (model prog w) A (evalPairs ps) Q E ⟨ext h (l ++ ta 1 t done), g, dr, tk 1 t done, os⟩
  | _, _, done, t, Q, .nil, q => by
    unfold evalPairs
    rw [List.append_nil] at q
    exact wpAny_pure q
  | _, _, done, t, Q, .cons (ve := ve) (x := x) (kk := kk) (vk := vk) (kp := kp) (vp := vp) (zs := zs) (ps := ps) (r := r) c2 c3 c4, q => by
    unfold evalPairs
    refine wpAny_bind (wpAny_Constant_str (wpAny_bind (wpAny_holding (wpAny_bind (wp_tuple (k := vk) (pos := vp) c2 c3 (wpAny_bind (wpAny_standAt (wpAny_pure ?_))))))))
    refine wpAny_bind (wpAny_holding ?_)
    have ed : done ++ (x, zs) :: r = (done ++ [(x, zs)]) ++ r := by simp
    have e1 : (ext h (l ++ ta 1 t done)).objs.size = h.objs.size + l.length + done.length := by
      rw [ext_size, List.length_append, ta_len]
      omega
    have eS : (⟨(ext h (l ++ ta 1 t done)).push (tO (tk 1 t done + 1) zs), g, dr, tk 1 t done + 1 + zs.length, os⟩ : Shared) = ⟨ext h (l ++ ta 1 t (done ++ [(x, zs)])), g, dr, tk 1 t (done ++ [(x, zs)]), os⟩ := by
      rw [ext_push, ta_app, tk_app, List.append_assoc]
      show Shared.mk _ _ _ _ _ = Shared.mk _ _ _ _ _
      congr 1
      show tk 1 t done + 1 + zs.length = tk 1 t done + zs.length + 1
      omega
    show wpAny _ _ _ _ _ (⟨(ext h (l ++ ta 1 t done)).push (tO (tk 1 t done + 1) zs), g, dr, tk 1 t done + 1 + zs.length, os⟩ : Shared)
    rw [eS]
    refine wp_pairsT (done ++ [(x, zs)]) t c4 (wpAny_pure ?_)
    rw [ed] at q
    show Q ((Value.str x (tk 1 t done), Value.ref (ext h (l ++ ta 1 t done)).objs.size) :: _) _
    rw [e1, tk_app, show h.objs.size + l.length + (done ++ [(x, zs)]).length = h.objs.size + l.length + done.length + 1 by rw [List.length_append]; rfl]
    exact q
theorem wp_storeT {h : Heap} {g dr os} {vals : List Obj} : ∀ (rest done : List E3) (k : Nat) (Q : PUnit → Shared → Prop), ((done ++ rest).map (·.1)).Nodup → (done ++ rest).length ≤ 1000 → Q PUnit.unit ⟨ext h (dE w prog (done ++ rest) :: vals), g, dr, k + rest.length, os⟩ →
    wpAny (model prog w) A (forIn (kvT rest) PUnit.unit fun (x : Value × Value) (_ : PUnit) => (do dictSet h.objs.size x.1 x.2; pure (ForInStep.yield PUnit.unit) : Sem (ForInStep PUnit))) Q E ⟨ext h (dE w prog done :: vals), g, dr, k, os⟩
  | [], done, k, Q, _, _, q => by
    rw [List.append_nil] at q
    show wpAny _ _ (forIn [] PUnit.unit _) _ _ _
    rw [List.forIn_nil]
    exact wpAny_pure q
  | p :: r, done, k, Q, hn, hl, q => by
    have ed : done ++ p :: r = (done ++ [p]) ++ r := by simp
    rw [ed] at hn hl q
    show wpAny _ _ (forIn ((Value.str p.1 p.2.1, p.2.2) :: kvT r) PUnit.unit _) _ _ _
    rw [List.forIn_cons]
    dsimp only
    have hn' : p.1 ∉ done.map (·.1) := fun z => by
      rw [List.map_append, List.map_append] at hn
      exact (List.nodup_append.mp (List.nodup_append.mp hn).1).2.2 _ z _ (List.mem_singleton.mpr rfl) rfl
    have hl' : done.length ≤ 1000 := by
      rw [List.length_append, List.length_append] at hl
      omega
    refine wpAny_bind (wpAny_bind (wp_setE (h := h) rfl hn' hl' (wpAny_pure ?_)))
    dsimp only
    exact wp_storeT r (done ++ [p]) (k + 1) Q hn hl (by
      rw [show k + 1 + r.length = k + (p :: r).length by rw [List.length_cons]; omega]
      exact q)
/-- a short run: the dict, then its values -/
def midU (w : World) (prog : Program) (s : Shared) (L : List SP) : Shared := { s with heap := ext s.heap (dE w prog (te 1 (s.heap.objs.size + 1) s.toks L) :: ta 1 s.toks L), toks := tk 1 s.toks L + L.length }
theorem wp_sub_shortT {pos : Pos} {s : Shared} {ps : List (Sem Value × Sem Value)} {L : List SP} {Q : Addr → Shared → Prop} (c : PairsT env pos ps L) (h15 : ps.length ≤ 15) (hn : (L.map (·.1)).Nodup) (q : Q s.heap.objs.size (midU w prog s L)) :
    wpAny (model prog w) A (subDict ps) Q E s := by
  have ll := pairsT_len c
  obtain ⟨hp, g, dr, t, os⟩ := s
  unfold subDict
  refine wpAny_bind (wpAny_alloc ?_)
  refine wpAny_bind (wpAny_holding ?_)
  rw [if_pos h15]
  have e : (⟨hp.push { cls := .type "dict", data := .dict #[] }, g, dr, t, os⟩ : Shared) = ⟨ext hp ([dE w prog []] ++ ta 1 t []), g, dr, tk 1 t [], os⟩ := by
    have z : hp.push { cls := .type "dict", data := .dict #[] } = ext hp [dO []] := by
      have z := ext_push hp [] { cls := .type "dict", data := .dict #[] }
      rw [ext_nil] at z
      exact z
    show Shared.mk _ _ _ _ _ = Shared.mk (ext hp [dO []]) _ _ _ _
    rw [z]
    rfl
  show wpAny _ _ _ _ _ (⟨hp.push { cls := .type "dict", data := .dict #[] }, g, dr, t, os⟩ : Shared)
  rw [e]
  refine wpAny_bind (wp_pairsT [] t c ?_)
  refine wpAny_holding ?_
  have q' : Q hp.objs.size ⟨ext hp (dE w prog (te 1 (hp.objs.size + 1) t L) :: ta 1 t L), g, dr, tk 1 t L + L.length, os⟩ := q
  refine wpAny_bind (wp_storeT (h := hp) (vals := ta 1 t L) (te 1 (hp.objs.size + 1) t L) [] (tk 1 t L) _ (by rw [List.nil_append, te_keys]; exact hn) (by rw [List.nil_append, te_len]; omega) (wpAny_pure (wpAny_pure ?_)))
  rw [List.nil_append, te_len]
  exact q'
/-- behind the whole display -/
def objsT (w : World) (prog : Program) (m t : Nat) (L M : List SP) : List Obj :=
  dE w prog (te 2 (m + 1) t L ++ te 1 (m + 1 + L.length + 1) (tk 2 t L) M) :: (ta 2 t L ++ dE w prog (te 1 (m + 1 + L.length + 1) (tk 2 t L) M) :: ta 1 (tk 2 t L) M)
def finT (w : World) (prog : Program) (s : Shared) (L M : List SP) : Shared := { s with heap := ext s.heap (objsT w prog s.heap.objs.size s.toks L M), toks := tk 1 (tk 2 s.toks L) M + M.length }
theorem wp_loopT {h : Heap} {g dr tks os} {vals tail : List Obj} {all : List E3} {a : Addr} (ha : a = h.objs.size + (vals.length + 1)) : ∀ (n : Nat) (done : List E3) (e2 : List E3) (pre : Nat) (Q : PUnit → Shared → Prop), n = e2.length → pre + n = all.length → all.drop pre = e2 → ((done ++ e2).map (·.1)).Nodup → (done ++ e2).length ≤ 1000 →
    Q PUnit.unit ⟨ext h (dE w prog (done ++ e2) :: (vals ++ dE w prog all :: tail)), g, dr, tks, os⟩ →
    wpAny (model prog w) A (forIn ((List.range all.length).drop pre) PUnit.unit fun (i : Nat) (_ : PUnit) => (do
      let __do_lift ← dictEntries a
      match __do_lift[i]? with
        | some e => do
          holding [e.key, e.val] (do
            dictPut h.objs.size e.hash e.key e.val)
          let __do_lift ← dictEpoch a
          if (__do_lift != all.length) = true then do
              let _ ← (unsupported "dict.changed-during-merge" : Sem PUnit)
              pure (ForInStep.yield PUnit.unit)
            else pure (ForInStep.yield PUnit.unit)
        | x => unsupported "dict.changed-during-merge" : Sem (ForInStep PUnit))) Q E ⟨ext h (dE w prog done :: (vals ++ dE w prog all :: tail)), g, dr, tks, os⟩
  | 0, done, [], pre, Q, _, hp, _, _, _, q => by
    rw [List.drop_eq_nil_of_le (by rw [List.length_range]; omega), List.forIn_nil]
    rw [List.append_nil] at q
    exact wpAny_pure q
  | n + 1, done, [], pre, Q, h0, _, _, _, _, _ => nomatch h0
  | 0, done, _ :: _, pre, Q, h0, _, _, _, _, _ => nomatch h0
  | n + 1, done, p :: r, pre, Q, h0, hp, hd, hn, hl, q => by
    have ed : done ++ p :: r = (done ++ [p]) ++ r := by simp
    rw [ed] at hn hl q
    have lt : pre < all.length := by omega
    have ep : all[pre]? = some p := by
      have : (all.drop pre)[0]? = some p := by rw [hd]; rfl
      rw [List.getElem?_drop] at this
      exact this
    have hr : (List.range all.length).drop pre = pre :: (List.range all.length).drop (pre + 1) := by
      rw [List.drop_eq_getElem_cons (by rw [List.length_range]; exact lt), List.getElem_range]
    have hn' : p.1 ∉ done.map (·.1) := fun z => by
      rw [List.map_append, List.map_append] at hn
      exact (List.nodup_append.mp (List.nodup_append.mp hn).1).2.2 _ z _ (List.mem_singleton.mpr rfl) rfl
    have hl' : done.length ≤ 1000 := by
      rw [List.length_append, List.length_append] at hl
      omega
    have g1 : ∀ x : Obj, (ext h (x :: (vals ++ dE w prog all :: tail))).get? a = some (dE w prog all) := fun x => by
      rw [ha]
      refine ext_get (h := h) (i := vals.length + 1) ?_ (nf_dE all)
      rw [List.getElem?_cons_succ, List.getElem?_append_right (Nat.le_refl _), Nat.sub_self]
      rfl
    have g0 : (ext h (dE w prog done :: (vals ++ dE w prog all :: tail))).get? h.objs.size = some (dE w prog done) := ext_get (h := h) (i := 0) rfl (nf_dE done)
    rw [hr, List.forIn_cons]
    refine wpAny_bind (wpAny_bind (wpAny_dictEntries (g1 _) rfl ?_))
    have ei : ((all.map (ent w prog)).toArray)[pre]? = some (ent w prog p) := by
      rw [List.getElem?_toArray, List.getElem?_map, ep]
      rfl
    rw [ei]
    dsimp only
    refine wpAny_bind (wpAny_holding ?_)
    unfold dictPut
    refine wpAny_bind (wp_findE g0 hn' ?_)
    refine wpAny_updateDictKeys g0 rfl ?_ (by
      rw [List.size_toArray, List.length_map]
      exact Nat.le_trans hl' (by decide))
    rw [ext_upd]
    show wpAny _ _ _ _ _ (⟨ext h (Obj.mapDictKeys (fun es => es.push (ent w prog p)) (dE w prog done) :: (vals ++ dE w prog all :: tail)), g, dr, tks, os⟩ : Shared)
    rw [dE_push]
    refine wpAny_bind (wpAny_dictEpoch (g1 _) rfl ?_)
    rw [if_neg (by
      show ¬ (((all.map (ent w prog)).length != all.length) = true)
      rw [List.length_map, bne_self_eq_false]
      exact Bool.false_ne_true)]
    refine wpAny_pure ?_
    exact wp_loopT ha n (done ++ [p]) r (pre + 1) Q (by simpa using h0) (by omega) (by rw [← List.drop_drop, hd]; rfl) hn hl q
end
end Fw

set_option Elab.async false
set_option linter.all false
set_option maxRecDepth 100000
set_option maxHeartbeats 2000000
namespace Fw
open PySem PySem.W PySem.Calls PyProof.Rows
section
variable {prog : Program} {w : World} {A : Around} {E : Value → Shared → Prop} {env : Env}
theorem wp_mergeT {s : Shared} {L M : List SP} {Q : Unit → Shared → Prop} (hn : ((L ++ M).map (·.1)).Nodup) (hl : (L ++ M).length ≤ 1000) (h0 : L ≠ []) (hm : sysModules < s.heap.objs.size) (q : Q () (finT w prog s L M)) :
    wpAny (model prog w) A (mergeMapping s.heap.objs.size (.ref (s.heap.objs.size + 1 + L.length)) false) Q E (midU w prog (midT w prog s L) M) := by
  obtain ⟨hp, g, dr, t, os⟩ := s
  have ea : (ext hp (dE w prog (te 2 (hp.objs.size + 1) t L) :: ta 2 t L)).objs.size = hp.objs.size + 1 + L.length := by
    rw [ext_size, List.length_cons, ta_len]
    omega
  generalize h1 : te 2 (hp.objs.size + 1) t L = e1 at *
  have k1 : e1.map (·.1) = L.map (·.1) := by rw [← h1, te_keys]
  have l1 : e1.length = L.length := by rw [← h1, te_len]
  generalize h2 : te 1 (hp.objs.size + 1 + L.length + 1) (tk 2 t L) M = e2 at *
  have k2 : e2.map (·.1) = M.map (·.1) := by rw [← h2, te_keys]
  have l2 : e2.length = M.length := by rw [← h2, te_len]
  have eS : midU w prog (midT w prog ⟨hp, g, dr, t, os⟩ L) M = ⟨ext hp (dE w prog e1 :: (ta 2 t L ++ dE w prog e2 :: ta 1 (tk 2 t L) M)), g, dr, tk 1 (tk 2 t L) M + M.length, os⟩ := by
    unfold midU midT
    dsimp only
    rw [h1, ea, ext_ext, h2]
    rfl
  have eF : finT w prog ⟨hp, g, dr, t, os⟩ L M = ⟨ext hp (dE w prog (e1 ++ e2) :: (ta 2 t L ++ dE w prog e2 :: ta 1 (tk 2 t L) M)), g, dr, tk 1 (tk 2 t L) M + M.length, os⟩ := by
    unfold finT objsT
    dsimp only
    rw [h1, h2]
  rw [eS]
  rw [eF] at q
  generalize tk 1 (tk 2 t L) M + M.length = tks at *
  have ha : hp.objs.size + 1 + L.length = hp.objs.size + ((ta 2 t L).length + 1) := by rw [ta_len]; omega
  have lv : (ta 2 t L).length = L.length := ta_len 2 L t
  generalize ta 2 t L = vals at *
  generalize ta 1 (tk 2 t L) M = tail at *
  have gd : (ext hp (dE w prog e1 :: (vals ++ dE w prog e2 :: tail))).get? hp.objs.size = some (dE w prog e1) := ext_get (h := hp) (i := 0) rfl (nf_dE e1)
  have gs : (ext hp (dE w prog e1 :: (vals ++ dE w prog e2 :: tail))).get? (hp.objs.size + 1 + L.length) = some (dE w prog e2) := by
    rw [ha]
    refine ext_get (h := hp) (i := vals.length + 1) ?_ (nf_dE e2)
    rw [List.getElem?_cons_succ, List.getElem?_append_right (Nat.le_refl _), Nat.sub_self]
    rfl
  have hT : (Shared.mk (ext hp (dE w prog e1 :: (vals ++ dE w prog e2 :: tail))) g dr tks os).TypeIs (.ref (hp.objs.size + 1 + L.length)) "dict" := ⟨_, gs, rfl⟩
  unfold mergeMapping
  refine wpAny_bind (wpAny_isInstance hT isSubtype_dict_dict ?_)
  rw [if_pos rfl]
  refine wpAny_bind (wpAny_specialOf hT F.slot_dict_iter.lookup ?_)
  rw [show ((some (Value.builtin "dict.__iter__") : Option Value) == some (Value.builtin "dict.__iter__")) = true from beq_self_eq_true _]
  refine wpAny_bind (wpAny_pure ?_)
  dsimp only
  rw [if_neg (by
    rw [beq_iff_eq]
    intro z
    have y : sysModules < hp.objs.size := hm
    rw [← z] at y
    exact absurd y (Nat.not_lt.mpr (by omega)))]
  refine wpAny_bind (wpAny_dictEntries gd rfl ?_)
  rw [if_neg (by
    intro z
    have : e1.map (ent w prog) = [] := by simpa using z
    rw [List.map_eq_nil_iff] at this
    rw [this] at l1
    exact h0 (List.eq_nil_of_length_eq_zero l1.symm))]
  refine wpAny_bind (wpAny_dictEntries gs rfl ?_)
  refine wpAny_bind (wpAny_dictEpoch gs rfl ?_)
  have es : ((e2.map (ent w prog)).toArray).size = e2.length := by rw [List.size_toArray, List.length_map]
  have ee : (e2.map (ent w prog)).length = e2.length := List.length_map ..
  show wpAny _ _ (forIn (List.range ((e2.map (ent w prog)).toArray).size) PUnit.unit _ >>= _) _ _ _
  rw [es]
  have hn2 : ((e1 ++ e2).map (·.1)).Nodup := by
    rw [List.map_append, k1, k2, ← List.map_append]
    exact hn
  have hl2 : (e1 ++ e2).length ≤ 1000 := by
    rw [List.length_append, l1, l2, ← List.length_append]
    exact hl
  have lp := wp_loopT (prog := prog) (w := w) (A := A) (E := E) (h := hp) (g := g) (dr := dr) (tks := tks) (os := os) (vals := vals) (tail := tail) (all := e2) ha e2.length e1 e2 0 (fun u s => wpAny (model prog w) A (pure ()) Q E s) rfl (Nat.zero_add _) rfl hn2 hl2 (wpAny_pure q)
  rw [List.drop_zero] at lp
  simp only [ee, Bool.false_eq_true, if_false] at *
  exact wpAny_bind lp
theorem gatherN (f : (Option (Sem Value) × Sem Value) → (Option Addr × List PS) → Sem (ForInStep (Option Addr × List PS))) (d : Option Addr) (hf : ∀ (p : PS) (run : List PS), run.length + 1 < 17 → f (some p.1, p.2) (d, run) = pure (.yield (d, run ++ [p]))) (rest : List PS) :
    ∀ (a run : List PS), run.length + a.length < 17 → forIn ((a ++ rest).map fun p => (some p.1, p.2)) (d, run) f = forIn (rest.map fun p => (some p.1, p.2)) (d, run ++ a) f
  | [], run, _ => by rw [List.append_nil]; rfl
  | p :: a, run, h => by
    rw [List.length_cons] at h
    rw [List.cons_append, List.map_cons, List.forIn_cons, hf p run (by omega), pure_bind]
    dsimp only
    rw [gatherN f d hf rest a (run ++ [p]) (by rw [List.length_append]; show run.length + 1 + a.length < 17; omega), List.append_assoc]
    rfl
theorem wp_displayT {pos : Pos} {s : Shared} {a c : List PS} {b : PS} {L M : List SP} {Q : Value → Shared → Prop} (ha : a.length = 16) (hc0 : c ≠ []) (hc : c.length ≤ 15) (c1 : PairsT env pos (a ++ [b]) L) (c2 : PairsT env pos c M) (hn : ((L ++ M).map (·.1)).Nodup) (hm : sysModules < s.heap.objs.size)
    (q : Q (.ref s.heap.objs.size) (finT w prog s L M)) : wpAny (model prog w) A (dictDisplay ((a ++ b :: c).map fun p => (some p.1, p.2))) Q E s := by
  have hL : L.length = 17 := by
    rw [← pairsT_len c1, List.length_append, ha]
    rfl
  have hM : M.length ≤ 15 := by rw [← pairsT_len c2]; exact hc
  have hn1 : (L.map (·.1)).Nodup := by
    rw [List.map_append] at hn
    exact (List.nodup_append.mp hn).1
  have hn2 : (M.map (·.1)).Nodup := by
    rw [List.map_append] at hn
    exact (List.nodup_append.mp hn).2.1
  unfold dictDisplay
  dsimp only
  rw [gatherN _ none (fun p run h => by
    have hne : ((run ++ [(p.1, p.2)]).length == 17) = false := by simp; omega
    simp only [hne, Bool.false_eq_true, if_false]) (b :: c) a [] (by rw [ha]; decide)]
  rw [List.nil_append, List.map_cons, List.forIn_cons]
  have e17 : ((a ++ [(b.1, b.2)]).length == 17) = true := by rw [List.length_append, ha]; rfl
  have ne : (a ++ [(b.1, b.2)]).isEmpty = false := by cases a <;> rfl
  simp only [e17, if_true, ne, Bool.false_eq_true, if_false]
  refine wpAny_bind (wpAny_bind (wpAny_bind (wpAny_bind (wp_sub_longT (w := w) (prog := prog) c1 (by rw [List.length_append, ha]; show 15 < 17; decide) hn1 (by rw [hL]; decide) ?_))))
  refine wpAny_pure (wpAny_pure ?_)
  dsimp only
  rw [← List.append_nil c, gatherN _ (some s.heap.objs.size) (fun p run h => by
    have hne : ((run ++ [(p.1, p.2)]).length == 17) = false := by simp; omega
    simp only [hne, Bool.false_eq_true, if_false]) [] c [] (by show 0 + c.length < 17; omega)]
  rw [List.nil_append, List.map_nil, List.forIn_nil]
  refine wpAny_pure ?_
  have hce : c.isEmpty = false := by cases c with | nil => exact absurd rfl hc0 | cons _ _ => rfl
  simp only [hce, Bool.false_eq_true, if_false]
  refine wpAny_bind (wpAny_bind (wpAny_holding (wp_sub_shortT (w := w) (prog := prog) c2 hc hn2 ?_)))
  have es : (midT w prog s L).heap.objs.size = s.heap.objs.size + 1 + L.length := by
    show (ext s.heap _).objs.size = _
    rw [ext_size, List.length_cons, ta_len]
    omega
  rw [es]
  refine wpAny_bind (wpAny_onRaise (wpAny_holding (wp_mergeT hn (by rw [List.length_append, hL]; omega) (fun z => by rw [z] at hL; exact nomatch hL) hm ?_)))
  exact wpAny_pure (wpAny_pure q)
end
end Fw

set_option Elab.async false
set_option linter.all false
set_option maxRecDepth 100000
set_option maxHeartbeats 2000000
/-! a top with any number of displays: pieces in the kernel, displays by wp -/
noncomputable section
namespace Fw
open PySem PySem.W PySem.Calls PyProof.Rows HandSHeadRun
structure Base where
  p : Program
  env : Env
  q0 : Pos
  pos0 : Pos
  k0 : Nat
  kB : Nat
def Base.c (D : Base) : Code := .body (behindTheImports D.p) D.env
def Base.B (D : Base) : List Frame := [topFrame D.q0]
def Base.A (D : Base) : Around := { handled := none, depth := frameCount [(.builtin "claim.caller" {}, D.q0)] + D.c.weight, frames := none, guards := none, units := D.c.cUnits + unitsOf [(.builtin "claim.caller" {}, D.q0)] }
theorem base_in {D : Base} : ((⟨D.c, none, none, [], none⟩ : Ctx).over D.B).In D.A :=
  ⟨rfl, Nat.le_refl _, fun l hl => (nomatch (show (none : Option (List Env)) = some l from hl)), fun g hg => (nomatch (show (none : Option (List Code)) = some g from hg)), Nat.le_refl _⟩
def bindF (env : Env) (x : Str) (np : Pos) (v : Value) : Sem Flow := do
  standAt np
  bindName env x v
  pure .next
section
variable {D : Base} {w : World} {n₀ : Nat} {ann : Option Value} {G : SharedT → Prop}
/-- the pieces b come to an end from here -/
def EndsAt (D : Base) (w : World) (n₀ : Nat) (ann : Option Value) (G : SharedT → Prop) (b : List Stmt) (s : SharedT) (p : Pos) : Prop :=
  s.abs.asleep → ∃ S : SharedT, Halts D.p w s.abs ⟨(execs b D.env).wrap doneF (leaveH D.env) id id, D.c, p, D.B⟩ S.abs ∧ S.gens = #[] ∧ Keeps n₀ ann s.abs S.abs ∧ G S
theorem ends_seg {l b : List Stmt} {k : Nat} {s s1 : SharedT} {p p1 : Pos} (h : segF (stepT (denote table) D.p w) n₀ ann k s (piecesOf l D.env D.c p D.B) = some (.next, s1, D.c, p1)) (e : EndsAt D w n₀ ann G b s1 p1) : EndsAt D w n₀ ann G (l ++ b) s p := by
  intro hz
  have sB0 : splitAtGen D.B = none := rfl
  obtain ⟨fC, mC, eC, goC⟩ := seg_goes (res := fun f : Flow => f) (K' := fun f => match f with | .next => (execs b D.env).wrap doneF (leaveH D.env) id id | f => doneF f) (H' := leaveH D.env) (B := D.B) sB0 k (t := piecesOf l D.env D.c p D.B)
    (t' := ⟨(execs l D.env).wrap (fun f => match f with | .next => (execs b D.env).wrap doneF (leaveH D.env) id id | f => doneF f) (leaveH D.env) id id, D.c, p, D.B⟩) ⟨rfl, rfl, .inl ⟨rfl, rfl, _, rfl, rfl⟩⟩ (segF_ok h)
  have eC : fC = .next := eC
  subst eC
  have kC := keeps_go goC
  obtain ⟨S, h1, h2, h3, h4⟩ := e (Shared.asleep_of_life kC.life hz)
  refine ⟨S, ?_, h2, kC.trans h3, h4⟩
  rw [execs_app_wrap]
  exact halts_go goC h1
theorem ends_go {b : List Stmt} {M : Nat} {s s4 : SharedT} {p : Pos} (h : goF (stepT (denote table) D.p w) n₀ ann M s (restOf b D.env D.c p D.B) = some s4) (hg : s4.gens = #[]) (hG : G s4) : EndsAt D w n₀ ann G b s p := by
  intro hz
  have top := goF_ok h
  obtain ⟨_, l4, o4, f4⟩ := topRun_spec _ _ _ _ hz top
  exact ⟨s4, halts_top top hg, hg, ⟨l4, o4, f4⟩, hG⟩
theorem ends_dict {b : List Stmt} {k : Nat} {s s2 : SharedT} {p : Pos} {x : Str} {np : Pos} {keys : List (Option Expr)} {values : List Expr} {dpos apos : Pos}
    (sw : swapsWith (.Dict keys values dpos) (some (.Name x np)) apos.line D.env = pure false)
    (wpD : wpAny (model D.p w) D.A (eval (.Dict keys values dpos) D.env) (fun v s' => v = .ref s.n ∧ s' = s2.abs) (fun _ _ => False) s.abs) (k2 : Keeps n₀ ann s.abs s2.abs)
    (h : ∀ p', ∃ s3 p3, segF (stepT (denote table) D.p w) n₀ ann k s2 ⟨(bindF D.env x np (.ref s.n)).wrap doneF deadEnd id id, D.c, p', D.B⟩ = some (.next, s3, D.c, p3) ∧ EndsAt D w n₀ ann G b s3 p3) :
    EndsAt D w n₀ ann G (.Assign [.Name x np] (.Dict keys values dpos) apos :: b) s p := by
  intro hz
  have sB0 : splitAtGen D.B = none := rfl
  have behind : ∀ p', ∃ S, Halts D.p w s2.abs ⟨(bindF D.env x np (.ref s.n)).wrap (fun f => match f with | .next => (execs b D.env).wrap doneF (leaveH D.env) id id | f => doneF f) (leaveH D.env) id id, D.c, p', D.B⟩ S ∧ S.gens = #[] ∧
      ∃ S4 : SharedT, S = S4.abs ∧ S4.gens = #[] ∧ Keeps n₀ ann s.abs S ∧ G S4 := by
    intro p'
    obtain ⟨s3, p3, h3, e⟩ := h p'
    obtain ⟨fE, mE, eE, goE⟩ := seg_goes (res := fun f : Flow => f) (K' := fun f => match f with | .next => (execs b D.env).wrap doneF (leaveH D.env) id id | f => doneF f) (H' := leaveH D.env) (B := D.B) sB0 k (t := ⟨(bindF D.env x np (.ref s.n)).wrap doneF deadEnd id id, D.c, p', D.B⟩)
      (t' := ⟨(bindF D.env x np (.ref s.n)).wrap (fun f => match f with | .next => (execs b D.env).wrap doneF (leaveH D.env) id id | f => doneF f) (leaveH D.env) id id, D.c, p', D.B⟩) ⟨rfl, rfl, .inl ⟨rfl, rfl, _, rfl, rfl⟩⟩ (segF_ok h3)
    have eE : fE = .next := eE
    subst eE
    have kE := keeps_go goE
    have k3 := k2.trans kE
    obtain ⟨S, h1, h2, h4, h5⟩ := e (Shared.asleep_of_life k3.life hz)
    exact ⟨S.abs, halts_go goE h1, h2, S, rfl, h2, k3.trans h4, h5⟩
  have ex : exec (.Assign [.Name x np] (.Dict keys values dpos) apos) D.env = ((do standAt apos; eval (.Dict keys values dpos) D.env) : Sem Value) >>= bindF D.env x np := by
    rw [exec_Assign_Name _ _ _ _ _ sw]
    rfl
  have wpE : wpAny (model D.p w) D.A ((do standAt apos; eval (.Dict keys values dpos) D.env) : Sem Value) (fun v s' => v = .ref s.n ∧ s' = s2.abs) (fun _ _ => False) s.abs := wpAny_bind (wpAny_standAt wpD)
  obtain ⟨S, hS, hg, S4, rfl, hg4, hk4, hG⟩ := halts_mid' (p := D.p) (w := w) (K := fun v => (bindF D.env x np v).wrap (fun f => match f with | .next => (execs b D.env).wrap doneF (leaveH D.env) id id | f => doneF f) (leaveH D.env) id id) (H := leaveH D.env) (gd := id) (lv := id) (c := D.c) (pos := p) (B := D.B)
    (G := fun S => ∃ S4 : SharedT, S = S4.abs ∧ S4.gens = #[] ∧ Keeps n₀ ann s.abs S ∧ G S4) (wpE _ p base_in) (fun v p' s' q => by
      obtain ⟨rfl, rfl⟩ := q
      exact behind p')
  refine ⟨S4, ?_, hg4, hk4, hG⟩
  rw [execs_cons_wrap, ex, Sem.bind_eq_wrap', Sem.wrap_wrap]
  exact hS
end
/-! ### the stages of a top -/
inductive Stg where
  | seg (l : List Stmt) (k : Nat)
  | big (x : Str) (np : Pos) (keys : List (Option Expr)) (values : List Expr) (dpos apos : Pos) (L : List PK) (pk : PK) (k : Nat)
  | txt (x : Str) (np : Pos) (keys : List (Option Expr)) (values : List Expr) (dpos apos : Pos) (L : List SV) (ok : SharedT → Bool) (k : Nat)
  | two (x : Str) (np : Pos) (keys : List (Option Expr)) (values : List Expr) (dpos apos : Pos) (L M : List SP) (k : Nat)
def Stg.ss : Stg → List Stmt
  | .seg l _ => l
  | .big x np ks vs dp ap .. => [.Assign [.Name x np] (.Dict ks vs dp) ap]
  | .txt x np ks vs dp ap .. => [.Assign [.Name x np] (.Dict ks vs dp) ap]
  | .two x np ks vs dp ap .. => [.Assign [.Name x np] (.Dict ks vs dp) ap]
def layU (w : World) (prog : Program) (L M : List SP) (s : SharedT) : Option SharedT := match putAll (objsT w prog s.n s.toks L M) s.tree s.n with
  | some (t, n) => frNat n fun n => some ⟨t, n, s.life, s.gens, s.drawn, tk 1 (tk 2 s.toks L) M + M.length, s.os⟩
  | none => none
theorem layU_ok {w : World} {prog : Program} {L M : List SP} {s s' : SharedT} (h : layU w prog L M s = some s') : s'.abs = finT w prog s.abs L M := by
  unfold layU at h
  cases e : putAll (objsT w prog s.n s.toks L M) s.tree s.n with
  | none => rw [e] at h; exact nomatch h
  | some r =>
    obtain ⟨t, n⟩ := r
    rw [e] at h
    have h : (frNat n fun n => some (⟨t, n, s.life, s.gens, s.drawn, tk 1 (tk 2 s.toks L) M + M.length, s.os⟩ : SharedT)) = some s' := h
    rw [frNat_eq] at h
    cases h
    have q := putAll_ok (life := s.life) e
    rw [ext_foldl] at q
    have sz : (absHeap s.tree s.n s.life).objs.size = s.n := absHeap_size s.tree s.n s.life
    show Shared.mk (absHeap t n s.life) s.gens s.drawn _ s.os = Shared.mk (ext (absHeap s.tree s.n s.life) (objsT w prog (absHeap s.tree s.n s.life).objs.size s.toks L M)) s.gens s.drawn _ s.os
    rw [q, sz]
    rfl
theorem keeps_finT {w : World} {prog : Program} {n₀ : Nat} {ann : Option Value} (s : Shared) (L M : List SP) : Keeps n₀ ann s (finT w prog s L M) :=
  ⟨rfl, rfl, fun b o _ _ _ _ h => by
    have lt := Heap.lt_size h
    show (ext s.heap _).get? b = some o
    unfold Heap.get? ext at *
    rw [Array.getElem?_append_left lt]
    exact h⟩
def layS (w : World) (prog : Program) (L : List SV) (s : SharedT) : Option SharedT := match putAll [dO (sEs w prog s.toks L)] s.tree s.n with
  | some (t, n) => frNat n fun n => some ⟨t, n, s.life, s.gens, s.drawn, s.toks + 2 * L.length, s.os⟩
  | none => none
theorem layS_ok {w : World} {prog : Program} {L : List SV} {s s' : SharedT} (h : layS w prog L s = some s') : s'.abs = midS w prog s.abs s.abs.toks (s.abs.toks + 2 * L.length) L := by
  unfold layS at h
  cases e : putAll [dO (sEs w prog s.toks L)] s.tree s.n with
  | none => rw [e] at h; exact nomatch h
  | some r =>
    obtain ⟨t, n⟩ := r
    rw [e] at h
    have h : (frNat n fun n => some (⟨t, n, s.life, s.gens, s.drawn, s.toks + 2 * L.length, s.os⟩ : SharedT)) = some s' := h
    rw [frNat_eq] at h
    cases h
    have q := putAll_ok (life := s.life) e
    rw [ext_foldl] at q
    show Shared.mk (absHeap t n s.life) s.gens s.drawn _ s.os = Shared.mk (ext (absHeap s.tree s.n s.life) _) s.gens s.drawn _ s.os
    rw [q]
    rfl
structure Trail where
  s : SharedT
  p : Pos
  cs : List Code
  fl : List Bool
def goStg (st : SharedT → Thread → Option (SharedT × Thread)) (D : Base) (w : World) (n₀ : Nat) (ann : Option Value) : List Stg → List Pos → SharedT → Pos → Option Trail
  | [], _, s, p => some ⟨s, p, [], []⟩
  | .seg l k :: r, ps, s, p => match segF st n₀ ann k s (piecesOf l D.env D.c p D.B) with
    | some (.next, s1, c1, p1) => (match goStg st D w n₀ ann r ps s1 p1 with
      | some t => some ⟨t.s, t.p, c1 :: t.cs, t.fl⟩
      | none => none)
    | _ => none
  | .big x np _ _ _ _ L pk k :: r, ps, s, p => match layT w D.p L pk s with
    | some s2 => (match segF st n₀ ann k s2 ⟨(bindF D.env x np (.ref s.n)).wrap doneF deadEnd id id, D.c, ps.headD p, D.B⟩ with
      | some (.next, s3, c3, p3) => (match goStg st D w n₀ ann r ps.tail s3 p3 with
        | some t => some ⟨t.s, t.p, c3 :: t.cs, Nat.blt sysModules s.n :: t.fl⟩
        | none => none)
      | _ => none)
    | none => none
  | .txt x np _ _ _ _ L ok k :: r, ps, s, p => match layS w D.p L s with
    | some s2 => (match segF st n₀ ann k s2 ⟨(bindF D.env x np (.ref s.n)).wrap doneF deadEnd id id, D.c, ps.headD p, D.B⟩ with
      | some (.next, s3, c3, p3) => (match goStg st D w n₀ ann r ps.tail s3 p3 with
        | some t => some ⟨t.s, t.p, c3 :: t.cs, ok s :: t.fl⟩
        | none => none)
      | _ => none)
    | none => none
  | .two x np _ _ _ _ L M k :: r, ps, s, p => match layU w D.p L M s with
    | some s2 => (match segF st n₀ ann k s2 ⟨(bindF D.env x np (.ref s.n)).wrap doneF deadEnd id id, D.c, ps.headD p, D.B⟩ with
      | some (.next, s3, c3, p3) => (match goStg st D w n₀ ann r ps.tail s3 p3 with
        | some t => some ⟨t.s, t.p, c3 :: t.cs, Nat.blt sysModules s.n :: t.fl⟩
        | none => none)
      | _ => none)
    | none => none
def Stg.Ok (D : Base) (w : World) : Stg → Prop
  | .seg _ _ => True
  | .big x np keys values dpos apos L pk _ => swapsWith (.Dict keys values dpos) (some (.Name x np)) apos.line D.env = pure false ∧ ((L ++ [pk]).map key).Nodup ∧
      ∃ (a : List PS) (b c : PS), a.length = 16 ∧ (evalEachOpt keys D.env).zip ((evalEach values D.env).map fun v => do let x ← v; standAt dpos; pure x) = (a ++ [b, c]).map (fun p => (some p.1, p.2)) ∧ PairsAre D.env dpos (a ++ [b]) L ∧ PairsAre D.env dpos [c] [pk]
  | .txt x np keys values dpos apos L ok _ => swapsWith (.Dict keys values dpos) (some (.Name x np)) apos.line D.env = pure false ∧ (L.map (·.1)).Nodup ∧
      ∀ s : SharedT, ok s = true → ∃ ps : List PS, (evalEachOpt keys D.env).zip ((evalEach values D.env).map fun v => do let x ← v; standAt dpos; pure x) = ps.map (fun p => (some p.1, p.2)) ∧ PairsS D.p w D.A (fun _ _ => False) D.env s.abs ps L ∧ ps ≠ [] ∧ ps.length ≤ 15
  | .two x np keys values dpos apos L M _ => swapsWith (.Dict keys values dpos) (some (.Name x np)) apos.line D.env = pure false ∧ ((L ++ M).map (·.1)).Nodup ∧
      ∃ (a c : List PS) (b : PS), a.length = 16 ∧ c ≠ [] ∧ c.length ≤ 15 ∧ (evalEachOpt keys D.env).zip ((evalEach values D.env).map fun v => do let x ← v; standAt dpos; pure x) = (a ++ b :: c).map (fun p => (some p.1, p.2)) ∧ PairsT D.env dpos (a ++ [b]) L ∧ PairsT D.env dpos c M
def Stg.disp : Stg → Nat
  | .seg _ _ => 0
  | _ => 1
theorem keeps_midS {w : World} {prog : Program} {n₀ : Nat} {ann : Option Value} (s : Shared) (t k : Nat) (L : List SV) : Keeps n₀ ann s (midS w prog s t k L) :=
  ⟨rfl, rfl, fun b o _ _ _ _ h => by
    have lt := Heap.lt_size h
    show (ext s.heap _).get? b = some o
    unfold Heap.get? ext at *
    rw [Array.getElem?_append_left lt]
    exact h⟩
theorem stg_ends {D : Base} {w : World} {n₀ : Nat} {ann : Option Value} {G : SharedT → Prop} {b : List Stmt} (un : D.A.units < cLine) : ∀ (L : List Stg) (s : SharedT) (p : Pos), (∀ x ∈ L, x.Ok D w) →
    (∀ ps : List Pos, ps.length = (L.map Stg.disp).sum → ∃ t, goStg (stepT (denote table) D.p w) D w n₀ ann L ps s p = some t ∧ (∀ c ∈ t.cs, c = D.c) ∧ (∀ f ∈ t.fl, f = true) ∧ EndsAt D w n₀ ann G b t.s t.p) →
    EndsAt D w n₀ ann G (L.flatMap Stg.ss ++ b) s p
  | [], s, p, _, run => by
    obtain ⟨t, h, _, _, e⟩ := run [] rfl
    cases h
    exact e
  | .seg l k :: r, s, p, ok, run => by
    show EndsAt D w n₀ ann G ((l ++ r.flatMap Stg.ss) ++ b) s p
    rw [List.append_assoc]
    obtain ⟨t0, h0, c0, _, _⟩ := run (List.replicate ((Stg.seg l k :: r).map Stg.disp).sum default) (List.length_replicate ..)
    cases hs : segF (stepT (denote table) D.p w) n₀ ann k s (piecesOf l D.env D.c p D.B) with
    | none => simp [goStg, hs] at h0
    | some v =>
      obtain ⟨f, s1, c1, p1⟩ := v
      cases f with
      | next =>
        have ec : c1 = D.c := by
          simp only [goStg, hs] at h0
          split at h0
          · cases h0
            exact c0 c1 (List.mem_cons_self ..)
          · cases h0
        subst ec
        refine ends_seg hs (stg_ends un r s1 p1 (fun x hx => ok x (List.mem_cons_of_mem _ hx)) fun ps hp => ?_)
        obtain ⟨t, h, c, f, e⟩ := run ps (by rw [hp, List.map_cons, List.sum_cons]; exact (Nat.zero_add _).symm)
        simp only [goStg, hs] at h
        split at h
        · rename_i t' ht'
          cases h
          exact ⟨t', ht', fun x hx => c x (List.mem_cons_of_mem _ hx), f, e⟩
        · cases h
      | _ => simp [goStg, hs] at h0
  | .big x np keys values dpos apos L pk k :: r, s, p, ok, run => by
    obtain ⟨sw, nd, a, bb, cc, al, hsh, p1, p2⟩ := ok _ (List.mem_cons_self ..)
    show EndsAt D w n₀ ann G (.Assign [.Name x np] (.Dict keys values dpos) apos :: (r.flatMap Stg.ss ++ b)) s p
    obtain ⟨t0, h0, _, f0, _⟩ := run (List.replicate ((Stg.big x np keys values dpos apos L pk k :: r).map Stg.disp).sum default) (List.length_replicate ..)
    cases hs : layT w D.p L pk s with
    | none => simp [goStg, hs] at h0
    | some s2 =>
      have sz : s.abs.heap.objs.size = s.n := absHeap_size s.tree s.n s.life
      have blt : Nat.blt sysModules s.n = true := by
        simp only [goStg, hs] at h0
        split at h0
        · split at h0
          · cases h0
            exact f0 _ (List.mem_cons_self ..)
          · cases h0
        · cases h0
      refine ends_dict (k := k) sw ?_ (by rw [layT_ok hs]; exact keeps_fin _ _ _) fun p' => ?_
      · rw [arm_eval_Dict, hsh]
        refine wpAny_bind (wpAny_standAt (wp_display un al p1 p2 nd (by rw [sz]; exact Nat.le_of_ble_eq_true blt) ?_))
        rw [sz, layT_ok hs]
        exact ⟨rfl, rfl⟩
      · obtain ⟨t1, h1, c1, _, _⟩ := run (p' :: List.replicate (r.map Stg.disp).sum default) (by rw [List.length_cons, List.length_replicate, List.map_cons, List.sum_cons]; exact Nat.add_comm _ _)
        simp only [goStg, hs, List.headD_cons, List.tail_cons] at h1
        split at h1
        · rename_i s3 c3 p3 h3
          have ec : c3 = D.c := by
            split at h1
            · cases h1
              exact c1 c3 (List.mem_cons_self ..)
            · cases h1
          subst ec
          refine ⟨s3, p3, h3, stg_ends un r s3 p3 (fun x hx => ok x (List.mem_cons_of_mem _ hx)) fun ps hp => ?_⟩
          obtain ⟨t, h, c, f, e⟩ := run (p' :: ps) (by rw [List.length_cons, hp, List.map_cons, List.sum_cons]; exact Nat.add_comm _ _)
          simp only [goStg, hs, List.headD_cons, List.tail_cons, h3] at h
          split at h
          · rename_i t' ht'
            cases h
            exact ⟨t', ht', fun x hx => c x (List.mem_cons_of_mem _ hx), fun x hx => f x (List.mem_cons_of_mem _ hx), e⟩
          · cases h
        · cases h1
  | .txt x np keys values dpos apos L okB k :: r, s, p, ok, run => by
    obtain ⟨sw, nd, hps⟩ := ok _ (List.mem_cons_self ..)
    show EndsAt D w n₀ ann G (.Assign [.Name x np] (.Dict keys values dpos) apos :: (r.flatMap Stg.ss ++ b)) s p
    obtain ⟨t0, h0, _, f0, _⟩ := run (List.replicate ((Stg.txt x np keys values dpos apos L okB k :: r).map Stg.disp).sum default) (List.length_replicate ..)
    cases hs : layS w D.p L s with
    | none => simp [goStg, hs] at h0
    | some s2 =>
      have sz : s.abs.heap.objs.size = s.n := absHeap_size s.tree s.n s.life
      have okS : okB s = true := by
        simp only [goStg, hs] at h0
        split at h0
        · split at h0
          · cases h0
            exact f0 _ (List.mem_cons_self ..)
          · cases h0
        · cases h0
      obtain ⟨pss, hsh, hP, h0', h15⟩ := hps s okS
      refine ends_dict (k := k) sw ?_ (by rw [layS_ok hs]; exact keeps_midS _ _ _ _) fun p' => ?_
      · refine wp_displayS hsh hP h0' h15 nd ?_
        rw [sz, layS_ok hs]
        exact ⟨rfl, rfl⟩
      · obtain ⟨t1, h1, c1, _, _⟩ := run (p' :: List.replicate (r.map Stg.disp).sum default) (by rw [List.length_cons, List.length_replicate, List.map_cons, List.sum_cons]; exact Nat.add_comm _ _)
        simp only [goStg, hs, List.headD_cons, List.tail_cons] at h1
        split at h1
        · rename_i s3 c3 p3 h3
          have ec : c3 = D.c := by
            split at h1
            · cases h1
              exact c1 c3 (List.mem_cons_self ..)
            · cases h1
          subst ec
          refine ⟨s3, p3, h3, stg_ends un r s3 p3 (fun x hx => ok x (List.mem_cons_of_mem _ hx)) fun ps hp => ?_⟩
          obtain ⟨t, h, c, f, e⟩ := run (p' :: ps) (by rw [List.length_cons, hp, List.map_cons, List.sum_cons]; exact Nat.add_comm _ _)
          simp only [goStg, hs, List.headD_cons, List.tail_cons, h3] at h
          split at h
          · rename_i t' ht'
            cases h
            exact ⟨t', ht', fun x hx => c x (List.mem_cons_of_mem _ hx), fun x hx => f x (List.mem_cons_of_mem _ hx), e⟩
          · cases h
        · cases h1
  | .two x np keys values dpos apos L M k :: r, s, p, ok, run => by
    obtain ⟨sw, nd, a, cc, bb, al, hc0, hc, hsh, p1, p2⟩ := ok _ (List.mem_cons_self ..)
    show EndsAt D w n₀ ann G (.Assign [.Name x np] (.Dict keys values dpos) apos :: (r.flatMap Stg.ss ++ b)) s p
    obtain ⟨t0, h0, _, f0, _⟩ := run (List.replicate ((Stg.two x np keys values dpos apos L M k :: r).map Stg.disp).sum default) (List.length_replicate ..)
    cases hs : layU w D.p L M s with
    | none => simp [goStg, hs] at h0
    | some s2 =>
      have sz : s.abs.heap.objs.size = s.n := absHeap_size s.tree s.n s.life
      have blt : Nat.blt sysModules s.n = true := by
        simp only [goStg, hs] at h0
        split at h0
        · split at h0
          · cases h0
            exact f0 _ (List.mem_cons_self ..)
          · cases h0
        · cases h0
      refine ends_dict (k := k) sw ?_ (by rw [layU_ok hs]; exact keeps_finT _ _ _) fun p' => ?_
      · rw [arm_eval_Dict, hsh]
        refine wpAny_bind (wpAny_standAt (wp_displayT al hc0 hc p1 p2 nd (by rw [sz]; exact Nat.le_of_ble_eq_true blt) ?_))
        rw [sz, layU_ok hs]
        exact ⟨rfl, rfl⟩
      · obtain ⟨t1, h1, c1, _, _⟩ := run (p' :: List.replicate (r.map Stg.disp).sum default) (by rw [List.length_cons, List.length_replicate, List.map_cons, List.sum_cons]; exact Nat.add_comm _ _)
        simp only [goStg, hs, List.headD_cons, List.tail_cons] at h1
        split at h1
        · rename_i s3 c3 p3 h3
          have ec : c3 = D.c := by
            split at h1
            · cases h1
              exact c1 c3 (List.mem_cons_self ..)
            · cases h1
          subst ec
          refine ⟨s3, p3, h3, stg_ends un r s3 p3 (fun x hx => ok x (List.mem_cons_of_mem _ hx)) fun ps hp => ?_⟩
          obtain ⟨t, h, c, f, e⟩ := run (p' :: ps) (by rw [List.length_cons, hp, List.map_cons, List.sum_cons]; exact Nat.add_comm _ _)
          simp only [goStg, hs, List.headD_cons, List.tail_cons, h3] at h
          split at h
          · rename_i t' ht'
            cases h
            exact ⟨t', ht', fun x hx => c x (List.mem_cons_of_mem _ hx), fun x hx => f x (List.mem_cons_of_mem _ hx), e⟩
          · cases h
        · cases h1
end Fw

end
set_option Elab.async false
set_option linter.all false
set_option maxRecDepth 100000
set_option maxHeartbeats 2000000
/-! the head of a row whose top has displays: as HeadX, for the stages of TopMany -/
noncomputable section
namespace Fw
open PySem PySem.W PySem.Calls PyProof.Rows HandSHeadRun
structure Many extends Base where
  L : List Stg
  rest : List Stmt
  M : Nat
structure ManyR where
  tA : Thread
  cB : Code
  cs : List Code
  fl : List Bool
  s4 : SharedT
def manyF (st : SharedT → Thread → Option (SharedT × Thread)) (D : Many) (w : World) (os : OsState) (ps : List Pos) : Option ManyR := match putAll (boot_heap w.params).objs.toList .nil 0 with
  | none => none
  | some (t, n) => frNat n fun n0 => match goS st n0 (bootAnn w) D.k0 (bootT w os (t, n0)) (topStub D.p) with
    | none => none
    | some (sA, tA) => match segF st n0 (bootAnn w) D.kB sA (blockOf (behindTheImports D.p) D.env D.toBase.c D.pos0 D.toBase.B) with
      | some (.next, sB, cB, pB) => (match goStg st D.toBase w n0 (bootAnn w) D.L ps sB pB with
        | some t => (match goF st n0 (bootAnn w) D.M t.s (restOf D.rest D.env D.toBase.c t.p D.toBase.B) with
          | some s4 => some ⟨tA, cB, t.cs, t.fl, s4⟩
          | none => none)
        | none => none)
      | _ => none
def Many.d (D : Many) : Nat := (D.L.map Stg.disp).sum
structure Many.Ok (D : Many) : Prop where
  body : behindTheImports D.p = D.L.flatMap Stg.ss ++ D.rest
  st : ∀ w, ∀ x ∈ D.L, x.Ok D.toBase w
  un : D.toBase.A.units < cLine
theorem many_ends {D : Many} {w : World} {os : OsState} {G : SharedT → Prop} (O : D.Ok)
    (run : ∀ ps : List Pos, ps.length = D.d → ∃ r, manyF (stepT (denote table) D.p w) D w os ps = some r ∧ r.tA = ⟨denote table D.toBase.c, D.toBase.c, D.pos0, D.toBase.B⟩ ∧ r.cB = D.toBase.c ∧ (∀ c ∈ r.cs, c = D.toBase.c) ∧ (∀ f ∈ r.fl, f = true) ∧ r.s4.gens = #[] ∧ G r.s4)
    (hz : (⟨boot_heap w.params, #[], boot_drawn, boot_toks, os⟩ : Shared).asleep) :
    ∃ S : SharedT, Halts D.p w ⟨boot_heap w.params, #[], boot_drawn, boot_toks, os⟩ (topStub D.p) S.abs ∧ S.gens = #[] ∧ Keeps (boot_heap w.params).objs.size (bootAnn w) ⟨boot_heap w.params, #[], boot_drawn, boot_toks, os⟩ S.abs ∧ G S := by
  have parts : ∀ ps : List Pos, ps.length = D.d → ∃ (sA sB : SharedT) (pB : Pos) (t : PySem.W.BT) (n : Nat) (tr : Trail) (s4 : SharedT), putAll (boot_heap w.params).objs.toList .nil 0 = some (t, n) ∧ goS (stepT (denote table) D.p w) n (bootAnn w) D.k0 (bootT w os (t, n)) (topStub D.p) = some (sA, ⟨denote table D.toBase.c, D.toBase.c, D.pos0, D.toBase.B⟩) ∧
      segF (stepT (denote table) D.p w) n (bootAnn w) D.kB sA (blockOf (behindTheImports D.p) D.env D.toBase.c D.pos0 D.toBase.B) = some (.next, sB, D.toBase.c, pB) ∧ goStg (stepT (denote table) D.p w) D.toBase w n (bootAnn w) D.L ps sB pB = some tr ∧ (∀ c ∈ tr.cs, c = D.toBase.c) ∧ (∀ f ∈ tr.fl, f = true) ∧
      goF (stepT (denote table) D.p w) n (bootAnn w) D.M tr.s (restOf D.rest D.env D.toBase.c tr.p D.toBase.B) = some s4 ∧ s4.gens = #[] ∧ G s4 := by
    intro ps hp
    obtain ⟨r, hr, e1, e2, e3, e4, hg, hG⟩ := run ps hp
    unfold manyF at hr
    split at hr
    · exact nomatch hr
    rename_i t n ht
    rw [frNat_eq] at hr
    split at hr
    · exact nomatch hr
    rename_i sA tA hA
    split at hr
    · rename_i sB cB pB hB
      split at hr
      · rename_i tr h1
        split at hr
        · rename_i s4 h4
          cases hr
          dsimp only at e1 e2 e3 e4 hg hG
          subst e1 e2
          exact ⟨sA, sB, pB, t, n, tr, s4, ht, hA, hB, h1, e3, e4, h4, hg, hG⟩
        · exact nomatch hr
      · exact nomatch hr
    · exact nomatch hr
  obtain ⟨sA, sB, pB, t, n, _, _, ht, hA, hB, _⟩ := parts (List.replicate D.d default) (List.length_replicate ..)
  have eh := putAll_heap ht
  have en : (boot_heap w.params).objs.size = n := by
    rw [← eh]
    exact absHeap_size t n _
  have eb : (bootT w os (t, n)).abs = ⟨boot_heap w.params, #[], boot_drawn, boot_toks, os⟩ := by
    show (⟨absHeap t n (boot_heap w.params).life, #[], boot_drawn, boot_toks, os⟩ : Shared) = _
    rw [eh]
  have goA := goS_ok hA
  rw [eb] at goA
  have kA := keeps_go goA
  have sB0 : splitAtGen D.toBase.B = none := rfl
  obtain ⟨_, mB, _, goB⟩ := seg_goes (res := fun _ : Unit => Flow.next) (K' := fun _ => (execs (behindTheImports D.p) D.env).wrap doneF (leaveH D.env) id id) (H' := Sem.raise) (B := D.toBase.B) sB0 D.kB (t := blockOf (behindTheImports D.p) D.env D.toBase.c D.pos0 D.toBase.B)
    (t' := ⟨(blockStart (behindTheImports D.p) D.env).wrap (fun _ => (execs (behindTheImports D.p) D.env).wrap doneF (leaveH D.env) id id) .raise id id, D.toBase.c, D.pos0, D.toBase.B⟩) ⟨rfl, rfl, .inl ⟨rfl, rfl, _, rfl, rfl⟩⟩ (segF_ok hB)
  have kB := keeps_go goB
  have KB := kA.trans kB
  have E : EndsAt D.toBase w n (bootAnn w) G (D.L.flatMap Stg.ss ++ D.rest) sB pB := stg_ends O.un D.L sB pB (O.st w) fun ps hp => by
    obtain ⟨sA', sB', pB', t', n', tr, s4, ht', hA', hB', h1, c1, f1, h4, hg, hG⟩ := parts ps hp
    rw [ht] at ht'
    cases ht'
    rw [hA] at hA'
    cases hA'
    rw [hB] at hB'
    cases hB'
    exact ⟨tr, h1, c1, f1, ends_go h4 hg hG⟩
  obtain ⟨S, h1, h2, h3, h4⟩ := E (Shared.asleep_of_life KB.life hz)
  refine ⟨S, ?_, h2, by rw [en]; exact KB.trans h3, h4⟩
  refine halts_go goA ?_
  have eB : denote table D.toBase.c = (blockStart (behindTheImports D.p) D.env).wrap (fun _ => (execs (behindTheImports D.p) D.env).wrap doneF (leaveH D.env) id id) .raise id id := body_wrap _
  rw [eB]
  refine halts_go goB ?_
  rw [O.body]
  exact h1
/-- what is read off a run's end -/
def seeM (D : Many) (q : Program) (loose : List Str) (Xt : Shared → Bool) {α : Type} (ob : SharedT → α) (w : World) (r : ManyR) := (r.tA, r.cB, r.cs, r.fl, r.s4.gens.size, looksF D.p (boot_heap w.params) r.s4.abs, seenQ q loose (importedModules D.p.main.body) Xt r.s4.abs, ob r.s4)
def RunM (D : Many) (q : Program) (loose : List Str) (Xt : Shared → Bool) {α : Type} (ob : SharedT → α) (val : World → α) : Prop :=
  ∀ (w : World) (os : OsState) (ps : List Pos), ps.length = D.d → (manyF (stepQ (denQ tabQ) D.p w) D w os ps).map (seeM D q loose Xt ob w) = some (⟨denQ tabQ D.toBase.c, D.toBase.c, D.pos0, D.toBase.B⟩, D.toBase.c, List.replicate D.L.length D.toBase.c, List.replicate D.d true, 0, true, openGood q loose, val w)
theorem tops_many {D : Many} {q : Program} {loose : List Str} {Xt : Shared → Bool} {H : Hook} {ob : SharedT → H.α} (O : D.Ok) (ho : ∀ s : SharedT, ob s = H.obs s.abs) (e : opening D.p = plainProg D.p.main.scope.names) (f : ∀ s, fenceModules? D.p s = some s) (run : RunM D q loose Xt ob H.val) :
    TopsE D.p q loose Xt H.obs H.val := fun w => by
  obtain ⟨⟨hp, gs, dr, tk, os⟩, hf, e0⟩ := Option.map_eq_some_iff.mp (boot_open (N := 600) e rfl f w)
  obtain ⟨rfl, rfl, rfl, rfl⟩ : hp = boot_heap w.params ∧ gs = Array.mk [] ∧ dr = boot_drawn ∧ tk = boot_toks := by simpa using e0
  rw [← table_eq_tree] at hf
  obtain ⟨s, hi, hfe⟩ := Option.bind_eq_some_iff.mp hf
  have A := AfterImport.of_importEnds hi
  have hz := Shared.asleep_of_life (fence_lifeW hfe) A.life
  have eq : ∀ ps, manyF (stepQ (denQ tabQ) D.p w) D w os ps = manyF (stepT (denote table) D.p w) D w os ps := fun ps => by
    rw [← stepQ_eq, ← denQ_eq, ← tabQ_eq, table_eq_tree]
  obtain ⟨S, hS, hg, kS, g1, g2, g3⟩ := many_ends (w := w) (os := os) (G := fun S => looksF D.p (boot_heap w.params) S.abs = true ∧ openSeen q loose (importedModules D.p.main.body) Xt true S.abs = openGood q loose ∧ H.obs S.abs = H.val w) O (fun ps hps => by
    obtain ⟨r, hr, hv⟩ := Option.map_eq_some_iff.mp (run w os ps hps)
    rw [eq] at hr
    have hv : seeM D q loose Xt ob w r = _ := hv
    unfold seeM at hv
    simp only [Prod.mk.injEq] at hv
    obtain ⟨v1, v2, v3, v4, v5, v6, v7, v8⟩ := hv
    refine ⟨r, hr, ?_, v2, fun c hc => ?_, fun f hf => ?_, Array.eq_empty_of_size_eq_zero v5, v6, ?_, ?_⟩
    · rw [v1, ← denQ_eq, ← tabQ_eq, table_eq_tree]
    · rw [v3] at hc
      exact List.eq_of_mem_replicate hc
    · rw [v4] at hf
      exact List.eq_of_mem_replicate hf
    · rw [seenQ_eq]
      exact v7
    · rw [← ho]
      exact v8) hz
  exact ⟨600, _, S.abs, hf, ⟨hS, boot_ns _, rfl, hg, kS.life, kS.os, kS.fr, g1, g2, g3⟩⟩
theorem head_many {r : OpenRow} {D : Many} {q : Program} {loose : List Str} {H : Hook} {ob : SharedT → H.α} {d : DefRec} {kwd : List (Str × Expr)} (hD : D.p = r.prog) (O : D.Ok) (ho : ∀ s : SharedT, ob s = H.obs s.abs) (e : opening D.p = plainProg D.p.main.scope.names) (f : ∀ s, fenceModules? D.p s = some s)
    (run : RunM D q loose (fun s => xlAt q [] s && recOk r.toRowW.records s) ob H.val) (hdef : defOf q r.name = some (d, kwd)) (hp : r.prog.theDef r.name = some (d.params, d.body, d.scope)) (hk : kwWritten? d.params.kwonlyargs d.params.kw_defaults = some kwd)
    (hwr : (!r.writes || r.records.isEmpty) = true) (k1 : r.wellSaid = true) (ok : (chainsOk q && opensWell r.prog && (frees r.toRowW && r.within.isEmpty)) = true) (hb : r.prog.bare) (hw : r.toRowW.promised)
    (call : WalkO q loose (XL q []) H.says r.toRowW d kwd fun f vs => PySem.call f vs) : r.Holds := by
  have T := tops_many O ho e f run
  rw [hD] at T
  exact holdsE T (fun s z => xl_of s (Bool.and_eq_true_iff.mp z).1) XL.keeps hdef hp hk (fun s z => recFacts_of (Bool.and_eq_true_iff.mp z).2) hwr k1 ok hb hw call
end Fw

end
set_option Elab.async false
set_option linter.all false
set_option maxRecDepth 100000
set_option maxHeartbeats 2000000
/-! a plan is sound: by looks that the kernel takes -/
namespace Fw
open PySem PySem.W PySem.Calls PyProof.Rows
def csB : List Expr → List Str → Bool
  | [], [] => true
  | .Constant (.str x) _ _ :: es, z :: zs => decide (x = z) && csB es zs
  | _, _ => false
theorem csB_ok : ∀ {es : List Expr} {zs : List Str}, csB es zs = true → CS es zs
  | [], [], _ => .nil
  | e :: es, z :: zs, h => by
    unfold csB at h
    split at h
    · rename_i h1 h2; cases h1
    · rename_i x k pos es' z' zs' h1 h2
      cases h1
      cases h2
      obtain ⟨a, b⟩ := Bool.and_eq_true_iff.mp h
      have := of_decide_eq_true a
      subst this
      exact .cons (csB_ok b)
    · cases h
  | [], _ :: _, h => by simp [csB] at h
  | e :: es, [], h => by
    unfold csB at h
    split at h
    · rename_i h1 h2; cases h1
    · rename_i h1 h2; cases h2
    · cases h
def pairB : Option Expr → Expr → PK → Bool
  | some (.Tuple ke _ _), .Tuple ve _ _, p => csB ke (key p) && csB ve p.2.2 && decide (p.2.2.length ≤ 100)
  | _, _, _ => false
def pairsB : List (Option Expr) → List Expr → List PK → Bool
  | [], [], [] => true
  | k :: ks, v :: vs, p :: ps => pairB k v p && pairsB ks vs ps
  | _, _, _ => false
theorem pairsB_ok {env : Env} {pos : Pos} : ∀ {ks : List (Option Expr)} {vs : List Expr} {L : List PK}, pairsB ks vs L = true →
    ∃ ps : List PS, PairsAre env pos ps L ∧ (evalEachOpt ks env).zip ((evalEach vs env).map fun v => do let x ← v; standAt pos; pure x) = ps.map (fun p => (some p.1, p.2))
  | [], [], [], _ => ⟨[], .nil, rfl⟩
  | k :: ks, v :: vs, p :: ps, h => by
    have h : (pairB k v p && pairsB ks vs ps) = true := h
    obtain ⟨h1, h2⟩ := Bool.and_eq_true_iff.mp h
    obtain ⟨r, hr, e⟩ := pairsB_ok h2
    unfold pairB at h1
    split at h1
    · rename_i ke kk kp ve vk vp hh
      obtain ⟨h3, h5⟩ := Bool.and_eq_true_iff.mp h1
      obtain ⟨h3, h4⟩ := Bool.and_eq_true_iff.mp h3
      refine ⟨_ :: r, .cons (kk := kk) (vk := vk) (kp := kp) (vp := vp) (csB_ok h3) (csB_ok h4) (of_decide_eq_true h5) hr, ?_⟩
      show (some (eval (.Tuple ke kk kp) env), _) :: (evalEachOpt ks env).zip _ = (some _, _) :: r.map _
      rw [e]
    · cases h1
  | [], [], _ :: _, h => by simp [pairsB] at h
  | [], _ :: _, _, h => by simp [pairsB] at h
  | _ :: _, [], _, h => by simp [pairsB] at h
  | _ :: _, _ :: _, [], h => by simp [pairsB] at h
theorem pairs_split {env : Env} {pos : Pos} : ∀ {L : List PK} {p : PK} {ps : List PS}, PairsAre env pos ps (L ++ [p]) → ∃ a c, ps = a ++ [c] ∧ a.length = L.length ∧ PairsAre env pos a L ∧ PairsAre env pos [c] [p]
  | [], p, _, .cons h1 h2 h3 .nil => ⟨[], _, rfl, rfl, .nil, .cons h1 h2 h3 .nil⟩
  | q :: L, p, _, .cons h1 h2 h3 r => by
    obtain ⟨a, c, rfl, hl, ha, hc⟩ := pairs_split r
    exact ⟨_ :: a, c, rfl, congrArg (· + 1) hl, .cons h1 h2 h3 ha, hc⟩
theorem Plan.ok_of {D : Plan} (body : behindTheImports D.p = D.l ++ D.st :: D.rest) (sw : swapsWith (.Dict D.keys D.values D.dpos) (some (.Name D.x D.np)) D.apos.line D.env = pure false) (hp : pairsB D.keys D.values (D.L ++ [D.pk]) = true) (hl : D.L.length = 17)
    (nd : ((D.L ++ [D.pk]).map key).Nodup) (un : D.c.cUnits + unitsOf [(.builtin "claim.caller" {}, D.q0)] < cLine) : D.Ok := by
  refine ⟨body, sw, ?_, nd, un⟩
  obtain ⟨ps, h1, h2⟩ := pairsB_ok (env := D.env) (pos := D.dpos) hp
  obtain ⟨a, c, rfl, al, ha, hc⟩ := pairs_split h1
  rw [hl] at al
  obtain ⟨a', b, rfl⟩ : ∃ a' b, a = a' ++ [b] := ⟨a.dropLast, a.getLast (fun z => by rw [z] at al; cases al), (List.dropLast_concat_getLast _).symm⟩
  rw [List.length_append] at al
  have al' : a'.length + 1 = 17 := al
  exact ⟨a', b, c, by omega, by rw [h2, List.append_assoc]; rfl, ha, hc⟩
end Fw

set_option Elab.async false
set_option linter.all false
set_option maxRecDepth 100000
set_option maxHeartbeats 2000000
/-! a display of texts whose values are names of the module: its stage is sound, by looks that the kernel takes -/
noncomputable section
namespace Fw
open PySem PySem.W PySem.Calls PyProof.Rows HandSHeadRun
abbrev TN : Type := Str × Str × Addr
def okN (T : List TN) (s : SharedT) : Bool :=
  let K := He.frG (getT s) (List.range s.n)
  nsOkIn K mainGlobals && T.all fun x => He.eqO (nsIn K mainGlobals x.2.1) (some (some (.ref x.2.2)))
def svT (T : List TN) : List SV := T.map fun x => (x.1, .ref x.2.2)
def txtB : List (Option Expr) → List Expr → List TN → Bool
  | [], [], [] => true
  | some (.Constant (.str x) _ _) :: ks, .Name y _ :: vs, t :: T => decide (x = t.1) && decide (y = t.2.1) && !(y == ("__debug__" : Str)) && txtB ks vs T
  | _, _, _ => false
theorem okN_ok {T : List TN} {s : SharedT} (h : okN T s = true) : ∃ mg, s.abs.heap.Ns mainGlobals mg ∧ ∀ x ∈ T, mg x.2.1 = some (.ref x.2.2) := by
  have eg : getT s = s.abs.heap.get? := funext (getT_eq s)
  unfold okN at h
  rw [eg] at h
  obtain ⟨h1, h2⟩ := Bool.and_eq_true_iff.mp h
  have X : (He.frG s.abs.heap.get? (List.range s.n)).In s.abs.heap := He.frG_in
  have N : s.abs.heap.Ns mainGlobals _ := .of_isNs (isNs_of_in X h1)
  exact ⟨_, N, fun x hx => mg_of X N (He.eqO_ok (List.all_eq_true.mp h2 x hx))⟩
theorem txt_pairs {prog : Program} {w : World} {A : Around} {E : Value → Shared → Prop} {env : Env} {pos : Pos} {s : Shared} {mg : Str → Option Value} (hk : env.scope.kind = .module) (hl : env.locals = env.globals) (hg : env.globals = mainGlobals) (N : s.heap.Ns mainGlobals mg) :
    ∀ {ks : List (Option Expr)} {vs : List Expr} {T : List TN}, txtB ks vs T = true → (∀ x ∈ T, mg x.2.1 = some (.ref x.2.2)) →
    ∃ ps : List PS, (evalEachOpt ks env).zip ((evalEach vs env).map fun v => do let x ← v; standAt pos; pure x) = ps.map (fun p => (some p.1, p.2)) ∧ PairsS prog w A E env s ps (svT T)
  | [], [], [], _, _ => ⟨[], rfl, .nil⟩
  | some (.Constant (.str x) k kp) :: ks, .Name y yp :: vs, t :: T, h, hm => by
    have h : (decide (x = t.1) && decide (y = t.2.1) && !(y == ("__debug__" : Str)) && txtB ks vs T) = true := h
    obtain ⟨h, h4⟩ := Bool.and_eq_true_iff.mp h
    obtain ⟨h, h3⟩ := Bool.and_eq_true_iff.mp h
    obtain ⟨h1, h2⟩ := Bool.and_eq_true_iff.mp h
    obtain ⟨tx, ty, ta⟩ := t
    obtain rfl : x = tx := of_decide_eq_true h1
    obtain rfl : y = ty := of_decide_eq_true h2
    have h3 : (y == ("__debug__" : Str)) = false := by simpa using h3
    obtain ⟨ps, e, P⟩ := txt_pairs hk hl hg N h4 fun z hz => hm z (List.mem_cons_of_mem _ hz)
    refine ⟨(eval (.Constant (.str x) k kp) env, do let x ← eval (.Name y yp) env; standAt pos; pure x) :: ps, ?_, .cons (fun s' Q kp' q => ?_) P⟩
    · show (some _, _) :: (evalEachOpt ks env).zip _ = _ :: ps.map _
      rw [e]
    · refine wpAny_bind (Name_module hk hl (loadGlobal_global (mg := mg) (by rw [hg]; exact N.keeps kp') (hm (x, y, ta) (List.mem_cons_self ..)) ?_) h3)
      exact wpAny_bind (wpAny_standAt (wpAny_pure q))
  | [], [], _ :: _, h, _ => by simp [txtB] at h
  | [], _ :: _, _, h, _ => by simp [txtB] at h
  | _ :: _, [], _, h, _ => by simp [txtB] at h
  | _ :: _, _ :: _, [], h, _ => by simp [txtB] at h
theorem txt_ok {D : Base} {w : World} {x : Str} {np dpos apos : Pos} {keys : List (Option Expr)} {values : List Expr} {T : List TN} {k : Nat} (hk : D.env.scope.kind = .module) (hl : D.env.locals = D.env.globals) (hg : D.env.globals = mainGlobals)
    (sw : swapsWith (.Dict keys values dpos) (some (.Name x np)) apos.line D.env = pure false) (nd : (T.map (·.1)).Nodup) (hB : txtB keys values T = true) (h0 : T ≠ []) (h15 : T.length ≤ 15) :
    Stg.Ok D w (.txt x np keys values dpos apos (svT T) (okN T) k) := by
  refine ⟨sw, ?_, fun s h => ?_⟩
  · show ((T.map _).map _).Nodup
    rw [List.map_map]
    exact nd
  · obtain ⟨mg, N, hm⟩ := okN_ok h
    obtain ⟨ps, e, P⟩ := txt_pairs (prog := D.p) (w := w) (A := D.A) (E := fun _ _ => False) (pos := dpos) hk hl hg N hB hm
    have ll := pairsS_len P
    have l2 : (svT T).length = T.length := List.length_map ..
    refine ⟨ps, e, P, fun z => ?_, by omega⟩
    subst z
    cases T with
    | nil => exact h0 rfl
    | cons a T => cases ll
theorem big_ok {D : Base} {w : World} {x : Str} {np dpos apos : Pos} {keys : List (Option Expr)} {values : List Expr} {L : List PK} {pk : PK} {k : Nat} (sw : swapsWith (.Dict keys values dpos) (some (.Name x np)) apos.line D.env = pure false)
    (hp : pairsB keys values (L ++ [pk]) = true) (hl : L.length = 17) (nd : ((L ++ [pk]).map key).Nodup) : Stg.Ok D w (.big x np keys values dpos apos L pk k) := by
  refine ⟨sw, nd, ?_⟩
  obtain ⟨ps, h1, h2⟩ := pairsB_ok (env := D.env) (pos := dpos) hp
  obtain ⟨a, c, rfl, al, ha, hc⟩ := pairs_split h1
  rw [hl] at al
  obtain ⟨a', b, rfl⟩ : ∃ a' b, a = a' ++ [b] := ⟨a.dropLast, a.getLast (fun z => by rw [z] at al; cases al), (List.dropLast_concat_getLast _).symm⟩
  rw [List.length_append] at al
  have al' : a'.length + 1 = 17 := al
  exact ⟨a', b, c, by omega, by rw [h2, List.append_assoc]; rfl, ha, hc⟩
end Fw

end
set_option Elab.async false
set_option linter.all false
set_option maxRecDepth 100000
set_option maxHeartbeats 2000000
/-! a display of texts whose values are written truths -/
noncomputable section
namespace Fw
open PySem PySem.W PySem.Calls PyProof.Rows HandSHeadRun
def svB (T : List (Str × Bool)) : List SV := T.map fun x => (x.1, .bool x.2)
def boolB : List (Option Expr) → List Expr → List (Str × Bool) → Bool
  | [], [], [] => true
  | some (.Constant (.str x) _ _) :: ks, .Constant (.bool b) _ _ :: vs, t :: T => decide (x = t.1) && decide (b = t.2) && boolB ks vs T
  | _, _, _ => false
theorem bool_pairs {prog : Program} {w : World} {A : Around} {E : Value → Shared → Prop} {env : Env} {pos : Pos} {s : Shared} : ∀ {ks : List (Option Expr)} {vs : List Expr} {T : List (Str × Bool)}, boolB ks vs T = true →
    ∃ ps : List PS, (evalEachOpt ks env).zip ((evalEach vs env).map fun v => do let x ← v; standAt pos; pure x) = ps.map (fun p => (some p.1, p.2)) ∧ PairsS prog w A E env s ps (svB T)
  | [], [], [], _ => ⟨[], rfl, .nil⟩
  | some (.Constant (.str x) k kp) :: ks, .Constant (.bool b) bk bp :: vs, t :: T, h => by
    have h : (decide (x = t.1) && decide (b = t.2) && boolB ks vs T) = true := h
    obtain ⟨h, h3⟩ := Bool.and_eq_true_iff.mp h
    obtain ⟨h1, h2⟩ := Bool.and_eq_true_iff.mp h
    obtain ⟨tx, tb⟩ := t
    obtain rfl : x = tx := of_decide_eq_true h1
    obtain rfl : b = tb := of_decide_eq_true h2
    obtain ⟨ps, e, P⟩ := bool_pairs (prog := prog) (w := w) (A := A) (E := E) (env := env) (pos := pos) (s := s) h3
    refine ⟨(eval (.Constant (.str x) k kp) env, do let x ← eval (.Constant (.bool b) bk bp) env; standAt pos; pure x) :: ps, ?_, .cons (fun s' Q kp' q => ?_) P⟩
    · show (some _, _) :: (evalEachOpt ks env).zip _ = _ :: ps.map _
      rw [e]
    · exact wpAny_bind (wpAny_Constant_bool (wpAny_bind (wpAny_standAt (wpAny_pure q))))
  | [], [], _ :: _, h => by simp [boolB] at h
  | [], _ :: _, _, h => by simp [boolB] at h
  | _ :: _, [], _, h => by simp [boolB] at h
  | _ :: _, _ :: _, [], h => by simp [boolB] at h
theorem bool_ok {D : Base} {w : World} {x : Str} {np dpos apos : Pos} {keys : List (Option Expr)} {values : List Expr} {T : List (Str × Bool)} {k : Nat}
    (sw : swapsWith (.Dict keys values dpos) (some (.Name x np)) apos.line D.env = pure false) (nd : (T.map (·.1)).Nodup) (hB : boolB keys values T = true) (h0 : T ≠ []) (h15 : T.length ≤ 15) :
    Stg.Ok D w (.txt x np keys values dpos apos (svB T) (fun _ => true) k) := by
  refine ⟨sw, ?_, fun s _ => ?_⟩
  · show ((T.map _).map _).Nodup
    rw [List.map_map]
    exact nd
  · obtain ⟨ps, e, P⟩ := bool_pairs (prog := D.p) (w := w) (A := D.A) (E := fun _ _ => False) (pos := dpos) (env := D.env) (s := s.abs) hB
    have ll := pairsS_len P
    have l2 : (svB T).length = T.length := List.length_map ..
    refine ⟨ps, e, P, fun z => ?_, by omega⟩
    subst z
    cases T with
    | nil => exact h0 rfl
    | cons a T => cases ll
end Fw

end
set_option Elab.async false
set_option linter.all false
set_option maxRecDepth 100000
set_option maxHeartbeats 2000000
/-! a display of 18 to 32 pairs, keys texts, values tuples of texts: its stage is sound, by looks that the kernel takes -/
noncomputable section
namespace Fw
open PySem PySem.W PySem.Calls PyProof.Rows HandSHeadRun
def twoB : List (Option Expr) → List Expr → List SP → Bool
  | [], [], [] => true
  | some (.Constant (.str x) _ _) :: ks, .Tuple es _ _ :: vs, p :: r => decide (x = p.1) && csB es p.2 && decide (p.2.length ≤ 100) && twoB ks vs r
  | _, _, _ => false
theorem twoB_ok {env : Env} {pos : Pos} : ∀ {ks : List (Option Expr)} {vs : List Expr} {L : List SP}, twoB ks vs L = true →
    ∃ ps : List PS, PairsT env pos ps L ∧ (evalEachOpt ks env).zip ((evalEach vs env).map fun v => do let x ← v; standAt pos; pure x) = ps.map (fun p => (some p.1, p.2))
  | [], [], [], _ => ⟨[], .nil, rfl⟩
  | some (.Constant (.str x) kk kp) :: ks, .Tuple es vk vp :: vs, p :: r, h => by
    have h : (decide (x = p.1) && csB es p.2 && decide (p.2.length ≤ 100) && twoB ks vs r) = true := h
    obtain ⟨h, h4⟩ := Bool.and_eq_true_iff.mp h
    obtain ⟨h, h3⟩ := Bool.and_eq_true_iff.mp h
    obtain ⟨h1, h2⟩ := Bool.and_eq_true_iff.mp h
    obtain ⟨px, pz⟩ := p
    obtain rfl : x = px := of_decide_eq_true h1
    obtain ⟨ps, hr, e⟩ := twoB_ok (env := env) (pos := pos) h4
    refine ⟨_ :: ps, .cons (kk := kk) (vk := vk) (kp := kp) (vp := vp) (csB_ok h2) (of_decide_eq_true h3) hr, ?_⟩
    show (some (eval (.Constant (.str x) kk kp) env), _) :: (evalEachOpt ks env).zip _ = (some _, _) :: ps.map _
    rw [e]
  | [], [], _ :: _, h => by simp [twoB] at h
  | [], _ :: _, _, h => by simp [twoB] at h
  | _ :: _, [], _, h => by simp [twoB] at h
  | _ :: _, _ :: _, [], h => by simp [twoB] at h
theorem pairsT_split {env : Env} {pos : Pos} : ∀ {L : List SP} {ps : List PS} {M : List SP}, PairsT env pos ps (L ++ M) → ∃ a c, ps = a ++ c ∧ a.length = L.length ∧ PairsT env pos a L ∧ PairsT env pos c M
  | [], ps, M, h => ⟨[], ps, rfl, rfl, .nil, h⟩
  | p :: L, _, M, h => by
    cases h with
    | cons c1 c2 c3 =>
      obtain ⟨a, c, rfl, al, h1, h2⟩ := pairsT_split (L := L) c3
      exact ⟨_ :: a, c, rfl, congrArg (· + 1) al, .cons c1 c2 h1, h2⟩
theorem two_ok {D : Base} {w : World} {x : Str} {np dpos apos : Pos} {keys : List (Option Expr)} {values : List Expr} {L M : List SP} {k : Nat} (sw : swapsWith (.Dict keys values dpos) (some (.Name x np)) apos.line D.env = pure false)
    (hp : twoB keys values (L ++ M) = true) (hl : L.length = 17) (h0 : M ≠ []) (hM : M.length ≤ 15) (nd : ((L ++ M).map (·.1)).Nodup) : Stg.Ok D w (.two x np keys values dpos apos L M k) := by
  refine ⟨sw, nd, ?_⟩
  obtain ⟨ps, h1, h2⟩ := twoB_ok (env := D.env) (pos := dpos) hp
  obtain ⟨a, c, rfl, al, ha, hc⟩ := pairsT_split h1
  rw [hl] at al
  obtain ⟨a', b, rfl⟩ : ∃ a' b, a = a' ++ [b] := ⟨a.dropLast, a.getLast (fun z => by rw [z] at al; cases al), (List.dropLast_concat_getLast _).symm⟩
  rw [List.length_append] at al
  have al' : a'.length + 1 = 17 := al
  have lc := pairsT_len hc
  exact ⟨a', c, b, by omega, fun z => by rw [z] at lc; exact h0 (List.eq_nil_of_length_eq_zero lc.symm), by omega, by rw [h2, List.append_assoc]; rfl, ha, hc⟩
end Fw

end
set_option Elab.async false
set_option linter.all false
set_option maxRecDepth 100000
set_option maxHeartbeats 0
noncomputable section
namespace Kk18
open PySem PySem.W PySem.Calls PyProof.Rows HandSHeadRun Fw
abbrev pr : Program := PySem.Challenge.pw_figuredeeds_k18_spots_and_ways
def dk (s : Stmt) : List (Option Expr) := match s with
  | .Assign _ (.Dict ks _ _) _ => ks
  | _ => []
def dv (s : Stmt) : List Expr := match s with
  | .Assign _ (.Dict _ vs _) _ => vs
  | _ => []
def dp (s : Stmt) : Pos := match s with
  | .Assign _ (.Dict _ _ p) _ => p
  | _ => default
def ap (s : Stmt) : Pos := match s with
  | .Assign _ _ p => p
  | _ => default
def np (s : Stmt) : Pos := match s with
  | .Assign [.Name _ p] _ _ => p
  | _ => default
def top (i : Nat) : Stmt := pr.main.body.getD i (.Pass ⟨0, 0, 0, 0⟩)
def st14 : Stmt := top 14
def st27 : Stmt := top 27
def st28 : Stmt := top 28
def st34 : Stmt := top 34
def st35 : Stmt := top 35
def tn14 : List TN := [("plus", "plus", 63), ("minus", "minus", 70), ("by", "by", 77), ("over", "over", 84), ("rest", "rest", 91)]
def tn27 : List TN := [("set", "set_number", 163), ("add", "add_number", 170)]
def tn28 : List TN := [("put", "put_value", 177), ("drop", "drop_value", 184), ("write", "write_value", 191)]
def tn34 : List TN := [("move", "moved", 205), ("turn", "turned", 212), ("place", "placed", 219)]
def tb35 : List (Str × Bool) := [("show", true), ("hide", false)]
def D : Many where
  p := pr
  env := { scope := pr.main.scope, locals := mainNs, globals := mainNs, cells := [], code := .ref 13, frame := some 14 }
  q0 := ⟨0, 0, 0, 0⟩
  pos0 := ⟨0, 0, 0, 0⟩
  k0 := 12
  kB := 3
  L := [.seg ((pr.main.body.drop 0).take 14) 1120, .txt "SUMS" (np st14) (dk st14) (dv st14) (dp st14) (ap st14) (svT tn14) (okN tn14) 60, .seg ((pr.main.body.drop 15).take 12) 1318, .txt "NAME_DEEDS" (np st27) (dk st27) (dv st27) (dp st27) (ap st27) (svT tn27) (okN tn27) 60, .seg ((pr.main.body.drop 28).take 0) 100, .txt "LIST_DEEDS" (np st28) (dk st28) (dv st28) (dp st28) (ap st28) (svT tn28) (okN tn28) 60, .seg ((pr.main.body.drop 29).take 5) 386, .txt "SPOT_DEEDS" (np st34) (dk st34) (dv st34) (dp st34) (ap st34) (svT tn34) (okN tn34) 60, .seg ((pr.main.body.drop 35).take 0) 100, .txt "SHOWN_BY" (np st35) (dk st35) (dv st35) (dp st35) (ap st35) (svB tb35) (fun _ => true) 60]
  rest := pr.main.body.drop 36
  M := 2910
def fnd (x : Str) (i : Nat) : He.FnD := ⟨(x, none), x, x, L2.defArgs (top i), L2.defBody (top i), L2.defScope (top i)⟩
def inC (i j : Nat) : Stmt := match top i with
  | .ClassDef _ _ _ b .. => b.getD j (.Pass ⟨0, 0, 0, 0⟩)
  | _ => .Pass ⟨0, 0, 0, 0⟩
def fn : List He.FnD := [fnd "_wall" 0, fnd "is_number" 7, fnd "is_value" 8, fnd "plus" 9, fnd "minus" 10, fnd "by" 11, fnd "over" 12, fnd "rest" 13, fnd "value_of" 15, fnd "outcome" 16, fnd "first_of" 17, fnd "place_in" 18, fnd "set_number" 22, fnd "add_number" 23, fnd "put_value" 24, fnd "drop_value" 25, fnd "write_value" 26, fnd "moved" 31, fnd "turned" 32, fnd "placed" 33, fnd "nearest" 36, fnd "_law_box" 39, fnd "_law_take" 40, fnd "_law_names" 41, fnd "_law_some" 42, fnd "_law_worth" 43, fnd "_law_pairs" 44, fnd "_law_rows" 45, fnd "_law_play" 46, fnd "_law_same" 47, fnd "_law_told_of" 48, fnd "_law_gone" 49, fnd "_law_far" 50, fnd "_law_deed" 51, fnd "_law_right" 52, fnd "law" 53, ⟨("Fell", some "__init__"), "__init__", "Fell.__init__", L2.defArgs (inC 2 0), L2.defBody (inC 2 0), L2.defScope (inC 2 0)⟩, ⟨("Holding", some "__init__"), "__init__", "Holding.__init__", L2.defArgs (inC 21 0), L2.defBody (inC 21 0), L2.defScope (inC 21 0)⟩, ⟨("Holding", some "name_pairs"), "name_pairs", "Holding.name_pairs", L2.defArgs (inC 21 1), L2.defBody (inC 21 1), L2.defScope (inC 21 1)⟩, ⟨("Holding", some "list_pairs"), "list_pairs", "Holding.list_pairs", L2.defArgs (inC 21 2), L2.defBody (inC 21 2), L2.defScope (inC 21 2)⟩, ⟨("Holding", some "again"), "again", "Holding.again", L2.defArgs (inC 21 3), L2.defBody (inC 21 3), L2.defScope (inC 21 3)⟩, ⟨("Ground", some "__init__"), "__init__", "Ground.__init__", L2.defArgs (inC 37 0), L2.defBody (inC 37 0), L2.defScope (inC 37 0)⟩, ⟨("Ground", some "__len__"), "__len__", "Ground.__len__", L2.defArgs (inC 37 1), L2.defBody (inC 37 1), L2.defScope (inC 37 1)⟩, ⟨("Ground", some "__eq__"), "__eq__", "Ground.__eq__", L2.defArgs (inC 37 2), L2.defBody (inC 37 2), L2.defScope (inC 37 2)⟩, ⟨("Ground", some "told"), "told", "Ground.told", L2.defArgs (inC 37 3), L2.defBody (inC 37 3), L2.defScope (inC 37 3)⟩, ⟨("Ground", some "twin"), "twin", "Ground.twin", L2.defArgs (inC 37 4), L2.defBody (inC 37 4), L2.defScope (inC 37 4)⟩, ⟨("Ground", some "give"), "give", "Ground.give", L2.defArgs (inC 37 5), L2.defBody (inC 37 5), L2.defScope (inC 37 5)⟩, ⟨("Ground", some "ones"), "ones", "Ground.ones", L2.defArgs (inC 37 6), L2.defBody (inC 37 6), L2.defScope (inC 37 6)⟩, ⟨("Ground", some "spot"), "spot", "Ground.spot", L2.defArgs (inC 37 7), L2.defBody (inC 37 7), L2.defScope (inC 37 7)⟩, ⟨("Ground", some "is_shown"), "is_shown", "Ground.is_shown", L2.defArgs (inC 37 8), L2.defBody (inC 37 8), L2.defScope (inC 37 8)⟩, ⟨("Ground", some "names"), "names", "Ground.names", L2.defArgs (inC 37 9), L2.defBody (inC 37 9), L2.defScope (inC 37 9)⟩, ⟨("Ground", some "lists"), "lists", "Ground.lists", L2.defArgs (inC 37 10), L2.defBody (inC 37 10), L2.defScope (inC 37 10)⟩, ⟨("Ground", some "held_by"), "held_by", "Ground.held_by", L2.defArgs (inC 37 11), L2.defBody (inC 37 11), L2.defScope (inC 37 11)⟩, ⟨("Ground", some "met"), "met", "Ground.met", L2.defArgs (inC 37 12), L2.defBody (inC 37 12), L2.defScope (inC 37 12)⟩, ⟨("Ground", some "eyes"), "eyes", "Ground.eyes", L2.defArgs (inC 37 13), L2.defBody (inC 37 13), L2.defScope (inC 37 13)⟩, ⟨("Ground", some "copy"), "copy", "Ground.copy", L2.defArgs (inC 37 14), L2.defBody (inC 37 14), L2.defScope (inC 37 14)⟩, ⟨("Ground", some "end"), "end", "Ground.end", L2.defArgs (inC 37 15), L2.defBody (inC 37 15), L2.defScope (inC 37 15)⟩, ⟨("Ground", some "do"), "do", "Ground.do", L2.defArgs (inC 37 16), L2.defBody (inC 37 16), L2.defScope (inC 37 16)⟩, ⟨("Ground", some "change_spot"), "change_spot", "Ground.change_spot", L2.defArgs (inC 37 17), L2.defBody (inC 37 17), L2.defScope (inC 37 17)⟩, ⟨("Ground", some "change_held"), "change_held", "Ground.change_held", L2.defArgs (inC 37 18), L2.defBody (inC 37 18), L2.defScope (inC 37 18)⟩, ⟨("Ground", some "numbers_with"), "numbers_with", "Ground.numbers_with", L2.defArgs (inC 37 19), L2.defBody (inC 37 19), L2.defScope (inC 37 19)⟩, ⟨("Ground", some "row_of"), "row_of", "Ground.row_of", L2.defArgs (inC 37 20), L2.defBody (inC 37 20), L2.defScope (inC 37 20)⟩]
def fa : List He.Fa := [.glo "_wall", .keep "_wall", .glo "is_number", .keep "is_number", .glo "is_value", .keep "is_value", .glo "plus", .keep "plus", .glo "minus", .keep "minus", .glo "by", .keep "by", .glo "over", .keep "over", .glo "rest", .keep "rest", .glo "value_of", .keep "value_of", .glo "outcome", .keep "outcome", .glo "first_of", .keep "first_of", .glo "place_in", .keep "place_in", .glo "set_number", .keep "set_number", .glo "add_number", .keep "add_number", .glo "put_value", .keep "put_value", .glo "drop_value", .keep "drop_value", .glo "write_value", .keep "write_value", .glo "moved", .keep "moved", .glo "turned", .keep "turned", .glo "placed", .keep "placed", .glo "nearest", .keep "nearest", .glo "_law_box", .keep "_law_box", .glo "_law_take", .keep "_law_take", .glo "_law_names", .keep "_law_names", .glo "_law_some", .keep "_law_some", .glo "_law_worth", .keep "_law_worth", .glo "_law_pairs", .keep "_law_pairs", .glo "_law_rows", .keep "_law_rows", .glo "_law_play", .keep "_law_play", .glo "_law_same", .keep "_law_same", .glo "_law_told_of", .keep "_law_told_of", .glo "_law_gone", .keep "_law_gone", .glo "_law_far", .keep "_law_far", .glo "_law_deed", .keep "_law_deed", .glo "_law_right", .keep "_law_right", .glo "law", .keep "law", .free "len", .free "int", .free "divmod", .free "list", .free "isinstance", .free "tuple", .free "all", .free "abs", .free "zip", .free "str", .free "bool", .free "range", .free "enumerate", .free "sorted", .free "min", .free "max", .free "RuntimeError", .int "LEAST_VALUE" (-1000000), .int "MOST_VALUE" (1000000), .int "LONGEST_LIST" (8), .glo "Fell", .meth "Holding" "name_pairs", .meth "Holding" "list_pairs", .meth "Holding" "again", .glo "Holding", .cls "Holding", .mkr "Holding", .meth "Ground" "__len__", .meth "Ground" "__eq__", .meth "Ground" "told", .meth "Ground" "twin", .meth "Ground" "give", .meth "Ground" "ones", .meth "Ground" "spot", .meth "Ground" "is_shown", .meth "Ground" "names", .meth "Ground" "lists", .meth "Ground" "held_by", .meth "Ground" "met", .meth "Ground" "eyes", .meth "Ground" "copy", .meth "Ground" "end", .meth "Ground" "do", .meth "Ground" "change_spot", .meth "Ground" "change_held", .meth "Ground" "numbers_with", .meth "Ground" "row_of", .glo "Ground", .cls "Ground", .mkr "Ground", .meth "Holding" "__init__", .meth "Ground" "__init__", .noat "Holding" "numbers", .noat "Holding" "rows", .noat "Ground" "wide", .noat "Ground" "high", .noat "Ground" "figures", .noat "Ground" "places", .noat "Ground" "shown", .noat "Ground" "held"]
def ck (K : Frag) : Bool := decide (kwO K ("Ground", some "names") "one" = some .none) && decide (kwO K ("Ground", some "lists") "one" = some .none) && emT K (kwO K ("Ground", some "eyes") "params") && emT K (kwO K ("Ground", some "do") "params") && He.eqO (nsIn K 192 "show") (some none) && He.eqO (nsIn K 192 "hide") (some none) && He.eqO (nsIn K 192 "turn") (some none) && He.eqO (nsIn K 192 "place") (some none) && He.eqO (nsIn K 192 "move") (some none) && He.eqO (nsIn K 193 "show") (some none) && He.eqO (nsIn K 193 "hide") (some none) && He.eqO (nsIn K 193 "turn") (some none) && He.eqO (nsIn K 193 "place") (some none) && He.eqO (nsIn K 193 "move") (some none) && He.eqO (nsIn K 221 "turn") (some none) && He.eqO (nsIn K 221 "place") (some none) && He.eqO (nsIn K 221 "move") (some none) && He.eqO (nsIn K 221 "show") (some (some (.bool true))) && He.eqO (nsIn K 221 "hide") (some (some (.bool false))) && He.eqO (nsIn K mainGlobals "STEPS") (some (some (.ref 198))) && He.eqO (nsIn K mainGlobals "SPOT_WORDS") (some (some (.ref 42))) && He.eqO (nsIn K 92 "plus") (some (some (.ref (He.ga K "plus")))) && He.eqO (nsIn K 92 "minus") (some (some (.ref (He.ga K "minus")))) && He.eqO (nsIn K 92 "by") (some (some (.ref (He.ga K "by")))) && He.eqO (nsIn K 92 "over") (some (some (.ref (He.ga K "over")))) && He.eqO (nsIn K 92 "rest") (some (some (.ref (He.ga K "rest")))) && He.eqO (nsIn K mainGlobals "SUMS") (some (some (.ref 92))) && He.eqO (nsIn K 192 "set") (some (some (.ref (He.ga K "set_number")))) && He.eqO (nsIn K 192 "add") (some (some (.ref (He.ga K "add_number")))) && He.eqO (nsIn K mainGlobals "NAME_DEEDS") (some (some (.ref 192))) && He.eqO (nsIn K 193 "put") (some (some (.ref (He.ga K "put_value")))) && He.eqO (nsIn K 193 "drop") (some (some (.ref (He.ga K "drop_value")))) && He.eqO (nsIn K 193 "write") (some (some (.ref (He.ga K "write_value")))) && He.eqO (nsIn K mainGlobals "LIST_DEEDS") (some (some (.ref 193))) && He.eqO (nsIn K 220 "move") (some (some (.ref (He.ga K "moved")))) && He.eqO (nsIn K 220 "turn") (some (some (.ref (He.ga K "turned")))) && He.eqO (nsIn K 220 "place") (some (some (.ref (He.ga K "placed")))) && He.eqO (nsIn K mainGlobals "SPOT_DEEDS") (some (some (.ref 220))) && He.eqO (nsIn K mainGlobals "SHOWN_BY") (some (some (.ref 221))) && stpB K 198
def tf : List He.Defn := [("Ground", some "ones")]
def as : List Addr := [42, 92, 192, 193, 220, 221]
def objs (w : World) : List Obj := ([tO 230 ["x", "y", "way", "number"]]) ++ ([dO (sEs w pr 289 (svT tn14))]) ++ ([dO (sEs w pr 438 (svT tn27))]) ++ ([dO (sEs w pr 443 (svT tn28))]) ++ ([dO (sEs w pr 495 (svT tn34))]) ++ ([dO (sEs w pr 502 (svB tb35))])
abbrev R : OpenRow := OpenLaw.row PySem.Challenge.rw_figuredeeds_k18_spots_and_ways
abbrev q : Program := view R.prog [53]
def loose : List PySem.Str := (["_wall", "__name__", "Fell", "LEAST_VALUE", "MOST_VALUE", "SPOT_WORDS", "is_number", "is_value", "plus", "minus", "by", "over", "rest", "SUMS", "value_of"] : List PySem.Str) ++ (["outcome", "first_of", "place_in", "LONGEST_LIST", "Holding", "set_number", "add_number", "put_value", "drop_value", "write_value", "NAME_DEEDS", "LIST_DEEDS", "STEPS", "moved", "turned"] : List PySem.Str) ++ (["placed", "SPOT_DEEDS", "SHOWN_BY", "nearest", "Ground", "_law_box", "_law_take", "_law_names", "_law_some", "_law_worth", "_law_pairs", "_law_rows", "_law_play", "_law_same", "_law_told_of"] : List PySem.Str) ++ (["_law_gone", "_law_far", "_law_deed", "_law_right"] : List PySem.Str)
theorem run : RunM D q loose (fun s => xlAt q [] s && recOk R.toRowW.records s) (obV fa fn ck tf as 473) (hookV fa fn ck tf as 473 objs).val := by
  intro w os ps hp
  match ps, hp with
  | [p0, p1, p2, p3, p4], _ => kernel_rfl
end Kk18

end
set_option Elab.async false
set_option linter.all false
set_option maxRecDepth 100000
set_option maxHeartbeats 0
namespace Kk18
open PySem PySem.W PySem.Calls PyProof.Rows HandSHeadRun Fw
theorem D_ok : D.Ok := by
  refine ⟨by kernel_rfl, fun w x hx => ?_, by decide +kernel⟩
  have hx : x ∈ ([.seg ((pr.main.body.drop 0).take 14) 1120, .txt "SUMS" (np st14) (dk st14) (dv st14) (dp st14) (ap st14) (svT tn14) (okN tn14) 60, .seg ((pr.main.body.drop 15).take 12) 1318, .txt "NAME_DEEDS" (np st27) (dk st27) (dv st27) (dp st27) (ap st27) (svT tn27) (okN tn27) 60, .seg ((pr.main.body.drop 28).take 0) 100, .txt "LIST_DEEDS" (np st28) (dk st28) (dv st28) (dp st28) (ap st28) (svT tn28) (okN tn28) 60, .seg ((pr.main.body.drop 29).take 5) 386, .txt "SPOT_DEEDS" (np st34) (dk st34) (dv st34) (dp st34) (ap st34) (svT tn34) (okN tn34) 60, .seg ((pr.main.body.drop 35).take 0) 100, .txt "SHOWN_BY" (np st35) (dk st35) (dv st35) (dp st35) (ap st35) (svB tb35) (fun _ => true) 60] : List Stg) := hx
  rcases List.mem_cons.mp hx with rfl | hx
  · exact trivial
  rcases List.mem_cons.mp hx with rfl | hx
  · exact txt_ok (by rfl) (by rfl) (by rfl) (by rfl) (by decide +kernel) (by kernel_rfl) (by decide +kernel) (by decide +kernel)
  rcases List.mem_cons.mp hx with rfl | hx
  · exact trivial
  rcases List.mem_cons.mp hx with rfl | hx
  · exact txt_ok (by rfl) (by rfl) (by rfl) (by rfl) (by decide +kernel) (by kernel_rfl) (by decide +kernel) (by decide +kernel)
  rcases List.mem_cons.mp hx with rfl | hx
  · exact trivial
  rcases List.mem_cons.mp hx with rfl | hx
  · exact txt_ok (by rfl) (by rfl) (by rfl) (by rfl) (by decide +kernel) (by kernel_rfl) (by decide +kernel) (by decide +kernel)
  rcases List.mem_cons.mp hx with rfl | hx
  · exact trivial
  rcases List.mem_cons.mp hx with rfl | hx
  · exact txt_ok (by rfl) (by rfl) (by rfl) (by rfl) (by decide +kernel) (by kernel_rfl) (by decide +kernel) (by decide +kernel)
  rcases List.mem_cons.mp hx with rfl | hx
  · exact trivial
  rcases List.mem_cons.mp hx with rfl | hx
  · exact bool_ok (by rfl) (by decide +kernel) (by kernel_rfl) (by decide +kernel) (by decide +kernel)
  · exact nomatch hx
theorem op_ok : opening D.p = plainProg D.p.main.scope.names := by kernel_rfl
theorem fe_ok : ∀ s, fenceModules? D.p s = some s := fun s => by rfl
end Kk18

open PySem PySem.W PyProof.Rows
set_option Elab.async false
set_option linter.all false
set_option maxRecDepth 100000
set_option maxHeartbeats 8000000
namespace Fd
open PySem PySem.Spec PyProof.Rows L2 RZ Fw LamX
theorem law_mk {w : World} {h : Heap} {mg : Str → Option Value} {fa : Addr} (Y : (Fw.hookV Kk18.fa Kk18.fn Kk18.ck Kk18.tf Kk18.as 473 Kk18.objs).says w h) (G : h.Ns mainGlobals mg) (hfa : mg "law" = some (.ref fa)) :
    ∃ (K : PySem.W.Frag) (fd : FuncData) (c0 T : Addr), K.In h ∧ K.lookup T = none ∧ h.get? T = some { cls := .none, data := .fields #[] } ∧ PySem.W.CodeHd h c0 T ∧ Fun K "law" "law" sLaw fa fd ∧ (∀ (s : Shared) (v : Value), BindsTo s fd ⟨[v], []⟩ [("_law_script", v)]) ∧ ∀ base : Heap, K.In base → base.Ns mainGlobals mg → TabB base mg c0 T → LawD PySem.Challenge.rw_figuredeeds_k18_spots_and_ways.prog w K mg base T 40 := by
  obtain ⟨K, X, c, hob⟩ := Y
  have hck := c.ck
  obtain ⟨oc_is_number, od_is_number, osl_is_number, kV_is_number, dc_is_number, pm_is_number, an_is_number, cd_is_number, ct_is_number, l_is_number, e_is_number⟩ := c.e.def_ 1
  have F_is_number := fun_mk (x := "is_number") (qual := "is_number") (st := sIsN) (f := (He.ga K "is_number")) l_is_number e_is_number (He.keep_ok (c.e.fact 3))
  have D_is_number : Df K mg "is_number" sIsN ["thing"] (He.ga K "is_number") _ := ⟨F_is_number, He.glo_ok X G (c.e.fact 2), F_is_number.binds fun _ _ _ _ _ _ us hl => match us, hl with | [_], _ => rfl⟩
  obtain ⟨oc_is_value, od_is_value, osl_is_value, kV_is_value, dc_is_value, pm_is_value, an_is_value, cd_is_value, ct_is_value, l_is_value, e_is_value⟩ := c.e.def_ 2
  have F_is_value := fun_mk (x := "is_value") (qual := "is_value") (st := sIsV) (f := (He.ga K "is_value")) l_is_value e_is_value (He.keep_ok (c.e.fact 5))
  have D_is_value : Df K mg "is_value" sIsV ["thing"] (He.ga K "is_value") _ := ⟨F_is_value, He.glo_ok X G (c.e.fact 4), F_is_value.binds fun _ _ _ _ _ _ us hl => match us, hl with | [_], _ => rfl⟩
  obtain ⟨oc_value_of, od_value_of, osl_value_of, kV_value_of, dc_value_of, pm_value_of, an_value_of, cd_value_of, ct_value_of, l_value_of, e_value_of⟩ := c.e.def_ 8
  have F_value_of := fun_mk (x := "value_of") (qual := "value_of") (st := sValO) (f := (He.ga K "value_of")) l_value_of e_value_of (He.keep_ok (c.e.fact 17))
  have D_value_of : Df K mg "value_of" sValO ["look", "eyes"] (He.ga K "value_of") _ := ⟨F_value_of, He.glo_ok X G (c.e.fact 16), F_value_of.binds fun _ _ _ _ _ _ us hl => match us, hl with | [_, _], _ => rfl⟩
  obtain ⟨oc_outcome, od_outcome, osl_outcome, kV_outcome, dc_outcome, pm_outcome, an_outcome, cd_outcome, ct_outcome, l_outcome, e_outcome⟩ := c.e.def_ 9
  have F_outcome := fun_mk (x := "outcome") (qual := "outcome") (st := sOutc) (f := (He.ga K "outcome")) l_outcome e_outcome (He.keep_ok (c.e.fact 19))
  have D_outcome : Df K mg "outcome" sOutc ["look", "eyes"] (He.ga K "outcome") _ := ⟨F_outcome, He.glo_ok X G (c.e.fact 18), F_outcome.binds fun _ _ _ _ _ _ us hl => match us, hl with | [_, _], _ => rfl⟩
  obtain ⟨oc_moved, od_moved, osl_moved, kV_moved, dc_moved, pm_moved, an_moved, cd_moved, ct_moved, l_moved, e_moved⟩ := c.e.def_ 17
  have F_moved := fun_mk (x := "moved") (qual := "moved") (st := sMv) (f := (He.ga K "moved")) l_moved e_moved (He.keep_ok (c.e.fact 35))
  have D_moved : Df K mg "moved" sMv ["spot", "values"] (He.ga K "moved") _ := ⟨F_moved, He.glo_ok X G (c.e.fact 34), F_moved.binds fun _ _ _ _ _ _ us hl => match us, hl with | [_, _], _ => rfl⟩
  obtain ⟨oc_turned, od_turned, osl_turned, kV_turned, dc_turned, pm_turned, an_turned, cd_turned, ct_turned, l_turned, e_turned⟩ := c.e.def_ 18
  have F_turned := fun_mk (x := "turned") (qual := "turned") (st := sTurn) (f := (He.ga K "turned")) l_turned e_turned (He.keep_ok (c.e.fact 37))
  have D_turned : Df K mg "turned" sTurn ["spot", "values"] (He.ga K "turned") _ := ⟨F_turned, He.glo_ok X G (c.e.fact 36), F_turned.binds fun _ _ _ _ _ _ us hl => match us, hl with | [_, _], _ => rfl⟩
  obtain ⟨oc_placed, od_placed, osl_placed, kV_placed, dc_placed, pm_placed, an_placed, cd_placed, ct_placed, l_placed, e_placed⟩ := c.e.def_ 19
  have F_placed := fun_mk (x := "placed") (qual := "placed") (st := sPlc) (f := (He.ga K "placed")) l_placed e_placed (He.keep_ok (c.e.fact 39))
  have D_placed : Df K mg "placed" sPlc ["spot", "values"] (He.ga K "placed") _ := ⟨F_placed, He.glo_ok X G (c.e.fact 38), F_placed.binds fun _ _ _ _ _ _ us hl => match us, hl with | [_, _], _ => rfl⟩
  obtain ⟨oc_nearest, od_nearest, osl_nearest, kV_nearest, dc_nearest, pm_nearest, an_nearest, cd_nearest, ct_nearest, l_nearest, e_nearest⟩ := c.e.def_ 20
  have F_nearest := fun_mk (x := "nearest") (qual := "nearest") (st := sNear) (f := (He.ga K "nearest")) l_nearest e_nearest (He.keep_ok (c.e.fact 41))
  have D_nearest : Df K mg "nearest" sNear ["place", "many"] (He.ga K "nearest") _ := ⟨F_nearest, He.glo_ok X G (c.e.fact 40), F_nearest.binds fun _ _ _ _ _ _ us hl => match us, hl with | [_, _], _ => rfl⟩
  obtain ⟨oc__law_box, od__law_box, osl__law_box, kV__law_box, dc__law_box, pm__law_box, an__law_box, cd__law_box, ct__law_box, l__law_box, e__law_box⟩ := c.e.def_ 21
  have F__law_box := fun_mk (x := "_law_box") (qual := "_law_box") (st := sBox) (f := (He.ga K "_law_box")) l__law_box e__law_box (He.keep_ok (c.e.fact 43))
  have D__law_box : Df K mg "_law_box" sBox ["_law_script", "_law_k"] (He.ga K "_law_box") _ := ⟨F__law_box, He.glo_ok X G (c.e.fact 42), F__law_box.binds fun _ _ _ _ _ _ us hl => match us, hl with | [_, _], _ => rfl⟩
  obtain ⟨oc__law_take, od__law_take, osl__law_take, kV__law_take, dc__law_take, pm__law_take, an__law_take, cd__law_take, ct__law_take, l__law_take, e__law_take⟩ := c.e.def_ 22
  have F__law_take := fun_mk (x := "_law_take") (qual := "_law_take") (st := sTake) (f := (He.ga K "_law_take")) l__law_take e__law_take (He.keep_ok (c.e.fact 45))
  have D__law_take : Df K mg "_law_take" sTake ["_law_box_here", "_law_many"] (He.ga K "_law_take") _ := ⟨F__law_take, He.glo_ok X G (c.e.fact 44), F__law_take.binds fun _ _ _ _ _ _ us hl => match us, hl with | [_, _], _ => rfl⟩
  obtain ⟨oc__law_names, od__law_names, osl__law_names, kV__law_names, dc__law_names, pm__law_names, an__law_names, cd__law_names, ct__law_names, l__law_names, e__law_names⟩ := c.e.def_ 23
  have F__law_names := fun_mk (x := "_law_names") (qual := "_law_names") (st := sNames) (f := (He.ga K "_law_names")) l__law_names e__law_names (He.keep_ok (c.e.fact 47))
  have D__law_names : Df K mg "_law_names" sNames ["_law_box_here", "_law_many"] (He.ga K "_law_names") _ := ⟨F__law_names, He.glo_ok X G (c.e.fact 46), F__law_names.binds fun _ _ _ _ _ _ us hl => match us, hl with | [_, _], _ => rfl⟩
  obtain ⟨oc__law_some, od__law_some, osl__law_some, kV__law_some, dc__law_some, pm__law_some, an__law_some, cd__law_some, ct__law_some, l__law_some, e__law_some⟩ := c.e.def_ 24
  have F__law_some := fun_mk (x := "_law_some") (qual := "_law_some") (st := sSome) (f := (He.ga K "_law_some")) l__law_some e__law_some (He.keep_ok (c.e.fact 49))
  have D__law_some : Df K mg "_law_some" sSome ["_law_box_here", "_law_names_here", "_law_most"] (He.ga K "_law_some") _ := ⟨F__law_some, He.glo_ok X G (c.e.fact 48), F__law_some.binds fun _ _ _ _ _ _ us hl => match us, hl with | [_, _, _], _ => rfl⟩
  obtain ⟨oc__law_worth, od__law_worth, osl__law_worth, kV__law_worth, dc__law_worth, pm__law_worth, an__law_worth, cd__law_worth, ct__law_worth, l__law_worth, e__law_worth⟩ := c.e.def_ 25
  have F__law_worth := fun_mk (x := "_law_worth") (qual := "_law_worth") (st := sWorth) (f := (He.ga K "_law_worth")) l__law_worth e__law_worth (He.keep_ok (c.e.fact 51))
  have D__law_worth : Df K mg "_law_worth" sWorth ["_law_box_here"] (He.ga K "_law_worth") _ := ⟨F__law_worth, He.glo_ok X G (c.e.fact 50), F__law_worth.binds fun _ _ _ _ _ _ us hl => match us, hl with | [_], _ => rfl⟩
  obtain ⟨oc__law_pairs, od__law_pairs, osl__law_pairs, kV__law_pairs, dc__law_pairs, pm__law_pairs, an__law_pairs, cd__law_pairs, ct__law_pairs, l__law_pairs, e__law_pairs⟩ := c.e.def_ 26
  have F__law_pairs := fun_mk (x := "_law_pairs") (qual := "_law_pairs") (st := sPairs) (f := (He.ga K "_law_pairs")) l__law_pairs e__law_pairs (He.keep_ok (c.e.fact 53))
  have D__law_pairs : Df K mg "_law_pairs" sPairs ["_law_box_here", "_law_names_here"] (He.ga K "_law_pairs") _ := ⟨F__law_pairs, He.glo_ok X G (c.e.fact 52), F__law_pairs.binds fun _ _ _ _ _ _ us hl => match us, hl with | [_, _], _ => rfl⟩
  obtain ⟨oc__law_rows, od__law_rows, osl__law_rows, kV__law_rows, dc__law_rows, pm__law_rows, an__law_rows, cd__law_rows, ct__law_rows, l__law_rows, e__law_rows⟩ := c.e.def_ 27
  have F__law_rows := fun_mk (x := "_law_rows") (qual := "_law_rows") (st := sRows) (f := (He.ga K "_law_rows")) l__law_rows e__law_rows (He.keep_ok (c.e.fact 55))
  have D__law_rows : Df K mg "_law_rows" sRows ["_law_box_here", "_law_names_here"] (He.ga K "_law_rows") _ := ⟨F__law_rows, He.glo_ok X G (c.e.fact 54), F__law_rows.binds fun _ _ _ _ _ _ us hl => match us, hl with | [_, _], _ => rfl⟩
  obtain ⟨oc__law_play, od__law_play, osl__law_play, kV__law_play, dc__law_play, pm__law_play, an__law_play, cd__law_play, ct__law_play, l__law_play, e__law_play⟩ := c.e.def_ 28
  have F__law_play := fun_mk (x := "_law_play") (qual := "_law_play") (st := sPlay) (f := (He.ga K "_law_play")) l__law_play e__law_play (He.keep_ok (c.e.fact 57))
  have D__law_play : Df K mg "_law_play" sPlay ["_law_box_here"] (He.ga K "_law_play") _ := ⟨F__law_play, He.glo_ok X G (c.e.fact 56), F__law_play.binds fun _ _ _ _ _ _ us hl => match us, hl with | [_], _ => rfl⟩
  obtain ⟨oc__law_same, od__law_same, osl__law_same, kV__law_same, dc__law_same, pm__law_same, an__law_same, cd__law_same, ct__law_same, l__law_same, e__law_same⟩ := c.e.def_ 29
  have F__law_same := fun_mk (x := "_law_same") (qual := "_law_same") (st := sSame) (f := (He.ga K "_law_same")) l__law_same e__law_same (He.keep_ok (c.e.fact 59))
  have D__law_same : Df K mg "_law_same" sSame ["_law_found", "_law_due"] (He.ga K "_law_same") _ := ⟨F__law_same, He.glo_ok X G (c.e.fact 58), F__law_same.binds fun _ _ _ _ _ _ us hl => match us, hl with | [_, _], _ => rfl⟩
  obtain ⟨oc__law_told_of, od__law_told_of, osl__law_told_of, kV__law_told_of, dc__law_told_of, pm__law_told_of, an__law_told_of, cd__law_told_of, ct__law_told_of, l__law_told_of, e__law_told_of⟩ := c.e.def_ 30
  have F__law_told_of := fun_mk (x := "_law_told_of") (qual := "_law_told_of") (st := sLTo) (f := (He.ga K "_law_told_of")) l__law_told_of e__law_told_of (He.keep_ok (c.e.fact 61))
  have D__law_told_of : Df K mg "_law_told_of" sLTo ["_law_ground"] (He.ga K "_law_told_of") _ := ⟨F__law_told_of, He.glo_ok X G (c.e.fact 60), F__law_told_of.binds fun _ _ _ _ _ _ us hl => match us, hl with | [_], _ => rfl⟩
  obtain ⟨oc__law_gone, od__law_gone, osl__law_gone, kV__law_gone, dc__law_gone, pm__law_gone, an__law_gone, cd__law_gone, ct__law_gone, l__law_gone, e__law_gone⟩ := c.e.def_ 31
  have F__law_gone := fun_mk (x := "_law_gone") (qual := "_law_gone") (st := sGone) (f := (He.ga K "_law_gone")) l__law_gone e__law_gone (He.keep_ok (c.e.fact 63))
  have D__law_gone : Df K mg "_law_gone" sGone ["_law_size", "_law_spot", "_law_deed_here"] (He.ga K "_law_gone") _ := ⟨F__law_gone, He.glo_ok X G (c.e.fact 62), F__law_gone.binds fun _ _ _ _ _ _ us hl => match us, hl with | [_, _, _], _ => rfl⟩
  obtain ⟨oc__law_far, od__law_far, osl__law_far, kV__law_far, dc__law_far, pm__law_far, an__law_far, cd__law_far, ct__law_far, l__law_far, e__law_far⟩ := c.e.def_ 32
  have F__law_far := fun_mk (x := "_law_far") (qual := "_law_far") (st := sFar) (f := (He.ga K "_law_far")) l__law_far e__law_far (He.keep_ok (c.e.fact 65))
  have D__law_far : Df K mg "_law_far" sFar ["_law_box_here"] (He.ga K "_law_far") _ := ⟨F__law_far, He.glo_ok X G (c.e.fact 64), F__law_far.binds fun _ _ _ _ _ _ us hl => match us, hl with | [_], _ => rfl⟩
  obtain ⟨oc__law_deed, od__law_deed, osl__law_deed, kV__law_deed, dc__law_deed, pm__law_deed, an__law_deed, cd__law_deed, ct__law_deed, l__law_deed, e__law_deed⟩ := c.e.def_ 33
  have F__law_deed := fun_mk (x := "_law_deed") (qual := "_law_deed") (st := sDeed) (f := (He.ga K "_law_deed")) l__law_deed e__law_deed (He.keep_ok (c.e.fact 67))
  have D__law_deed : Df K mg "_law_deed" sDeed ["_law_box_here"] (He.ga K "_law_deed") _ := ⟨F__law_deed, He.glo_ok X G (c.e.fact 66), F__law_deed.binds fun _ _ _ _ _ _ us hl => match us, hl with | [_], _ => rfl⟩
  obtain ⟨oc__law_right, od__law_right, osl__law_right, kV__law_right, dc__law_right, pm__law_right, an__law_right, cd__law_right, ct__law_right, l__law_right, e__law_right⟩ := c.e.def_ 34
  have F__law_right := fun_mk (x := "_law_right") (qual := "_law_right") (st := sRi) (f := (He.ga K "_law_right")) l__law_right e__law_right (He.keep_ok (c.e.fact 69))
  have D__law_right : Df K mg "_law_right" sRi ["_law_box_here"] (He.ga K "_law_right") _ := ⟨F__law_right, He.glo_ok X G (c.e.fact 68), F__law_right.binds fun _ _ _ _ _ _ us hl => match us, hl with | [_], _ => rfl⟩
  obtain ⟨oc_law, od_law, osl_law, kV_law, dc_law, pm_law, an_law, cd_law, ct_law, l_law, e_law⟩ := c.e.def_ 35
  have F_law := fun_mk (x := "law") (qual := "law") (st := sLaw) (f := (He.ga K "law")) l_law e_law (He.keep_ok (c.e.fact 71))
  obtain ⟨oc_H___init__, od_H___init__, osl_H___init__, kV_H___init__, dc_H___init__, pm_H___init__, an_H___init__, cd_H___init__, ct_H___init__, l_H___init__, e_H___init__⟩ := c.e.def_ 37
  have F_H___init__ := fun_mk (x := "__init__") (qual := "Holding.__init__") (st := sHI) (f := (He.ma K (He.ga K "Holding") "__init__")) l_H___init__ e_H___init__ (He.meth_ok (c.e.fact 122)).kp
  have B_H___init__ : Binds K _ ["self", "names", "lists"] [] := F_H___init__.binds fun _ _ _ _ _ _ us hl => match us, hl with | [_, _, _], _ => rfl
  obtain ⟨oc_H_name_pairs, od_H_name_pairs, osl_H_name_pairs, kV_H_name_pairs, dc_H_name_pairs, pm_H_name_pairs, an_H_name_pairs, cd_H_name_pairs, ct_H_name_pairs, l_H_name_pairs, e_H_name_pairs⟩ := c.e.def_ 38
  have F_H_name_pairs := fun_mk (x := "name_pairs") (qual := "Holding.name_pairs") (st := sHN) (f := (He.ma K (He.ga K "Holding") "name_pairs")) l_H_name_pairs e_H_name_pairs (He.meth_ok (c.e.fact 93)).kp
  have B_H_name_pairs : Binds K _ ["self"] [] := F_H_name_pairs.binds fun _ _ _ _ _ _ us hl => match us, hl with | [_], _ => rfl
  have M_H_name_pairs := He.meth_ok (c.e.fact 93)
  obtain ⟨oc_H_list_pairs, od_H_list_pairs, osl_H_list_pairs, kV_H_list_pairs, dc_H_list_pairs, pm_H_list_pairs, an_H_list_pairs, cd_H_list_pairs, ct_H_list_pairs, l_H_list_pairs, e_H_list_pairs⟩ := c.e.def_ 39
  have F_H_list_pairs := fun_mk (x := "list_pairs") (qual := "Holding.list_pairs") (st := sHL) (f := (He.ma K (He.ga K "Holding") "list_pairs")) l_H_list_pairs e_H_list_pairs (He.meth_ok (c.e.fact 94)).kp
  have B_H_list_pairs : Binds K _ ["self"] [] := F_H_list_pairs.binds fun _ _ _ _ _ _ us hl => match us, hl with | [_], _ => rfl
  have M_H_list_pairs := He.meth_ok (c.e.fact 94)
  obtain ⟨oc_H_again, od_H_again, osl_H_again, kV_H_again, dc_H_again, pm_H_again, an_H_again, cd_H_again, ct_H_again, l_H_again, e_H_again⟩ := c.e.def_ 40
  have F_H_again := fun_mk (x := "again") (qual := "Holding.again") (st := sHA) (f := (He.ma K (He.ga K "Holding") "again")) l_H_again e_H_again (He.meth_ok (c.e.fact 95)).kp
  have B_H_again : Binds K _ ["self"] [] := F_H_again.binds fun _ _ _ _ _ _ us hl => match us, hl with | [_], _ => rfl
  have M_H_again := He.meth_ok (c.e.fact 95)
  obtain ⟨oc_G___init__, od_G___init__, osl_G___init__, kV_G___init__, dc_G___init__, pm_G___init__, an_G___init__, cd_G___init__, ct_G___init__, l_G___init__, e_G___init__⟩ := c.e.def_ 41
  have F_G___init__ := fun_mk (x := "__init__") (qual := "Ground.__init__") (st := sGI) (f := (He.ma K (He.ga K "Ground") "__init__")) l_G___init__ e_G___init__ (He.meth_ok (c.e.fact 123)).kp
  have B_G___init__ : Binds K _ ["self", "play"] [] := F_G___init__.binds fun _ _ _ _ _ _ us hl => match us, hl with | [_, _], _ => rfl
  obtain ⟨oc_G___len__, od_G___len__, osl_G___len__, kV_G___len__, dc_G___len__, pm_G___len__, an_G___len__, cd_G___len__, ct_G___len__, l_G___len__, e_G___len__⟩ := c.e.def_ 42
  have F_G___len__ := fun_mk (x := "__len__") (qual := "Ground.__len__") (st := sGL) (f := (He.ma K (He.ga K "Ground") "__len__")) l_G___len__ e_G___len__ (He.meth_ok (c.e.fact 99)).kp
  have B_G___len__ : Binds K _ ["self"] [] := F_G___len__.binds fun _ _ _ _ _ _ us hl => match us, hl with | [_], _ => rfl
  have M_G___len__ := He.meth_ok (c.e.fact 99)
  obtain ⟨oc_G_give, od_G_give, osl_G_give, kV_G_give, dc_G_give, pm_G_give, an_G_give, cd_G_give, ct_G_give, l_G_give, e_G_give⟩ := c.e.def_ 46
  have F_G_give := fun_mk (x := "give") (qual := "Ground.give") (st := sGv) (f := (He.ma K (He.ga K "Ground") "give")) l_G_give e_G_give (He.meth_ok (c.e.fact 103)).kp
  have B_G_give : Binds K _ ["self", "one", "ground", "new"] [] := F_G_give.binds fun _ _ _ _ _ _ us hl => match us, hl with | [_, _, _, _], _ => rfl
  have M_G_give := He.meth_ok (c.e.fact 103)
  obtain ⟨oc_G_ones, od_G_ones, osl_G_ones, kV_G_ones, dc_G_ones, pm_G_ones, an_G_ones, cd_G_ones, ct_G_ones, l_G_ones, e_G_ones⟩ := c.e.def_ 47
  have F_G_ones := fun_mk (x := "ones") (qual := "Ground.ones") (st := sGO) (f := (He.ma K (He.ga K "Ground") "ones")) l_G_ones e_G_ones (He.meth_ok (c.e.fact 104)).kp
  have B_G_ones : Binds K _ ["self"] [] := F_G_ones.binds fun _ _ _ _ _ _ us hl => match us, hl with | [_], _ => rfl
  have M_G_ones := He.meth_ok (c.e.fact 104)
  obtain ⟨oc_G_spot, od_G_spot, osl_G_spot, kV_G_spot, dc_G_spot, pm_G_spot, an_G_spot, cd_G_spot, ct_G_spot, l_G_spot, e_G_spot⟩ := c.e.def_ 48
  have F_G_spot := fun_mk (x := "spot") (qual := "Ground.spot") (st := sGS) (f := (He.ma K (He.ga K "Ground") "spot")) l_G_spot e_G_spot (He.meth_ok (c.e.fact 105)).kp
  have B_G_spot : Binds K _ ["self", "one"] [] := F_G_spot.binds fun _ _ _ _ _ _ us hl => match us, hl with | [_, _], _ => rfl
  have M_G_spot := He.meth_ok (c.e.fact 105)
  obtain ⟨oc_G_is_shown, od_G_is_shown, osl_G_is_shown, kV_G_is_shown, dc_G_is_shown, pm_G_is_shown, an_G_is_shown, cd_G_is_shown, ct_G_is_shown, l_G_is_shown, e_G_is_shown⟩ := c.e.def_ 49
  have F_G_is_shown := fun_mk (x := "is_shown") (qual := "Ground.is_shown") (st := sGW) (f := (He.ma K (He.ga K "Ground") "is_shown")) l_G_is_shown e_G_is_shown (He.meth_ok (c.e.fact 106)).kp
  have B_G_is_shown : Binds K _ ["self", "one"] [] := F_G_is_shown.binds fun _ _ _ _ _ _ us hl => match us, hl with | [_, _], _ => rfl
  have M_G_is_shown := He.meth_ok (c.e.fact 106)
  obtain ⟨oc_G_names, od_G_names, osl_G_names, kV_G_names, dc_G_names, pm_G_names, an_G_names, cd_G_names, ct_G_names, l_G_names, e_G_names⟩ := c.e.def_ 50
  have F_G_names := fun_mk (x := "names") (qual := "Ground.names") (st := sGN) (f := (He.ma K (He.ga K "Ground") "names")) l_G_names e_G_names (He.meth_ok (c.e.fact 107)).kp
  have M_G_names := He.meth_ok (c.e.fact 107)
  obtain ⟨oc_G_lists, od_G_lists, osl_G_lists, kV_G_lists, dc_G_lists, pm_G_lists, an_G_lists, cd_G_lists, ct_G_lists, l_G_lists, e_G_lists⟩ := c.e.def_ 51
  have F_G_lists := fun_mk (x := "lists") (qual := "Ground.lists") (st := sGR) (f := (He.ma K (He.ga K "Ground") "lists")) l_G_lists e_G_lists (He.meth_ok (c.e.fact 108)).kp
  have M_G_lists := He.meth_ok (c.e.fact 108)
  obtain ⟨oc_G_held_by, od_G_held_by, osl_G_held_by, kV_G_held_by, dc_G_held_by, pm_G_held_by, an_G_held_by, cd_G_held_by, ct_G_held_by, l_G_held_by, e_G_held_by⟩ := c.e.def_ 52
  have F_G_held_by := fun_mk (x := "held_by") (qual := "Ground.held_by") (st := sGB) (f := (He.ma K (He.ga K "Ground") "held_by")) l_G_held_by e_G_held_by (He.meth_ok (c.e.fact 109)).kp
  have B_G_held_by : Binds K _ ["self", "one"] [] := F_G_held_by.binds fun _ _ _ _ _ _ us hl => match us, hl with | [_, _], _ => rfl
  have M_G_held_by := He.meth_ok (c.e.fact 109)
  obtain ⟨oc_G_met, od_G_met, osl_G_met, kV_G_met, dc_G_met, pm_G_met, an_G_met, cd_G_met, ct_G_met, l_G_met, e_G_met⟩ := c.e.def_ 53
  have F_G_met := fun_mk (x := "met") (qual := "Ground.met") (st := sGM) (f := (He.ma K (He.ga K "Ground") "met")) l_G_met e_G_met (He.meth_ok (c.e.fact 110)).kp
  have B_G_met : Binds K _ ["self", "one"] [] := F_G_met.binds fun _ _ _ _ _ _ us hl => match us, hl with | [_, _], _ => rfl
  have M_G_met := He.meth_ok (c.e.fact 110)
  obtain ⟨oc_G_eyes, od_G_eyes, osl_G_eyes, kV_G_eyes, dc_G_eyes, pm_G_eyes, an_G_eyes, cd_G_eyes, ct_G_eyes, l_G_eyes, e_G_eyes⟩ := c.e.def_ 54
  have F_G_eyes := fun_mk (x := "eyes") (qual := "Ground.eyes") (st := sGE) (f := (He.ma K (He.ga K "Ground") "eyes")) l_G_eyes e_G_eyes (He.meth_ok (c.e.fact 111)).kp
  have M_G_eyes := He.meth_ok (c.e.fact 111)
  obtain ⟨oc_G_copy, od_G_copy, osl_G_copy, kV_G_copy, dc_G_copy, pm_G_copy, an_G_copy, cd_G_copy, ct_G_copy, l_G_copy, e_G_copy⟩ := c.e.def_ 55
  have F_G_copy := fun_mk (x := "copy") (qual := "Ground.copy") (st := sGC) (f := (He.ma K (He.ga K "Ground") "copy")) l_G_copy e_G_copy (He.meth_ok (c.e.fact 112)).kp
  have B_G_copy : Binds K _ ["self", "one"] [] := F_G_copy.binds fun _ _ _ _ _ _ us hl => match us, hl with | [_, _], _ => rfl
  have M_G_copy := He.meth_ok (c.e.fact 112)
  obtain ⟨oc_G_do, od_G_do, osl_G_do, kV_G_do, dc_G_do, pm_G_do, an_G_do, cd_G_do, ct_G_do, l_G_do, e_G_do⟩ := c.e.def_ 57
  have F_G_do := fun_mk (x := "do") (qual := "Ground.do") (st := sDo) (f := (He.ma K (He.ga K "Ground") "do")) l_G_do e_G_do (He.meth_ok (c.e.fact 114)).kp
  have M_G_do := He.meth_ok (c.e.fact 114)
  obtain ⟨oc_G_change_spot, od_G_change_spot, osl_G_change_spot, kV_G_change_spot, dc_G_change_spot, pm_G_change_spot, an_G_change_spot, cd_G_change_spot, ct_G_change_spot, l_G_change_spot, e_G_change_spot⟩ := c.e.def_ 58
  have F_G_change_spot := fun_mk (x := "change_spot") (qual := "Ground.change_spot") (st := sCS) (f := (He.ma K (He.ga K "Ground") "change_spot")) l_G_change_spot e_G_change_spot (He.meth_ok (c.e.fact 115)).kp
  have B_G_change_spot : Binds K _ ["self", "one", "word", "values"] [] := F_G_change_spot.binds fun _ _ _ _ _ _ us hl => match us, hl with | [_, _, _, _], _ => rfl
  have M_G_change_spot := He.meth_ok (c.e.fact 115)
  obtain rfl : fa = He.ga K "law" := Value.ref.inj (Option.some.inj (hfa.symm.trans (He.glo_ok X G (c.e.fact 70))))
  have m_len : mg "len" = none := He.free_ok X G (c.e.fact 72)
  have m_int : mg "int" = none := He.free_ok X G (c.e.fact 73)
  have m_divmod : mg "divmod" = none := He.free_ok X G (c.e.fact 74)
  have m_list : mg "list" = none := He.free_ok X G (c.e.fact 75)
  have m_isinstance : mg "isinstance" = none := He.free_ok X G (c.e.fact 76)
  have m_tuple : mg "tuple" = none := He.free_ok X G (c.e.fact 77)
  have m_all : mg "all" = none := He.free_ok X G (c.e.fact 78)
  have m_abs : mg "abs" = none := He.free_ok X G (c.e.fact 79)
  have m_zip : mg "zip" = none := He.free_ok X G (c.e.fact 80)
  have m_str : mg "str" = none := He.free_ok X G (c.e.fact 81)
  have m_bool : mg "bool" = none := He.free_ok X G (c.e.fact 82)
  have m_range : mg "range" = none := He.free_ok X G (c.e.fact 83)
  have m_enumerate : mg "enumerate" = none := He.free_ok X G (c.e.fact 84)
  have m_sorted : mg "sorted" = none := He.free_ok X G (c.e.fact 85)
  have m_min : mg "min" = none := He.free_ok X G (c.e.fact 86)
  have m_max : mg "max" = none := He.free_ok X G (c.e.fact 87)
  have m_RuntimeError : mg "RuntimeError" = none := He.free_ok X G (c.e.fact 88)
  obtain ⟨t_LEAST_VALUE, m_LEAST_VALUE⟩ := He.int_ok X G (c.e.fact 89)
  obtain ⟨t_MOST_VALUE, m_MOST_VALUE⟩ := He.int_ok X G (c.e.fact 90)
  obtain ⟨t_LONGEST_LIST, m_LONGEST_LIST⟩ := He.int_ok X G (c.e.fact 91)
  have m_Holding := He.glo_ok X G (c.e.fact 96)
  have m_Ground := He.glo_ok X G (c.e.fact 119)
  have cH := He.cls_ok (c.e.fact 97)
  have cG := He.cls_ok (c.e.fact 120)
  have kH := He.mkr_ok (c.e.fact 98)
  have kG := He.mkr_ok (c.e.fact 121)
  have hH : HCls K (He.ga K "Holding") := ⟨cH, He.noat_ok (c.e.fact 124), He.noat_ok (c.e.fact 125)⟩
  have hG : GCls K (He.ga K "Ground") := ⟨cG, He.noat_ok (c.e.fact 126), He.noat_ok (c.e.fact 127), He.noat_ok (c.e.fact 128), He.noat_ok (c.e.fact 129), He.noat_ok (c.e.fact 130), He.noat_ok (c.e.fact 131)⟩
  unfold Kk18.ck at hck
  simp only [Bool.and_eq_true] at hck
  obtain ⟨⟨⟨⟨⟨⟨⟨⟨⟨⟨⟨⟨⟨⟨⟨⟨⟨⟨⟨⟨⟨⟨⟨⟨⟨⟨⟨⟨⟨⟨⟨⟨⟨⟨⟨⟨⟨⟨⟨q0, q1⟩, q2⟩, q3⟩, q4⟩, q5⟩, q6⟩, q7⟩, q8⟩, q9⟩, q10⟩, q11⟩, q12⟩, q13⟩, q14⟩, q15⟩, q16⟩, q17⟩, q18⟩, q19⟩, q20⟩, q21⟩, q22⟩, q23⟩, q24⟩, q25⟩, q26⟩, q27⟩, q28⟩, q29⟩, q30⟩, q31⟩, q32⟩, q33⟩, q34⟩, q35⟩, q36⟩, q37⟩, q38⟩, q39⟩ := hck
  have q0 := of_decide_eq_true q0
  have q1 := of_decide_eq_true q1
  obtain ⟨e_eyes, q2, he_eyes⟩ := Fw.emT_ok q2
  obtain ⟨e_do, q3, he_do⟩ := Fw.emT_ok q3
  have hST : StT K 198 := ⟨Fw.stpB_ok q39⟩
  have m_NAME_DEEDS := PySem.W.mg_of X G (He.eqO_ok q29)
  have m_LIST_DEEDS := PySem.W.mg_of X G (He.eqO_ok q33)
  have m_SPOT_DEEDS := PySem.W.mg_of X G (He.eqO_ok q37)
  have m_SHOWN_BY := PySem.W.mg_of X G (He.eqO_ok q38)
  have m_STEPS := PySem.W.mg_of X G (He.eqO_ok q19)
  have m_SUMS := PySem.W.mg_of X G (He.eqO_ok q26)
  have m_SPOT_WORDS := PySem.W.mg_of X G (He.eqO_ok q20)
  have m1 : (("Ground", some "ones") : He.Defn) ∈ Kk18.tf := List.mem_singleton.mpr rfl
  obtain ⟨c0, hc0⟩ := He.codeIn_ref e_G_ones
  have hcT : (He.cT K ("Ground", some "ones")).1 = c0 := He.codeOf_eq (p := ("Ground", some "ones")) l_G_ones hc0
  have hd0 := c.hd _ m1
  have ot0 := c.out _ m1
  have em0 := c.empty _ m1
  rw [hcT] at hd0
  generalize hT0 : (He.cT K ("Ground", some "ones")).2 = T at hd0 ot0 em0
  obtain ⟨d_names, v_names, b_names⟩ := (Fw.funD_of (p := ("Ground", some "names")) (st := sGN) (v := .non) rfl l_G_names e_G_names M_G_names.kp q0 rfl).binds0 (ps := ["self", "one"]) 1 nofun rfl fun D _ _ _ _ _ us ks h1 h2 => match us, ks, h1, h2 with | [_], [_], _, _ => ⟨_, _, _, _, _, _, rfl, rfl, rfl⟩
  have k_names := Fw.kb_one (K := K) (fd := PySem.W.fnOf "names" "Ground.names" (defArgs sGN) (defBody sGN) (defScope sGN) .none kV_G_names dc_G_names pm_G_names an_G_names cd_G_names ct_G_names) (ps := ["self", "one"]) (z := "one") (n := 1) fun us ws h1 h2 => match us, ws, h1, h2 with | [_], [_], _, _ => rfl
  obtain ⟨d_lists, v_lists, b_lists⟩ := (Fw.funD_of (p := ("Ground", some "lists")) (st := sGR) (v := .non) rfl l_G_lists e_G_lists M_G_lists.kp q1 rfl).binds0 (ps := ["self", "one"]) 1 nofun rfl fun D _ _ _ _ _ us ks h1 h2 => match us, ks, h1, h2 with | [_], [_], _, _ => ⟨_, _, _, _, _, _, rfl, rfl, rfl⟩
  have k_lists := Fw.kb_one (K := K) (fd := PySem.W.fnOf "lists" "Ground.lists" (defArgs sGR) (defBody sGR) (defScope sGR) .none kV_G_lists dc_G_lists pm_G_lists an_G_lists cd_G_lists ct_G_lists) (ps := ["self", "one"]) (z := "one") (n := 1) fun us ws h1 h2 => match us, ws, h1, h2 with | [_], [_], _, _ => rfl
  obtain ⟨d_eyes, v_eyes, b_eyes⟩ := (Fw.funD_of (p := ("Ground", some "eyes")) (st := sGE) (v := .ref e_eyes) rfl l_G_eyes e_G_eyes M_G_eyes.kp q2 rfl).binds0 (ps := ["self", "one", "params"]) 2 nofun rfl fun D _ _ _ _ _ us ks h1 h2 => match us, ks, h1, h2 with | [_, _], [_], _, _ => ⟨_, _, _, _, _, _, rfl, rfl, rfl⟩
  have k_eyes := Fw.kb_one (K := K) (fd := PySem.W.fnOf "eyes" "Ground.eyes" (defArgs sGE) (defBody sGE) (defScope sGE) .none kV_G_eyes dc_G_eyes pm_G_eyes an_G_eyes cd_G_eyes ct_G_eyes) (ps := ["self", "one", "params"]) (z := "params") (n := 2) fun us ws h1 h2 => match us, ws, h1, h2 with | [_, _], [_], _, _ => rfl
  obtain ⟨d_do, v_do, b_do⟩ := (Fw.funD_of (p := ("Ground", some "do")) (st := sDo) (v := .ref e_do) rfl l_G_do e_G_do M_G_do.kp q3 rfl).binds0 (ps := ["self", "one", "deed", "params"]) 3 nofun rfl fun D _ _ _ _ _ us ks h1 h2 => match us, ks, h1, h2 with | [_, _, _], [_], _, _ => ⟨_, _, _, _, _, _, rfl, rfl, rfl⟩
  have k_do := Fw.kb_one (K := K) (fd := PySem.W.fnOf "do" "Ground.do" (defArgs sDo) (defBody sDo) (defScope sDo) .none kV_G_do dc_G_do pm_G_do an_G_do cd_G_do ct_G_do) (ps := ["self", "one", "deed", "params"]) (z := "params") (n := 3) fun us ws h1 h2 => match us, ws, h1, h2 with | [_, _, _], [_], _, _ => rfl
  have lN : K.lookup 192 = some (Fw.dO (Fw.sEs w Kk18.pr 438 (Fw.svT Kk18.tn27))) := hob 2 192 _ rfl rfl
  have kN : PySem.W.KeysLit w.params (Fw.sEs w Kk18.pr 438 (Fw.svT Kk18.tn27)) := ⟨⟨_, _, rfl, rfl⟩, ⟨_, _, rfl, rfl⟩, trivial⟩
  have lL : K.lookup 193 = some (Fw.dO (Fw.sEs w Kk18.pr 443 (Fw.svT Kk18.tn28))) := hob 3 193 _ rfl rfl
  have kL : PySem.W.KeysLit w.params (Fw.sEs w Kk18.pr 443 (Fw.svT Kk18.tn28)) := ⟨⟨_, _, rfl, rfl⟩, ⟨_, _, rfl, rfl⟩, ⟨_, _, rfl, rfl⟩, trivial⟩
  have lS : K.lookup 220 = some (Fw.dO (Fw.sEs w Kk18.pr 495 (Fw.svT Kk18.tn34))) := hob 4 220 _ rfl rfl
  have kS : PySem.W.KeysLit w.params (Fw.sEs w Kk18.pr 495 (Fw.svT Kk18.tn34)) := ⟨⟨_, _, rfl, rfl⟩, ⟨_, _, rfl, rfl⟩, ⟨_, _, rfl, rfl⟩, trivial⟩
  have lB : K.lookup 221 = some (Fw.dO (Fw.sEs w Kk18.pr 502 (Fw.svB Kk18.tb35))) := hob 5 221 _ rfl rfl
  have kB : PySem.W.KeysLit w.params (Fw.sEs w Kk18.pr 502 (Fw.svB Kk18.tb35)) := ⟨⟨_, _, rfl, rfl⟩, ⟨_, _, rfl, rfl⟩, trivial⟩
  refine ⟨K, _, c0, T, X, ot0, em0, PySem.W.codeHd_of_K X hd0, F_law, fun s v => .of_eq rfl, fun base _ _ TB => ?_⟩
  have o_hi : FnOk PySem.Challenge.rw_figuredeeds_k18_spots_and_ways.prog w K mg base CX0 1 _ _ ["self", "names", "lists"] (spHI K (He.ga K "Holding")) := ok_hi F_H___init__ hH m_list
  have o_hn : FnOk PySem.Challenge.rw_figuredeeds_k18_spots_and_ways.prog w K mg base CX0 1 _ _ ["self"] (spHN K (He.ga K "Holding")) := ok_hn F_H_name_pairs hH
  have o_hl : FnOk PySem.Challenge.rw_figuredeeds_k18_spots_and_ways.prog w K mg base CX0 1 _ _ ["self"] (spHL K (He.ga K "Holding")) := ok_hl F_H_list_pairs hH m_list
  have o_gi : FnOk PySem.Challenge.rw_figuredeeds_k18_spots_and_ways.prog w K mg base CX0 3 _ _ ["self", "play"] (spGI w K (He.ga K "Ground") (He.ga K "Holding")) := ok_gi F_G___init__ hG m_tuple kH o_hi (by decide) m_Holding B_H___init__
  have o_ha : FnOk PySem.Challenge.rw_figuredeeds_k18_spots_and_ways.prog w K mg base CX0 3 _ _ ["self"] (spHA K (He.ga K "Holding")) := ok_ha (k := 2) (kH := 1) F_H_again cH (by decide) M_H_name_pairs o_hn B_H_name_pairs M_H_list_pairs o_hl B_H_list_pairs kH o_hi m_Holding B_H___init__
  have o_go : FnOk PySem.Challenge.rw_figuredeeds_k18_spots_and_ways.prog w K mg base CX0 1 _ _ ["self"] (spGo w K (He.ga K "Ground") (He.ga K "Holding") T) := ok_gO F_G_ones hG hc0 TB m_enumerate m_sorted m_list
  have o_gl : FnOk PySem.Challenge.rw_figuredeeds_k18_spots_and_ways.prog w K mg base CX0 1 _ _ ["self"] (spGL w K (He.ga K "Ground") (He.ga K "Holding")) := ok_gl F_G___len__ hG m_len
  have o_gs : FnOk PySem.Challenge.rw_figuredeeds_k18_spots_and_ways.prog w K mg base CX0 1 _ _ ["self", "one"] (spGS w K (He.ga K "Ground") (He.ga K "Holding")) := ok_gs F_G_spot hG m_tuple
  have o_gw : FnOk PySem.Challenge.rw_figuredeeds_k18_spots_and_ways.prog w K mg base CX0 1 _ _ ["self", "one"] (spGW w K (He.ga K "Ground") (He.ga K "Holding")) := ok_gw F_G_is_shown hG m_tuple
  have o_gb : FnOk PySem.Challenge.rw_figuredeeds_k18_spots_and_ways.prog w K mg base CX0 1 _ _ ["self", "one"] (spGB w K (He.ga K "Ground") (He.ga K "Holding")) := ok_gb F_G_held_by hG m_tuple
  have o_gm : FnOk PySem.Challenge.rw_figuredeeds_k18_spots_and_ways.prog w K mg base CX0 1 _ _ ["self", "one"] (spGM w K (He.ga K "Ground") (He.ga K "Holding")) := ok_gm F_G_met hG m_tuple
  have o_gn : FnOk PySem.Challenge.rw_figuredeeds_k18_spots_and_ways.prog w K mg base CX0 2 _ _ ["self", "one"] (spGN w K (He.ga K "Ground") (He.ga K "Holding")) := ok_gn F_G_names cG cH M_G_held_by o_gb B_G_held_by M_H_name_pairs o_hn B_H_name_pairs (by decide)
  have o_gr : FnOk PySem.Challenge.rw_figuredeeds_k18_spots_and_ways.prog w K mg base CX0 2 _ _ ["self", "one"] (spGR w K (He.ga K "Ground") (He.ga K "Holding")) := ok_gr F_G_lists cG cH M_G_held_by o_gb B_G_held_by M_H_list_pairs o_hl B_H_list_pairs (by decide)
  have gN : MthK PySem.Challenge.rw_figuredeeds_k18_spots_and_ways.prog w K mg base (He.ga K "Ground") 2 1 "names" "one" .non ["self", "one"] (spGN w K (He.ga K "Ground") (He.ga K "Holding")) := ⟨_, _, d_names, M_G_names, o_gn, b_names, v_names, k_names⟩
  have gR : MthK PySem.Challenge.rw_figuredeeds_k18_spots_and_ways.prog w K mg base (He.ga K "Ground") 2 1 "lists" "one" .non ["self", "one"] (spGR w K (He.ga K "Ground") (He.ga K "Holding")) := ⟨_, _, d_lists, M_G_lists, o_gr, b_lists, v_lists, k_lists⟩
  have gO : MthG PySem.Challenge.rw_figuredeeds_k18_spots_and_ways.prog w K mg base (He.ga K "Ground") 2 "ones" ["self"] (spGo w K (He.ga K "Ground") (He.ga K "Holding") T) := ⟨_, _, M_G_ones, o_go.mono (by decide), B_G_ones⟩
  have gS : MthG PySem.Challenge.rw_figuredeeds_k18_spots_and_ways.prog w K mg base (He.ga K "Ground") 2 "spot" ["self", "one"] (spGS w K (He.ga K "Ground") (He.ga K "Holding")) := ⟨_, _, M_G_spot, o_gs.mono (by decide), B_G_spot⟩
  have gW : MthG PySem.Challenge.rw_figuredeeds_k18_spots_and_ways.prog w K mg base (He.ga K "Ground") 2 "is_shown" ["self", "one"] (spGW w K (He.ga K "Ground") (He.ga K "Holding")) := ⟨_, _, M_G_is_shown, o_gw.mono (by decide), B_G_is_shown⟩
  have gM : MthG PySem.Challenge.rw_figuredeeds_k18_spots_and_ways.prog w K mg base (He.ga K "Ground") 2 "met" ["self", "one"] (spGM w K (He.ga K "Ground") (He.ga K "Holding")) := ⟨_, _, M_G_met, o_gm.mono (by decide), B_G_met⟩
  have gL : SpM PySem.Challenge.rw_figuredeeds_k18_spots_and_ways.prog w K mg base (He.ga K "Ground") 2 "__len__" ["self"] (spGL w K (He.ga K "Ground") (He.ga K "Holding")) := ⟨_, _, o_gl.mono (by decide), M_G___len__.at_, M_G___len__.fn, B_G___len__⟩
  have o_ge : FnOk PySem.Challenge.rw_figuredeeds_k18_spots_and_ways.prog w K mg base CX0 3 _ _ ["self", "one", "params"] (spGE w K (He.ga K "Ground") (He.ga K "Holding")) := ok_ge (k := 2) F_G_eyes hG cG (by decide) gN gR gS gM
  have o_gv : FnOk PySem.Challenge.rw_figuredeeds_k18_spots_and_ways.prog w K mg base CX0 4 _ _ ["self", "one", "ground", "new"] (spGv w K (He.ga K "Ground") (He.ga K "Holding")) := ok_gv (k := 3) (kH := 3) F_G_give hG cH (by decide) M_H_again o_ha B_H_again
  have o_gc : FnOk PySem.Challenge.rw_figuredeeds_k18_spots_and_ways.prog w K mg base CX0 5 _ _ ["self", "one"] (spGC w K (He.ga K "Ground") (He.ga K "Holding")) := ok_gc (k := 4) (kH := 4) F_G_copy hG cG (by decide) m_tuple M_G_give o_gv B_G_give
  have vN : FnG PySem.Challenge.rw_figuredeeds_k18_spots_and_ways.prog w K mg base CX0 1 "is_number" ["thing"] spIsN := D_is_number.g (ok_isN D_is_number.F m_isinstance m_int m_bool)
  have vV : FnG PySem.Challenge.rw_figuredeeds_k18_spots_and_ways.prog w K mg base CX0 2 "is_value" ["thing"] spIsV := D_is_value.g (ok_isV D_is_value.F vN m_LEAST_VALUE m_MOST_VALUE)
  have vO : FnG PySem.Challenge.rw_figuredeeds_k18_spots_and_ways.prog w K mg base CX0 2 "outcome" ["look", "eyes"] spOI := D_outcome.g (ok_outc D_outcome.F vN)
  have vF : FnG PySem.Challenge.rw_figuredeeds_k18_spots_and_ways.prog w K mg base CX0 3 "value_of" ["look", "eyes"] spVI := D_value_of.g (ok_valO D_value_of.F vO vV)
  have vR : FnG PySem.Challenge.rw_figuredeeds_k18_spots_and_ways.prog w K mg base CX0 1 "nearest" ["place", "many"] spNr := D_nearest.g (ok_near D_nearest.F m_max m_min)
  obtain ⟨tsS, hS1, hS2⟩ := hST.ex
  have lS4 : (tsS.map V.ref).length = 4 := by rw [List.length_map]; exact paired_len (hS2 fun _ => none)
  have hT : Held PySem.Challenge.rw_figuredeeds_k18_spots_and_ways.prog w K mg base 2 _ (spTn K) := ⟨_, _, ok_turn (k := 1) F_turned m_len m_STEPS hS1 lS4, F_turned.kp, D_turned.b⟩
  have hP : Held PySem.Challenge.rw_figuredeeds_k18_spots_and_ways.prog w K mg base 2 _ (spPc K) := ⟨_, _, ok_plc (k := 1) F_placed, F_placed.kp, D_placed.b⟩
  have hM : Held PySem.Challenge.rw_figuredeeds_k18_spots_and_ways.prog w K mg base 2 _ (spMv K) := ⟨_, _, ok_mv (k := 1) F_moved m_STEPS hST, F_moved.kp, D_moved.b⟩
  have o_cs : FnOk PySem.Challenge.rw_figuredeeds_k18_spots_and_ways.prog w K mg base CX0 3 _ _ _ (spCS w K (He.ga K "Ground") (He.ga K "Holding")) := ok_cs (k := 2) F_G_change_spot hG m_SPOT_DEEDS ⟨_, _, _, lS, kS, He.eqO_ok q35, rfl⟩ ⟨_, _, _, lS, kS, He.eqO_ok q36, rfl⟩ ⟨_, _, _, lS, kS, He.eqO_ok q34, rfl⟩ hM hT hP (vR.mono (by decide))
  have T9 : DoT K w mg 192 193 221 _ _ _ _ _ _ := ⟨m_NAME_DEEDS, m_LIST_DEEDS, m_SHOWN_BY, ⟨lN, kN, by decide⟩, ⟨lL, kL, by decide⟩, ⟨lB, kB, by decide⟩, (fun z h => (List.mem_cons.mp h).elim (fun e => e ▸ He.eqO_ok q4) fun h => (List.mem_cons.mp h).elim (fun e => e ▸ He.eqO_ok q5) fun h => (List.mem_cons.mp h).elim (fun e => e ▸ He.eqO_ok q6) fun h => (List.mem_cons.mp h).elim (fun e => e ▸ He.eqO_ok q7) fun h => (List.mem_cons.mp h).elim (fun e => e ▸ He.eqO_ok q8) fun h => nomatch h), (fun z h => (List.mem_cons.mp h).elim (fun e => e ▸ He.eqO_ok q9) fun h => (List.mem_cons.mp h).elim (fun e => e ▸ He.eqO_ok q10) fun h => (List.mem_cons.mp h).elim (fun e => e ▸ He.eqO_ok q11) fun h => (List.mem_cons.mp h).elim (fun e => e ▸ He.eqO_ok q12) fun h => (List.mem_cons.mp h).elim (fun e => e ▸ He.eqO_ok q13) fun h => nomatch h), (fun z h => (List.mem_cons.mp h).elim (fun e => e ▸ He.eqO_ok q14) fun h => (List.mem_cons.mp h).elim (fun e => e ▸ He.eqO_ok q15) fun h => (List.mem_cons.mp h).elim (fun e => e ▸ He.eqO_ok q16) fun h => nomatch h), ⟨_, _, _, lB, kB, He.eqO_ok q17, rfl⟩, ⟨_, _, _, lB, kB, He.eqO_ok q18, rfl⟩⟩
  have o_do : FnOk PySem.Challenge.rw_figuredeeds_k18_spots_and_ways.prog w K mg base CX0 5 _ _ ["self", "one", "deed", "params"] (spDo w K (He.ga K "Ground") (He.ga K "Holding")) := ok_do (k := 4) (kH := 3) F_G_do hG cG (by decide) m_tuple T9 M_G_eyes o_ge k_eyes M_G_change_spot o_cs B_G_change_spot (vF.mono (by decide))
  have aT : FnG PySem.Challenge.rw_figuredeeds_k18_spots_and_ways.prog w K mg base CX0 1 "_law_take" ["_law_box_here", "_law_many"] spTake := D__law_take.g (ok_take D__law_take.F m_divmod)
  have aB : FnG PySem.Challenge.rw_figuredeeds_k18_spots_and_ways.prog w K mg base CX0 1 "_law_box" ["_law_script", "_law_k"] (spBox K) := D__law_box.g (ok_boxd D__law_box.F m_len m_abs m_int)
  have aN : FnG PySem.Challenge.rw_figuredeeds_k18_spots_and_ways.prog w K mg base CX0 2 "_law_names" ["_law_box_here", "_law_many"] spNames := D__law_names.g (ok_names D__law_names.F aT m_len m_range m_divmod)
  have aS : FnG PySem.Challenge.rw_figuredeeds_k18_spots_and_ways.prog w K mg base CX0 2 "_law_some" ["_law_box_here", "_law_names_here", "_law_most"] spSome := D__law_some.g (ok_some D__law_some.F aT)
  have aW : FnG PySem.Challenge.rw_figuredeeds_k18_spots_and_ways.prog w K mg base CX0 2 "_law_worth" ["_law_box_here"] spWorth := D__law_worth.g (ok_worth D__law_worth.F aT)
  have aP : FnG PySem.Challenge.rw_figuredeeds_k18_spots_and_ways.prog w K mg base CX0 3 "_law_pairs" ["_law_box_here", "_law_names_here"] spPairs := D__law_pairs.g (ok_pairs D__law_pairs.F aW m_tuple)
  have aR : FnG PySem.Challenge.rw_figuredeeds_k18_spots_and_ways.prog w K mg base CX0 3 "_law_rows" ["_law_box_here", "_law_names_here"] spRows := D__law_rows.g (ok_rows D__law_rows.F (aT.mono (by decide)) aW m_tuple m_range)
  have aPl : FnG PySem.Challenge.rw_figuredeeds_k18_spots_and_ways.prog w K mg base CX0 4 "_law_play" ["_law_box_here"] (spPlay K) := D__law_play.g (ok_play D__law_play.F (aT.mono (by decide)) (aN.mono (by decide)) (aS.mono (by decide)) aP aR m_tuple m_range)
  have aSm : FnG PySem.Challenge.rw_figuredeeds_k18_spots_and_ways.prog w K mg base CX0 9 "_law_same" ["_law_found", "_law_due"] (spSame K 9) := D__law_same.g (ok_same D__law_same.F ⟨m_isinstance, m_list, m_tuple, m_len, m_all, m_zip, m_str, m_int, m_bool⟩ D__law_same.m D__law_same.b 9)
  have aFa : FnG PySem.Challenge.rw_figuredeeds_k18_spots_and_ways.prog w K mg base CX0 2 "_law_far" ["_law_box_here"] spFar := D__law_far.g (ok_far D__law_far.F aT)
  have aDe : FnG PySem.Challenge.rw_figuredeeds_k18_spots_and_ways.prog w K mg base CX0 3 "_law_deed" ["_law_box_here"] spDeed := D__law_deed.g (ok_deed D__law_deed.F (aT.mono (by decide)) aFa)
  have aGo : FnG PySem.Challenge.rw_figuredeeds_k18_spots_and_ways.prog w K mg base CX0 1 "_law_gone" ["_law_size", "_law_spot", "_law_deed_here"] (spGone K) := D__law_gone.g (ok_gone D__law_gone.F m_max m_min)
  have aTo : FnG PySem.Challenge.rw_figuredeeds_k18_spots_and_ways.prog w K mg base CX0 4 "_law_told_of" ["_law_ground"] (spLTo w K (He.ga K "Ground") (He.ga K "Holding") T) := D__law_told_of.g (ok_ltold (k := 3) D__law_told_of.F cG (by decide) m_len gN gR gO gS gW gM gL)
  have gD : MthD PySem.Challenge.rw_figuredeeds_k18_spots_and_ways.prog w K mg base (He.ga K "Ground") (He.ga K "Holding") 38 := ⟨_, _, d_do, e_do, M_G_do, (o_do.mono (by decide)), b_do, v_do, he_do⟩
  have gC : MthG PySem.Challenge.rw_figuredeeds_k18_spots_and_ways.prog w K mg base (He.ga K "Ground") 38 "copy" ["self", "one"] (spGC w K (He.ga K "Ground") (He.ga K "Holding")) := ⟨_, _, M_G_copy, o_gc.mono (by decide), B_G_copy⟩
  have gO8 : MthG PySem.Challenge.rw_figuredeeds_k18_spots_and_ways.prog w K mg base (He.ga K "Ground") 38 "ones" ["self"] (spGo w K (He.ga K "Ground") (He.ga K "Holding") T) := ⟨_, _, M_G_ones, o_go.mono (by decide), B_G_ones⟩
  have gS8 : MthG PySem.Challenge.rw_figuredeeds_k18_spots_and_ways.prog w K mg base (He.ga K "Ground") 38 "spot" ["self", "one"] (spGS w K (He.ga K "Ground") (He.ga K "Holding")) := ⟨_, _, M_G_spot, o_gs.mono (by decide), B_G_spot⟩
  have gW8 : MthG PySem.Challenge.rw_figuredeeds_k18_spots_and_ways.prog w K mg base (He.ga K "Ground") 38 "is_shown" ["self", "one"] (spGW w K (He.ga K "Ground") (He.ga K "Holding")) := ⟨_, _, M_G_is_shown, o_gw.mono (by decide), B_G_is_shown⟩
  have gL8 : SpM PySem.Challenge.rw_figuredeeds_k18_spots_and_ways.prog w K mg base (He.ga K "Ground") 38 "__len__" ["self"] (spGL w K (He.ga K "Ground") (He.ga K "Holding")) := ⟨_, _, o_gl.mono (by decide), M_G___len__.at_, M_G___len__.fn, B_G___len__⟩
  have aRi : FnG PySem.Challenge.rw_figuredeeds_k18_spots_and_ways.prog w K mg base CX0 40 "_law_right" ["_law_box_here"] (spRi T) := D__law_right.g (ok_ri (k := 39) (kG := 3) D__law_right.F cG (by decide) (by decide) kG o_gi B_G___init__ m_Ground ⟨gC, gO8, gS8, gW8, gL8, gD, (aPl.mono (by decide)), (aT.mono (by decide)), (aDe.mono (by decide)), (aTo.mono (by decide)), (aGo.mono (by decide)), (aSm.mono (by decide))⟩ m_list m_len m_enumerate m_range)
  exact ⟨aB.mono (by decide), aRi, m_all, m_min, m_len, m_range⟩
end Fd

open PySem PySem.W PyProof.Rows
set_option Elab.async false
set_option linter.all false
set_option maxRecDepth 100000 in
set_option maxHeartbeats 0 in
theorem PySem.Challenge.cw_figuredeeds_k18_spots_and_ways_holds : PySem.Challenge.rw_figuredeeds_k18_spots_and_ways.Holds := by
  w_on; o_law
  refine Fw.head_many (r := Kk18.R) (D := Kk18.D) (q := Kk18.q) (loose := Kk18.loose) (H := Fw.hookV Kk18.fa Kk18.fn Kk18.ck Kk18.tf Kk18.as 473 Kk18.objs) (ob := Fw.obV Kk18.fa Kk18.fn Kk18.ck Kk18.tf Kk18.as 473) (d := HandSHeadRun.topDef Kk18.R.prog 53) (kwd := []) rfl Kk18.D_ok (fun s => Fw.obV_eq _ _ _ _ _ _ _ s) Kk18.op_ok Kk18.fe_ok Kk18.run
    (by kernel_rfl) (by kernel_rfl) (by kernel_rfl) (by rfl) (by first | assumption | decide +kernel) (by decide +kernel) ⟨rfl, rfl, rfl, rfl, rfl, by decide +kernel⟩ ?hw ?hc
  case hw => w_witness2
  case hc =>
    refine Fd.walk_exT (l := PySem.Challenge.rw_figuredeeds_k18_spots_and_ways) (n := 63) rfl (by decide) (by kernel_rfl) (by kernel_rfl) ?F
    intro w mg fa h Y G hmg
    exact Fd.law_mk Y G hmg

