import PyProof.Rows.All
import Wide.All
import OpenK.AllK
import Wide.FinOn
import HandS.Base
import HandS.Call
import HandS.List
import HandS.Comp
import HandS.Ends
import HandS.Iter
import HandS.Words
import HandS.WordsList
import HandS.TupMul
import HandS.TupAny
import HandS.IsInst
import HandS.Zip
import HandS.Style
import HandS.Wide
import HandS.GenList
import KE.KTupSum
import KE.KEqSeq
import HandS.TupSets
import PyProof.WalksMore
import HandS.Property
import KE.KOpsOwn
import HandS.OwnEq
import HandS.WordsExc
import HandS.ForExc
import HandS.TryMany
import HandS.ExcInit
import HandS.ExcField
import HandS.Lambda
import KE.KExcInit
import KE.SortData
import HandS.DictTup
import HandS.Conv
import HandS.Walk
import KE.KDictCopyH
import KE.KDictDisplayH
import KE.KDictSum
import PyProof.TupleOfSeq
import KE.SortKeyHeap
import HandS.SortKw
import HandS.SortOrd
import HandS.DictComp
import HandS.DictEq
import KE.KEqDict
import KE.KDictPairs
import HandS.Defaults
import HandS.Gcd
import HandS.Flow
import KE.KCallOwn
import OpenK.KOps
import OpenK.KMeth
import HandS.IterVal
import KE.KOwnIter
import HandS.Small
import PyProof.Rows.TupMore
import HandS.OwnIter
import PyProof.Conv_bool
import KE.KTupTruth
import HandS.Deep
import KE.DataMinMax
import HandS.More
import HandS.DeepEq
import HandS.Dict
import KE.GoesMore
import KE.KItemsList
import HandS.ExcValue
import KE.KMathGC
import HandS.TupLe
import HandS.RevRange
import HandS.FStr
import HandS.Text
import HandS.RaiseMore
import HandS.EndTab
import PySem.Challenge.RW_pureladders_k60_whole_pure_tables
set_option Elab.async false
set_option linter.all false
set_option maxRecDepth 100000
set_option maxHeartbeats 4000000
/-! rules that the layer lacks -/
namespace L5
open PySem PySem.Spec PyProof.Rows L2
/-! ### powers of great numbers -/
def CPowW (i j : Int) : Prop := 0 ≤ j ∧ (Builtin.Int.intBits i : Int) * j ≤ 2 ^ 27
theorem op_powW {X : Cx} : OpR X (binaryOp .Pow) (rI CPowW fun i j => .int (i ^ j.toNat)) := opI fun _ _ _ _ _ _ _ hc q => pow_int hc.1 hc.2 q
/-! ### sum and max of a tuple of ints -/
section
variable {pr : Program} {wd : World} {A : Around} {E : Value → Shared → Prop} {s : Shared} {tp : Addr} {us : List Value} {ms : List Int} {G : Value → Shared → Prop}
/-- a row of ints, as the library's walks want it -/
theorem items_of (hi : IntsAre us ms) : ∃ ws : Array (Int × Tok), us.toArray = intItems ws ∧ ws.toList.map (·.1) = ms := by
  obtain ⟨ws, ew⟩ := hi.allInts.items
  refine ⟨ws, ew, ?_⟩
  rw [← nums_intItems, ← ew]
  exact hi.numsOf
abbrev Stays (s : Shared) (h : Heap) : Prop := ∀ b o, s.heap.get? b = some o → h.get? b = some o
theorem sum_of_tuple (hh : A.handled = none) (ht : s.heap.IsTuple tp us.toArray) (hi : IntsAre us ms) (q : ∀ h n t, Stays s h → G (.int ms.sum t) { s with heap := h, toks := n }) :
    wpAny (model pr wd) A (call (.builtin "sum") [.ref tp]) G E s := by
  obtain ⟨ws, ew, en⟩ := items_of hi
  rw [ew] at ht
  refine PySem.W.ktm_sumG hh ht fun h n t kept => ?_
  have g := q h n t kept
  rw [← en] at g
  rw [preSum_eq, List.take_of_length_le (by rw [List.length_map, Array.length_toList]; exact Nat.le_refl _)]
  exact g
theorem max_of_tuple (hh : A.handled = none) (ht : s.heap.IsTuple tp us.toArray) (hi : IntsAre us ms) (some1 : 0 < ms.length) (q : ∀ h n M t, Stays s h → M ∈ ms → (∀ a, a ∈ ms → a ≤ M) → G (.int M t) { s with heap := h, toks := n }) :
    wpAny (model pr wd) A (call (.builtin "max") [.ref tp]) G E s := by
  obtain ⟨ws, ew, en⟩ := items_of hi
  subst en
  rw [ew] at ht
  have pos : 0 < ws.size := by simpa using some1
  have esz : (intItems ws).size = ws.size := by simp [intItems]
  obtain ⟨ob, hob, _⟩ := id ht
  have apart : tp ≠ s.heap.objs.size := Nat.ne_of_lt (Heap.lt_size hob)
  refine call_max_walk (wpAny_pyIter_tuple ht ?_)
  refine ⟨_, _, _, _, _, _, _, rfl, Walks.tuple (A := A.in1) hh s.heap.objs.size tp apart (intItems ws), ⟨⟨_, Heap.get?_push_size _ rfl, rfl, rfl⟩, ht.at fun o e => Heap.get?_push_of_some _ e⟩, fun b hb => ?_, by rw [esz]; exact pos, CmpOf.ints_gt (numAt ws) (fun _ _ => intItems_at), fun v h n hv kept => ?_⟩
  · have two : b = s.heap.objs.size ∨ b = tp := by simpa using hb
    rcases two with rfl | rfl
    · exact Heap.lt_size (o := _) (Heap.get?_push_size _ rfl)
    · exact Heap.lt_size (o := ob) (Heap.get?_push_of_some _ hob)
  · obtain ⟨t, rfl⟩ := intItems_at hv
    rw [esz] at *
    obtain ⟨top1, top2⟩ := argBest_gt (numAt ws) (ws.size - 1)
    have at_of : ∀ i, numAt ws i = (ws.toList.map (·.1)).getD i 0 := fun i => numAt_eq ..
    refine q h n _ t (fun b o e => kept b o (fun hb => ?_) (Heap.get?_push_of_some _ e)) ?_ fun a ha => ?_
    · rw [List.mem_singleton.mp hb] at e
      exact Nat.lt_irrefl _ (Heap.lt_size e)
    · rw [at_of]
      refine PySem.getD_mem ?_
      rw [List.length_map, Array.length_toList]
      omega
    · obtain ⟨i, less, rfl⟩ := mem_getD ha
      rw [List.length_map, Array.length_toList] at less
      rw [← at_of]
      exact top2 i (by omega)
end
section
variable {X : Cx}
def rSumT (K : PySem.W.Frag) : List V → Hp → VK → Prop := fun vs H Q => ∃ (a : Addr) (ns : List Int), vs = [V.ref a] ∧ SqT K H a (ns.map V.int) ∧ Q (.int ns.sum) H
theorem cr_sumT (calm : X.calm = true) : CallR X (.builtin "sum") (rSumT X.K) := fun _ _ _ _ _ _ _ I r h => by
  obtain ⟨_, _, rfl, ht, q⟩ := h
  obtain ⟨_, rv, plain, _⟩ := I.tuple ht
  rw [Vals.ref1 r]
  exact sum_of_tuple (I.ok.hd calm) plain rv.ints fun _ _ _ kept => ⟨.int _, _, I.kept kept, ⟨_, rfl⟩, q⟩
def rMaxT (K : PySem.W.Frag) : List V → Hp → VK → Prop := fun vs H Q => ∃ (a : Addr) (ns : List Int), vs = [V.ref a] ∧ SqT K H a (ns.map V.int) ∧ 0 < ns.length ∧ ∀ m, m ∈ ns → (∀ y, y ∈ ns → y ≤ m) → Q (.int m) H
theorem cr_maxT (calm : X.calm = true) : CallR X (.builtin "max") (rMaxT X.K) := fun _ _ _ _ _ _ _ I r h => by
  obtain ⟨_, _, rfl, ht, some1, q⟩ := h
  obtain ⟨_, rv, plain, _⟩ := I.tuple ht
  rw [Vals.ref1 r]
  exact max_of_tuple (I.ok.hd calm) plain rv.ints some1 fun _ _ m _ kept g1 g2 => ⟨.int m, _, I.kept kept, ⟨_, rfl⟩, q m g1 g2⟩
end
/-! ### tuple * int, any int: the tuple itself, the empty one, or a longer one -/
abbrev tupObj (items : Array Value) (n : Nat) (dd : Option Addr) (sl : Array (Option Value)) : Obj := { cls := .type "tuple", dict := dd, data := .seq items n, slots := sl }
theorem off_of {b : Bool} (h : b = false) : decide (b = true) = false := decide_eq_false (Bool.eq_false_iff.mp h)
theorem mul_same (tp : Addr) (items : Array Value) (n : Nat) (dd : Option Addr) (sl : Array (Option Value)) (x : Int) (u : Tok) (fits : (decide (x < -(2 ^ 63)) || decide (x ≥ 2 ^ 63)) = false) (same : (items.isEmpty || x == 1) = true) :
    Meets (Builtin.«tuple.__mul__» ⟨[.ref tp, .int x u], []⟩) (fun _ R s => s.heap.get? tp = some (tupObj items n dd sl) ∧ R (.ok (.ret (Value.ref tp))) { s with heap := s.heap, toks := s.toks }) :=
  .of_wp fun _ _ _ _ st both => by
    obtain ⟨_, _, _, _, _⟩ := st
    obtain ⟨at1, q⟩ := both
    have ix := AutoSeq1.idx_int
    wp_walk using wpAny_loadPart' at1
    repeat (first
      | (refine wpAny_ite_false (off_of fits) ?_; wp_walk using wpAny_loadPart' at1)
      | (refine wpAny_ite_true (decide_eq_true same) ?_; wp_walk using wpAny_loadPart' at1))
    exact ⟨_, rfl, q⟩
theorem mul_none (tp : Addr) (items : Array Value) (n : Nat) (dd : Option Addr) (sl : Array (Option Value)) (x : Int) (u : Tok) (fits : (decide (x < -(2 ^ 63)) || decide (x ≥ 2 ^ 63)) = false) (other : (items.isEmpty || x == 1) = false) (less : (decide (x ≤ 0) || items.isEmpty) = true) :
    Meets (Builtin.«tuple.__mul__» ⟨[.ref tp, .int x u], []⟩) (fun _ R s => s.heap.get? tp = some (tupObj items n dd sl) ∧
      R (.ok (.ret (Value.ref s.heap.objs.size))) { s with heap := s.heap.push { cls := Value.type "tuple", data := Data.seq #[] }, toks := s.toks }) :=
  .of_wp fun _ _ _ _ st both => by
    obtain ⟨_, _, _, _, _⟩ := st
    obtain ⟨at1, q⟩ := both
    have ix := AutoSeq1.idx_int
    wp_walk using wpAny_loadPart' at1
    repeat (first
      | (refine wpAny_ite_false (off_of fits) ?_; wp_walk using wpAny_loadPart' at1)
      | (refine wpAny_ite_false (off_of other) ?_; wp_walk using wpAny_loadPart' at1)
      | (refine wpAny_ite_true (decide_eq_true less) ?_; wp_walk using wpAny_loadPart' at1))
    exact ⟨_, rfl, q⟩
def rRepA (K : PySem.W.Frag) : R2 := fun x y H Q => ∃ l k xs, x = .ref l ∧ y = .int k ∧ SqT K H l xs ∧ xs ≠ [] ∧ -1000 ≤ k ∧ k ≤ 1000 ∧ xs.length ≤ 1000 ∧
  (k = 1 → Q (.ref l) H) ∧ (k ≠ 1 → ∀ p, H p = none → Q (.ref p) (upd H p (.tup (List.replicate k.toNat xs).flatten)))
section
variable {X : Cx}
theorem op_repA : OpR X (binaryOp .Mult) (rRepA X.K) := fun pins s σ H x y v u Q I rx ry h => by
  obtain ⟨tp, k, xs, rfl, rfl, isT, full, lo, hi, short, qa, qb⟩ := h
  by_cases two : 2 ≤ k
  · exact op_repT pins s σ H _ _ v u Q I rx ry ⟨tp, k, xs, rfl, rfl, isT, full, two, hi, short, qb (by omega)⟩
  cases rx
  obtain ⟨tk, rfl⟩ := ry
  obtain ⟨its, r, ⟨⟨c, dd, dt, sl⟩, ho, hc, n, hd⟩, _⟩ := I.tuple isT
  simp only at hc hd
  subst hc hd
  have filled : its.toArray.isEmpty = false := by
    cases its with
    | nil =>
      cases r
      exact absurd rfl full
    | cons _ _ => rfl
  have fits : (decide (k < -(2 ^ 63)) || decide (k ≥ 2 ^ 63)) = false := Bool.or_eq_false_iff.mpr ⟨decide_eq_false (by omega), decide_eq_false (by omega)⟩
  by_cases one : k = 1
  · subst one
    refine wpAny_binaryOp_repeat_ref (T := "tuple") (U := "int") (by decide) ⟨_, ho, rfl⟩ (fun z => typeIs_int z _ tk) noFill_tuple_mul F.fills_int_mul F.slot_int_rmul repeat_tuple F.slot_int_index.lookup
      (call_meets F.slot_int_rmul (typeIs_int s _ tk) F.entry_int_rmul (F.args_int_rmul_2 _ _) (int_rmul_tuple _ tk tp its.toArray n dd sl)
        ⟨ho, rfl, ⟨_, ho, rfl⟩, call_meets F.slot_tuple_mul ⟨_, ho, rfl⟩ F.entry_tuple_mul (F.args_tuple_mul_2 _ _) (mul_same tp its.toArray n dd sl 1 tk fits (by rw [filled]; rfl)) ⟨ho, ?_⟩⟩)
    exact ⟨.ref tp, H, I, rfl, qa rfl⟩
  · have other : (its.toArray.isEmpty || k == 1) = false := Bool.or_eq_false_iff.mpr ⟨filled, beq_eq_false_iff_ne.mpr one⟩
    have less : (decide (k ≤ 0) || its.toArray.isEmpty) = true := Bool.or_eq_true_iff.mpr (.inl (decide_eq_true (by omega)))
    refine wpAny_binaryOp_repeat_ref (T := "tuple") (U := "int") (by decide) ⟨_, ho, rfl⟩ (fun z => typeIs_int z k tk) noFill_tuple_mul F.fills_int_mul F.slot_int_rmul repeat_tuple F.slot_int_index.lookup
      (call_meets F.slot_int_rmul (typeIs_int s k tk) F.entry_int_rmul (F.args_int_rmul_2 _ _) (int_rmul_tuple k tk tp its.toArray n dd sl)
        ⟨ho, rfl, ⟨_, ho, rfl⟩, call_meets F.slot_tuple_mul ⟨_, ho, rfl⟩ F.entry_tuple_mul (F.args_tuple_mul_2 _ _) (mul_none tp its.toArray n dd sl k tk fits other less) ⟨ho, ?_⟩⟩)
    have e0 : (List.replicate k.toNat xs).flatten = [] := by
      rw [show k.toNat = 0 by omega]
      rfl
    have q := qb one s.heap.objs.size (I.hok.fresh (Nat.le_refl _))
    rw [e0] at q
    exact ⟨.ref s.heap.objs.size, _, I.laid (t' := s.toks) (o := .tup []) (fun _ _ e => Heap.get?_push_of_some _ e) (Nat.le_refl _) ⟨Nat.zero_le _, [], .nil, IsTup.new _ _⟩, rfl, q⟩
end
/-! ### words for what stands in the heap -/
section
variable {K : PySem.W.Frag} {H H' : Hp}
abbrev nv (t : List Nat) : List V := t.map fun n => V.int ((n : Nat) : Int)
theorem nv_ints (t : List Nat) : nv t = (t.map fun n => ((n : Nat) : Int)).map V.int := by
  rw [List.map_map]
  rfl
theorem nv_len (t : List Nat) : (nv t).length = t.length := List.length_map _
theorem nv_app (t u : List Nat) : nv (t ++ u) = nv t ++ nv u := List.map_append
theorem nv_get {t : List Nat} {i : Nat} {x : V} (h : (nv t)[i]? = some x) : ∃ n, t[i]? = some n ∧ x = .int ((n : Nat) : Int) := by
  rw [List.getElem?_map] at h
  cases e : t[i]? with
  | none =>
    rw [e] at h
    cases h
  | some n =>
    rw [e] at h
    exact ⟨n, rfl, (Option.some.inj h).symm⟩
theorem nv_at {t : List Nat} {i n : Nat} (h : t[i]? = some n) : atI (nv t) (i : Int) = some (.int ((n : Nat) : Int)) := atI_nat (by rw [List.getElem?_map, h] <;> rfl)
theorem sizeK {n : Nat} (h : n ≤ 1000000) : n < sizeLine := Nat.lt_of_le_of_lt h (by decide)
theorem same_updL {p : Addr} {o : HO} (s : Same H H') (hp : H p = none) : Same H (upd H' p o) := fun b u q => by
  rw [upd_ne (ne_of_none q hp)]
  exact s b u q
theorem sqt_updL {a p : Addr} {xs ys : List V} {o : HO} (hp : H p = some (.lst ys)) (h : SqT K H a xs) : SqT K (upd H p o) a xs := by
  have ne : ∀ u, H a = some u → u ≠ .lst ys → a ≠ p := fun u e n z => by
    rw [z, hp] at e
    exact n (Option.some.inj e).symm
  rcases h with (h | ⟨o, h⟩) | h
  · exact .inl (.inl (by rw [upd_ne (ne _ h (by intro z; cases z))]; exact h))
  · exact .inl (.inr ⟨o, by rw [upd_ne (ne _ h (by intro z; cases z))]; exact h⟩)
  · exact .inr h
theorem sql_updL {a p : Addr} {xs : List V} {o : HO} (hne : a ≠ p) (h : SqL K H a xs) : SqL K (upd H p o) a xs := by
  rcases h with (h | ⟨o, h⟩) | h
  · exact .inl (.inl (by rw [upd_ne hne]; exact h))
  · exact .inl (.inr ⟨o, by rw [upd_ne hne]; exact h⟩)
  · exact .inr h
theorem sum_cast (t : List Nat) : (t.map fun n => ((n : Nat) : Int)).sum = ((t.sum : Nat) : Int) := by
  induction t with
  | nil => rfl
  | cons x r ih => rw [List.map_cons, List.sum_cons, List.sum_cons, ih]; omega
theorem same_sqt {a : Addr} {xs : List V} (e : Same H H') (h : SqT K H a xs) : SqT K H' a xs := by
  rcases h with (h | ⟨o, h⟩) | h
  · exact .inl (.inl (e _ _ h))
  · exact .inl (.inr ⟨o, e _ _ h⟩)
  · exact .inr h
theorem same_new {p : Addr} (h : H p = none) (o : HO) : Same H (upd H p o) := fun b u q => by rw [upd_ne (ne_of_none q h)]; exact q
def Tups (K : PySem.W.Frag) (H : Hp) : List Addr → List (List Nat) → Prop := Paired fun a t => SqT K H a (nv t)
theorem Tups.same (e : Same H H') : ∀ {rs : List Addr} {L : List (List Nat)}, Tups K H rs L → Tups K H' rs L
  | _, _, .nil => .nil
  | _, _, .cons h t => .cons (same_sqt e h) (Tups.same e t)
theorem Tups.updL {p : Addr} {ys : List V} {o : HO} (hp : H p = some (.lst ys)) : ∀ {rs : List Addr} {L : List (List Nat)}, Tups K H rs L → Tups K (upd H p o) rs L
  | _, _, .nil => .nil
  | _, _, .cons h t => .cons (sqt_updL hp h) (Tups.updL hp t)
theorem Tups.length : ∀ {rs : List Addr} {L : List (List Nat)}, Tups K H rs L → rs.length = L.length
  | _, _, .nil => rfl
  | _, _, .cons _ t => congrArg (· + 1) (Tups.length t)
theorem Tups.app : ∀ {rs qs : List Addr} {L M : List (List Nat)}, Tups K H rs L → Tups K H qs M → Tups K H (rs ++ qs) (L ++ M)
  | _, _, _, _, .nil, s => s
  | _, _, _, _, .cons r t, s => .cons r (Tups.app t s)
theorem Tups.rev {rs : List Addr} {L : List (List Nat)} (h : Tups K H rs L) : Tups K H rs.reverse L.reverse := by
  induction h with
  | nil => exact .nil
  | cons r t ih =>
    rw [List.reverse_cons, List.reverse_cons]
    exact ih.app (.cons r .nil)
theorem Tups.get : ∀ {rs : List Addr} {L : List (List Nat)} {i : Nat} {a : Addr}, Tups K H rs L → rs[i]? = some a → ∃ t, L[i]? = some t ∧ SqT K H a (nv t)
  | _, _, _, _, .nil, e => by simp at e
  | _, _, 0, _, .cons r _, e => by simp at e; subst e; exact ⟨_, rfl, r⟩
  | _, _, i + 1, a, .cons _ t, e => by
    obtain ⟨u, h1, h2⟩ := Tups.get (i := i) (a := a) t (by simpa using e)
    exact ⟨u, by simpa using h1, h2⟩
theorem sqt_ty {a : Addr} {xs : List V} (h : SqT K H a xs) : TyX K H (.ref a) (.type "tuple") := by
  rcases h with (h | ⟨o, h⟩) | ⟨o, its, n, e, c, _⟩
  · exact .base (.tup h)
  · exact .fTuple h
  · exact .kTuple e c
/-- as data -/
abbrev encT (t : List Nat) : PyData := .tuple (t.map fun n => PyData.int ((n : Nat) : Int))
theorem dp_nats : ∀ (t : List Nat), DpAll K H (nv t) (t.map fun n => PyData.int ((n : Nat) : Int))
  | [] => .nil
  | n :: t => .cons (.int _) (dp_nats t)
theorem dp_tup {a : Addr} {t : List Nat} (h : SqT K H a (nv t)) : Dp K H (.ref a) (encT t) := .tup h (dp_nats t)
theorem dp_tups : ∀ {rs : List Addr} {L : List (List Nat)}, Tups K H rs L → DpAll K H (rs.map V.ref) (L.map encT)
  | _, _, .nil => .nil
  | _, _, .cons h t => .cons (dp_tup h) (dp_tups t)
theorem can_nats : ∀ t : List Nat, PyData.canLayAll0 (t.map fun n => PyData.int ((n : Nat) : Int)) = true ∧ PyData.depthAll (t.map fun n => PyData.int ((n : Nat) : Int)) = 0
  | [] => by simp [PyData.canLayAll0, PyData.depthAll]
  | n :: t => by
    have h := can_nats t
    simp only [List.map_cons, PyData.canLayAll0, PyData.depthAll, h.1, h.2, PyData.canLay0, PyData.depth]
    simp
theorem can_tups : ∀ L : List (List Nat), PyData.canLayAll0 (L.map encT) = true ∧ PyData.depthAll (L.map encT) ≤ 1
  | [] => by simp [PyData.canLayAll0, PyData.depthAll]
  | t :: L => by
    have h := can_tups L
    have g := can_nats t
    simp only [List.map_cons, PyData.canLayAll0, PyData.depthAll, h.1, PyData.canLay0, PyData.depth, g.1, g.2]
    exact ⟨by simp, by omega⟩
theorem shaped_tups (L : List (List Nat)) : SeqAt.shaped (.list (L.map encT)) = true := by
  have h := can_tups L
  unfold SeqAt.shaped
  simp only [PyData.canLay0, PyData.depth, h.1, Bool.true_and]
  exact decide_eq_true (by omega)
theorem eqv_tups (L : List (List Nat)) : PyData.eqv (.list (L.map encT)) (.list (L.map encT)) = true := SeqAt.eqv_refl _ (by
  simp only [PyData.canLay0]
  exact (can_tups L).1)
theorem shaped_tup (t : List Nat) : SeqAt.shaped (encT t) = true := by
  have g := can_nats t
  unfold SeqAt.shaped
  simp only [encT, PyData.canLay0, PyData.depth, g.1, g.2, Bool.true_and]
  exact decide_eq_true (by omega)
theorem eqv_tup (t : List Nat) : PyData.eqv (encT t) (encT t) = true := SeqAt.eqv_refl _ (by
  simp only [encT, PyData.canLay0]
  exact (can_nats t).1)
end
end L5

namespace W7
open PySem PySem.Spec PyProof.Rows L2
section
variable {P : Program} {w : World} {A : Around} {E : Value → Shared → Prop} {s : Shared}
theorem set_of_tuple {l : Addr} {items9 : Array Value} (ks9 : List (Addr × List Int)) {Q : Value → Shared → Prop} (hh9 : A.handled = none) (hl9 : s.heap.IsTuple l items9) (hit9 : items9.toList = ks9.map fun p => Value.ref p.1)
    (hk9 : ∀ p ∈ ks9, IsT P w s.heap p.2 p.1) (hfew9 : ks9.length < 64) (hu9 : A.units + 3 < cLine)
    (h : ∀ (h' : Heap) (tk9 : Nat) L es9 ep9 t, SetTR P w h' s.heap.objs.size L es9 ep9 t → Got ks9 ks9.length L → (∀ b o, s.heap.get? b = some o → h'.get? b = some o) → Q (.ref s.heap.objs.size) { s with heap := h', toks := tk9 }) :
    wpAny (model P w) A (call (.type "set") [.ref l]) Q E s := by
  have hisz9 : items9.size = ks9.length := by
    have q9 := congrArg List.length hit9
    rw [Array.length_toList, List.length_map] at q9
    exact q9
  obtain ⟨c9, tl9, hmro9⟩ := F.called_set.mro
  have hmade9 := F.called_set.made
  have hsub9 := F.called_set.sub
  refine wpAny_call (codeAny_of_tree ?_)
  show wpAny _ _ (callAny (.type "set") _) _ _ _
  refine wpAny_pure ⟨Code.quiet_builtin _ (by decide +kernel), codeAny_builtin F.entry_type_call ?_⟩
  rw [Around.under_plain (weight_type_call_type "set" [.ref l] []) rfl]
  have h19 := F.called_set.notType
  have h29 := F.called_set.canCreate
  have hct9 := F.typeCall_set_1 (.ref l)
  repeat (any_goals (first | assumption | wp_step))

  refine codeAny_mono (code_set_led1 (.ref l) (E := E) (Q₁ := fun obj9 sa9 => obj9 = .ref s.heap.objs.size ∧ sa9 = { s with heap := s.heap.push { cls := .type "set", dict := none, data := .set #[] 0 (.fresh 0 0 (!w.params.followText "set-order")) } }) ⟨rfl, rfl⟩) fun r sa9 hr9 => ?_
  cases r with
  | error e => exact hr9
  | ok fl9 =>
    cases fl9 with
    | ret obj9 =>
      obtain ⟨rfl, rfl⟩ := hr9
      have hS9 : (s.heap.push { cls := .type "set", dict := none, data := .set #[] 0 (.fresh 0 0 (!w.params.followText "set-order")) }).get? s.heap.objs.size = some { cls := .type "set", dict := none, data := .set #[] 0 (.fresh 0 0 (!w.params.followText "set-order")) } := Heap.get?_push_size _ rfl
      have hT9 : Shared.TypeIs { s with heap := s.heap.push { cls := .type "set", dict := none, data := .set #[] 0 (.fresh 0 0 (!w.params.followText "set-order")) } } (.ref s.heap.objs.size) "set" := ⟨_, hS9, rfl⟩
      have hli9 := F.called_set.init.lookup
      have hbi9 := F.called_set.init.bind (.ref s.heap.objs.size)
      repeat (any_goals (first | assumption | wp_step))

      refine codeAny_mono (codeAny_call_builtin (R := wants (fun r sb9 => r = .none ∧ ∃ h' tk9 L es9 ep9 t, sb9 = { s with heap := h', toks := tk9 } ∧ SetTR P w h' s.heap.objs.size L es9 ep9 t ∧ Got ks9 ks9.length L ∧
          (∀ b o, s.heap.get? b = some o → h'.get? b = some o)) E) F.called_set.init.plain F.entry_set_init (check_set_init_1 hT9 ?_)) fun rb9 sb9 hrb9 => ?_
      · obtain ⟨ol9, hol9, hcl9, nl9, hdl9⟩ := hl9
        obtain ⟨ocls9, odict9, odata9, oslots9⟩ := ol9
        simp only at hcl9 hdl9
        subst hcl9; subst hdl9
        have hol' : (s.heap.push { cls := .type "set", dict := none, data := .set #[] 0 (.fresh 0 0 (!w.params.followText "set-order")) }).get? l = some { cls := .type "tuple", dict := odict9, data := .seq items9 nl9, slots := oslots9 } := Heap.get?_push_of_some _ hol9
        have hsls9 := F.sub_tuple_set
        have hslf9 := F.sub_tuple_frozenset
        have hne9 : (Value.type "tuple" == Value.type "dict") = false := by decide
        have hl19 : (s.heap.push { cls := .type "set", dict := none, data := .set #[] 0 (.fresh 0 0 (!w.params.followText "set-order")) }).IsTuple l items9 := ⟨_, hol', rfl, nl9, rfl⟩
        unfold Builtin.«set.__init__» noKeywords Builtin.Frozenset.updateFrom
        generalize hPI9 : pyIter = PI9
        wp_walk
        subst hPI9

        refine wpAny_pyIter_tuple hl19 ?_
        refine wpAny_bind (wpAny_runValue ?_)
        have hlS9 : l < s.heap.objs.size := Heap.lt_size hol9
        have hh39 : A.in1.in1.in1.handled = none := by simp [hh9]
        have hz19 : (s.heap.push { cls := .type "set", dict := none, data := .set #[] 0 (.fresh 0 0 (!w.params.followText "set-order")) }).objs.size = s.heap.objs.size + 1 := Heap.size_push ..
        have hneI9 : l ≠ (s.heap.push { cls := .type "set", dict := none, data := .set #[] 0 (.fresh 0 0 (!w.params.followText "set-order")) }).objs.size := by
          rw [Heap.size_push]; exact Nat.ne_of_lt (Nat.lt_succ_of_lt hlS9)
        have hSf9 : s.heap.objs.size ∉ [(s.heap.push { cls := .type "set", dict := none, data := .set #[] 0 (.fresh 0 0 (!w.params.followText "set-order")) }).objs.size, l] := by
          rw [Heap.size_push]; simp only [List.mem_cons, List.mem_singleton, List.not_mem_nil, or_false, not_or]
          exact ⟨Nat.ne_of_lt (Nat.lt_succ_self _), Nat.ne_of_gt hlS9⟩
        have hval9 : ∀ (i : Nat) (v : Value), items9[i]? = some v → ∃ p, ks9[i]? = some p ∧ v = .ref p.1 := fun i v hv => by
          have q9 : items9.toList[i]? = some v := by rw [Array.getElem?_toList]; exact hv
          rw [hit9, List.getElem?_map] at q9
          cases hq : ks9[i]? with
          | none => rw [hq] at q9; cases q9
          | some p =>
            rw [hq] at q9
            exact ⟨p, rfl, (Option.some.inj q9).symm⟩
        have none_of9 : ∀ b, s.heap.objs.size ≤ b → s.heap.get? b = none := fun b hb => by
          cases q9 : s.heap.get? b with
          | none => rfl
          | some o => exact absurd (Nat.lt_of_lt_of_le (Heap.lt_size q9) hb) (Nat.lt_irrefl _)
        refine set_update_tups ((Walks.tuple hh39 _ l hneI9 items9).toS) s.heap.objs.size
          hSf9 ks9 hisz9 hfew9 hval9 s.heap hk9 (none_of9 _ (Nat.le_refl _)) (fun b hb => none_of9 b (by
            rw [List.mem_singleton.mp hb, Heap.size_push]
            exact Nat.le_succ _)) hu9 (items9.size - 0) 0 _ (by omega) (Nat.zero_le _)
          ⟨⟨_, Heap.get?_push_size _ rfl, rfl, rfl⟩, (hl19.at fun o e => Heap.get?_push_of_some _ e)⟩ (fun b o e => Heap.get?_push_of_some _ (Heap.get?_push_of_some _ e)) ?hS0 ?hR
        case hS0 =>
          have hget9 : ((s.heap.push { cls := .type "set", dict := none, data := .set #[] 0 (.fresh 0 0 (!w.params.followText "set-order")) }).push { cls := .type "tuple_iterator", data := .fields #[.ref l, .int 0 0] }).get? s.heap.objs.size
              = some { cls := .type "set", dict := none, data := .set #[] 0 (.fresh 0 0 (!w.params.followText "set-order")) } := Heap.get?_push_of_some _ hS9
          exact ⟨[], #[], 0, _, setTR_fresh hget9, Got.zero ks9⟩
        case hR =>
          intro s' L es9 ep9 t hm9 hSq9 gq9 hkp9
          obtain ⟨h', g29, dq9, tkq9, osq9⟩ := s'
          have eg9 : g29 = s.gens := hm9.gens
          have ed9 : dq9 = s.drawn := hm9.drawn
          have eo9 : osq9 = s.os := hm9.os
          subst eg9; subst ed9; subst eo9
          show wpAny _ _ _ _ _ _
          refine wpAny_pure ?_
          show wpAny _ _ (ret Value.none) _ _ _
          rw [hisz9] at gq9
          exact wpAny_pure ⟨rfl, h', tkq9, L, es9, ep9, t, rfl, hSq9, gq9, hkp9⟩

      · cases rb9 with
        | error e => exact hrb9
        | ok flb9 =>
          cases flb9 with
          | ret r =>
            obtain ⟨rfl, h', tk9, L, es9, ep9, t, rfl, hSq9, gq9, hkq9⟩ := hrb9
            repeat (any_goals (first | assumption | wp_step))
            exact h _ _ _ _ _ _ hSq9 gq9 hkq9
          | _ => exact hrb9.elim
    | _ => exact hr9.elim

end
end W7

/-! plain mathematics: lists of tuples of numbers, in the order of their entries; least ones -/
namespace M7
/-- entry by entry at most -/
def fitB : List Nat → List Nat → Bool
  | a :: t, b :: u => decide (a ≤ b) && fitB t u
  | _, _ => true
/-- before, at the first entry that is unlike -/
def ltN : List Nat → List Nat → Bool
  | a :: t, b :: u => decide (a < b) || (decide (a = b) && ltN t u)
  | _, _ => false
theorem fit_refl : ∀ t, fitB t t = true
  | [] => rfl
  | a :: t => by
    show (decide (a ≤ a) && fitB t t) = true
    rw [fit_refl t, decide_eq_true (Nat.le_refl a)]
    rfl
theorem fit_cons {a b : Nat} {t u : List Nat} : fitB (a :: t) (b :: u) = true ↔ a ≤ b ∧ fitB t u = true := by
  show (decide (a ≤ b) && fitB t u) = true ↔ _
  rw [Bool.and_eq_true, decide_eq_true_iff]
theorem fit_trans : ∀ {t u v : List Nat}, u.length = t.length → fitB t u = true → fitB u v = true → fitB t v = true
  | [], _, _, _, _, _ => by simp [fitB]
  | _ :: _, [], _, h, _, _ => by simp at h
  | _ :: _, _ :: _, [], _, _, _ => by simp [fitB]
  | a :: t, b :: u, c :: v, h, h1, h2 => by
    rw [fit_cons] at h1 h2 ⊢
    exact ⟨Nat.le_trans h1.1 h2.1, fit_trans (by simpa using h) h1.2 h2.2⟩
theorem fit_anti : ∀ {t u : List Nat}, u.length = t.length → fitB t u = true → fitB u t = true → t = u
  | [], [], _, _, _ => rfl
  | [], _ :: _, h, _, _ => by simp at h
  | _ :: _, [], h, _, _ => by simp at h
  | a :: t, b :: u, h, h1, h2 => by
    rw [fit_cons] at h1 h2
    rw [Nat.le_antisymm h1.1 h2.1, fit_anti (by simpa using h) h1.2 h2.2]
theorem lt_cons {a b : Nat} {t u : List Nat} : ltN (a :: t) (b :: u) = true ↔ a < b ∨ (a = b ∧ ltN t u = true) := by
  show (decide (a < b) || (decide (a = b) && ltN t u)) = true ↔ _
  rw [Bool.or_eq_true, Bool.and_eq_true, decide_eq_true_iff, decide_eq_true_iff]
theorem lt_irr : ∀ t, ltN t t = false
  | [] => rfl
  | a :: t => by
    cases h : ltN (a :: t) (a :: t) with
    | false => rfl
    | true =>
      rcases lt_cons.mp h with z | ⟨_, z⟩
      · omega
      · rw [lt_irr t] at z
        cases z
theorem lt_trans : ∀ {t u v : List Nat}, ltN t u = true → ltN u v = true → ltN t v = true
  | [], _, _, h, _ => by simp [ltN] at h
  | _ :: _, [], _, h, _ => by simp [ltN] at h
  | _ :: _, _ :: _, [], _, h => by simp [ltN] at h
  | a :: t, b :: u, c :: v, h1, h2 => by
    rw [lt_cons] at h1 h2 ⊢
    rcases h1 with h1 | ⟨h1, k1⟩ <;> rcases h2 with h2 | ⟨h2, k2⟩
    · exact .inl (by omega)
    · exact .inl (by omega)
    · exact .inl (by omega)
    · exact .inr ⟨by omega, lt_trans k1 k2⟩
theorem lt_tri : ∀ {t u : List Nat}, u.length = t.length → t ≠ u → ltN t u = true ∨ ltN u t = true
  | [], [], _, h => absurd rfl h
  | [], _ :: _, h, _ => by simp at h
  | _ :: _, [], h, _ => by simp at h
  | a :: t, b :: u, hl, h => by
    rw [lt_cons, lt_cons]
    rcases Nat.lt_trichotomy a b with z | z | z
    · exact .inl (.inl z)
    · subst z
      rcases lt_tri (t := t) (u := u) (by simpa using hl) (fun e => h (by rw [e])) with k | k
      · exact .inl (.inr ⟨rfl, k⟩)
      · exact .inr (.inr ⟨rfl, k⟩)
    · exact .inr (.inl z)
theorem fit_lt : ∀ {t u : List Nat}, u.length = t.length → fitB t u = true → t ≠ u → ltN t u = true
  | [], [], _, _, h => absurd rfl h
  | [], _ :: _, h, _, _ => by simp at h
  | _ :: _, [], h, _, _ => by simp at h
  | a :: t, b :: u, hl, hf, h => by
    rw [fit_cons] at hf
    rw [lt_cons]
    rcases Nat.lt_or_eq_of_le hf.1 with z | z
    · exact .inl z
    · subst z
      exact .inr ⟨rfl, fit_lt (by simpa using hl) hf.2 fun e => h (by rw [e])⟩
theorem fit_sum : ∀ {t u : List Nat}, u.length = t.length → fitB t u = true → t.sum ≤ u.sum ∧ (t ≠ u → t.sum < u.sum)
  | [], [], _, _ => ⟨Nat.le_refl _, fun h => absurd rfl h⟩
  | [], _ :: _, h, _ => by simp at h
  | _ :: _, [], h, _ => by simp at h
  | a :: t, b :: u, hl, hf => by
    rw [fit_cons] at hf
    obtain ⟨h1, h2⟩ := fit_sum (t := t) (u := u) (by simpa using hl) hf.2
    simp only [List.sum_cons]
    refine ⟨by omega, fun h => ?_⟩
    rcases Nat.lt_or_eq_of_le hf.1 with z | z
    · omega
    · subst z
      have := h2 fun e => h (by rw [e])
      omega
/-! ### lists that ascend -/
abbrev Asc (A : List (List Nat)) : Prop := A.Pairwise fun t u => ltN t u = true
theorem asc_unique : ∀ {A B : List (List Nat)}, Asc A → Asc B → (∀ x, x ∈ A ↔ x ∈ B) → A = B
  | [], [], _, _, _ => rfl
  | [], b :: B, _, _, h => by simpa using (h b).mpr List.mem_cons_self
  | a :: A, [], _, _, h => by simpa using (h a).mp List.mem_cons_self
  | a :: A, b :: B, h1, h2, h => by
    obtain ⟨a1, a2⟩ := List.pairwise_cons.mp h1
    obtain ⟨b1, b2⟩ := List.pairwise_cons.mp h2
    have e : a = b := by
      rcases List.mem_cons.mp ((h a).mp List.mem_cons_self) with z | z
      · exact z
      · rcases List.mem_cons.mp ((h b).mpr List.mem_cons_self) with k | k
        · exact k.symm
        · have := lt_trans (b1 a z) (a1 b k)
          rw [lt_irr] at this
          cases this
    subst e
    rw [asc_unique a2 b2 fun x => ?_]
    constructor
    · intro hx
      rcases List.mem_cons.mp ((h x).mp (List.mem_cons_of_mem _ hx)) with z | z
      · subst z
        have := a1 x hx
        rw [lt_irr] at this
        cases this
      · exact z
    · intro hx
      rcases List.mem_cons.mp ((h x).mpr (List.mem_cons_of_mem _ hx)) with z | z
      · subst z
        have := b1 x hx
        rw [lt_irr] at this
        cases this
      · exact z
def insN (x : List Nat) : List (List Nat) → List (List Nat)
  | [] => [x]
  | y :: r => if x = y then y :: r else if ltN x y = true then x :: y :: r else y :: insN x r
theorem mem_ins {x z : List Nat} : ∀ {L : List (List Nat)}, z ∈ insN x L ↔ z = x ∨ z ∈ L
  | [] => by simp [insN]
  | y :: r => by
    unfold insN
    split
    · rename_i h
      subst h
      simp
    · split
      · simp
      · rw [List.mem_cons, mem_ins, List.mem_cons]
        constructor
        · rintro (h | h | h)
          · exact .inr (.inl h)
          · exact .inl h
          · exact .inr (.inr h)
        · rintro (h | h | h)
          · exact .inr (.inl h)
          · exact .inl h
          · exact .inr (.inr h)
theorem asc_ins {x : List Nat} : ∀ {L : List (List Nat)}, (∀ y ∈ L, y.length = x.length) → Asc L → Asc (insN x L)
  | [], _, _ => List.pairwise_cons.mpr ⟨fun _ h => by simp at h, .nil⟩
  | y :: r, hl, h => by
    obtain ⟨h1, h2⟩ := List.pairwise_cons.mp h
    unfold insN
    split
    · exact h
    · rename_i hne
      split
      · rename_i hlt
        refine List.pairwise_cons.mpr ⟨fun z hz => ?_, h⟩
        rcases List.mem_cons.mp hz with e | e
        · rw [e]
          exact hlt
        · exact lt_trans hlt (h1 z e)
      · rename_i hn
        refine List.pairwise_cons.mpr ⟨fun z hz => ?_, asc_ins (fun y hy => hl y (List.mem_cons_of_mem _ hy)) h2⟩
        rcases mem_ins.mp hz with e | e
        · rw [e]
          rcases lt_tri (t := x) (u := y) (hl y List.mem_cons_self) hne with k | k
          · exact absurd k hn
          · exact k
        · exact h1 z e
def canonN (L : List (List Nat)) : List (List Nat) := L.foldr insN []
theorem mem_canon {z : List Nat} : ∀ {L : List (List Nat)}, z ∈ canonN L ↔ z ∈ L
  | [] => Iff.rfl
  | x :: L => by
    show z ∈ insN x (canonN L) ↔ _
    rw [mem_ins, mem_canon, List.mem_cons]
theorem asc_canon {d : Nat} : ∀ {L : List (List Nat)}, (∀ y ∈ L, y.length = d) → Asc (canonN L)
  | [], _ => .nil
  | x :: L, h => asc_ins (fun y hy => by rw [h y (List.mem_cons_of_mem _ (mem_canon.mp hy)), h x List.mem_cons_self]) (asc_canon fun y hy => h y (List.mem_cons_of_mem _ hy))
theorem canon_len : ∀ L : List (List Nat), (canonN L).length ≤ L.length
  | [] => Nat.le_refl _
  | x :: L => by
    have h := canon_len L
    have k : ∀ M : List (List Nat), (insN x M).length ≤ M.length + 1 := fun M => by
      induction M with
      | nil => exact Nat.le_refl _
      | cons y r ih =>
        unfold insN
        split
        · exact Nat.le_succ _
        · split
          · exact Nat.le_refl _
          · exact Nat.succ_le_succ ih
    exact Nat.le_trans (k _) (Nat.succ_le_succ h)
theorem canon_of {d : Nat} {A L : List (List Nat)} (hA : Asc A) (hd : ∀ y ∈ L, y.length = d) (h : ∀ x, x ∈ A ↔ x ∈ L) : A = canonN L :=
  asc_unique hA (asc_canon hd) fun x => (h x).trans mem_canon.symm
/-! ### least ones -/
abbrev takeN (kept : List (List Nat)) (p : List Nat) : List (List Nat) := if (kept.any fun k => fitB k p) = true then kept else kept ++ [p]
def keepN (A : List (List Nat)) : List (List Nat) := A.foldl takeN []
def minB (A : List (List Nat)) (p : List Nat) : Bool := !(A.any fun q => decide (q ≠ p) && fitB q p)
def leastN (L : List (List Nat)) : List (List Nat) := (canonN L).filter (minB (canonN L))
theorem min_false {A : List (List Nat)} {p : List Nat} : minB A p = false ↔ ∃ q ∈ A, q ≠ p ∧ fitB q p = true := by
  unfold minB
  rw [Bool.not_eq_false', List.any_eq_true]
  constructor
  · rintro ⟨q, h1, h2⟩
    rw [Bool.and_eq_true, decide_eq_true_iff] at h2
    exact ⟨q, h1, h2⟩
  · rintro ⟨q, h1, h2⟩
    exact ⟨q, h1, by rw [Bool.and_eq_true, decide_eq_true_iff]; exact h2⟩
theorem below {d : Nat} {A : List (List Nat)} (hd : ∀ y ∈ A, y.length = d) : ∀ (n : Nat) (q : List Nat), q.sum ≤ n → q ∈ A → ∃ m ∈ A, minB A m = true ∧ fitB m q = true
  | n, q, hn, hq => by
    cases h : minB A q with
    | true => exact ⟨q, hq, h, fit_refl q⟩
    | false =>
      obtain ⟨r, hr, hne, hf⟩ := min_false.mp h
      have hl : q.length = r.length := by rw [hd q hq, hd r hr]
      have hs := (fit_sum hl hf).2 hne
      cases n with
      | zero => omega
      | succ n =>
        obtain ⟨m, hm, h1, h2⟩ := below hd n r (by omega) hr
        exact ⟨m, hm, h1, fit_trans (by rw [hd r hr, hd m hm]) h2 hf⟩
theorem keep_from {d : Nat} {A : List (List Nat)} (hA : Asc A) (hd : ∀ y ∈ A, y.length = d) : ∀ (S P : List (List Nat)), A = P ++ S → S.foldl takeN (P.filter (minB A)) = A.filter (minB A)
  | [], P, e => by rw [e, List.append_nil]; rfl
  | p :: S, P, e => by
    have hp : p ∈ A := by rw [e]; exact List.mem_append_right _ List.mem_cons_self
    have asc := hA
    rw [e] at asc
    obtain ⟨_, a2, a3⟩ := List.pairwise_append.mp asc
    obtain ⟨b1, _⟩ := List.pairwise_cons.mp a2
    have key : ((P.filter (minB A)).any fun k => fitB k p) = !minB A p := by
      cases hm : minB A p with
      | true =>
        cases hk : (P.filter (minB A)).any fun k => fitB k p with
        | false => rfl
        | true =>
          obtain ⟨k, k1, k2⟩ := List.any_eq_true.mp hk
          have kP := (List.mem_filter.mp k1).1
          have kA : k ∈ A := by rw [e]; exact List.mem_append_left _ kP
          have kne : k ≠ p := fun z => by
            have := a3 k kP p List.mem_cons_self
            rw [z, lt_irr] at this
            cases this
          have := min_false.mpr ⟨k, kA, kne, k2⟩
          rw [hm] at this
          cases this
      | false =>
        obtain ⟨q, q1, q2, q3⟩ := min_false.mp hm
        obtain ⟨m, m1, m2, m3⟩ := below hd q.sum q (Nat.le_refl _) q1
        have lq : p.length = q.length := by rw [hd p hp, hd q q1]
        have lm : q.length = m.length := by rw [hd q q1, hd m m1]
        have mp := fit_trans lm m3 q3
        have mne : m ≠ p := fun z => by
          subst z
          exact q2 (fit_anti lq q3 m3)
        have mlt := fit_lt (by rw [lq, lm]) mp mne
        have mP : m ∈ P := by
          rw [e] at m1
          rcases List.mem_append.mp m1 with z | z
          · exact z
          · rcases List.mem_cons.mp z with k | k
            · exact absurd k mne
            · have := lt_trans mlt (b1 m k)
              rw [lt_irr] at this
              cases this
        exact List.any_eq_true.mpr ⟨m, List.mem_filter.mpr ⟨mP, m2⟩, mp⟩
    have step : takeN (P.filter (minB A)) p = (P ++ [p]).filter (minB A) := by
      show (if ((P.filter (minB A)).any fun k => fitB k p) = true then _ else _) = _
      rw [key, List.filter_append]
      cases hm : minB A p with
      | true =>
        rw [if_neg (by decide), List.filter_cons, if_pos hm]
        rfl
      | false =>
        rw [if_pos (show (!false) = true from rfl), List.filter_cons, if_neg (by rw [hm]; decide)]
        exact (List.append_nil _).symm
    show S.foldl takeN (takeN (P.filter (minB A)) p) = _
    rw [step]
    exact keep_from hA hd S (P ++ [p]) (by rw [e, List.append_assoc]; rfl)
theorem keep_least {d : Nat} {L : List (List Nat)} (hd : ∀ y ∈ L, y.length = d) : keepN (canonN L) = leastN L :=
  keep_from (asc_canon hd) (fun y hy => hd y (mem_canon.mp hy)) (canonN L) [] rfl
end M7

/-! sorted(set(x)), x a list or a tuple of tuples of numbers -/
namespace R7
open PySem PySem.Spec PyProof.Rows L2 L5 M7
abbrev zN (t : List Nat) : List Int := t.map fun n => ((n : Nat) : Int)
theorem zN_inj {t u : List Nat} (h : zN t = zN u) : t = u := (List.map_inj_right (f := fun n : Nat => ((n : Nat) : Int)) (fun a b e => by omega)).mp h
theorem bd_of {B : Nat} {t : List Nat} (h : ∀ e ∈ t, e < B) : TS.Bd (B : Int) (zN t) := fun m hm => by
  obtain ⟨n, hn, rfl⟩ := List.mem_map.mp hm
  have := h n hn
  omega
theorem lt_code {B : Nat} : ∀ {t u : List Nat}, u.length = t.length → (∀ e ∈ t, e < B) → (∀ e ∈ u, e < B) → ltN t u = true → TS.code (B : Int) (zN t) < TS.code (B : Int) (zN u)
  | [], _, _, _, _, h => by simp [ltN] at h
  | _ :: _, [], _, _, _, h => by simp [ltN] at h
  | a :: t, b :: u, hl, h1, h2, h => by
    have hl' : u.length = t.length := by simpa using hl
    have k1 : ∀ e ∈ t, e < B := fun e he => h1 e (List.mem_cons_of_mem _ he)
    have k2 : ∀ e ∈ u, e < B := fun e he => h2 e (List.mem_cons_of_mem _ he)
    rcases lt_cons.mp h with z | ⟨rfl, z⟩
    · exact TS.code_lt (by rw [List.length_map, List.length_map, hl']) (bd_of k1) (bd_of k2) (show ((a : Nat) : Int) < ((b : Nat) : Int) by omega)
    · have := lt_code hl' k1 k2 z
      show ((a : Nat) : Int) * (B : Int) ^ (zN t).length + TS.code (B : Int) (zN t) < ((a : Nat) : Int) * (B : Int) ^ (zN u).length + TS.code (B : Int) (zN u)
      rw [show (zN u).length = (zN t).length by rw [List.length_map, List.length_map, hl']]
      omega
theorem code_ltN {B : Nat} {t u : List Nat} (hl : u.length = t.length) (h1 : ∀ e ∈ t, e < B) (h2 : ∀ e ∈ u, e < B) (hc : TS.code (B : Int) (zN t) ≤ TS.code (B : Int) (zN u)) (hne : t ≠ u) : ltN t u = true := by
  rcases lt_tri hl hne with z | z
  · exact z
  · have := lt_code hl.symm h2 h1 z
    omega
section
variable {K : PySem.W.Frag} {H : Hp}
/-- addresses with what stands at them -/
theorem tups_pairs : ∀ {rs : List Addr} {L : List (List Nat)}, Tups K H rs L → ∃ ks : List (Addr × List Nat), ks.map (·.1) = rs ∧ ks.map (·.2) = L ∧ ∀ p ∈ ks, SqT K H p.1 (nv p.2)
  | _, _, .nil => ⟨[], rfl, rfl, fun _ h => nomatch h⟩
  | _, _, .cons (a := a) (b := t) h r => by
    obtain ⟨ks, e1, e2, e3⟩ := tups_pairs r
    refine ⟨(a, t) :: ks, by rw [List.map_cons, e1], by rw [List.map_cons, e2], fun p hp => ?_⟩
    rcases List.mem_cons.mp hp with rfl | hp
    · exact h
    · exact e3 p hp
theorem pairs_tups : ∀ {ks : List (Addr × List Nat)}, (∀ p ∈ ks, SqT K H p.1 (nv p.2)) → Tups K H (ks.map (·.1)) (ks.map (·.2))
  | [], _ => .nil
  | p :: ks, h => .cons (h p List.mem_cons_self) (pairs_tups fun q hq => h q (List.mem_cons_of_mem _ hq))
end
section
variable {X : Cx}
/-- set(x), x a tuple of tuples of ints -/
def rSetTT (K : PySem.W.Frag) (P : Program) (w : World) : List V → Hp → VK → Prop := fun xs H Q => ∃ (l : Addr) (ks : List (Addr × List Int)), xs = [V.ref l] ∧ SqT K H l (ks.map fun p => V.ref p.1) ∧ (∀ p ∈ ks, SqT K H p.1 (p.2.map V.int)) ∧ ks.length < 64 ∧
  ∀ a L, H a = none → (∀ p ∈ L, p ∈ ks) → (∀ p ∈ ks, p.2 ∈ L.map (·.2)) → Q (.ref a) (upd H a (SetTO P w a L))
theorem cr_setTT (calm : X.calm = true) (room : X.A.units + 64 < cLine) : CallR X (.type "set") (rSetTT X.K X.prog X.w) := by
  intro pins s σ H xs us Q I r h
  obtain ⟨l, ks, rfl, at_, each, few, q⟩ := h
  rw [Vals.ref1 r]
  obtain ⟨_, rv, plain, _⟩ := I.tuple at_
  have free : H s.heap.objs.size = none := I.hok.fresh (Nat.le_refl _)
  refine W7.set_of_tuple (P := X.prog) (w := X.w) ks (I.ok.hd calm) plain (by simpa using refs_of_vals rv) (fun p hp => I.isT (each p hp)) few (by omega) fun h' tk L es ep t R g k => ?_
  exact ⟨.ref s.heap.objs.size, upd H s.heap.objs.size (SetTO X.prog X.w s.heap.objs.size L), I.laid (t' := tk) k (Nat.le_refl _) (setTO_new R.t0), rfl, q _ L free (fun p hp => List.mem_of_mem_take (g.sub p hp)) fun p hp => g.all p (by rw [List.take_length]; exact hp)⟩
theorem cr_setAny (calm : X.calm = true) (room : X.A.units + 64 < cLine) : CallR X (.type "set") (fun xs H Q => rSetOfT X.K X.prog X.w xs H Q ∨ rSetTT X.K X.prog X.w xs H Q) := fun pins s σ H xs us Q I r h =>
  h.elim (fun h => cr_setOfT calm room pins s σ H xs us Q I r h) fun h => cr_setTT calm room pins s σ H xs us Q I r h
theorem weakE {e : Expr} {t t' : TE} (h : PE X e t) (i : ∀ σ H Q, t' σ H Q → t σ H Q) : PE X e t' := ⟨fun pins s σ H Q I h' => h.run pins s σ H Q I (i σ H Q h')⟩
/-- sorted(set(x)) -/
def tSS (K : PySem.W.Frag) (te : TE) : TE := fun σ H Q => te σ H fun x H1 => ∃ (l : Addr) (rs : List Addr) (L : List (List Nat)) (d B : Nat), x = .ref l ∧ (SqL K H1 l (rs.map V.ref) ∨ SqT K H1 l (rs.map V.ref)) ∧ Tups K H1 rs L ∧ L.length < 64 ∧ 1 ≤ d ∧ (∀ t ∈ L, t.length = d) ∧ (∀ t ∈ L, ∀ e ∈ t, e < B) ∧
  ∀ H' q rs', Same H1 H' → H1 q = none → H' q = some (.lst (rs'.map V.ref)) → Tups K H' rs' (canonN L) → Q (.ref q) H'
theorem pe_sset {e : Expr} {te : TE} {p1 p2 q1 q2 : Pos} (calm : X.calm = true) (room : X.A.units + 64 < cLine) (g1 : Gl X "sorted") (m1 : X.mg "sorted" = none) (g2 : Gl X "set") (m2 : X.mg "set" = none) (he : PE X e te)
    (t1 : starEach [.Call (.Name "set" p2) [e] [] q2] X.env = (false, eval (.Call (.Name "set" p2) [e] [] q2) X.env) :: starEach [] X.env := by rfl) (t2 : starEach [e] X.env = (false, eval e X.env) :: starEach [] X.env := by rfl)  :
    PE X (.Call (.Name "sorted" p1) [.Call (.Name "set" p2) [e] [] q2] [] q1) (tSS X.K te) := by
  have he' : PE X e (fun σ H Q => ∃ P : VK, te σ H P ∧ ∀ x H1, P x H1 → Q x H1) := ⟨fun pins s σ H Q I ⟨P, h, m⟩ => thn (he.run pins s σ H P I h) fun u s1 ⟨v, H1, I1, r, q⟩ => ⟨v, H1, I1, r, m v H1 q⟩⟩
  refine weakE (pe_callB (cr_sortedT calm) g1 m1 (by decide +kernel) (pa_cons (pe_callTy (cr_setAny calm room) g2 m2 (by decide +kernel) (pa_cons he' pa_nil (hs := t2)) (he := t2)) pa_nil (hs := t1)) (he := t1)) ?_
  intro σ H Q h
  refine ⟨_, h, ?_⟩
  rintro x H1 ⟨l, rs, L, d, B, rfl, at_, hT, few, hd, hlen, hB, q⟩
  obtain ⟨ks, e1, e2, e3⟩ := tups_pairs hT
  have nvz : ∀ t : List Nat, (zN t).map V.int = nv t := fun t => (nv_ints t).symm
  have ks3 : ∀ p ∈ ks.map (fun p => (p.1, zN p.2)), SqT X.K H1 p.1 (p.2.map V.int) := fun p hp => by
    obtain ⟨k, hk, rfl⟩ := List.mem_map.mp hp
    show SqT X.K H1 k.1 ((zN k.2).map V.int)
    rw [nvz]
    exact e3 k hk
  have refs : (ks.map fun p => (p.1, zN p.2)).map (fun p => V.ref p.1) = rs.map V.ref := by
    rw [List.map_map, ← e1, List.map_map]
    rfl
  have few' : (ks.map fun p => (p.1, zN p.2)).length < 64 := by
    rw [List.length_map, ← List.length_map (f := (·.2)) (as := ks), e2]
    exact few
  have go : ∀ a Ls, H1 a = none → (∀ p ∈ Ls, p ∈ ks.map fun p => (p.1, zN p.2)) → (∀ p ∈ ks.map (fun p => (p.1, zN p.2)), p.2 ∈ Ls.map (·.2)) → rSortedT X.K X.prog X.w [.ref a] (upd H1 a (SetTO X.prog X.w a Ls)) Q := by
    intro a Ls ha sub all
    have sa := same_new ha (SetTO X.prog X.w a Ls)
    have memL : ∀ p ∈ Ls, ∃ k ∈ ks, p = (k.1, zN k.2) := fun p hp => by
      obtain ⟨k, hk, e⟩ := List.mem_map.mp (sub p hp)
      exact ⟨k, hk, e.symm⟩
    have inL : ∀ k ∈ ks, k.2 ∈ L := fun k hk => by
      rw [← e2]
      exact List.mem_map_of_mem hk
    refine ⟨a, Ls, d, (B : Int), rfl, upd_same, fun p hp => same_sqt sa (ks3 p (sub p hp)), hd, fun p hp => ?_, fun L' p pm nd _ pw hp => ?_⟩
    · obtain ⟨k, hk, rfl⟩ := memL p hp
      exact ⟨by rw [List.length_map]; exact hlen _ (inL k hk), bd_of (hB _ (inL k hk))⟩
    · -- what stands in the sorted list
      have mem' : ∀ r ∈ L', ∃ k ∈ ks, r = (k.1, zN k.2) := fun r hr => memL r (pm.mem_iff.mp hr)
      have back : ∀ k : Addr × List Nat, (zN k.2).map Int.toNat = k.2 := fun k => by
        rw [List.map_map]
        exact (List.map_congr_left fun n _ => by show (((n : Nat) : Int)).toNat = n; omega).trans (List.map_id _)
      have asc : Asc (L'.map fun r => r.2.map Int.toNat) := by
        have nd' : L'.Pairwise fun q r => q.2 ≠ r.2 := List.pairwise_map.mp nd
        have both := pw.and nd'
        rw [Asc, List.pairwise_map]
        refine both.imp_of_mem fun {q r} hq hr hqr => ?_
        obtain ⟨k1, hk1, rfl⟩ := mem' q hq
        obtain ⟨k2, hk2, rfl⟩ := mem' r hr
        show ltN ((zN k1.2).map Int.toNat) ((zN k2.2).map Int.toNat) = true
        rw [back, back]
        exact code_ltN (by rw [hlen _ (inL k1 hk1), hlen _ (inL k2 hk2)]) (hB _ (inL k1 hk1)) (hB _ (inL k2 hk2)) hqr.1 fun z => hqr.2 (by show zN k1.2 = zN k2.2; rw [z])
      have canon : (L'.map fun r => r.2.map Int.toNat) = canonN L := by
        refine canon_of asc hlen fun t => ⟨fun ht => ?_, fun ht => ?_⟩
        · obtain ⟨r, hr, rfl⟩ := List.mem_map.mp ht
          obtain ⟨k, hk, rfl⟩ := mem' r hr
          show (zN k.2).map Int.toNat ∈ L
          rw [back]
          exact inL k hk
        · rw [← e2] at ht
          obtain ⟨k, hk, rfl⟩ := List.mem_map.mp ht
          obtain ⟨r, hr, e⟩ := List.mem_map.mp (all (k.1, zN k.2) (List.mem_map_of_mem (f := fun p : Addr × List Nat => (p.1, zN p.2)) hk))
          refine List.mem_map.mpr ⟨r, pm.mem_iff.mpr hr, ?_⟩
          show r.2.map Int.toNat = k.2
          rw [e]
          exact back k
      have sp := same_new hp (.lst (L'.map fun q => V.ref q.1))
      have tl : Tups X.K (upd (upd H1 a (SetTO X.prog X.w a Ls)) p (.lst (L'.map fun q => V.ref q.1))) ((L'.map fun r => (r.1, r.2.map Int.toNat)).map (·.1)) ((L'.map fun r => (r.1, r.2.map Int.toNat)).map (·.2)) := pairs_tups fun r hr => by
        obtain ⟨r0, hr0, rfl⟩ := List.mem_map.mp hr
        obtain ⟨k, hk, rfl⟩ := mem' r0 hr0
        show SqT X.K _ k.1 (nv ((zN k.2).map Int.toNat))
        rw [back]
        exact same_sqt (sa.trans sp) (e3 k hk)
      rw [List.map_map, List.map_map] at tl
      have tl2 : Tups X.K (upd (upd H1 a (SetTO X.prog X.w a Ls)) p (.lst (L'.map fun q => V.ref q.1))) (L'.map (·.1)) (L'.map fun r => r.2.map Int.toNat) := tl
      rw [canon] at tl2
      refine q _ p (L'.map (·.1)) (sa.trans sp) (sa.free hp) ?_ tl2
      rw [upd_same, List.map_map]
      rfl
  rcases at_ with at_ | at_
  · exact .inl ⟨l, _, rfl, by rw [refs]; exact at_, ks3, few', go⟩
  · exact .inr ⟨l, _, rfl, by rw [refs]; exact at_, ks3, few', go⟩
end
end R7

/-! a for over a list or a tuple, whichever it is -/
namespace R7
open PySem PySem.Spec PyProof.Rows L2 L5 M7
section
variable {X : Cx} {tg : Expr}
def iAny (K : PySem.W.Frag) (tl : TE) : TI := fun σ H R => tl σ H fun x H1 => ∃ a, x = .ref a ∧ (((∃ xs, SqL K H1 a xs) ∧ R (Itl K a) H1) ∨ ((∃ xs, SqT K H1 a xs) ∧ R (Itt K a) H1))
theorem pi_any {l : Expr} {tl : TE} (hl : PE X l tl) : PI X tg l (iAny X.K tl) := by
  refine ⟨fun pins s σ H R I h => thn (hl.run pins s σ H _ I h) fun v s1 ⟨x, H1, I1, r1, q1⟩ => ?_⟩
  obtain ⟨a, ea, ⟨⟨xs, at_⟩, q⟩ | ⟨⟨xs, at_⟩, q⟩⟩ := q1
  · subst ea; cases r1
    obtain ⟨_, _, plain, _⟩ := I1.list at_
    refine wpAny_pyIter_list plain.isList ⟨s1.heap.objs.size, [s1.heap.objs.size], _, _, H1, rfl, I1.kept (t' := s1.toks) fun b o e => Heap.get?_push_of_some _ e, turn_list a _, ⟨_, Heap.get?_push_size _ rfl, rfl, rfl⟩, fun b hb => ?_, q⟩
    obtain rfl : b = s1.heap.objs.size := List.mem_singleton.mp hb
    exact I1.fpOk (Nat.le_refl _) (I1.hok.fresh (Nat.le_refl _))
  · subst ea; cases r1
    obtain ⟨its, _, plain, _⟩ := I1.tuple at_
    refine wpAny_pyIter_tuple (show s1.heap.IsTuple a its.toArray from plain) ⟨s1.heap.objs.size, [s1.heap.objs.size], _, _, H1, rfl, I1.kept (t' := s1.toks) fun b o e => Heap.get?_push_of_some _ e, turn_tuple a _, ⟨_, Heap.get?_push_size _ rfl, rfl, rfl⟩, fun b hb => ?_, q⟩
    obtain rfl : b = s1.heap.objs.size := List.mem_singleton.mp hb
    exact I1.fpOk (Nat.le_refl _) (I1.hok.fresh (Nat.le_refl _))
end
def SqA (K : PySem.W.Frag) (H : Hp) (a : Addr) (xs : List V) : Prop := SqL K H a xs ∨ SqT K H a xs
section
variable {K : PySem.W.Frag} {H H' : Hp}
theorem sql_same {a : Addr} {xs : List V} (e : Same H H') (h : SqL K H a xs) : SqL K H' a xs := e.seq h
theorem SqA.same {a : Addr} {xs : List V} (e : Same H H') (h : SqA K H a xs) : SqA K H' a xs := h.imp (e.seq ·) (same_sqt e ·)
abbrev Turns (J : It) (g : TG) (tb : TS) (D : Ends) (σ : L2.St) (H : Hp) : Prop := ∃ W : Nat → Nat → L2.St → Hp → Prop, (∃ m, W 0 m σ H) ∧ ∀ i m σ H, W i m σ H →
  (J.stop i H ∧ D.nx σ H) ∨ (J.go i H ∧ ∃ N : L2.St → Hp → Prop, (∀ σ' H', N σ' H' → ∃ m', m' < m ∧ W (i + 1) m' σ' H') ∧ ∀ x H', J.yld i H x H' → g x σ H' fun σ2 H2 => tb { D with nx := N, ct := N, bk := D.nx } σ2 H2)
theorem for_any {a : Addr} {xs : List V} {g : TG} {tb : TS} {D : Ends} {σ : L2.St} (at_ : SqA K H a xs) (Pv : Nat → L2.St → Hp → Prop) (h0 : Pv 0 σ H) (keep : ∀ i σ' H', Pv i σ' H' → Same H H')
    (step : ∀ i x σ H, xs[i]? = some x → Pv i σ H → g x σ H fun σ2 H2 => tb { D with nx := Pv (i + 1), ct := Pv (i + 1), bk := D.nx } σ2 H2) (done : ∀ σ H, Pv xs.length σ H → D.nx σ H) :
    ((∃ xs, SqL K H a xs) ∧ Turns (Itl K a) g tb D σ H) ∨ ((∃ xs, SqT K H a xs) ∧ Turns (Itt K a) g tb D σ H) :=
  at_.elim (fun h => .inl ⟨⟨_, h⟩, for_list Pv h0 (fun i σ' H' _ p => (keep i σ' H' p).seq h) step done⟩) fun h => .inr ⟨⟨_, h⟩, for_tup Pv h0 (fun i σ' H' _ p => same_sqt (keep i σ' H' p) h) step done⟩
end
end R7

/-! [e for a in t for b in u], t and u tuples: the turns of both walks -/
namespace R7
open PySem PySem.Spec PyProof.Rows L2 L5 M7
section
variable {K : PySem.W.Frag} {g g1 : TG} {tt tt1 : TT} {te : TE} {vs vs1 : List Nat} {D : Addr}
abbrev In2 (J1 : It) (g1 : TG) (tt1 : TT) (te : TE) (vs1 : List Nat) (D : Addr) (σ2 : L2.St) (H4 : Hp) (Nx : Hp → Prop) : Prop := ∃ W1 : Nat → Nat → Hp → Prop, (∃ m, W1 0 m H4) ∧ ∀ j k H, W1 j k H →
  (J1.stop j H ∧ Nx H) ∨ (J1.go j H ∧ ∃ Nx1 : Hp → Prop, (∀ H', Nx1 H' → ∃ k', k' < k ∧ W1 (j + 1) k' H') ∧ ∀ x H', J1.yld j H x H' → g1 x (wipe σ2 vs1) H' fun σ3 H5 => wipe σ3 vs1 = wipe σ2 vs1 ∧ tt1 σ3 H5 fun b H6 =>
    if b = true then te σ3 H6 fun y H7 => ∃ acc, H7 D = some (.lst acc) ∧ acc.length < sizeLine ∧ Nx1 (upd H7 D (.lst (acc ++ [y]))) else Nx1 H6)
theorem in2_tup {b : Addr} {ys : List V} {σ2 : L2.St} {H4 : Hp} {Nx : Hp → Prop} (Pj : Nat → Hp → Prop) (h0 : Pj 0 H4) (at_ : ∀ j H, Pj j H → SqT K H b ys)
    (step : ∀ j y H, ys[j]? = some y → Pj j H → g1 y (wipe σ2 vs1) H fun σ3 H5 => wipe σ3 vs1 = wipe σ2 vs1 ∧ tt1 σ3 H5 fun c H6 => if c = true then te σ3 H6 fun z H7 => ∃ acc, H7 D = some (.lst acc) ∧ acc.length < sizeLine ∧ Pj (j + 1) (upd H7 D (.lst (acc ++ [z]))) else Pj (j + 1) H6)
    (done : ∀ H, Pj ys.length H → Nx H) : In2 (Itt K b) g1 tt1 te vs1 D σ2 H4 Nx := by
  refine ⟨fun j k H => j + k = ys.length ∧ Pj j H, ⟨ys.length, Nat.zero_add _, h0⟩, fun j k H0 hw => ?_⟩
  obtain ⟨e, pj⟩ := hw
  have here := at_ j H0 pj
  cases k with
  | zero =>
    obtain rfl : j = ys.length := e
    exact .inl ⟨⟨ys, here, Nat.le_refl _⟩, done H0 pj⟩
  | succ k =>
    have lt : j < ys.length := by omega
    refine .inr ⟨⟨ys, ys[j], here, List.getElem?_eq_getElem lt⟩, Pj (j + 1), fun H' p' => ⟨k, Nat.lt_succ_self k, by omega, p'⟩, fun x H' out => ?_⟩
    obtain ⟨same, val⟩ := out
    subst same
    exact step j x _ (val ys here) pj
theorem out2_tup {a : Addr} {xs : List V} {wi1 : TI} {σ : L2.St} {H1 : Hp} {Qd : Hp → Prop} (Pi : Nat → Hp → Prop) (h0 : Pi 0 (upd H1 D (.lst []))) (at_ : ∀ i H, Pi i H → SqT K H a xs)
    (step : ∀ i x H, xs[i]? = some x → Pi i H → g x (wipe σ vs) H fun σ2 H2 => wipe σ2 vs = wipe σ vs ∧ tt σ2 H2 fun c H3 => if c = true then wi1 σ2 H3 fun J1 H4 => In2 J1 g1 tt1 te vs1 D σ2 H4 (Pi (i + 1)) else Pi (i + 1) H3)
    (done : ∀ H, Pi xs.length H → Qd H) :
    ∃ W : Nat → Nat → Hp → Prop, (∃ m, W 0 m (upd H1 D (.lst []))) ∧ ∀ i m H, W i m H →
      ((Itt K a).stop i H ∧ Qd H) ∨ ((Itt K a).go i H ∧ ∃ Nx : Hp → Prop, (∀ H', Nx H' → ∃ m', m' < m ∧ W (i + 1) m' H') ∧ ∀ x H', (Itt K a).yld i H x H' → g x (wipe σ vs) H' fun σ2 H2 => wipe σ2 vs = wipe σ vs ∧ tt σ2 H2 fun c H3 =>
        if c = true then wi1 σ2 H3 fun J1 H4 => In2 J1 g1 tt1 te vs1 D σ2 H4 Nx else Nx H3) := by
  refine ⟨fun i m H => i + m = xs.length ∧ Pi i H, ⟨xs.length, Nat.zero_add _, h0⟩, fun i m H0 hw => ?_⟩
  obtain ⟨e, pi⟩ := hw
  have here := at_ i H0 pi
  cases m with
  | zero =>
    obtain rfl : i = xs.length := e
    exact .inl ⟨⟨xs, here, Nat.le_refl _⟩, done H0 pi⟩
  | succ m =>
    have lt : i < xs.length := by omega
    refine .inr ⟨⟨xs, xs[i], here, List.getElem?_eq_getElem lt⟩, Pi (i + 1), fun H' p' => ⟨m, Nat.lt_succ_self m, by omega, p'⟩, fun x H' out => ?_⟩
    obtain ⟨same, val⟩ := out
    subst same
    exact step i x _ (val xs here) pi
end
end R7

/-! an operator between two objects of one own class -/
namespace W7
open PySem PySem.W PySem.Calls PyProof.Rows
section
variable {prog : Program} {w : World} {A : Around} {E : Value → Shared → Prop} {s : Shared} {K : Frag} {x y C f : Addr} {ox oy : Obj} {od oe : Option Obj}
theorem fills_own {M : Model} {h : Heap} {cd : ClassData} {rest : List Value} {nm : String} (kin : K.In h) (hc : clsIn K C = some cd) (hm : cd.mro = .ref C :: rest) (hs : findIn K (.ref C) (PySem.dunder nm) = some (some (.ref f))) : Looks M h (fillsNumberSlot (.ref C) nm) true := fills_K kin hc hm hs
theorem bin_same {op : Operator} {Q : Value → Shared → Prop} (kin : K.In s.heap) (I : InstAt s.heap x ox C od) (J : InstAt s.heap y oy C oe) (first : selfFirst K C = true)
    (at_ : findIn K (.ref C) (PySem.dunder op.info.2) = some (some (.ref f))) (fn : isFn K (.ref f) = true) (h : wpAny (model prog w) A (call (.ref f) [.ref x, .ref y]) (PySem.W.CmpBack Q) E s) : wpAny (model prog w) A (binaryOp op (.ref x) (.ref y)) Q E s := by
  obtain ⟨cd, rest, known, mro⟩ := ksp_first first
  rcases info : op.info with ⟨sign, word⟩
  rw [info] at at_
  dsimp only at at_
  have tried := ksp_try kin I at_ fn h
  obtain ⟨hp, g, d, t, os⟩ := s
  have T1 : Looks (model prog w) hp (typeOf (.ref x)) (.ref C) := I.type
  have T2 : Looks (model prog w) hp (typeOf (.ref y)) (.ref C) := J.type
  have T3 : Looks (model prog w) hp (fillsNumberSlot (.ref C) word) true := fills_own kin known mro at_
  have same : (Value.ref C == Value.ref C) = true := beq_self_eq_true _
  simp only [binaryOp, info]
  refine wpAny_holding (wpAny_bind ?_)
  unfold binaryOp1
  refine wpAny_bind (T1.at (wpAny_bind (T2.at (wpAny_bind (T3.at ?_)))))
  simp only [same, if_true]
  ksp_lk
  refine wpAny_mono tried (fun r s' got => ?_) fun _ _ e => e
  obtain ⟨v, rfl, q⟩ := got
  ksp_lk
  exact q
end
end W7

namespace W7
open PySem PySem.Spec PyProof.Rows L2
section
variable {X : Cx} {CX : CXT} {C f : Addr} {fd : FuncData} {ps : List Str} {sp : Sp} {k : Nat} {op : Operator}
/-- a op b, both of the own class at C; sp: the method's promise -/
def rOwn (C : Addr) (sp : Sp) : R2 := fun x y H Q => ∃ (a b dx dy : Addr) (fs gs : List (Str × V)), x = .ref a ∧ y = .ref b ∧ H a = some (.ins C dx fs) ∧ H b = some (.ins C dy gs) ∧ sp [.ref a, .ref b] H Q E0
theorem no_notimpl {x : V} (h : RelV x .notImplemented) : False := by
  cases x <;> first | exact h.elim | (obtain ⟨_, e⟩ := h; cases e) | cases h
theorem op_own (first : PySem.W.selfFirst X.K C = true) (at_ : PySem.W.findIn X.K (.ref C) (PySem.dunder op.info.2) = some (some (.ref f))) (fn : PySem.W.isFn X.K (.ref f) = true) (F : FnOk X.prog X.w X.K X.mg X.base CX k f fd ps sp) (hr : Room k X.A) (hb : Binds X.K fd ps []) (hx : Passes CX X E0) : OpR X (binaryOp op) (rOwn C sp) := by
  intro pins s σ H x y v u Q I rx ry h
  obtain ⟨a, b, dx, dy, fs, gs, rfl, rfl, ha, hb2, q⟩ := h
  obtain rfl : v = Value.ref a := rx
  obtain rfl : u = Value.ref b := ry
  obtain ⟨_, Oa, _⟩ := ins_get I.hok ha
  obtain ⟨_, Ja, _⟩ := Oa.look
  obtain ⟨_, Ob, _⟩ := ins_get I.hok hb2
  obtain ⟨_, Jb, _⟩ := Ob.look
  refine bin_same I.kIn Ja Jb first at_ fn (wpAny_mono (run_fn (dvs := []) (ds := []) (vs := [.ref a, .ref b]) (us := [.ref a, .ref b]) (Q := Q) F hr hb .nil hx I (.cons rfl (.cons rfl .nil)) q) (fun r s' z => ?_) fun _ _ z => z)
  cases r with
  | notImplemented =>
    obtain ⟨_, _, _, rel, _⟩ := z
    exact no_notimpl rel
  | _ => exact z
end
end W7

/-! own exceptions with one field, over any built-in base; a try with several clauses, named or not -/
namespace XX
open PySem PySem.Spec PyProof.Rows L2 Builtin.ObjectAttr
/-! ### self.name = v of a fresh exception, whatever its built-in base is -/
section
variable {pr : Program} {wd : World} {A : Around} {R : Result → Shared → Prop} {hp : Heap} {g : Array GenState} {dr : Drawn} {t : Nat} {os : OsState} {B : String} {bmB : List Value}
theorem first_field {K : PySem.W.Frag} {name : Str} {tk : Tok} {v : Value} {x C : Addr} {fv : Array Value} {cd : ClassData} (SF : StoreFacts B bmB "object.__setattr__" "object") (kin : K.In hp)
    (hx : hp.get? x = some { cls := .ref C, data := .fields fv }) (hcd : PySem.W.clsIn K C = some cd) (over : PySem.W.excOver K C bmB = true) (has : cd.hasDict = true) (no : PySem.W.findIn K (.ref C) name = some none)
    (q : ∀ h' tk' dx, (∀ b o, b ≠ x → hp.get? b = some o → h'.get? b = some o) → hp.objs.size ≤ dx → dx ≠ x → h'.get? x = some { cls := .ref C, dict := some dx, data := .fields fv } →
      h'.Ns1 dx (fun y => if y = name then some v else none) → R (.ok (.ret .none)) ⟨h', g, dr, tk', os⟩) :
    codeAny (model pr wd) A (.call (.builtin "object.__setattr__") ⟨[.ref x, .str name tk, v], []⟩) R ⟨hp, g, dr, t, os⟩ := by
  have taker : PySem.W.takerIn K C name = some none := by
    unfold PySem.W.takerIn
    rw [no]
    rfl
  refine PySem.W.osa_openX (s := ⟨hp, g, dr, t, os⟩) (ox := { cls := .ref C, data := .fields fv }) (od := none) SF kin ⟨hx, rfl, rfl, trivial⟩ over taker fun b => ?_
  have away : x ≠ hp.objs.size := Nat.ne_of_lt (Heap.lt_size hx)
  have known : PySem.W.Looks (model pr wd) hp (classData C) cd := PySem.W.looks_clsIn kin hcd
  show wpAny _ _ (storeInOwnDict (.ref x) (.ref C) (.str name tk) name v b) _ _ _
  obtain ⟨_, _, _, _, _, hd, _, _, _, _, _⟩ := cd
  dsimp only at has
  subst has
  unfold storeInOwnDict ownDictForStores
  repeat (first | with_reducible refine HandSPX.store_in_new ?_ ?_ | with_reducible refine wpAny_loadPart_at hx ?_ | with_reducible refine known.at ?_ | wp_step)
  · exact ⟨_, #[], _, (Heap.get?_update_ne _ _ _ _ away.symm).trans (Heap.get?_push_at rfl rfl), rfl, fun e he => absurd he (by simp), fun _ => rfl⟩
  · intro h' tk' one same
    have still : (hp.push { cls := .type "dict", data := .dict #[] }).get? x = some { cls := .ref C, data := .fields fv } := Heap.get?_push_of_some _ hx
    exact q h' tk' hp.objs.size (fun b' o ne ob => (same.2 b' (Nat.ne_of_lt (Heap.lt_size ob))).trans ((Heap.get?_update_ne _ _ _ _ ne).trans (Heap.get?_push_of_some _ ob))) (Nat.le_refl _) away.symm
      ((same.2 x away).trans (Heap.get?_update_self _ still rfl)) one
end
/-- what the written part says of such a class -/
structure OexB (K : PySem.W.Frag) (C : Addr) (bmB : List Value) (newId : String) : Prop where
  cls : ∃ nm q N bs bm sn sub ab col dd k0 k1 k2 k3 k5, K.lookup C = some (excClassObj nm q C N bs bm true sn sub ab col dd k0 k1 k2 k3 k5 newId) ∧ PySem.W.excTail bmB bm = true
  sa : PySem.W.findIn K (.ref C) "__setattr__" = some (some (.builtin "object.__setattr__"))
  exC : PySem.W.subIn K (.ref C) (.type "BaseException") = some true
  tyC : PySem.W.typeIn K (.ref C) = some (.type "type")
  kC : PySem.W.keepIn K (.ref C) = true
section
variable {X : Cx} {pins : List (Addr × Obj)} {σ : L2.St} {H : Hp} {s : Shared} {a C : Addr} {f : Str} {y : V} {u : Value} {Q : Unit → Shared → Prop} {E : Value → Shared → Prop} {A : Around} {B newId initId : String} {bmB : List Value}
theorem ost_first (SF : StoreFacts B bmB "object.__setattr__" "object") (T : OexB X.K C bmB newId) (I : Inv X pins σ H s) (e : H a = some (exo a C none)) (no : PySem.W.findIn X.K (.ref C) f = some none) (ry : RelV y u)
    (q : ∀ dx s', H dx = none → dx ≠ a → Inv X pins σ (upd (upd H dx (exd dx [(f, y)])) a (exo a C (some dx))) s' → Q () s') : wpAny (model X.prog X.w) A (setAttr (.ref a) f u) Q E s := by
  obtain ⟨nm, qn, N, bs, bm, sn, sub, ab, col, dd, k0, k1, k2, k3, k5, hC, tail⟩ := T.cls
  have hcl : PySem.W.clsIn X.K C = some { name := nm, bases := bs, mro := .ref C :: bm, ns := N, qualname := qn, hasDict := true, slotNames := sn, subclasses := sub, abstract := ab, collection := col, hasDel := false } := by
    unfold PySem.W.clsIn
    rw [hC] <;> rfl
  have over : PySem.W.excOver X.K C bmB = true := by
    unfold PySem.W.excOver
    rw [hcl]
    show (C == C && PySem.W.excTail bmB bm) = true
    rw [tail, beq_self_eq_true] <;> rfl
  obtain ⟨t1, ho⟩ := exo_at I.hok e
  obtain ⟨hp, g, dr, t, os⟩ := s
  refine PySem.W.set_plain I.kIn (ox := { cls := .ref C, dict := none, data := .fields #[.ref t1, .none, .none, .none, .bool false, .none] }) (od := none) ⟨ho, rfl, rfl, trivial⟩ T.sa ?_
  refine first_field SF I.kIn ho hcl over rfl no fun h' tk' dx kept young away hx one => ?_
  have free : H dx = none := I.hok.fresh young
  have old : ∀ {b : Addr} {o : Obj}, hp.get? b = some o → b ≠ dx := fun z => Nat.ne_of_lt (Nat.lt_of_lt_of_le (Heap.lt_size z) young)
  have other : ∀ {b : Addr}, H b = none → b ≠ a := fun {b} n z => by
    rw [z, e] at n
    cases n
  have U : Un X.fs [] H (upd (upd H dx (exd dx [(f, y)])) a (exo a C (some dx))) hp h' := {
    keep := fun b o z n _ _ => kept b o (other n) z
    slot := fun b o z n _ _ => ⟨o.slots, kept b o (other n) z⟩
    free := fun b o z n _ => by rw [upd_ne (other n), upd_ne (old z)]; exact n
    there := fun b o z _ => by
      by_cases hb : b = a
      · rw [hb]
        exact ⟨_, hx⟩
      · exact ⟨o, kept b o hb z⟩
    tups := fun b xs z => by rw [upd_ne (at_ne e z exo_tup), upd_ne (ne_of_none z free)]; exact z
    frzs := fun b o v z => by rw [upd_ne (at_ne e z exo_frz), upd_ne (ne_of_none z free)]; exact z
    tbls := fun b ps z => ⟨#[], by rw [upd_ne (at_ne e z exo_tbl), upd_ne (ne_of_none z free), z]; simp⟩ }
  refine q dx _ free away (I.un (t' := tk') U fun b o z => ?_)
  by_cases hb : b = a
  · subst hb
    rw [upd_same] at z
    cases z
    exact exo_ok hx
  rw [upd_ne hb] at z
  by_cases hd : b = dx
  · subst hd
    rw [upd_same] at z
    cases z
    exact exd_ok one (relO_put (fs := []) ry fun _ => True.intro)
  · rw [upd_ne hd] at z
    refine (I.hok b o z).stay (fun c v hc ob => kept c v (fun ca => ?_) ob) (fun c hc => ?_) fun c xs hc => ?_
    · rcases hc with hc | hc
      · exact hb (hc ▸ ca)
      · exact at_ne e hc exo_own ca
    · rw [upd_ne (at_ne e hc exo_own), upd_ne (ne_of_none hc free)]
      exact hc
    · rw [upd_ne (at_ne e hc exo_tup), upd_ne (ne_of_none hc free)]
      exact hc
/-- self.f = e, of an exception that has no dict -/
def tOst1 (K : PySem.W.Frag) (bmB : List Value) (newId : String) (f : Str) (to te : TE) : TS := fun D σ H => te σ H fun y H1 => to σ H1 fun x H2 => ∃ a C : Addr, x = .ref a ∧ OexB K C bmB newId ∧ PySem.W.findIn K (.ref C) f = some none ∧
  H2 a = some (exo a C none) ∧ ∀ dx, H2 dx = none → dx ≠ a → D.nx σ (upd (upd H2 dx (exd dx [(f, y)])) a (exo a C (some dx)))
theorem ps_ost1 {o e : Expr} {to te : TE} {p' pos : Pos} (SF : StoreFacts B bmB "object.__setattr__" "object") (ho : PE X o to) (he : PE X e te) (hs : swapsWith e (some (.Attribute o f p')) pos.line X.env = pure false := by rfl) : PS X (.Assign [.Attribute o f p'] e pos) (tOst1 X.K bmB newId f to te) :=
  ⟨fun pins s σ H D I h => plainObj_wpAny_Assign_Attribute (thn (he.run pins s σ H _ I h) fun v s1 ⟨_, _, I1, r1, q1⟩ => thn (ho.run pins s1 σ _ _ I1 q1) fun u s2 ⟨_, _, I2, r2, q2⟩ => by
    obtain ⟨a, C, rfl, T, no, ea, q⟩ := q2
    obtain rfl : u = Value.ref a := r2
    exact ost_first SF T I2 ea no r1 fun dx s' n ne J => ⟨σ, _, J, q dx n ne⟩) hs⟩
theorem pmk_oexB {CX : CXT} {x : Str} {fI : Addr} {k : Nat} {fd : FuncData} {ps : List Str} {sp : Sp} {ds : List Value} {dvs : List V} {e : Expr} {es : List Expr} {ta : TA} {p pos : Pos} (F : ExcBaseFacts B newId initId bmB) (T : OexB X.K C bmB newId) (iC : PySem.W.findIn X.K (.ref C) "__init__" = some (some (.ref fI)))
    (tI : PySem.W.typeIn X.K (.ref fI) = some (.type "function")) (F1 : FnOk X.prog X.w X.K X.mg X.base CX k fI fd ps sp) (hr : Room (k + 1) X.A) (hb : Binds X.K fd ps ds) (hd : Vals dvs ds) (hx : Passes CX X (fun _ _ _ => False)) (hg : Gl X x) (hm : X.mg x = some (.ref C)) (ha : PA X (e :: es) ta)
    (hdb : (x == ("__debug__" : Str)) = false := by decide) (he : starEach (e :: es) X.env = (false, eval e X.env) :: starEach es X.env := by rfl) (hpl : (backTo pos (starEach es X.env)).any (·.1) = false := by rfl) :
    PMk X (.Call (.Name x p) (e :: es) [] pos) (tMkO C sp dvs ta) := fun pins s σ H Q I h => by
  obtain ⟨nm, qn, N, bs, bm, sn, sub, ab, col, dd, k0, k1, k2, k3, k5, hC, tail⟩ := T.cls
  refine wpAny_Call_Name_kw (ld_glob I hg hm ?_ hdb)
  refine PySem.W.callWith_K (h₀ := X.base) I.ok.mod.kin T.kC (thn (ha.run pos pins s σ H _ I h) fun us s1 ⟨vs, H1, I1, r1, few, q1⟩ => ⟨I1.kIn, ?_⟩) he hpl
  show wpAny _ _ (call (.ref C) us) _ _ _
  obtain ⟨hp, g, dr, tk, os⟩ := s1
  have up1 : hp.objs.size ≤ hp.objs.size + 1 := Nat.le_succ _
  have hq := q1 (hp.objs.size + 1) (I1.hok.fresh up1)
  have kk : ∀ b o, hp.get? b = some o → ((hp.push (PySem.W.kdv_tup us)).push (PySem.HandSPX.excO C hp.objs.size)).get? b = some o := fun b o z => Heap.get?_push_of_some _ (Heap.get?_push_of_some _ z)
  have made : ((hp.push (PySem.W.kdv_tup us)).push (PySem.HandSPX.excO C hp.objs.size)).get? (hp.objs.size + 1) = some (PySem.HandSPX.excO C hp.objs.size) := by heap_get
  have I2 : Inv X pins σ (upd H1 (hp.objs.size + 1) (exo (hp.objs.size + 1) C none)) ⟨(hp.push (PySem.W.kdv_tup us)).push (PySem.HandSPX.excO C hp.objs.size), g, dr, tk, os⟩ :=
    I1.laid (t' := tk) (a := hp.objs.size + 1) (o := exo (hp.objs.size + 1) C none) (h' := (hp.push (PySem.W.kdv_tup us)).push (PySem.HandSPX.excO C hp.objs.size)) kk up1 (exo_ok made)
  have r2 : Vals (V.ref (hp.objs.size + 1) :: (vs ++ dvs)) (Value.ref (hp.objs.size + 1) :: (us ++ ds)) := .cons rfl (r1.append hd)
  have many : (Value.ref (hp.objs.size + 1) :: us ++ ds).length = ps.length := by
    have z := r2.length
    rw [F1.len _ _ _ _ hq] at z
    exact z.symm
  have fits : us.length ≤ sizeLine := by
    rw [← Paired.length r1, sizeLine_eq]
    omega
  refine wpAny_call (PySem.HandSPX.call_own F (fun Y => PySem.W.excTail_contains Y bm tail) (I1.kIn _ _ hC) (PySem.W.looks_findIn I1.kIn iC) (fun self => PySem.W.bind_fn I1.kIn self tI) fits
    (codeAny_mono (F1.run _ X.stack _ _ ⟨Value.ref (hp.objs.size + 1) :: us, []⟩ (Value.ref (hp.objs.size + 1) :: (us ++ ds)) _ _ (fun _ _ _ => False) (hr.make C us []) (I2.env0.make C us []) (hb _ (Value.ref (hp.objs.size + 1) :: us) I2.kIn many) r2 hq) fun r s' z => ?_))
  cases r with
  | error er => exact hx pins σ _ _ er s' I2 z
  | ok fl =>
    cases fl with
    | ret u =>
      obtain ⟨v, H2, os2, bare2, un2, hok2, rv, rfl, d, fs, ea, ed, hd1, q2⟩ := z
      obtain ⟨h2, g2, d2, t2, os'⟩ := s'
      exact ⟨rv, mk_end (raises_own T.exC T.tyC) I1 up1 kk un2 hok2 os2 bare2 ea ed hd1 q2⟩
    | next => exact False.elim z
    | brk => exact False.elim z
    | cont => exact False.elim z
end
end XX

/-! a try with several clauses, each with a name or without one -/
namespace XX
open PySem PySem.Spec PyProof.Rows L2
/-- a clause: its class, the slot of its name, the reading of its suite -/
structure Clause where
  cls : Value
  slot : Option Nat
  ts : Addr → Value → Option Addr → TS
/-- behind a suite the clause's name is gone -/
def Ends.gone (D : Ends) (i : Nat) : Ends := { nx := fun σ H => D.nx (σ.set i none) H, rt := D.rt, bk := fun σ H => D.bk (σ.set i none) H, ct := fun σ H => D.ct (σ.set i none) H }
def Clause.go (c : Clause) (a : Addr) (cls : Value) (d : Option Addr) (D : Ends) (σ : L2.St) (H : Hp) : Prop := match c.slot with
  | none => c.ts a cls d D σ H
  | some i => c.ts a cls d (Ends.gone D i) (σ.set i (some (.ref a))) H
def wMix (K : PySem.W.Frag) (out : WX) (D : Ends) : List Clause → WX
  | [] => out
  | c :: r => fun cls d σ H => ∃ b, PySem.W.exmOne K cls c.cls = some b ∧ (b = true → ∀ a, H a = none → c.go a cls d D σ H) ∧ (b = false → wMix K out D r cls d σ H)
def NameOk (X : Cx) : Option Str → Option Nat → Prop
  | none, none => True
  | some n, some i => X.N[i]? = some n ∧ X.env.kindOf n = some .local
  | _, _ => False
inductive MixOk (X : Cx) : List ExceptHandler → List Clause → Prop
  | nil : MixOk X [] []
  | cons {x : Str} {nm : Option Str} {c : Clause} {st : Stmt} {suite : List Stmt} {np pp : Pos} {hds : List ExceptHandler} {l : List Clause} (names : Names X x c.cls) (ok : NameOk X nm c.slot)
      (body : ∀ (a : Addr) (oe : Obj) (cls : Value) (d : Option Addr) (pn : List (Addr × Obj)), Zc cls d oe → (∃ vs, oe.data = .fields vs) → PSs (X.suite a ((a, oe) :: pn)) (st :: suite) (c.ts a cls d)) (rest : MixOk X hds l) :
      MixOk X (.ExceptHandler (some (.Name x np)) nm (st :: suite) pp :: hds) (c :: l)
section
variable {X : Cx} {body : List Stmt} {h0 : ExceptHandler} {hds : List ExceptHandler} {l : List Clause} {pos : Pos} {tb : WX → TS} {out : WX}
theorem ps_try_mix (hs : X.stack = X.env :: X.outer) (hf : X.env.frame = some X.env.locals) (nodup : X.N.Nodup) (tk : Takes X out)
    (hb : ∀ (W : WX) (pn : List (Addr × Obj)) (xe : Value → Shared → Prop), Takes (X.tr pn xe) W → PassesOwn (model X.prog X.w) X.A X.env xe → PSs (X.tr pn xe) body (tb W))
    (hh : MixOk X (h0 :: hds) l) : PS X (.Try body (h0 :: hds) [] [] pos) (fun D σ H => tb (wMix X.K out D l) D σ H) := by
  refine ⟨fun pins s σ H D I h => ?_⟩
  have ok := I.ok
  have frames : X.A.frames = some (X.env :: X.outer) := by rw [ok.frames, hs]
  refine wpAny_Try_except ?_
  refine wpAny_mono ((hb (wMix X.K out D l) (X.pn ++ pins) (fun e s1 => wpAny (model X.prog X.w) X.A (noteFrame e X.env) (fun _ s2 => wpAny (model X.prog X.w) X.A (setFlight e none) (fun _ s3 =>
    wpAny (model X.prog X.w) X.A (handleBy e X.env (h0 :: hds)) (SP X pins D) X.xe s3) X.xe s2) X.xe s1) (fun u s' air => ?_) PassesOwn.looking).run [] s σ H D (I.toTry _) h) (fun f s1 sp => ?_) (fun e s1 he => he)
  · obtain ⟨a, B, sI, pins', σ', H', cls, d, rfl, J', nb, up, sky, na, os, ag, wish⟩ := air
    have J : Inv X pins σ' H' sI := J'.ofTry ok
    rw [hs] at sky
    show wpAny (model X.prog X.w) X.A (noteFrame (.ref a) X.env) _ _ _
    refine Sky.land Zc.steady frames hf sky fun h3 fl3 up3 => ?_
    have J3 : Inv X pins σ' H' { s' with heap := h3 } := J.landed nb fl3.1 (up.trans up3) os ag
    obtain ⟨oe3, vs3, at3, z3, d3⟩ := fl3.there
    have inAir : a ∉ frs (X.env :: X.outer) := fun hm => by
      obtain ⟨_, o', e', hnf⟩ := fl3.2.2.1.mem hm
      rw [at3] at e'
      cases e'
      exact hnf _ d3
    have nL : a ≠ X.env.locals := fun z => inAir (List.mem_filterMap.mpr ⟨X.env, List.mem_cons_self, by rw [hf, z]⟩)
    have nF : a ∉ X.fs := fun hm => by
      obtain ⟨e, he, q⟩ := List.mem_filterMap.mp hm
      exact inAir (List.mem_filterMap.mpr ⟨e, List.mem_cons_of_mem _ he, q⟩)
    have S3 := J3.suite at3 d3 na nL nF
    have clauses : ∀ {hds' : List ExceptHandler} {l' : List Clause}, MixOk X hds' l' → wMix X.K out D l' cls d σ' H' →
        wpAny (model X.prog X.w) X.A (handleBy (.ref a) X.env hds') (SP X pins D) X.xe { s' with heap := h3 } := by
      intro hds' l' hk
      induction hk with
      | nil =>
        intro wish'
        refine wpAny_handleBy_nil ?_
        obtain ⟨_, _, _, oe, vs, T, oT, ts', he, hz, hd, h1, hr⟩ := id fl3
        unfold PySem.passOn
        refine wpAny_bind (wpAny_field he hd h1 ?_)
        rw [if_neg (show ¬ ((Value.ref T == Value.none) = true) from by simp)]
        have on : wpAny (model X.prog X.w) X.A (setFlight (.ref a) X.env.frame) (fun _ s4 => wpAny (model X.prog X.w) X.A (throw (.ref a) : Sem Flow) (SP X pins D) X.xe s4) X.xe { s' with heap := h3 } := by
          rw [hf]
          refine HandSPX.setFlight_upZ fl3 fun h4 hh4 up4 => wpAny_throw (tk _ _ ?_)
          exact ⟨a, B, sI, pins, σ', H', cls, d, rfl, J, nb, (up.trans up3).trans up4, .inr (.inr (by rw [hs]; exact hh4)), na, os, ag, wish'⟩
        first
          | exact wpAny_bind (wpAny_pure (wpAny_bind on))
          | exact wpAny_bind on
      | @cons x nm c st suite np pp hds2 l2 names named bodyOk rest ih =>
        intro wish'
        obtain ⟨b, hb1, yes, no⟩ := wish'
        refine wpAny_handleBy_cons (codeAny_handlers_test ?_) (by intro q; cases q)
        have LT : PySem.W.Looks (model X.prog X.w) h3 (typeOf (.ref a)) cls := fun A Q E s k q => wpAny_typeOf_ref (k _ _ at3) (by rw [z3.1]; exact q)
        have LM := PySem.W.exm_one (M := model X.prog X.w) (J3.kIn) LT hb1
        have test : ∀ {Q : Value → Shared → Prop} {E : Value → Shared → Prop}, Q c.cls { s' with heap := h3 } → wpAny (model X.prog X.w) (X.A.mark (some (.ref a))) (eval (.Name x np) X.env) Q E { s' with heap := h3 } := fun {Q E} q => by
          obtain ⟨hg, hdbg, hm | ⟨hm, hv, hnn⟩⟩ := names
          · exact ld_glob (X := X.suite a ((a, oe3) :: (X.pn ++ pins))) S3 hg hm q hdbg
          · exact ld_blt (X := X.suite a ((a, oe3) :: (X.pn ++ pins))) S3 hg hm hv q hnn hdbg
        refine test (LM.here ?_)
        cases b with
        | false =>
          show wpAny _ X.A (handleBy (.ref a) X.env hds2) _ _ _
          exact ih (no rfl)
        | true =>
          have go := yes rfl a na
          obtain ⟨ccls, slot, cts⟩ := c
          cases nm with
          | none =>
            cases slot with
            | some i => exact named.elim
            | none =>
              refine codeAny_handlers_suite ?_
              refine HandSPX.lands_againZ fl3 fun h4 fl4 up4 => ?_
              have J4 : Inv X pins σ' H' { s' with heap := h4 } := J.landed nb fl4.1 ((up.trans up3).trans up4) os ag
              obtain ⟨oe4, vs4, at4, z4, d4⟩ := fl4.there
              refine wpAny_mono ((bodyOk a oe4 cls d (X.pn ++ pins) z4 ⟨_, d4⟩).run [] _ _ H' _ (J4.suite at4 d4 na nL nF) go) (fun f s6 sp => ?_) (fun _ _ z => False.elim z)
              cases f with
              | ret u =>
                obtain ⟨_, _, _, S6, r6, q6⟩ := sp
                exact ⟨_, _, _, S6.unsuite ok, r6, q6⟩
              | next =>
                obtain ⟨_, _, S6, q6⟩ := sp
                exact ⟨_, _, S6.unsuite ok, q6⟩
              | brk =>
                obtain ⟨_, _, S6, q6⟩ := sp
                exact ⟨_, _, S6.unsuite ok, q6⟩
              | cont =>
                obtain ⟨_, _, S6, q6⟩ := sp
                exact ⟨_, _, S6.unsuite ok, q6⟩
          | some n =>
            cases slot with
            | none => exact named.elim
            | some i =>
              obtain ⟨ni, nl⟩ := named
              refine codeAny_handlers_suite_as ?_
              refine HandSPX.lands_againZ fl3 fun h4 fl4 up4 => ?_
              have J4 : Inv X pins σ' H' { s' with heap := h4 } := J.landed nb fl4.1 ((up.trans up3).trans up4) os ag
              obtain ⟨oe4, vs4, at4, z4, d4⟩ := fl4.there
              refine store_ok (X := X.suite a ((a, oe4) :: (X.pn ++ pins))) (v := .ref a) (J4.suite at4 d4 na nL nF) nodup ni (.inl nl) rfl (fun s5 S5 => ?_) (.inr nl)
              refine wpAny_mono ((bodyOk a oe4 cls d (X.pn ++ pins) z4 ⟨_, d4⟩).run [] s5 _ H' _ S5 go) (fun f s6 sp => ?_) (fun _ _ z => False.elim z)
              have leave : ∀ {σ6 : L2.St} {H6 : Hp} {Q : Shared → Prop}, Inv (X.suite a ((a, oe4) :: (X.pn ++ pins))) [] σ6 H6 s6 → (∀ s7, Inv X pins (σ6.set i none) H6 s7 → Q s7) →
                  wpAny (model X.prog X.w) X.A (do bindName X.env n .none; unbindBehindTheSuite X.env n pp) (fun _ s7 => Q s7) X.xe s6 := fun {σ6 H6 Q} S6 hq => gone_ok (S6.unsuite ok) nodup ni nl hq
              cases f with
              | ret u =>
                obtain ⟨_, _, _, S6, r6, q6⟩ := sp
                exact leave S6 fun s7 J7 => ⟨_, _, _, J7, r6, q6⟩
              | next =>
                obtain ⟨_, _, S6, q6⟩ := sp
                exact leave S6 fun s7 J7 => ⟨_, _, J7, q6⟩
              | brk =>
                obtain ⟨_, _, S6, q6⟩ := sp
                exact leave S6 fun s7 J7 => ⟨_, _, J7, q6⟩
              | cont =>
                obtain ⟨_, _, S6, q6⟩ := sp
                exact leave S6 fun s7 J7 => ⟨_, _, J7, q6⟩
    exact clauses hh wish
  · cases f with
    | ret u =>
      obtain ⟨v, σ', H', J', r, q⟩ := sp
      exact ⟨v, σ', H', J'.ofTry ok, r, q⟩
    | next =>
      obtain ⟨σ', H', J', q⟩ := sp
      exact wpAny_execs_nil ⟨σ', H', J'.ofTry ok, q⟩
    | brk =>
      obtain ⟨σ', H', J', q⟩ := sp
      exact ⟨σ', H', J'.ofTry ok, q⟩
    | cont =>
      obtain ⟨σ', H', J', q⟩ := sp
      exact ⟨σ', H', J'.ofTry ok, q⟩
end
end XX

/-! what a list of tuples tells: the tuples above it; the least ones of lists that tell the same are the same -/
namespace M7
/-- above one of them -/
abbrev Up (L : List (List Nat)) (t : List Nat) : Prop := ∃ k ∈ L, fitB k t = true
abbrev Len (d : Nat) (L : List (List Nat)) : Prop := ∀ t ∈ L, t.length = d
theorem min_true {A : List (List Nat)} {p : List Nat} : minB A p = true ↔ ∀ q ∈ A, fitB q p = true → q = p := by
  constructor
  · intro h q hq hf
    cases e : decide (q = p) with
    | true => exact of_decide_eq_true e
    | false =>
      have := min_false.mpr ⟨q, hq, of_decide_eq_false e, hf⟩
      rw [h] at this
      cases this
  · intro h
    cases e : minB A p with
    | true => rfl
    | false =>
      obtain ⟨q, h1, h2, h3⟩ := min_false.mp e
      exact absurd (h q h1 h3) h2
theorem mem_least {L : List (List Nat)} {x : List Nat} : x ∈ leastN L ↔ x ∈ L ∧ ∀ q ∈ L, fitB q x = true → q = x := by
  unfold leastN
  rw [List.mem_filter, mem_canon, min_true]
  constructor
  · rintro ⟨h1, h2⟩
    exact ⟨h1, fun q hq => h2 q (mem_canon.mpr hq)⟩
  · rintro ⟨h1, h2⟩
    exact ⟨h1, fun q hq => h2 q (mem_canon.mp hq)⟩
theorem asc_least {d : Nat} {L : List (List Nat)} (h : Len d L) : Asc (leastN L) := (asc_canon h).filter _
theorem len_least {d : Nat} {L : List (List Nat)} (h : Len d L) : Len d (leastN L) := fun t ht => h t (mem_least.mp ht).1
theorem up_least {d : Nat} {L : List (List Nat)} (h : Len d L) {t : List Nat} : Up (leastN L) t ↔ Up L t := by
  constructor
  · rintro ⟨k, hk, hf⟩
    exact ⟨k, (mem_least.mp hk).1, hf⟩
  · rintro ⟨k, hk, hf⟩
    have hd : ∀ y ∈ canonN L, y.length = d := fun y hy => h y (mem_canon.mp hy)
    obtain ⟨m, h1, h2, h3⟩ := below hd k.sum k (Nat.le_refl _) (mem_canon.mpr hk)
    exact ⟨m, List.mem_filter.mpr ⟨h1, h2⟩, fit_trans (by rw [h k hk, hd m h1]) h3 hf⟩
theorem least_sub {d : Nat} {L M : List (List Nat)} (hL : Len d L) (hM : Len d M) (h : ∀ t, t.length = d → (Up L t ↔ Up M t)) {x : List Nat} (hx : x ∈ leastN L) : x ∈ leastN M := by
  obtain ⟨h1, h2⟩ := mem_least.mp hx
  have hxd := hL x h1
  -- whatever of M lies below x is x
  have key : ∀ m ∈ M, fitB m x = true → m = x := fun m hm hf => by
    obtain ⟨l, hl, hlm⟩ := (h m (hM m hm)).mpr ⟨m, hm, fit_refl m⟩
    have e := h2 l hl (fit_trans (by rw [hM m hm, hL l hl]) hlm hf)
    subst e
    exact (fit_anti (by rw [hM m hm, hxd]) hlm hf).symm
  obtain ⟨m, hm, hf⟩ := (h x hxd).mp ⟨x, h1, fit_refl x⟩
  have e := key m hm hf
  subst e
  exact mem_least.mpr ⟨hm, key⟩
/-- lists that tell the same have the same least ones -/
theorem least_ext {d : Nat} {L M : List (List Nat)} (hL : Len d L) (hM : Len d M) (h : ∀ t, t.length = d → (Up L t ↔ Up M t)) : leastN L = leastN M :=
  asc_unique (asc_least hL) (asc_least hM) fun x => ⟨least_sub hL hM h, least_sub hM hL fun t ht => (h t ht).symm⟩
theorem up_app {L M : List (List Nat)} {t : List Nat} : Up (L ++ M) t ↔ Up L t ∨ Up M t := by
  constructor
  · rintro ⟨k, hk, hf⟩
    rcases List.mem_append.mp hk with h | h
    · exact .inl ⟨k, h, hf⟩
    · exact .inr ⟨k, h, hf⟩
  · rintro (⟨k, hk, hf⟩ | ⟨k, hk, hf⟩)
    · exact ⟨k, List.mem_append_left _ hk, hf⟩
    · exact ⟨k, List.mem_append_right _ hk, hf⟩
/-- each of the one with each of the other -/
abbrev eachF (f : Nat → Nat → Nat) (L M : List (List Nat)) : List (List Nat) := L.flatMap fun t => M.map fun u => List.zipWith f t u
theorem up_each {f : Nat → Nat → Nat} {L M : List (List Nat)} {t : List Nat} : Up (eachF f L M) t ↔ ∃ a ∈ L, ∃ b ∈ M, fitB (List.zipWith f a b) t = true := by
  constructor
  · rintro ⟨k, hk, hf⟩
    obtain ⟨a, ha, h2⟩ := List.mem_flatMap.mp hk
    obtain ⟨b, hb, rfl⟩ := List.mem_map.mp h2
    exact ⟨a, ha, b, hb, hf⟩
  · rintro ⟨a, ha, b, hb, hf⟩
    exact ⟨_, List.mem_flatMap.mpr ⟨a, ha, List.mem_map.mpr ⟨b, hb, rfl⟩⟩, hf⟩
theorem len_each {f : Nat → Nat → Nat} {d : Nat} {L M : List (List Nat)} (hL : Len d L) (hM : Len d M) : Len d (eachF f L M) := fun t ht => by
  obtain ⟨a, ha, h2⟩ := List.mem_flatMap.mp ht
  obtain ⟨b, hb, rfl⟩ := List.mem_map.mp h2
  rw [List.length_zipWith, hL a ha, hM b hb, Nat.min_self]
/-- f grows in both places -/
structure Grows (f : Nat → Nat → Nat) : Prop where
  mono : ∀ a b c e, a ≤ c → b ≤ e → f a b ≤ f c e
theorem grows_add : Grows (· + ·) := ⟨fun _ _ _ _ h k => Nat.add_le_add h k⟩
theorem grows_max : Grows max := ⟨fun a b c e h k => by omega⟩
theorem zip_fit {f : Nat → Nat → Nat} (g : Grows f) : ∀ {a b c e : List Nat}, c.length = a.length → b.length = a.length → e.length = a.length → fitB a c = true → fitB b e = true → fitB (List.zipWith f a b) (List.zipWith f c e) = true
  | [], _, _, _, _, _, _, _, _ => by simp [fitB]
  | _ :: _, [], _, _, _, h, _, _, _ => by simp at h
  | _ :: _, _ :: _, [], _, h, _, _, _, _ => by simp at h
  | _ :: _, _ :: _, _ :: _, [], _, _, h, _, _ => by simp at h
  | x :: a, y :: b, z :: c, v :: e, h1, h2, h3, k1, k2 => by
    rw [fit_cons] at k1 k2
    show fitB (f x y :: List.zipWith f a b) (f z v :: List.zipWith f c e) = true
    rw [fit_cons]
    exact ⟨g.mono _ _ _ _ k1.1 k2.1, zip_fit g (by simpa using h1) (by simpa using h2) (by simpa using h3) k1.2 k2.2⟩
/-- least ones may be taken before or behind -/
theorem each_least {f : Nat → Nat → Nat} (g : Grows f) {d : Nat} {L M : List (List Nat)} (hL : Len d L) (hM : Len d M) : leastN (eachF f (leastN L) (leastN M)) = leastN (eachF f L M) := by
  refine least_ext (len_each (len_least hL) (len_least hM)) (len_each hL hM) fun t ht => ?_
  rw [up_each, up_each]
  constructor
  · rintro ⟨a, ha, b, hb, hf⟩
    exact ⟨a, (mem_least.mp ha).1, b, (mem_least.mp hb).1, hf⟩
  · rintro ⟨a, ha, b, hb, hf⟩
    obtain ⟨a', ha', fa⟩ := (up_least hL).mpr ⟨a, ha, fit_refl a⟩
    obtain ⟨b', hb', fb⟩ := (up_least hM).mpr ⟨b, hb, fit_refl b⟩
    have la := len_least hL a' ha'
    have lb := len_least hM b' hb'
    have l1 := hL a ha
    have l2 := hM b hb
    exact ⟨a', ha', b', hb', fit_trans (by rw [List.length_zipWith, List.length_zipWith, la, lb, l1, l2]) (zip_fit g (by rw [la, l1]) (by rw [la, lb]) (by rw [la, l2]) fa fb) hf⟩
theorem app_least {d : Nat} {L M : List (List Nat)} (hL : Len d L) (hM : Len d M) : leastN (leastN L ++ leastN M) = leastN (L ++ M) := by
  refine least_ext (d := d) (fun t ht => ?_) (fun t ht => ?_) fun t ht => ?_
  · rcases List.mem_append.mp ht with h | h
    · exact len_least hL t h
    · exact len_least hM t h
  · rcases List.mem_append.mp ht with h | h
    · exact hL t h
    · exact hM t h
  · rw [up_app, up_app, up_least hL, up_least hM]
theorem least_least {d : Nat} {L : List (List Nat)} (hL : Len d L) : leastN (leastN L) = leastN L := least_ext (len_least hL) hL fun t _ => up_least hL
end M7

/-! sums, meets and products of what lists tell: laws of arithmetic -/
namespace M7
theorem zip_comm {f : Nat → Nat → Nat} (h : ∀ a b, f a b = f b a) : ∀ a b : List Nat, List.zipWith f a b = List.zipWith f b a
  | [], [] => rfl
  | [], _ :: _ => rfl
  | _ :: _, [] => rfl
  | x :: a, y :: b => by
    show f x y :: List.zipWith f a b = f y x :: List.zipWith f b a
    rw [h x y, zip_comm h a b]
theorem zip_assoc {f : Nat → Nat → Nat} (h : ∀ a b c, f (f a b) c = f a (f b c)) : ∀ a b c : List Nat, List.zipWith f (List.zipWith f a b) c = List.zipWith f a (List.zipWith f b c)
  | [], _, _ => rfl
  | _ :: _, [], _ => rfl
  | _ :: _, _ :: _, [] => rfl
  | x :: a, y :: b, z :: c => by
    show f (f x y) z :: List.zipWith f (List.zipWith f a b) c = f x (f y z) :: List.zipWith f a (List.zipWith f b c)
    rw [h x y z, zip_assoc h a b c]
theorem each_comm {f : Nat → Nat → Nat} (h : ∀ a b, f a b = f b a) {d : Nat} {L M : List (List Nat)} (hL : Len d L) (hM : Len d M) : leastN (eachF f L M) = leastN (eachF f M L) := by
  refine least_ext (len_each hL hM) (len_each hM hL) fun t _ => ?_
  rw [up_each, up_each]
  constructor
  · rintro ⟨a, ha, b, hb, hf⟩
    exact ⟨b, hb, a, ha, by rw [zip_comm h b a]; exact hf⟩
  · rintro ⟨a, ha, b, hb, hf⟩
    exact ⟨b, hb, a, ha, by rw [zip_comm h b a]; exact hf⟩
theorem each_assoc {f : Nat → Nat → Nat} (h : ∀ a b c, f (f a b) c = f a (f b c)) {d : Nat} {L M N : List (List Nat)} (hL : Len d L) (hM : Len d M) (hN : Len d N) : leastN (eachF f (eachF f L M) N) = leastN (eachF f L (eachF f M N)) := by
  refine least_ext (len_each (len_each hL hM) hN) (len_each hL (len_each hM hN)) fun t _ => ?_
  rw [up_each, up_each]
  constructor
  · rintro ⟨p, hp, c, hc, hf⟩
    obtain ⟨a, ha, h2⟩ := List.mem_flatMap.mp hp
    obtain ⟨b, hb, rfl⟩ := List.mem_map.mp h2
    exact ⟨a, ha, _, List.mem_flatMap.mpr ⟨b, hb, List.mem_map.mpr ⟨c, hc, rfl⟩⟩, by rw [← zip_assoc h]; exact hf⟩
  · rintro ⟨a, ha, p, hp, hf⟩
    obtain ⟨b, hb, h2⟩ := List.mem_flatMap.mp hp
    obtain ⟨c, hc, rfl⟩ := List.mem_map.mp h2
    exact ⟨_, List.mem_flatMap.mpr ⟨a, ha, List.mem_map.mpr ⟨b, hb, rfl⟩⟩, c, hc, by rw [zip_assoc h]; exact hf⟩
theorem each_dist {f : Nat → Nat → Nat} {d : Nat} {L M N : List (List Nat)} (hL : Len d L) (hM : Len d M) (hN : Len d N) : leastN (eachF f L (M ++ N)) = leastN (eachF f L M ++ eachF f L N) := by
  have hMN : Len d (M ++ N) := fun t ht => (List.mem_append.mp ht).elim (hM t) (hN t)
  refine least_ext (len_each hL hMN) (fun t ht => (List.mem_append.mp ht).elim (len_each hL hM t) (len_each hL hN t)) fun t _ => ?_
  rw [up_app, up_each, up_each, up_each]
  constructor
  · rintro ⟨a, ha, b, hb, hf⟩
    rcases List.mem_append.mp hb with hb | hb
    · exact .inl ⟨a, ha, b, hb, hf⟩
    · exact .inr ⟨a, ha, b, hb, hf⟩
  · rintro (⟨a, ha, b, hb, hf⟩ | ⟨a, ha, b, hb, hf⟩)
    · exact ⟨a, ha, b, List.mem_append_left _ hb, hf⟩
    · exact ⟨a, ha, b, List.mem_append_right _ hb, hf⟩
theorem app_comm {d : Nat} {L M : List (List Nat)} (hL : Len d L) (hM : Len d M) : leastN (L ++ M) = leastN (M ++ L) :=
  least_ext (fun t ht => (List.mem_append.mp ht).elim (hL t) (hM t)) (fun t ht => (List.mem_append.mp ht).elim (hM t) (hL t)) fun t _ => by
    rw [up_app, up_app]
    exact Or.comm
theorem app_self {d : Nat} {L : List (List Nat)} (hL : Len d L) : leastN (L ++ L) = leastN L :=
  least_ext (fun t ht => (List.mem_append.mp ht).elim (hL t) (hL t)) hL fun t _ => by
    rw [up_app]
    exact or_self_iff
/-- above both -/
theorem max_fit : ∀ {a b t : List Nat}, b.length = a.length → t.length = a.length → (fitB (List.zipWith max a b) t = true ↔ fitB a t = true ∧ fitB b t = true)
  | [], [], [], _, _ => by simp [fitB]
  | [], _ :: _, _, h, _ => by simp at h
  | [], [], _ :: _, _, h => by simp at h
  | _ :: _, [], _, h, _ => by simp at h
  | _ :: _, _ :: _, [], _, h => by simp at h
  | x :: a, y :: b, z :: t, h1, h2 => by
    show fitB (max x y :: List.zipWith max a b) (z :: t) = true ↔ _
    rw [fit_cons, fit_cons, fit_cons, max_fit (by simpa using h1) (by simpa using h2)]
    constructor
    · rintro ⟨h, h3, h4⟩
      exact ⟨⟨by omega, h3⟩, by omega, h4⟩
    · rintro ⟨⟨h3, h4⟩, h5, h6⟩
      exact ⟨by omega, h4, h6⟩
/-- what a meet tells is what both tell -/
theorem up_meet {d : Nat} {L M : List (List Nat)} (hL : Len d L) (hM : Len d M) {t : List Nat} (ht : t.length = d) : Up (eachF max L M) t ↔ Up L t ∧ Up M t := by
  rw [up_each]
  constructor
  · rintro ⟨a, ha, b, hb, hf⟩
    obtain ⟨h1, h2⟩ := (max_fit (by rw [hM b hb, hL a ha]) (by rw [ht, hL a ha])).mp hf
    exact ⟨⟨a, ha, h1⟩, b, hb, h2⟩
  · rintro ⟨⟨a, ha, h1⟩, b, hb, h2⟩
    exact ⟨a, ha, b, hb, (max_fit (by rw [hM b hb, hL a ha]) (by rw [ht, hL a ha])).mpr ⟨h1, h2⟩⟩
end M7

/-! lots whose members are least: few, low, of one length; the laws in that form -/
namespace M7
structure Lt (d n m : Nat) (L : List (List Nat)) : Prop where
  len : Len d L
  low : ∀ t ∈ L, ∀ e ∈ t, e ≤ m
  few : L.length ≤ n
  own : leastN L = L
variable {d n m k j : Nat} {L M N : List (List Nat)} {f : Nat → Nat → Nat}
theorem least_short (L : List (List Nat)) : (leastN L).length ≤ L.length := Nat.le_trans (List.length_filter_le _ _) (canon_len L)
theorem Lt.of (h1 : Len d L) (h2 : ∀ t ∈ L, ∀ e ∈ t, e ≤ m) (h3 : L.length ≤ n) : Lt d n m (leastN L) := ⟨len_least h1, fun t ht => h2 t (mem_least.mp ht).1, Nat.le_trans (least_short L) h3, least_least h1⟩
theorem len_app (a : Len d L) (b : Len d M) : Len d (L ++ M) := fun t ht => (List.mem_append.mp ht).elim (a t) (b t)
theorem low_app (a : ∀ t ∈ L, ∀ e ∈ t, e ≤ m) (b : ∀ t ∈ M, ∀ e ∈ t, e ≤ m) : ∀ t ∈ L ++ M, ∀ e ∈ t, e ≤ m := fun t ht => (List.mem_append.mp ht).elim (a t) (b t)
theorem Lt.add (a : Lt d n m L) (b : Lt d k m M) : Lt d (n + k) m (leastN (L ++ M)) := .of (len_app a.len b.len) (low_app a.low b.low) (by
  rw [List.length_append]
  exact Nat.add_le_add a.few b.few)
structure Op (f : Nat → Nat → Nat) : Prop where
  grows : Grows f
  comm : ∀ a b, f a b = f b a
  assoc : ∀ a b c, f (f a b) c = f a (f b c)
  low : ∀ a b, f a b ≤ a + b
  zero : ∀ a, f a 0 = a
theorem op_add : Op (· + ·) := ⟨grows_add, Nat.add_comm, Nat.add_assoc, fun _ _ => Nat.le_refl _, fun _ => rfl⟩
theorem op_max : Op max := ⟨grows_max, Nat.max_comm, Nat.max_assoc, fun a b => by omega, fun a => by omega⟩
theorem zip_low (hf : Op f) : ∀ {t u : List Nat}, (∀ e ∈ t, e ≤ m) → (∀ e ∈ u, e ≤ k) → ∀ e ∈ List.zipWith f t u, e ≤ m + k
  | [], _, _, _, e, h => by simp at h
  | _ :: _, [], _, _, e, h => by simp at h
  | a :: t, b :: u, h1, h2, e, h => by
    rcases List.mem_cons.mp (show e ∈ f a b :: List.zipWith f t u from h) with h | h
    · have := hf.low a b
      have := h1 a List.mem_cons_self
      have := h2 b List.mem_cons_self
      omega
    · exact zip_low hf (fun e h => h1 e (List.mem_cons_of_mem _ h)) (fun e h => h2 e (List.mem_cons_of_mem _ h)) e h
theorem low_each (hf : Op f) (a : ∀ t ∈ L, ∀ e ∈ t, e ≤ m) (b : ∀ t ∈ M, ∀ e ∈ t, e ≤ k) : ∀ t ∈ eachF f L M, ∀ e ∈ t, e ≤ m + k := fun t ht => by
  obtain ⟨p, hp, h2⟩ := List.mem_flatMap.mp ht
  obtain ⟨u, hu, rfl⟩ := List.mem_map.mp h2
  exact zip_low hf (a p hp) (b u hu)
theorem count_each : ∀ L : List (List Nat), (eachF f L M).length = L.length * M.length
  | [] => by simp [eachF]
  | t :: L => by
    have := count_each L
    simp only [eachF] at this ⊢
    rw [List.flatMap_cons, List.length_append, this, List.length_map, List.length_cons, Nat.succ_mul, Nat.add_comm]
theorem Lt.each (hf : Op f) (a : Lt d n m L) (b : Lt d k j M) : Lt d (n * k) (m + j) (leastN (eachF f L M)) := .of (len_each a.len b.len) (low_each hf a.low b.low) (by
  rw [count_each]
  exact Nat.mul_le_mul a.few b.few)
theorem Lt.more {n' m' : Nat} (a : Lt d n m L) (h : n ≤ n') (h2 : m ≤ m') : Lt d n' m' L := ⟨a.len, fun t ht e he => Nat.le_trans (a.low t ht e he) h2, Nat.le_trans a.few h, a.own⟩
/-! ### the laws -/
theorem l_add_assoc {n1 n2 n3 m1 m2 m3 : Nat} (a : Lt d n1 m1 L) (b : Lt d n2 m2 M) (c : Lt d n3 m3 N) : leastN (leastN (L ++ M) ++ N) = leastN (L ++ leastN (M ++ N)) := by
  have h1 := app_least (len_app a.len b.len) c.len
  have h2 := app_least a.len (len_app b.len c.len)
  rw [c.own] at h1
  rw [a.own] at h2
  rw [h1, h2, List.append_assoc]
theorem l_each_assoc {n1 n2 n3 m1 m2 m3 : Nat} (hf : Op f) (a : Lt d n1 m1 L) (b : Lt d n2 m2 M) (c : Lt d n3 m3 N) : leastN (eachF f (leastN (eachF f L M)) N) = leastN (eachF f L (leastN (eachF f M N))) := by
  have h1 := each_least hf.grows (len_each (f := f) a.len b.len) c.len
  have h2 := each_least hf.grows a.len (len_each (f := f) b.len c.len)
  rw [c.own] at h1
  rw [a.own] at h2
  rw [h1, h2, each_assoc hf.assoc a.len b.len c.len]
theorem l_dist {n1 n2 n3 m1 m2 m3 : Nat} (hf : Op f) (a : Lt d n1 m1 L) (b : Lt d n2 m2 M) (c : Lt d n3 m3 N) : leastN (eachF f L (leastN (M ++ N))) = leastN (leastN (eachF f L M) ++ leastN (eachF f L N)) := by
  have h1 := each_least hf.grows a.len (len_app b.len c.len)
  rw [a.own] at h1
  rw [h1, app_least (len_each a.len b.len) (len_each a.len c.len), each_dist a.len b.len c.len]
theorem l_none {n1 m1 : Nat} (a : Lt d n1 m1 L) : leastN (L ++ leastN []) = L := by
  show leastN (L ++ []) = L
  rw [List.append_nil]
  exact a.own
abbrev z0 (d : Nat) : List Nat := List.replicate d 0
theorem least_z (d : Nat) : leastN [z0 d] = [z0 d] := by
  have e : minB [z0 d] (z0 d) = true := min_true.mpr fun q hq _ => List.mem_singleton.mp hq
  show List.filter (minB [z0 d]) [z0 d] = _
  rw [List.filter_cons_of_pos e]
  rfl
theorem zip_z (hf : Op f) : ∀ t : List Nat, List.zipWith f t (z0 t.length) = t
  | [] => rfl
  | a :: t => by
    show f a 0 :: List.zipWith f t (z0 t.length) = _
    rw [hf.zero, zip_z hf t]
theorem each_z (hf : Op f) : ∀ {L : List (List Nat)}, Len d L → eachF f L [z0 d] = L
  | [], _ => rfl
  | t :: L, h => by
    show List.zipWith f t (z0 d) :: eachF f L [z0 d] = _
    rw [each_z hf fun t ht => h t (List.mem_cons_of_mem _ ht)]
    have e := h t List.mem_cons_self
    subst e
    rw [zip_z hf]
theorem l_every {n1 m1 : Nat} (hf : Op f) (a : Lt d n1 m1 L) : leastN (eachF f L (leastN [z0 d])) = L := by
  rw [least_z, each_z hf a.len]
  exact a.own
theorem fit_z : ∀ t : List Nat, fitB (z0 t.length) t = true
  | [] => rfl
  | a :: t => fit_cons.mpr ⟨Nat.zero_le _, fit_z t⟩
theorem len_z (d : Nat) : Len d [z0 d] := fun t ht => by
  rw [List.mem_singleton.mp ht]
  exact List.length_replicate
theorem l_all {n1 m1 : Nat} (a : Lt d n1 m1 L) : leastN (L ++ leastN [z0 d]) = leastN [z0 d] := by
  rw [least_z]
  refine (least_ext (len_app a.len (len_z d)) (len_z d) fun t ht => ?_).trans (least_z d)
  have h : Up [z0 d] t := ⟨z0 d, List.mem_singleton.mpr rfl, by rw [← ht]; exact fit_z t⟩
  rw [up_app]
  exact ⟨fun _ => h, fun _ => .inr h⟩
theorem each_nil : ∀ L : List (List Nat), eachF f L [] = []
  | [] => rfl
  | _ :: L => each_nil L
theorem l_nothing (L : List (List Nat)) : leastN (eachF f L (leastN [])) = leastN [] := by
  show leastN (eachF f L []) = _
  rw [each_nil]
theorem l_twice {n1 m1 : Nat} (a : Lt d n1 m1 L) : leastN (L ++ L) = L := by
  rw [app_self a.len]
  exact a.own
theorem l_self {n1 m1 : Nat} (a : Lt d n1 m1 L) : leastN (eachF max L L) = L := by
  rw [show leastN (eachF max L L) = leastN L from least_ext (len_each a.len a.len) a.len fun t ht => by rw [up_meet a.len a.len ht, and_self]]
  exact a.own
/-! ### members -/
abbrev inB (L : List (List Nat)) (t : List Nat) : Bool := L.any fun k => fitB k t
theorem in_up {L : List (List Nat)} {t : List Nat} : inB L t = true ↔ Up L t := by
  rw [inB, List.any_eq_true]
theorem in_add (hL : Len d L) (hM : Len d M) (t : List Nat) : inB (leastN (L ++ M)) t = (inB L t || inB M t) := by
  rw [Bool.eq_iff_iff, Bool.or_eq_true, in_up, in_up, in_up, up_least (len_app hL hM), up_app]
theorem in_meet (hL : Len d L) (hM : Len d M) {t : List Nat} (ht : t.length = d) : inB (leastN (eachF max L M)) t = (inB L t && inB M t) := by
  rw [Bool.eq_iff_iff, Bool.and_eq_true, in_up, in_up, in_up, up_least (len_each hL hM), up_meet hL hM ht]
theorem fit_left : ∀ {a b : List Nat}, b.length = a.length → fitB a (List.zipWith (· + ·) a b) = true
  | [], _, _ => by simp [fitB]
  | _ :: _, [], h => by simp at h
  | x :: a, y :: b, h => fit_cons.mpr ⟨Nat.le_add_right _ _, fit_left (by simpa using h)⟩
theorem fit_right : ∀ {a b : List Nat}, b.length = a.length → fitB b (List.zipWith (· + ·) a b) = true
  | [], [], _ => rfl
  | [], _ :: _, h => by simp at h
  | _ :: _, [], h => by simp at h
  | x :: a, y :: b, h => fit_cons.mpr ⟨Nat.le_add_left _ _, fit_right (by simpa using h)⟩
theorem in_made (hL : Len d L) (hM : Len d M) {t : List Nat} (ht : t ∈ leastN (eachF (· + ·) L M)) : inB (leastN (eachF max L M)) t = true := by
  have h := (mem_least.mp ht).1
  have hl := len_each hL hM t h
  rw [in_meet hL hM hl, Bool.and_eq_true, in_up, in_up]
  obtain ⟨p, hp, h2⟩ := List.mem_flatMap.mp h
  obtain ⟨u, hu, rfl⟩ := List.mem_map.mp h2
  exact ⟨⟨p, hp, fit_left (by rw [hL p hp, hM u hu])⟩, u, hu, fit_right (by rw [hL p hp, hM u hu])⟩
end M7

/-! quotients and powers of lots by their least members -/
namespace M8
open M7
abbrev addN (a b : List Nat) : List Nat := List.zipWith (· + ·) a b
abbrev subN (a b : List Nat) : List Nat := List.zipWith (· - ·) a b
/-- the members without t -/
abbrev qN (L : List (List Nat)) (t : List Nat) : List (List Nat) := L.map fun u => subN u t
theorem fit_sub : ∀ {u t s : List Nat}, t.length = u.length → s.length = u.length → (fitB (subN u t) s = true ↔ fitB u (addN s t) = true)
  | [], _, _, _, _ => by simp [fitB, subN]
  | a :: u, [], _, h, _ => by simp at h
  | a :: u, _ :: _, [], _, h => by simp at h
  | a :: u, b :: t, c :: s, h1, h2 => by
    have ih := fit_sub (u := u) (t := t) (s := s) (by simpa using h1) (by simpa using h2)
    show (decide (a - b ≤ c) && fitB (subN u t) s) = true ↔ (decide (a ≤ c + b) && fitB u (addN s t)) = true
    rw [Bool.and_eq_true, Bool.and_eq_true, ih, decide_eq_true_iff, decide_eq_true_iff]
    exact and_congr_left fun _ => by omega
variable {d : Nat} {L M : List (List Nat)} {t u s : List Nat}
theorem len_add (ht : t.length = d) (hu : u.length = d) : (addN t u).length = d := by rw [List.length_zipWith]; omega
theorem len_sub (ht : t.length = d) (hu : u.length = d) : (subN t u).length = d := by rw [List.length_zipWith]; omega
theorem len_q (hL : Len d L) (ht : t.length = d) : Len d (qN L t) := fun v hv => by
  obtain ⟨u, hu, rfl⟩ := List.mem_map.mp hv
  exact len_sub (hL u hu) ht
theorem up_q (hL : Len d L) (ht : t.length = d) (hs : s.length = d) : Up (qN L t) s ↔ Up L (addN s t) := by
  constructor
  · rintro ⟨k, hk, hf⟩
    obtain ⟨u, hu, rfl⟩ := List.mem_map.mp hk
    exact ⟨u, hu, (fit_sub (by rw [ht, hL u hu]) (by rw [hs, hL u hu])).mp hf⟩
  · rintro ⟨u, hu, hf⟩
    exact ⟨_, List.mem_map_of_mem (f := fun u => subN u t) hu, (fit_sub (by rw [ht, hL u hu]) (by rw [hs, hL u hu])).mpr hf⟩
theorem add_assoc3 : addN (addN s u) t = addN s (addN t u) := by
  exact (zip_assoc (f := (· + ·)) Nat.add_assoc s u t).trans (congrArg (addN s) (zip_comm Nat.add_comm u t))
theorem q_q (hL : Len d L) (ht : t.length = d) (hu : u.length = d) : leastN (qN (leastN (qN L t)) u) = leastN (qN L (addN t u)) := by
  have h1 := len_least (len_q hL ht)
  refine least_ext (len_q h1 hu) (len_q hL (len_add ht hu)) fun s hs => ?_
  rw [up_q h1 hu hs, up_least (len_q hL ht), up_q hL ht (len_add hs hu), up_q hL (len_add ht hu) hs, add_assoc3]
theorem q_least (hL : Len d L) (ht : t.length = d) : leastN (qN (leastN L) t) = leastN (qN L t) :=
  least_ext (len_q (len_least hL) ht) (len_q hL ht) fun s hs => by rw [up_q (len_least hL) ht hs, up_q hL ht hs, up_least hL]
theorem q_add (hL : Len d L) (hM : Len d M) (ht : t.length = d) : leastN (qN (leastN (L ++ M)) t) = leastN (leastN (qN L t) ++ leastN (qN M t)) := by
  rw [q_least (len_app hL hM) ht, app_least (len_q hL ht) (len_q hM ht)]
  exact least_ext (len_q (len_app hL hM) ht) (len_app (len_q hL ht) (len_q hM ht)) fun s hs => by rw [up_q (len_app hL hM) ht hs, up_app, up_app, up_q hL ht hs, up_q hM ht hs]
theorem q_meet (hL : Len d L) (hM : Len d M) (ht : t.length = d) : leastN (qN (leastN (eachF max L M)) t) = leastN (eachF max (leastN (qN L t)) (leastN (qN M t))) := by
  have h3 := len_each (f := max) hL hM
  rw [q_least h3 ht, each_least grows_max (len_q hL ht) (len_q hM ht)]
  exact least_ext (len_q h3 ht) (len_each (len_q hL ht) (len_q hM ht)) fun s hs => by
    rw [up_q h3 ht hs, up_meet hL hM (len_add hs ht), up_meet (len_q hL ht) (len_q hM ht) hs, up_q hL ht hs, up_q hM ht hs]
theorem z_len : (z0 d).length = d := List.length_replicate
theorem z_addN : ∀ t : List Nat, addN (z0 t.length) t = t
  | [] => rfl
  | a :: t => by
    show (0 + a) :: addN (z0 t.length) t = a :: t
    rw [z_addN t, Nat.zero_add]
theorem in_q (hL : Len d L) (ht : t.length = d) (hs : s.length = d) : inB (leastN (qN L t)) s = inB L (addN s t) := by
  rw [Bool.eq_iff_iff, in_up, in_up, up_least (len_q hL ht), up_q hL ht hs]
theorem is_all (hL : Len d L) : leastN L = [z0 d] ↔ Up L (z0 d) := by
  constructor
  · intro h
    have : z0 d ∈ leastN L := by rw [h]; exact List.mem_singleton.mpr rfl
    exact ⟨_, (mem_least.mp this).1, fit_refl _⟩
  · rintro ⟨k, hk, hf⟩
    rw [← least_z d]
    refine least_ext hL (len_z d) fun s hs => ⟨fun _ => ⟨_, List.mem_singleton.mpr rfl, by rw [← hs]; exact fit_z s⟩, fun _ => ⟨k, hk, ?_⟩⟩
    exact fit_trans (u := z0 d) (by rw [z_len, hL k hk]) hf (by rw [← hs]; exact fit_z s)
theorem all_q (hL : Len d L) (ht : t.length = d) : decide (leastN (qN L t) = [z0 d]) = inB L t := by
  rw [Bool.eq_iff_iff, decide_eq_true_iff, is_all (len_q hL ht), in_up, up_q hL ht z_len]
  rw [show addN (z0 d) t = t by rw [← ht]; exact z_addN t]
theorem in_own (hL : Len d L) (ht : t.length = d) (hs : s ∈ L) : inB (leastN (qN L t)) s = true := by
  rw [in_q hL ht (hL s hs), in_up]
  exact ⟨s, hs, fit_left (by rw [ht, hL s hs])⟩
/-! ### powers -/
theorem least_canon (hL : Len d L) : leastN (canonN L) = leastN L :=
  least_ext (fun t ht => hL t (mem_canon.mp ht)) hL fun s _ => ⟨fun ⟨k, hk, h⟩ => ⟨k, mem_canon.mp hk, h⟩, fun ⟨k, hk, h⟩ => ⟨k, mem_canon.mpr hk, h⟩⟩
def pwN (d : Nat) (L : List (List Nat)) : Nat → List (List Nat)
  | 0 => [z0 d]
  | k + 1 => canonN (eachF (· + ·) (pwN d L k) L)
theorem len_pw (hL : Len d L) : ∀ k, Len d (pwN d L k)
  | 0 => len_z d
  | k + 1 => fun t ht => len_each (len_pw hL k) hL t (mem_canon.mp ht)
def wlN (d : Nat) (L : List (List Nat)) : Nat → List (List Nat)
  | 0 => [z0 d]
  | k + 1 => leastN (eachF (· + ·) (wlN d L k) L)
theorem wl_pw (hL : Len d L) (own : leastN L = L) : ∀ k, wlN d L k = leastN (pwN d L k)
  | 0 => (least_z d).symm
  | k + 1 => by
    show leastN (eachF (· + ·) (wlN d L k) L) = leastN (canonN _)
    rw [least_canon (len_each (len_pw hL k) hL), wl_pw hL own k]
    have h := each_least grows_add (len_pw hL k) hL
    rw [own] at h
    exact h
theorem wl_one (hL : Len d L) (own : leastN L = L) : wlN d L 1 = L := by
  show leastN (eachF (· + ·) [z0 d] L) = L
  rw [each_comm Nat.add_comm (len_z d) hL, each_z op_add hL, own]
theorem wl_two (hL : Len d L) (own : leastN L = L) : wlN d L 2 = leastN (eachF (· + ·) L L) := by
  show leastN (eachF (· + ·) (wlN d L 1) L) = _
  rw [wl_one hL own]
/-- words by their letters -/
def wdN (d : Nat) : Nat → List (List Nat) → List (List Nat)
  | 0, _ => [z0 d]
  | _ + 1, [] => []
  | k + 1, m :: L => (wdN d k (m :: L)).map (addN m) ++ wdN d (k + 1) L
termination_by k L => k + L.length
def cnt : Nat → Nat → Nat
  | 0, _ => 1
  | _ + 1, 0 => 0
  | k + 1, n + 1 => cnt k (n + 1) + cnt (k + 1) n
termination_by k n => k + n
theorem wd_len (d : Nat) : ∀ (k : Nat) (L : List (List Nat)), (wdN d k L).length = cnt k L.length
  | 0, _ => by rw [wdN, cnt]; rfl
  | _ + 1, [] => by rw [wdN]; show 0 = cnt _ 0; rw [cnt]
  | k + 1, m :: L => by
    rw [wdN, List.length_append, List.length_map, wd_len d k (m :: L), wd_len d (k + 1) L]
    show _ = cnt (k + 1) (L.length + 1)
    rw [cnt]
    rfl
termination_by k L => k + L.length
theorem wd_step (d : Nat) : ∀ (k : Nat) (L : List (List Nat)) (s m : List Nat), Len d L → s ∈ wdN d k L → m ∈ L → addN s m ∈ wdN d (k + 1) L
  | _, [], _, _, _, _, h => nomatch h
  | k, a :: L, s, m, hL, hs, hm => by
    rw [wdN]
    rcases List.mem_cons.mp hm with rfl | hm'
    · exact List.mem_append_left _ (List.mem_map.mpr ⟨s, hs, zip_comm Nat.add_comm m s⟩)
    · have hL' : Len d L := fun t ht => hL t (List.mem_cons_of_mem _ ht)
      cases k with
      | zero =>
        rw [wdN] at hs
        exact List.mem_append_right _ (wd_step d 0 L s m hL' (by rw [wdN]; exact hs) hm')
      | succ k =>
        have hs0 := hs
        rw [wdN] at hs
        rcases List.mem_append.mp hs with hs | hs
        · obtain ⟨s', hs', rfl⟩ := List.mem_map.mp hs
          refine List.mem_append_left _ (List.mem_map.mpr ⟨addN s' m, wd_step d k (a :: L) s' m hL hs' hm, ?_⟩)
          exact (zip_assoc Nat.add_assoc a s' m).symm
        · exact List.mem_append_right _ (wd_step d (k + 1) L s m hL' hs hm')
termination_by k L => k + L.length
theorem pw_wd (hL : Len d L) : ∀ k t, t ∈ pwN d L k → t ∈ wdN d k L
  | 0, t, h => by rw [wdN]; exact h
  | k + 1, t, h => by
    obtain ⟨s, hs, h⟩ := List.mem_flatMap.mp (mem_canon.mp h)
    obtain ⟨m, hm, rfl⟩ := List.mem_map.mp h
    exact wd_step d k L s m hL (pw_wd hL k s hs) hm
theorem nd_sub {α : Type} [DecidableEq α] : ∀ {l m : List α}, l.Nodup → (∀ x ∈ l, x ∈ m) → l.length ≤ m.length
  | [], _, _, _ => Nat.zero_le _
  | x :: l, m, h, sub => by
    obtain ⟨hx, hl⟩ := List.nodup_cons.mp h
    have ih := nd_sub (l := l) (m := m.erase x) hl fun y hy => (List.mem_erase_of_ne (fun e : y = x => hx (by rw [← e]; exact hy))).mpr (sub y (List.mem_cons_of_mem _ hy))
    have := List.length_erase_of_mem (sub x List.mem_cons_self)
    have pos := List.length_pos_of_mem (sub x List.mem_cons_self)
    rw [List.length_cons]
    omega
theorem cnt35 {k n : Nat} (hk : k ≤ 4) (hn : n ≤ 4) : cnt k n ≤ 35 := by
  have h : ∀ k ≤ 4, ∀ n ≤ 4, cnt k n ≤ 35 := by
    intro k hk n hn
    have e : k = 0 ∨ k = 1 ∨ k = 2 ∨ k = 3 ∨ k = 4 := by omega
    have e2 : n = 0 ∨ n = 1 ∨ n = 2 ∨ n = 3 ∨ n = 4 := by omega
    rcases e with rfl | rfl | rfl | rfl | rfl <;> rcases e2 with rfl | rfl | rfl | rfl | rfl <;> simp [cnt]
  exact h k hk n hn
theorem lt_irr : ∀ t : List Nat, ltN t t = false
  | [] => rfl
  | a :: t => by
    cases h : ltN (a :: t) (a :: t) with
    | false => rfl
    | true =>
      rcases lt_cons.mp h with z | ⟨_, z⟩
      · omega
      · rw [lt_irr t] at z
        cases z
theorem nd_asc {A : List (List Nat)} (h : Asc A) : A.Nodup := by
  rw [List.nodup_iff_pairwise_ne]
  exact List.Pairwise.imp (fun {a b} z e => by rw [e, lt_irr] at z; cases z) h
theorem pw_short (hL : Len d L) (h4 : L.length ≤ 4) {k : Nat} (hk : k ≤ 4) : (pwN d L k).length ≤ 35 := by
  refine Nat.le_trans ?_ (cnt35 hk h4)
  rw [← wd_len d k L]
  refine nd_sub ?_ (pw_wd hL k)
  cases k with
  | zero => exact List.nodup_cons.mpr ⟨fun h => (nomatch h), List.nodup_nil⟩
  | succ k => exact nd_asc (asc_canon (len_each (len_pw hL k) hL))
theorem wl_short (hL : Len d L) (own : leastN L = L) (h4 : L.length ≤ 4) {k : Nat} (hk : k ≤ 4) : (wlN d L k).length ≤ 35 := by
  rw [wl_pw hL own]
  exact Nat.le_trans (least_short _) (pw_short hL h4 hk)
/-- what is different of the next ones -/
theorem wl_next (hL : Len d L) (own : leastN L = L) (h4 : L.length ≤ 4) {k : Nat} (hk : k < 4) : (canonN (eachF (· + ·) (wlN d L k) L)).length ≤ 35 := by
  refine Nat.le_trans (nd_sub (nd_asc (asc_canon (len_each (by rw [wl_pw hL own]; exact len_least (len_pw hL k)) hL))) fun t ht => ?_) (pw_short hL h4 (k := k + 1) hk)
  refine mem_canon.mpr ?_
  obtain ⟨s, hs, h⟩ := List.mem_flatMap.mp (mem_canon.mp ht)
  rw [wl_pw hL own] at hs
  exact List.mem_flatMap.mpr ⟨s, (mem_least.mp hs).1, h⟩
theorem low_pw {m : Nat} (hl : ∀ t ∈ L, ∀ e ∈ t, e ≤ m) : ∀ k, ∀ t ∈ pwN d L k, ∀ e ∈ t, e ≤ k * m
  | 0, t, ht, e, he => by
    rw [List.mem_singleton.mp ht] at he
    have := List.eq_of_mem_replicate he
    omega
  | k + 1, t, ht, e, he => by
    have := low_each op_add (low_pw hl k) hl t (mem_canon.mp ht) e he
    rw [Nat.succ_mul]
    exact this
theorem low_wl {m : Nat} (hL : Len d L) (own : leastN L = L) (hl : ∀ t ∈ L, ∀ e ∈ t, e ≤ m) (k : Nat) : ∀ t ∈ wlN d L k, ∀ e ∈ t, e ≤ k * m := fun t ht => by
  rw [wl_pw hL own] at ht
  exact low_pw hl k t (mem_least.mp ht).1
theorem len_wl (hL : Len d L) (own : leastN L = L) (k : Nat) : Len d (wlN d L k) := by
  rw [wl_pw hL own]
  exact len_least (len_pw hL k)
end M8

namespace RS
open PySem PySem.Spec PyProof.Rows L2 L5
/-! ### sorted: a list of tuples of numbers, of any length, all unlike: the one list of them that ascends -/
theorem lt_int : ∀ {a b : List Nat}, M7.ltN a b = true → (a.map fun n => ((n : Nat) : Int)) < (b.map fun n => ((n : Nat) : Int))
  | [], [], h => by cases h
  | [], _ :: _, h => by simp
  | _ :: _, [], h => by cases h
  | x :: xs, y :: ys, h => by
    rw [List.map_cons, List.map_cons, List.cons_lt_cons_iff]
    rcases M7.lt_cons.mp h with h | ⟨h, g⟩
    · exact .inl (by omega)
    · exact .inr ⟨by omega, lt_int g⟩
theorem le_dec (p q : List Nat) : PySem.W.dataLe false encT p q = decide ((p.map fun n => ((n : Nat) : Int)) ≤ (q.map fun n => ((n : Nat) : Int))) := by
  have e : PySem.W.dataLe false encT = PySem.W.dataLe false (fun t : List Nat => PyData.list ((t.map fun n => ((n : Nat) : Int)).map .int)) := by
    funext p q
    rw [PySem.W.dataLe_eq, PySem.W.dataLe_eq]
    simp only [PySem.W.dataLt, encT, PySem.W.keyToks, List.map_map]
    rfl
  rw [e, PySem.W.dataLe_rows (fun t : List Nat => t.map fun n => ((n : Nat) : Int))]
theorem lt_le {p q : List Nat} (h : M7.ltN p q = true) : PySem.W.dataLe false encT p q = true := by
  rw [le_dec]
  exact decide_eq_true (List.not_lt.mp (fun g => List.lt_asymm g (lt_int h)))
theorem le_lt {p q : List Nat} (h : PySem.W.dataLe false encT p q = true) : M7.ltN q p = false := by
  cases e : M7.ltN q p with
  | false => rfl
  | true =>
    rw [le_dec] at h
    exact absurd (lt_int e) (List.not_lt.mpr (of_decide_eq_true h))
theorem asc_of {d : Nat} : ∀ {A : List (List Nat)}, (∀ t ∈ A, t.length = d) → A.Nodup → A.Pairwise (fun p q => PySem.W.dataLe false encT p q = true) → M7.Asc A
  | [], _, _, _ => .nil
  | t :: A, hd, hn, hp => by
    rw [List.nodup_cons] at hn
    rw [List.pairwise_cons] at hp
    refine List.pairwise_cons.mpr ⟨fun u hu => ?_, asc_of (fun u hu => hd u (List.mem_cons_of_mem _ hu)) hn.2 hp.2⟩
    rcases M7.lt_tri (t := t) (u := u) (by rw [hd t List.mem_cons_self, hd u (List.mem_cons_of_mem _ hu)]) (fun e => hn.1 (e ▸ hu)) with k | k
    · exact k
    · rw [le_lt (hp.1 u hu)] at k
      cases k
theorem sort_is {d : Nat} {L M : List (List Nat)} (hd : ∀ t ∈ L, t.length = d) (ha : M7.Asc M) (hp : L.Perm M) : L.mergeSort (PySem.W.dataLe false encT) = M := by
  have hn : L.Nodup := hp.nodup_iff.mpr (M8.nd_asc ha)
  have h1 : (L.mergeSort (PySem.W.dataLe false encT)).Perm L := List.mergeSort_perm L _
  have h2 : (L.mergeSort (PySem.W.dataLe false encT)).Pairwise (fun p q => PySem.W.dataLe false encT p q = true) := by
    have t := PySem.W.sortLe_total (PyProof.Rows.listOrd PyProof.Rows.itemOrd) false fun b => PySem.W.keyToks (encT b)
    exact List.pairwise_mergeSort t.trans (fun a b => by simpa using t.total a b) L
  exact M7.asc_unique (asc_of (d := d) (fun t ht => hd t (h1.mem_iff.mp ht)) (h1.nodup_iff.mpr hn) h2) ha fun x => (h1.trans hp).mem_iff
theorem each_tups {K : PySem.W.Frag} {H : Hp} : ∀ {rs : List Addr} {L : List (List Nat)} {us : List Value}, Tups K H rs L → Vals (rs.map V.ref) us → PySem.W.EachIs (fun v t => ∃ a, v = Value.ref a ∧ SqT K H a (nv t)) us L
  | _, _, _, .nil, .nil => .nil
  | _, _, _, .cons h t, .cons r r' => .cons ⟨_, r, h⟩ (each_tups t r')
theorem tups_each {K : PySem.W.Frag} {H : Hp} : ∀ {us : List Value} {L : List (List Nat)}, PySem.W.EachIs (fun v t => ∃ a, v = Value.ref a ∧ SqT K H a (nv t)) us L → ∃ rs : List Addr, Tups K H rs L ∧ Vals (rs.map V.ref) us
  | _, _, .nil => ⟨[], .nil, .nil⟩
  | _, _, .cons ⟨a, e, h⟩ t => by
    obtain ⟨rs, h1, h2⟩ := tups_each t
    exact ⟨a :: rs, .cons h h1, .cons e h2⟩
def rSortP (K : PySem.W.Frag) : List V → Hp → VK → Prop := fun vs H Q => ∃ (a : Addr) (rs : List Addr) (L M : List (List Nat)) (d : Nat), vs = [V.ref a] ∧ SqL K H a (rs.map V.ref) ∧ Tups K H rs L ∧ 1 ≤ d ∧ (∀ t ∈ L, t.length = d) ∧ M7.Asc M ∧ L.Perm M ∧
  ∀ (p : Addr) (qs : List Addr), H p = none → Tups K H qs M → Q (.ref p) (upd H p (.lst (qs.map V.ref)))
theorem cr_sortP {X : Cx} (hu : X.A.units + 64 < cLine) : CallR X (.builtin "sorted") (rSortP X.K) := by
  intro pins s σ H vs us Q I r h
  obtain ⟨a, rs, L, M, d, rfl, hs, hT, h1, hd, hasc, hpm, q⟩ := h
  obtain ⟨its, rv, hl, hz⟩ := I.list hs
  rw [Vals.ref1 r]
  have e1 := each_tups hT rv
  have e2 : PySem.W.EachIs (fun v t => ∃ as, Reads s.heap v (encT t) as) its L := e1.mono fun v t ⟨a, e, h⟩ => by
    obtain ⟨as, h'⟩ := Dp.reads I _ _ v (dp_tup h) e
    exact ⟨as, h'⟩
  have hlen : its.length = L.length := e1.length
  have hz' : L.length ≤ sizeLine := by
    rw [← hT.length, ← List.length_map (f := V.ref)]
    exact hz
  refine PySem.W.sorted_data hl.isList e1 e2 (PySem.W.AllAlike.of fun b b' => ?_) (.inl fun e he => ?_) hz' (fun b _ => ?_) fun out ho eo => ?_
  · have e3 : ∀ t : List Nat, encT t = .tuple ((t.map fun n => ((n : Nat) : Int)).map .int) := fun t => by
      rw [List.map_map]
      rfl
    rw [e3, e3]
    exact PySem.W.alike_ints _ _
  · obtain ⟨t, ht, rfl⟩ := List.mem_map.mp he
    cases t with
    | nil => have := hd _ ht; rw [List.length_nil] at this; omega
    | cons n t => exact ⟨_, _, rfl⟩
  · have g := can_nats b
    simp only [encT, PyData.depth, g.2]
    omega
  · rw [sort_is hd hasc hpm] at eo
    obtain ⟨qs, hq, rq⟩ := tups_each eo
    obtain ⟨ep, he'⟩ := PyProof.Rows.sortedAll_at s.heap its (List.toArray out)
    have hl2 : (qs.map V.ref).length ≤ sizeLine := by rw [List.length_map, hq.length, ← hpm.length_eq]; exact hz'
    exact ⟨.ref _, upd H (s.heap.objs.size + 1) (.lst (qs.map V.ref)), I.laid (t' := s.toks) (fun _ _ => PyProof.Rows.sortedAll_old) (Nat.le_succ _) ⟨hl2, out, ep, rq, he'⟩, rfl, q _ qs (I.hok.fresh (Nat.le_succ _)) hq⟩
end RS

/-! letter orders in plain Lean -/
namespace M50
open M7 M8
abbrev srt (l : List Nat) : List Nat := l.mergeSort fun a b => decide (a ≤ b)
theorem srt_perm (l : List Nat) : (srt l).Perm l := List.mergeSort_perm l _
theorem srt_asc (l : List Nat) : (srt l).Pairwise (· ≤ ·) := by
  have h := List.pairwise_mergeSort (le := fun a b : Nat => decide (a ≤ b)) (fun a b c h1 h2 => by simp at *; omega) (fun a b => by simp; omega) l
  exact h.imp fun h => by simpa using h
theorem asc_perm : ∀ {l m : List Nat}, l.Pairwise (· ≤ ·) → m.Pairwise (· ≤ ·) → l.Perm m → l = m
  | [], m, _, _, p => (List.Perm.nil_eq p)
  | x :: l, [], _, _, p => by have := p.length_eq; simp at this
  | x :: l, y :: m, h1, h2, p => by
    rw [List.pairwise_cons] at h1 h2
    have hx : x ∈ y :: m := p.subset List.mem_cons_self
    have hy : y ∈ x :: l := p.symm.subset List.mem_cons_self
    have e : x = y := by
      rcases List.mem_cons.mp hx with e | hx
      · exact e
      · rcases List.mem_cons.mp hy with e | hy
        · exact e.symm
        · have a := h1.1 y hy
          have b := h2.1 x hx
          omega
    subst e
    rw [asc_perm h1.2 h2.2 (List.Perm.cons_inv p)]
theorem srt_uniq {ys l : List Nat} (hp : ys.Perm l) (hs : ys.Pairwise (· ≤ ·)) : ys = srt l := asc_perm hs (srt_asc l) (hp.trans (srt_perm l).symm)
theorem srt_of_perm {l m : List Nat} (h : l.Perm m) : srt l = srt m := srt_uniq ((srt_perm l).trans h) (srt_asc l)
def ix1 : List Nat → Nat
  | [] => 0
  | x :: p => if x = 1 then 0 else ix1 p + 1
abbrev ixs (P : List (List Nat)) : List Nat := P.map ix1
abbrev allOne (P : List (List Nat)) : Bool := P.all fun p => p.sum == 1
/-- the letters behind one member, if there are such -/
def qsN (L : List (List Nat)) (t : List Nat) : Option (List Nat) := if allOne (leastN (qN L t)) = true then some (srt (ixs (leastN (qN L t)))) else none
theorem one_at : ∀ {p : List Nat}, p.sum = 1 → p[ix1 p]? = some 1 ∧ ∀ m, m < ix1 p → p[m]? ≠ some 1
  | [], h => by simp at h
  | 0 :: p, h => by
    have h' : p.sum = 1 := by simpa using h
    obtain ⟨a, b⟩ := one_at h'
    rw [show ix1 (0 :: p) = ix1 p + 1 from rfl]
    refine ⟨by rw [List.getElem?_cons_succ]; exact a, fun m hm => ?_⟩
    cases m with
    | zero => simp
    | succ m => rw [List.getElem?_cons_succ]; exact b m (by omega)
  | 1 :: p, h => by
    rw [show ix1 (1 :: p) = 0 from rfl]
    exact ⟨rfl, fun m hm => absurd hm (by omega)⟩
  | (n + 2) :: p, h => by rw [List.sum_cons] at h; omega
variable {d : Nat}
theorem qs_ext {L M : List (List Nat)} {t : List Nat} (hL : Len d L) (ht : t.length = d) (h : ∀ x, x ∈ L ↔ x ∈ M) : qsN L t = qsN M t := by
  have hM : Len d M := fun x hx => hL x ((h x).mpr hx)
  have e : leastN (qN L t) = leastN (qN M t) := least_ext (len_q hL ht) (len_q hM ht) fun s hs => by
    rw [up_q hL ht hs, up_q hM ht hs]
    exact ⟨fun ⟨k, hk, f⟩ => ⟨k, (h k).mp hk, f⟩, fun ⟨k, hk, f⟩ => ⟨k, (h k).mpr hk, f⟩⟩
  unfold qsN
  rw [e]
abbrev pick (M : List (List Nat)) (c : List Nat) : List (List Nat) := c.map fun i => M.getD i []
inductive Rch (M : List (List Nat)) : Nat → List Nat → Prop
  | zero : Rch M 0 []
  | step {k : Nat} {c : List Nat} {i : Nat} (h : Rch M k c) (hi : i < M.length) (hc : i ∉ c) (hq : (qsN (pick M c) (M.getD i [])).isSome = true) : Rch M (k + 1) (srt (c ++ [i]))
structure Idx (n k : Nat) (c : List Nat) : Prop where
  len : c.length = k
  nd : c.Nodup
  lt : ∀ i ∈ c, i < n
  asc : c.Pairwise (· ≤ ·)
theorem Idx.more {n k : Nat} {c : List Nat} {i : Nat} (h : Idx n k c) (hi : i < n) (hc : i ∉ c) : Idx n (k + 1) (srt (c ++ [i])) := by
  have p := srt_perm (c ++ [i])
  refine ⟨by rw [p.length_eq, List.length_append, h.len]; rfl, p.nodup_iff.mpr ?_, fun j hj => ?_, srt_asc _⟩
  · rw [List.nodup_append]
    refine ⟨h.nd, by simp, fun a ha b hb => ?_⟩
    rw [List.mem_singleton.mp hb]
    exact fun e => hc (e ▸ ha)
  · rcases List.mem_append.mp (p.mem_iff.mp hj) with hj | hj
    · exact h.lt j hj
    · rw [List.mem_singleton.mp hj]; exact hi
theorem Rch.idx {M : List (List Nat)} : ∀ {k : Nat} {c : List Nat}, Rch M k c → Idx M.length k c
  | _, _, .zero => ⟨rfl, List.nodup_nil, fun _ h => (nomatch h), List.Pairwise.nil⟩
  | _, _, .step h hi hc _ => h.idx.more hi hc
/-- each member but the first ones has letters behind those ahead -/
def Gd (o : List (List Nat)) : Prop := ∀ i t, o[i]? = some t → (qsN (o.take i) t).isSome = true
theorem Gd.more {o : List (List Nat)} {t : List Nat} (h : Gd o) (ht : (qsN o t).isSome = true) : Gd (o ++ [t]) := fun i u hu => by
  by_cases hi : i < o.length
  · rw [List.getElem?_append_left hi] at hu
    rw [List.take_append_of_le_length (by omega)]
    exact h i u hu
  · have hl := (List.getElem?_eq_some_iff.mp hu).1
    rw [List.length_append, List.length_singleton] at hl
    have e : i = o.length := by omega
    subst e
    rw [List.getElem?_append_right (Nat.le_refl _), Nat.sub_self] at hu
    rw [← Option.some.inj hu, List.take_left]
    exact ht
theorem getD_mem {M : List (List Nat)} {i : Nat} (h : i < M.length) : M.getD i [] ∈ M := by
  rw [List.getD_eq_getElem?_getD, List.getElem?_eq_getElem h]
  exact List.getElem_mem h
theorem pick_len {M : List (List Nat)} {c : List Nat} (hM : Len d M) (h : ∀ i ∈ c, i < M.length) : Len d (pick M c) := fun t ht => by
  obtain ⟨i, hi, rfl⟩ := List.mem_map.mp ht
  exact hM _ (getD_mem (h i hi))
theorem pick_step {M o : List (List Nat)} {c : List Nat} {i : Nat} (h : o.Perm (pick M c)) : (o ++ [M.getD i []]).Perm (pick M (srt (c ++ [i]))) := by
  have e : pick M (c ++ [i]) = pick M c ++ [M.getD i []] := by unfold pick; rw [List.map_append]; rfl
  exact (List.Perm.append_right _ h).trans (by rw [← e]; exact ((srt_perm (c ++ [i])).map _).symm)
theorem qs_perm {M o : List (List Nat)} {c : List Nat} {t : List Nat} (hM : Len d M) (hc : ∀ i ∈ c, i < M.length) (ht : t.length = d) (h : o.Perm (pick M c)) : qsN o t = qsN (pick M c) t :=
  (qs_ext (pick_len hM hc) ht fun x => h.mem_iff.symm).symm
theorem pick_all (M : List (List Nat)) : pick M (List.range M.length) = M := by
  refine List.ext_getElem (by rw [List.length_map, List.length_range]) fun i h1 h2 => ?_
  rw [List.getElem_map, List.getElem_range, List.getD_eq_getElem?_getD, List.getElem?_eq_getElem h2]
  rfl
/-- all that can be reached of a size -/
def subsN : Nat → List (List Nat)
  | 0 => [[]]
  | n + 1 => subsN n ++ (subsN n).map fun c => c ++ [n]
theorem mem_subs : ∀ {n k : Nat} {c : List Nat}, Idx n k c → c ∈ subsN n
  | 0, k, [], _ => List.mem_singleton.mpr rfl
  | 0, k, x :: c, h => absurd (h.lt x List.mem_cons_self) (by omega)
  | n + 1, k, c, h => by
    by_cases hn : n ∈ c
    · refine List.mem_append_right _ (List.mem_map.mpr ⟨c.erase n, mem_subs (k := k - 1) ⟨?_, h.nd.erase _, fun i hi => ?_, h.asc.sublist List.erase_sublist⟩, ?_⟩)
      · rw [List.length_erase_of_mem hn, h.len]
      · have h1 := h.lt i (List.mem_of_mem_erase hi)
        have h2 : i ≠ n := fun e => by rw [e] at hi; exact (h.nd.mem_erase_iff.mp hi).1 rfl
        omega
      · refine asc_perm (List.pairwise_append.mpr ⟨h.asc.sublist List.erase_sublist, List.pairwise_singleton _ _, fun a ha b hb => ?_⟩) h.asc ?_
        · rw [List.mem_singleton.mp hb]
          have := h.lt a (List.mem_of_mem_erase ha)
          omega
        · exact (List.perm_append_singleton _ _).trans (List.perm_cons_erase hn).symm
    · refine List.mem_append_left _ (mem_subs (k := k) ⟨h.len, h.nd, fun i hi => ?_, h.asc⟩)
      have h1 := h.lt i hi
      have h2 : i ≠ n := fun e => hn (e ▸ hi)
      omega
theorem subs_le : ∀ {n : Nat} {c : List Nat}, c ∈ subsN n → c.length ≤ n
  | 0, c, h => by rw [List.mem_singleton.mp h]; exact Nat.le_refl _
  | n + 1, c, h => by
    rcases List.mem_append.mp h with h | h
    · have := subs_le h
      omega
    · obtain ⟨e, he, rfl⟩ := List.mem_map.mp h
      have := subs_le he
      rw [List.length_append]
      show _ + 1 ≤ _
      omega
theorem subs_all : ∀ {n : Nat} {c : List Nat}, c ∈ subsN n → c.length = n → c = List.range n
  | 0, c, h, _ => List.mem_singleton.mp h
  | n + 1, c, h, hl => by
    rcases List.mem_append.mp h with h | h
    · have := subs_le h
      omega
    · obtain ⟨e, he, rfl⟩ := List.mem_map.mp h
      rw [List.length_append] at hl
      have hl' : e.length + 1 = n + 1 := hl
      rw [subs_all he (by omega), List.range_succ]
theorem idx_all {n : Nat} {c : List Nat} (h : Idx n n c) : c = List.range n := subs_all (mem_subs h) h.len
theorem subs_few : (List.range 7).all (fun n => (List.range 7).all fun k => Nat.ble ((subsN n).filter fun c => c.length == k).length 20) = true := by decide +kernel
theorem idx_few {n k : Nat} {L : List (List Nat)} (hn : n ≤ 6) (hk : k ≤ 6) (h : ∀ c ∈ L, Idx n k c) (nd : L.Nodup) : L.length ≤ 20 := by
  have a := List.all_eq_true.mp subs_few n (List.mem_range.mpr (by omega))
  have b := Nat.le_of_ble_eq_true (List.all_eq_true.mp a k (List.mem_range.mpr (by omega)))
  refine Nat.le_trans (nd_sub nd fun c hc => List.mem_filter.mpr ⟨mem_subs (h c hc), ?_⟩) b
  rw [(h c hc).len]
  exact beq_self_eq_true k
end M50

/-! dicts whose keys are tuples: list(d.values()), a written one -/
namespace WT
open PySem PySem.Spec PyProof.Rows L2 L5
/-! ### d.values() -/
def valsO (p d : Addr) : HO := .ext fun h => h.IsValuesView p d
theorem valsO_ok {P : Program} {w : World} {H : Hp} {h : Heap} {p d : Addr} (e : h.get? p = some { cls := .type "dict_values", data := .fields #[.ref d] }) : ObjOk P w H h p (valsO p d) :=
  ⟨⟨_, e, rfl, rfl⟩, ⟨_, e⟩, fun _ _ x k => by obtain ⟨o, ho, r⟩ := x; exact ⟨o, k o ho, r⟩⟩
section
variable {X : Cx}
def rValsT : V → List V → Hp → VK → Prop := fun x xs H Q => ∃ (a : Addr) (kvs : List (List L2.Key × V)), x = .ref a ∧ xs = [] ∧ H a = some (.dT kvs) ∧ ∀ p, H p = none → Q (.ref p) (upd H p (valsO p a))
theorem mt_valsT : MtR X "dict.values" rValsT := by
  intro pins s σ H x xs v us Q I rx rxs h
  obtain ⟨a, kvs, rfl, rfl, ha, q⟩ := h
  cases rx
  cases rxs
  obtain ⟨_, hd, _, _, o, es, ep, ho, hx, hdat, _⟩ := dt_of I.hok ha
  have raw : s.heap.DictRaw a es ep := ⟨o, ho, hx, hdat⟩
  refine call_meetsIn PySem.F.slot_dict_values raw.typeIs PySem.F.entry_dict_values (PySem.F.args_dict_values_1 _) (meets_dict_values_raw a hd) ⟨⟨es, ep, raw⟩, ?_⟩
  exact ⟨.ref s.heap.objs.size, _, I.laid (t' := s.toks) (fun b u e => Heap.get?_push_of_some _ e) (Nat.le_refl _) (valsO_ok (Heap.get?_push_size _ rfl)), rfl, q _ (I.hok.fresh (Nat.le_refl _))⟩
theorem kt_get {H : Hp} {kvs : List (List L2.Key × V)} {ks : List (List L2.Key × Addr × Value)} (pr : KT H kvs ks) : Vals (kvs.map (·.2)) (ks.map fun x => x.2.2) := by
  induction pr with
  | nil => exact .nil
  | cons h _ ih => exact .cons h.2.2 ih
/-- list(d.values()) -/
theorem call_list_vals (hc : X.calm = true) : CallR X (.type "list") (fun xs H Q => ∃ (p d : Addr) (kvs : List (List L2.Key × V)), xs = [V.ref p] ∧ H p = some (valsO p d) ∧ H d = some (.dT kvs) ∧ ∀ q, H q = none → Q (.ref q) (upd H q (.lst (kvs.map (·.2))))) := by
  intro pins s σ H xs us Q I r h
  obtain ⟨p, d, kvs, rfl, hp, hd, q⟩ := h
  rw [Vals.ref1 r]
  have hv : s.heap.IsValuesView p d := (show ObjOk X.prog X.w H s.heap p (valsO p d) from I.hok p _ hp).1
  obtain ⟨z, hs, ks, pr, o, es, ep, ho, hx, hdt, he, _⟩ := dt_of I.hok hd
  have raw : s.heap.DictRaw d es ep := ⟨o, ho, hx, hdt⟩
  have l1 : es.size = ks.length := size_of_entries he
  have l2 : kvs.length = ks.length := Paired.length pr
  refine PySem.W.kdl_call PySem.KdlSrc.rawValues (I.ok.hd hc) ⟨hv, raw⟩ (by omega) fun h' tk acc c kp e it => ?_
  have ea : acc.toList = ks.map fun x => x.2.2 := by
    have hl : acc.toList.length = ks.length := by rw [Array.length_toList, it.1]; exact l1
    refine List.ext_getElem (by rw [hl, List.length_map]) fun j h1 h2 => ?_
    obtain ⟨hi, hv2⟩ := it.2 j (acc.toList[j]) (by rw [← Array.getElem?_toList]; exact List.getElem?_eq_getElem h1)
    have hj : j < ks.length := by rw [← l1]; exact hi
    have qe : es[j]? = some (entryOfKey (tupleKind (mixKind X.prog X.w)) ks[j]) := by
      rw [entry_at he j, List.getElem?_eq_getElem hj]
      rfl
    rw [Array.getElem?_eq_getElem hi] at qe
    rw [hv2, Option.some.inj qe, List.getElem_map]
    rfl
  refine ⟨.ref s.heap.objs.size, _, I.laid (t' := tk) (o := .lst (kvs.map (·.2))) kp (Nat.le_refl _) ⟨by rw [List.length_map]; exact z, acc.toList, c, by rw [ea]; exact kt_get pr, by rw [Array.toArray_toList]; exact e⟩, rfl, q _ (I.hok.fresh (Nat.le_refl _))⟩
end
/-! ### {t: v, ..}, each key a tuple -/
/-- a pair of a display: the key, where its tuple stands, the value -/
abbrev Pt := List L2.Key × Addr × V
def putsT (kvs : List (List L2.Key × V)) (ps : List Pt) : List (List L2.Key × V) := ps.foldl (fun acc p => putK acc p.1 p.2.2) kvs
theorem puts_len : ∀ (ps : List Pt) (kvs : List (List L2.Key × V)), (putsT kvs ps).length ≤ kvs.length + ps.length
  | [], kvs => Nat.le_refl _
  | p :: r, kvs => by
    have h1 := puts_len r (putK kvs p.1 p.2.2)
    have h2 := length_putK kvs p.1 p.2.2
    show (putsT (putK kvs p.1 p.2.2) r).length ≤ _
    rw [List.length_cons]
    omega
def KeysAt (H : Hp) (ps : List Pt) : Prop := ∀ p ∈ ps, H p.2.1 = some (.tup (p.1.map kV))
theorem carriesT {P : Program} {w : World} {H : Hp} {h : Heap} (ok : HOk P w H h) : ∀ {ps : List Pt} {ws : List (Value × Value)}, KeysAt H ps → VV (ps.map fun p => (V.ref p.2.1, p.2.2)) ws →
    ∃ rs : List (List L2.Key × Addr × Value), CarriesH (tupleKind (mixKind P w)) h ws rs ∧ ∀ (kvs : List (List L2.Key × V)) (xs : List (List L2.Key × Addr × Value)), KT H kvs xs → KT H (putsT kvs ps) (storedAllH xs rs)
  | [], ws, _, r => by
    rw [List.map_nil] at r
    cases r
    exact ⟨[], True.intro, fun _ _ k => k⟩
  | p :: ps, ws, hk, r => by
    rw [List.map_cons] at r
    cases r with
    | @cons _ b _ bs h t =>
      obtain ⟨rs, c, q⟩ := carriesT ok (ps := ps) (fun x hx => hk x (List.mem_cons_of_mem _ hx)) t
      obtain ⟨b1, b2⟩ := b
      obtain ⟨h1, h2⟩ := h
      have e1 : b1 = Value.ref p.2.1 := h1
      have hp := hk p List.mem_cons_self
      exact ⟨(p.1, p.2.1, b2) :: rs, ⟨e1, rfl, key_of ok hp, c⟩, fun kvs xs k => q _ _ (k.put p.1 hp h2)⟩
def tDispT (trs : List (TE × TE)) : TE := fun σ H Q => ∀ p, H p = none → tPairs trs σ (upd H p (.dT [])) fun ps H2 => H2 p = some (.dT []) ∧ ∃ kps : List Pt, ps = kps.map (fun x => (V.ref x.2.1, x.2.2)) ∧ KeysAt H2 kps ∧ kps.length ≤ 15 ∧ Q (.ref p) (upd H2 p (.dT (putsT [] kps)))
theorem pe_dispT {X : Cx} {pos : Pos} {keys : List (Option Expr)} {values : List Expr} {trs : List (TE × TE)} (hu : X.A.units + 64 < cLine) (h : PPs X pos keys values trs) (hall : keys.all (·.isSome) = true) (hl : keys.length = values.length) (h0 : keys ≠ [])
    (h15 : keys.length ≤ 15) : PE X (.Dict keys values pos) (tDispT trs) := by
  refine ⟨fun pins s σ H Q I q => ?_⟩
  have hn := I.hok.fresh (Nat.le_refl s.heap.objs.size)
  have I1 := I.laid (a := s.heap.objs.size) (o := .dT []) (h' := s.heap.push { cls := .type "dict", data := .dict #[] }) (t' := s.toks) (fun _ _ q => Heap.get?_push_of_some _ q) (Nat.le_refl _) (dt_empty s.heap I.big)
  have hpl := pairTrees_length keys values X.env pos hall hl
  have hne : pairTrees keys values X.env pos ≠ [] := fun e => h0 (List.length_eq_zero_iff.mp (by rw [← hpl, e]; rfl))
  rw [arm_eval_Dict, zip_pairTrees keys values X.env pos hall hl, dictDisplay_pairs _ hne (by omega)]
  refine wpAny_bind (wpAny_standAt (wpAny_bind (wpAny_subDictH (knd := tupleKind (mixKind X.prog X.w)) (show X.A.units < cLine by omega) (by rw [hpl]; exact h15) ?_)))
  refine thn (h.run pins _ σ _ _ I1 (q _ hn)) fun ws s2 ⟨ps, H2, I2, rel, e, kps, ep, hk, hk15, q2⟩ => ?_
  subst ep
  obtain ⟨rs, c, kt⟩ := carriesT I2.hok hk rel
  obtain ⟨z, hd, xs0, r0, dd⟩ := dt_of I2.hok e
  cases r0
  refine ⟨rs, c, dd, fun h' tk dd' hs => wpAny_pure ⟨.ref s.heap.objs.size, _, ?_, rfl, q2⟩⟩
  obtain ⟨o, es, epp, ho, hx, hdt, he, _, hnd⟩ := dd'
  have hz : (putsT [] kps).length ≤ sizeLine := by
    have h1 := puts_len kps []
    rw [List.length_nil] at h1
    rw [sizeLine_eq]
    omega
  refine d_write I2 (by rw [e]; exact True.intro) hs ⟨o, ho⟩ ⟨hz, hd, _, (kt [] [] .nil).keeps fun c ys ec => ?_, o, es, epp, ho, hx, hdt, he, hnd⟩
  rw [upd_ne (ne_of ec e (fun z => nomatch z))]
  exact ec
end WT

/-! sorted of anything whose items are gathered first: a tuple, a dict -/
namespace RS
open PySem PySem.Spec PyProof.Rows PySem.W PySem.Calls L2 L5
section
variable {prog : Program} {w : World} {A : Around} {E : Value → Shared → Prop} {s : Shared} {β : Type} {vs : List Value} {bs : List β} {enc : β → PyData} {R : Value → β → Prop}
theorem each_len {α β : Type} {R : α → β → Prop} : ∀ {l : List α} {m : List β}, EachIs R l m → l.length = m.length
  | _, _, .nil => rfl
  | _, _, .cons _ t => congrArg (· + 1) (each_len t)
theorem sorted_gathered {src : Value} {Q : Value → Shared → Prop} (hz : vs.length ≤ sizeLine)
    (gather : ∀ (T : List Value → Shared → Prop) (E' : Value → Shared → Prop), (∀ h' tk, (∀ b o, s.heap.get? b = some o → h'.get? b = some o) → T vs { s with heap := h', toks := tk }) → wpAny (model prog w) A.in1 (collect src) T E' s)
    (e : EachIs R vs bs) (er : EachIs (fun v b => Reads s.heap v (enc b) []) vs bs) (hal : AllAlike (bs.map enc)) (hk : Sortable (bs.map enc)) (hu : ∀ b, b ∈ bs → A.units + 2 + (enc b).depth < cLine)
    (h : ∀ (out : List Value) (h1 h' : Heap) (tk c : Nat), (∀ b o, s.heap.get? b = some o → h1.get? b = some o) → (∀ b o, h1.get? b = some o → h'.get? b = some o) → h'.get? h1.objs.size = some (seqObj "list" (List.toArray out) c) → EachIs R out (bs.mergeSort (dataLe false enc)) → Q (.ref h1.objs.size) { s with heap := h', toks := tk }) :
    wpAny (model prog w) A (call (.builtin "sorted") [src]) Q E s := by
  refine call_function_entry kind_sorted plain_sorted entry_sorted (args_sorted1 _) ?_
  unfold Builtin.«sorted»
  refine wpAny_bind (m := checkCount "sorted" 1 1 _) (wpAny_pure ?_)
  refine wpAny_bind (gather _ _ fun h1 tk1 k1 => ?_)
  refine wpAny_bind (wpAny_newList ?_ hz)
  have hL : (h1.push (seqObj "list" vs.toArray 0)).get? h1.objs.size = some (seqObj "list" vs.toArray 0) := Heap.get?_push_size _ rfl
  have k2 : ∀ b o, h1.get? b = some o → (h1.push (seqObj "list" vs.toArray 0)).get? b = some o := fun b o q => Heap.get?_push_of_some _ q
  refine wpAny_bind (wpAny_holding (list_sort_data (A := A.in1) (s := { s with heap := h1.push (seqObj "list" vs.toArray 0), toks := tk1 }) hL e (er.mono fun v b r => ⟨[], PyProof.Rows.Reads.keeps (fun b o q => k2 b o (k1 b o q)) r, by simp⟩) hal hk (by rw [← each_len e]; exact hz) (fun b hb => ?_) fun out ho eo => ?_))
  · have := hu b hb
    show A.units + 1 + 1 + _ < _
    omega
  · obtain ⟨c, hc⟩ := sortedHeap_at (out := out.toArray) hL
    exact wpAny_pure ⟨_, rfl, h out h1 _ _ c k1 (fun b o q => (sortedHeap_old (Nat.ne_of_lt (Heap.lt_size q)) (Heap.lt_size (k2 b o q))).trans (k2 b o q)) hc eo⟩
end
theorem reads_ints {h : Heap} : ∀ {t : List Nat} {us : List Value}, Vals (nv t) us → ReadsAll h us (t.map fun n => PyData.int ((n : Nat) : Int)) []
  | [], _, .nil => .nil
  | n :: t, _, .cons r r' => by
    obtain ⟨tk, rfl⟩ := r
    exact .cons (as := []) (bs := []) (.int _ tk) (reads_ints r')
section
variable {X : Cx} {pins : List (Addr × Obj)} {σ : L2.St} {H : Hp} {s : Shared}
theorem tup_reads (I : Inv X pins σ H s) {a : Addr} {t : List Nat} (h : SqT X.K H a (nv t)) : Reads s.heap (.ref a) (encT t) [] := by
  obtain ⟨its, rv, ⟨o, ho, hc, n, hd⟩, _⟩ := I.tuple h
  exact .tuple ho hc hd (by simpa using reads_ints rv)
theorem alike_nats (b b' : List Nat) : alike (encT b) (encT b') = true := by
  have e3 : ∀ t : List Nat, encT t = .tuple ((t.map fun n => ((n : Nat) : Int)).map .int) := fun t => by
    rw [List.map_map]
    rfl
  rw [e3, e3]
  exact alike_ints _ _
theorem each_read (I : Inv X pins σ H s) {us : List Value} {L : List (List Nat)} (h : EachIs (fun v t => ∃ a, v = Value.ref a ∧ SqT X.K H a (nv t)) us L) : EachIs (fun v t => Reads s.heap v (encT t) []) us L := h.mono fun v t ⟨a, e, h⟩ => by
  rw [e]
  exact tup_reads I h
theorem tup_small (t : List Nat) : (encT t).depth ≤ 1 := by
  have g := can_nats t
  simp only [encT, PyData.depth, g.2]
  omega
end
section
variable {X : Cx}
/-- sorted(t), t a tuple of tuples of numbers, all unlike -/
def rSortTT (K : PySem.W.Frag) : List V → Hp → VK → Prop := fun vs H Q => ∃ (a : Addr) (rs : List Addr) (L M : List (List Nat)) (d : Nat), vs = [V.ref a] ∧ SqT K H a (rs.map V.ref) ∧ Tups K H rs L ∧ 1 ≤ d ∧ (∀ t ∈ L, t.length = d) ∧ M7.Asc M ∧ L.Perm M ∧
  ∀ (p : Addr) (qs : List Addr), H p = none → Tups K H qs M → Q (.ref p) (upd H p (.lst (qs.map V.ref)))
theorem cr_sortTT (hu : X.A.units + 64 < cLine) : CallR X (.builtin "sorted") (rSortTT X.K) := by
  intro pins s σ H vs us Q I r h
  obtain ⟨a, rs, L, M, d, rfl, hs, hT, h1, hd, hasc, hpm, q⟩ := h
  obtain ⟨its, rv, ⟨o, ho, hc, n, hdt⟩, hz⟩ := I.tuple hs
  rw [Vals.ref1 r]
  have e1 := each_tups hT rv
  have hz' : its.length ≤ sizeLine := by rw [← rv.length]; exact hz
  refine sorted_gathered (vs := its) hz' (fun T E' hT' => wpAny_collect_seq a (.inr rfl) ho hc hdt (fun h' k => by simpa using hT' h' s.toks k) (by simpa using hz')) e1 (each_read I e1) (AllAlike.of alike_nats) (.inl fun e he => ?_) (fun b _ => ?_) fun out h1' h' tk c k1 k2 hp eo => ?_
  · obtain ⟨t, ht, rfl⟩ := List.mem_map.mp he
    cases t with
    | nil =>
      have := hd _ ht
      rw [List.length_nil] at this
      omega
    | cons n t => exact ⟨_, _, rfl⟩
  · have := tup_small b
    omega
  · rw [sort_is hd hasc hpm] at eo
    obtain ⟨qs, hq, rq⟩ := tups_each eo
    have hl2 : (qs.map V.ref).length ≤ sizeLine := by rw [List.length_map, hq.length, ← hpm.length_eq, ← hT.length, ← List.length_map (f := V.ref)]; exact hz
    have I1 : Inv X pins σ H { s with heap := h1', toks := tk } := I.kept k1
    exact ⟨.ref h1'.objs.size, upd H h1'.objs.size (.lst (qs.map V.ref)), I1.laid (t' := tk) k2 (Nat.le_refl _) ⟨hl2, out, c, rq, hp⟩, rfl, q _ qs (I1.hok.fresh (Nat.le_refl _)) hq⟩
theorem sort_nats (l : List Nat) : l.mergeSort (dataLe false fun n : Nat => PyData.int ((n : Nat) : Int)) = M50.srt l := by
  have e : dataLe false (fun n : Nat => PyData.int ((n : Nat) : Int)) = fun a b => decide (a ≤ b) := by
    rw [dataLe_int (fun n : Nat => ((n : Nat) : Int))]
    funext a b
    exact decide_eq_decide.mpr (by omega)
  rw [e]
theorem each_nats {us : List Value} : ∀ {t : List Nat} {us : List Value}, Vals (nv t) us → EachIs (fun v n => ∃ k, v = Value.int ((n : Nat) : Int) k) us t
  | [], _, .nil => .nil
  | n :: t, _, .cons r r' => .cons r (each_nats (us := []) r')
theorem nats_each : ∀ {us : List Value} {t : List Nat}, EachIs (fun v n => ∃ k, v = Value.int ((n : Nat) : Int) k) us t → Vals (nv t) us
  | _, _, .nil => .nil
  | _, _, .cons h t => .cons h (nats_each t)
/-- sorted(t), t a tuple of numbers -/
def rSortTN (K : PySem.W.Frag) : List V → Hp → VK → Prop := fun vs H Q => ∃ (a : Addr) (t : List Nat), vs = [V.ref a] ∧ SqT K H a (nv t) ∧ ∀ p, H p = none → Q (.ref p) (upd H p (.lst (nv (M50.srt t))))
theorem cr_sortTN (hu : X.A.units + 64 < cLine) : CallR X (.builtin "sorted") (rSortTN X.K) := by
  intro pins s σ H vs us Q I r h
  obtain ⟨a, t, rfl, hs, q⟩ := h
  obtain ⟨its, rv, ⟨o, ho, hc, n, hdt⟩, hz⟩ := I.tuple hs
  rw [Vals.ref1 r]
  have e1 := each_nats (us := []) rv
  have hz' : its.length ≤ sizeLine := by rw [← rv.length]; exact hz
  refine sorted_gathered (vs := its) (enc := fun n : Nat => PyData.int ((n : Nat) : Int)) hz' (fun T E' hT' => wpAny_collect_seq a (.inr rfl) ho hc hdt (fun h' k => by simpa using hT' h' s.toks k) (by simpa using hz')) e1 (e1.mono fun v n ⟨k, e⟩ => by rw [e]; exact .int _ k) (AllAlike.of fun b b' => rfl) (Sortable.others fun b => ⟨fun z => (nomatch z), fun _ z => (nomatch z)⟩) (fun b _ => ?_) fun out h1' h' tk c k1 k2 hp eo => ?_
  · simp only [PyData.depth]
    omega
  · rw [sort_nats] at eo
    have hl2 : (nv (M50.srt t)).length ≤ sizeLine := by
      rw [nv_len, (M50.srt_perm t).length_eq, ← nv_len]
      exact hz
    have I1 : Inv X pins σ H { s with heap := h1', toks := tk } := I.kept k1
    exact ⟨.ref h1'.objs.size, upd H h1'.objs.size (.lst (nv (M50.srt t))), I1.laid (t' := tk) k2 (Nat.le_refl _) ⟨hl2, out, c, nats_each eo, hp⟩, rfl, q _ (I1.hok.fresh (Nat.le_refl _))⟩
/-- sorted(t), t a list of numbers -/
def rSortLN (K : PySem.W.Frag) : List V → Hp → VK → Prop := fun vs H Q => ∃ (a : Addr) (t : List Nat), vs = [V.ref a] ∧ SqL K H a (nv t) ∧ ∀ p, H p = none → Q (.ref p) (upd H p (.lst (nv (M50.srt t))))
theorem cr_sortLN (hu : X.A.units + 64 < cLine) : CallR X (.builtin "sorted") (rSortLN X.K) := by
  intro pins s σ H vs us Q I r h
  obtain ⟨a, t, rfl, hs, q⟩ := h
  obtain ⟨its, rv, pl, hz⟩ := I.list hs
  obtain ⟨o, ho, hc, n, hdt⟩ := pl.isList
  rw [Vals.ref1 r]
  have e1 := each_nats (us := []) rv
  have hz' : its.length ≤ sizeLine := by rw [← rv.length]; exact hz
  refine sorted_gathered (vs := its) (enc := fun n : Nat => PyData.int ((n : Nat) : Int)) hz' (fun T E' hT' => wpAny_collect_seq a (.inl rfl) ho hc hdt (fun h' k => by simpa using hT' h' s.toks k) (by simpa using hz')) e1 (e1.mono fun v n ⟨k, e⟩ => by rw [e]; exact .int _ k) (AllAlike.of fun b b' => rfl) (Sortable.others fun b => ⟨fun z => (nomatch z), fun _ z => (nomatch z)⟩) (fun b _ => ?_) fun out h1' h' tk c k1 k2 hp eo => ?_
  · simp only [PyData.depth]
    omega
  · rw [sort_nats] at eo
    have hl2 : (nv (M50.srt t)).length ≤ sizeLine := by
      rw [nv_len, (M50.srt_perm t).length_eq, ← nv_len]
      exact hz
    have I1 : Inv X pins σ H { s with heap := h1', toks := tk } := I.kept k1
    exact ⟨.ref h1'.objs.size, upd H h1'.objs.size (.lst (nv (M50.srt t))), I1.laid (t' := tk) k2 (Nat.le_refl _) ⟨hl2, out, c, nats_each eo, hp⟩, rfl, q _ (I1.hok.fresh (Nat.le_refl _))⟩
end
end RS

/-! sorted(.., key=f) of anything whose items are gathered first -/
namespace RS
open PySem PySem.Spec PyProof.Rows PySem.W PySem.Calls L2 L5
section
variable {prog : Program} {w : World} {A : Around} {E : Value → Shared → Prop} {s : Shared} {β : Type} {vs : List Value} {bs : List β} {R : Value → β → Prop}
theorem sorted_key_gathered {src : Value} {q : Addr} {Q : Value → Shared → Prop} (k : β → PyData) (hz : vs.length ≤ sizeLine)
    (gather : ∀ (T : List Value → Shared → Prop) (E' : Value → Shared → Prop), (∀ h' tk, (∀ b o, s.heap.get? b = some o → h'.get? b = some o) → T vs { s with heap := h', toks := tk }) → wpAny (model prog w) A.in1 (collect src) T E' s)
    (e : EachIs R vs bs) (hal : AllAlike (bs.map k)) (hk : Sortable (bs.map k)) (hu : ∀ b, b ∈ bs → A.units + 2 + (k b).depth < cLine)
    (turn : ∀ (v : Value) (x : β), R v x → x ∈ bs → ∀ (h : Heap) (tk : Nat), (∀ b o, s.heap.get? b = some o → h.get? b = some o) →
      wpAny (model prog w) A.in1.in1 (call (.ref q) [v]) (KeyPure (k x) { s with heap := h, toks := tk }) (fun _ _ => False) { s with heap := h, toks := tk })
    (h : ∀ (out : List Value) (h1 h' : Heap) (tk c : Nat), (∀ b o, s.heap.get? b = some o → h1.get? b = some o) → (∀ b o, h1.get? b = some o → h'.get? b = some o) → h'.get? h1.objs.size = some (seqObj "list" (List.toArray out) c) → out.length = bs.length → EachIs R out (bs.mergeSort (dataLe false k)) → Q (.ref h1.objs.size) { s with heap := h', toks := tk }) :
    wpAny (model prog w) A (call (.builtin "sorted") [src] [(Str.ofString "key", .ref q)]) Q E s := by
  refine call_function_entry_kw kind_sorted plain_sorted entry_sorted (PyProof.Rows.ksk_s1 _ _) ?_
  unfold Builtin.«sorted»
  refine wpAny_bind (m := checkCount "sorted" 1 1 _) (wpAny_pure ?_)
  refine wpAny_bind (gather _ _ fun h1 tk1 k1 => ?_)
  refine wpAny_bind (wpAny_newList ?_ hz)
  have hL : (h1.push (seqObj "list" vs.toArray 0)).get? h1.objs.size = some (seqObj "list" vs.toArray 0) := Heap.get?_push_size _ rfl
  have k2 : ∀ b o, h1.get? b = some o → (h1.push (seqObj "list" vs.toArray 0)).get? b = some o := fun b o q => Heap.get?_push_of_some _ q
  refine wpAny_bind (wpAny_holding (list_sort_key_data (A := A.in1) (s := { s with heap := h1.push (seqObj "list" vs.toArray 0), toks := tk1 }) k hL e hal hk (by rw [← each_len e]; exact hz) (fun b hb => ?_) (PyProof.Rows.ksk_l1 _ _) (PyProof.Rows.ksk_t1 _ _)
    (fun v x r hx h2 tk2 kb => turn v x r hx h2 tk2 fun b o e => kb b o (Nat.ne_of_lt (Heap.lt_size (k1 b o e))) (k2 b o (k1 b o e))) fun out c h2 tk2 kb ho hlen eo => ?_))
  · have := hu b hb
    show A.units + 1 + 1 + _ < _
    omega
  · exact wpAny_pure ⟨_, rfl, h out h1 _ _ c k1 (fun b o e => kb b o (Nat.ne_of_lt (Heap.lt_size e)) (k2 b o e)) ho hlen eo⟩
end
end RS

/-! key=lambda t: (len(t), t), t a tuple of numbers -/
namespace LK
open PySem PySem.Spec PyProof.Rows PySem.W PySem.Calls L2 L5
/-- (how many, the numbers) -/
def encK (t : List Nat) : PyData := .tuple [.int ((t.length : Nat) : Int), encT t]
def sc2 (x : Str) : Scope := { kind := .function, names := [(x, .local), ("len", .globalImplicit)], isGenerator := false, isCoroutine := false, more := [] }
def body2 (x : Str) (p1 p2 p3 p4 p5 : Pos) : Expr := .Tuple [.Call (.Name "len" p1) [.Name x p2] [] p3, .Name x p4] 0 p5
section
variable {X : Cx} {pins : List (Addr × Obj)} {σ : L2.St} {H : Hp} {s : Shared} {A : Around}
theorem lamk_turn (I : Inv X pins σ H s) {f c' a : Addr} {x q : Str} {params : Arguments} {pm ctv : Value} {p1 p2 p3 p4 p5 : Pos} {t : List Nat}
    (hf : s.heap.get? f = some (kla_obj "<lambda>" q params (body2 x p1 p2 p3 p4 p5) (sc2 x) [] pm c' ctv)) (hc : ∃ (oc : Obj) (vs : Array Value) (tk : Tok), s.heap.get? c' = some oc ∧ oc.data = .fields vs ∧ vs[1]? = some (.str q tk))
    (hbind : ∀ v, bindArgs (kla_fn "<lambda>" q params (body2 x p1 p2 p3 p4 p5) (sc2 x) [] pm (.ref c') ctv) ⟨[v], []⟩ = pure [(x, v)]) (hl : X.mg "len" = none) (hx : (x == ("__debug__" : Str)) = false) (hxl : (("len" : Str) == x) = false) (hd : A.depth < recursionLimit)
    (ha : SqT X.K H a (nv t)) (h : Heap) (tk : Nat) (kp : ∀ b o, s.heap.get? b = some o → h.get? b = some o) :
    wpAny (model X.prog X.w) A (call (.ref f) [.ref a]) (KeyPure (encK t) { s with heap := h, toks := tk }) (fun _ _ => False) { s with heap := h, toks := tk } := by
  have I' : Inv X pins σ H { s with heap := h, toks := tk } := I.kept kp
  obtain ⟨oc, vs, tk', hoc, hdc, hvc⟩ := hc
  obtain ⟨its, rv, pl, hz⟩ := I'.tuple ha
  obtain ⟨mb, hb1, hb2⟩ := I'.mod.blt
  have hlen := rv.length
  have n63 := line63
  refine wpAny_call ?_
  refine kla_callFunE hd (kp _ _ hf) rfl rfl rfl rfl ⟨c', oc, vs, tk', rfl, kp _ _ hoc, hdc, hvc⟩ ?_
  rw [hbind]
  refine wpAny_pure (wpAny_newFunctionEnv (fun y hy => ?_) (fun y hy => ?_) (fun h₁ hns hsb => ⟨I'.nolimit.fresh _ hsb, ?_⟩) rfl)
  · rcases List.mem_cons.mp (show y ∈ [(x, NameKind.local), (("len" : Str), .globalImplicit)] from hy) with rfl | hy
    · simp
    · rw [List.mem_singleton.mp hy]
      simp
  · rw [List.mem_singleton.mp hy]
    show List.lookup x [(x, NameKind.local), (("len" : Str), .globalImplicit)] = _
    simp [List.lookup]
  have k1 : ∀ b o, h.get? b = some o → h₁.get? b = some o := fun b o e => hsb.extBut b o (Nat.ne_of_lt (Heap.lt_size e)) (Heap.get?_push_of_some _ e)
  have I1 : Inv X pins σ H { s with heap := h₁, toks := tk + 1 } := I.kept fun b o e => k1 b o (kp b o e)
  refine kla_codeExpr ?_
  generalize hE : newEnv (sc2 x) _ _ _ _ _ _ _ _ = env
  have e1 : env.scope.kind = .function := by rw [← hE]; rfl
  have e2 : env.kindOf "len" = some .globalImplicit := by
    rw [← hE]
    show List.lookup ("len" : Str) [(x, NameKind.local), (("len" : Str), .globalImplicit)] = _
    simp [List.lookup, hxl]
  have e3 : env.kindOf x = some .local := by
    rw [← hE]
    show List.lookup x [(x, NameKind.local), (("len" : Str), .globalImplicit)] = _
    simp [List.lookup]
  have e4 : env.globals = mainGlobals := by rw [← hE]; rfl
  have e5 : env.builtins = builtinsNs := by rw [← hE]; rfl
  have e6 : env.locals = h.objs.size := by rw [← hE]; rfl
  have var : ∀ (p : Pos) (h2 : Heap) (tk2 : Nat) (Q : Value → Shared → Prop) (E : Value → Shared → Prop), (∀ b o, h₁.get? b = some o → h2.get? b = some o) → Q (.ref a) { s with heap := h2, toks := tk2 } → wpAny (model X.prog X.w) (A.deeper env) (eval (.Name x p) env) Q E { s with heap := h2, toks := tk2 } :=
    fun p h2 tk2 Q E k2 hq => wpAny_Name (wpAny_loadName_local e1 e3 (by rw [e6]; exact hns.keeps k2) (by simp [List.lookup]) hq) hx
  unfold body2
  refine wpAny_Tuple_spliced ?_
  refine spliced_cons (wpAny_Call_Name_kw (Name_function_global e1 e2 (loadGlobal_builtin (by rw [e4]; exact I1.mod.glob.keeps I1.bk) hl (by rw [e5]; exact hb1.keeps I1.bk) ((hb2 _ (by decide)).trans boot_len) ?_) (by decide)))
  refine callWith_builtin1 (var p2 _ _ _ _ (fun _ _ e => e) ?_)
  obtain ⟨its1, rv1, pl1, hz1⟩ := I1.tuple ha
  have hlen1 := rv1.length
  refine len_tuple pl1 (by simp only [List.size_toArray] <;> omega) ?_
  refine spliced_cons (var p4 _ _ _ _ (fun _ _ e => e) (spliced_nil ⟨by show 2 ≤ sizeLine; decide, ?_⟩))
  refine ⟨_, _, rfl, fun b o e => Heap.get?_push_of_some _ (k1 b o e), ?_⟩
  have I2 : Inv X pins σ H { s with heap := h₁.push { cls := .type "tuple", data := .seq [Value.int (its1.toArray.size : Int) (tk + 1 + 1), .ref a].toArray }, toks := tk + 1 + 1 } := I.kept fun b o e => Heap.get?_push_of_some _ (k1 b o (kp b o e))
  refine .tuple (Heap.get?_push_size _ rfl) rfl rfl ?_
  have r1 := RS.tup_reads I2 ha
  have en : ((its1.toArray.size : Nat) : Int) = ((t.length : Nat) : Int) := by rw [List.size_toArray, ← hlen1, nv_len]
  refine .cons (as := []) (bs := []) ?_ (.cons (as := []) (bs := []) r1 .nil)
  rw [en]
  exact .int _ _
end
end LK

namespace LK
open PySem PySem.Spec PyProof.Rows PySem.W PySem.Calls L2 L5 LamX
/-! ### orders of tuples of numbers -/
theorem perm_eq {α : Type} {R : α → α → Prop} (anti : ∀ a b, R a b → R b a → a = b) : ∀ {l m : List α}, l.Perm m → l.Pairwise R → m.Pairwise R → l = m
  | [], m, h, _, _ => (List.nil_perm.mp h).symm
  | a :: l, [], h, _, _ => absurd (List.perm_nil.mp h) (by simp)
  | a :: l, b :: m, h, h1, h2 => by
    rw [List.pairwise_cons] at h1 h2
    have e : a = b := by
      rcases List.mem_cons.mp (h.mem_iff.mp List.mem_cons_self) with e | ha
      · exact e
      · rcases List.mem_cons.mp (h.mem_iff.mpr List.mem_cons_self) with e | hb
        · exact e.symm
        · exact anti a b (h1.1 b hb) (h2.1 a ha)
    subst e
    rw [perm_eq anti ((List.perm_cons a).mp h) h1.2 h2.2]
/-- a way to write a tuple as data, that tells the tuple -/
structure Enc (k : List Nat → PyData) : Prop where
  inj : ∀ a b, keyToks (k a) = keyToks (k b) → a = b
theorem toks_nats : ∀ (a b : List Nat) (l m : List (Int ⊕ List Nat)), keyToksAll (a.map fun n => PyData.int ((n : Nat) : Int)) ++ l = keyToksAll (b.map fun n => PyData.int ((n : Nat) : Int)) ++ m → a = b
  | [], [], _, _, _ => rfl
  | [], _ :: _, _, _, h => by simp [keyToksAll, keyToks] at h
  | _ :: _, [], _, _, h => by simp [keyToksAll, keyToks] at h
  | x :: a, y :: b, l, m, h => by
    simp only [List.map_cons, keyToksAll, keyToks, List.cons_append, List.nil_append, List.cons.injEq, true_and] at h
    obtain ⟨h1, h2⟩ := h
    have h1' : ((x : Nat) : Int) = ((y : Nat) : Int) := by simpa using h1
    rw [toks_nats a b l m h2, show x = y by omega]
theorem encT_inj : Enc encT := ⟨fun a b h => by
  refine toks_nats a b [] [] ?_
  rw [List.append_nil, List.append_nil]
  simpa only [encT, keyToks] using h⟩
theorem encK_inj : Enc encK := ⟨fun a b h => by
  simp only [encK, keyToks, keyToksAll, List.cons_append, List.nil_append, List.cons.injEq, true_and] at h
  refine encT_inj.inj a b ?_
  exact List.append_cancel_right h.2⟩
def srt (k : List Nat → PyData) (L : List (List Nat)) : List (List Nat) := L.mergeSort (dataLe false k)
theorem srt_perm (k : List Nat → PyData) (L : List (List Nat)) : (srt k L).Perm L := List.mergeSort_perm L _
theorem srt_asc (k : List Nat → PyData) (L : List (List Nat)) : (srt k L).Pairwise fun p q => dataLe false k p q = true := by
  have t := sortLe_total (PyProof.Rows.listOrd PyProof.Rows.itemOrd) false fun b => keyToks (k b)
  exact List.pairwise_mergeSort t.trans (fun a b => by simpa using t.total a b) L
theorem le_anti {k : List Nat → PyData} (h : Enc k) (a b : List Nat) (h1 : dataLe false k a b = true) (h2 : dataLe false k b a = true) : a = b := by
  rw [dataLe_eq] at h1 h2
  simp only [cond_false, Bool.not_eq_true'] at h1 h2
  exact h.inj a b (PyProof.Rows.lex_total (O := PyProof.Rows.itemOrd) _ _ h2 h1)
theorem srt_eq {k : List Nat → PyData} (h : Enc k) {L M : List (List Nat)} (p : L.Perm M) : srt k L = srt k M :=
  perm_eq (le_anti h) ((srt_perm k L).trans (p.trans (srt_perm k M).symm)) (srt_asc k L) (srt_asc k M)
theorem srt_is {k : List Nat → PyData} (h : Enc k) {L M : List (List Nat)} (p : L.Perm M) (hM : M.Pairwise fun p q => dataLe false k p q = true) : srt k L = M :=
  perm_eq (le_anti h) ((srt_perm k L).trans p) (srt_asc k L) hM
theorem alike_K (b b' : List Nat) : alike (encK b) (encK b') = true := by
  have h := RS.alike_nats b b'
  simp only [encT, alike] at h
  simp only [encK, encT, alike, alikeAll, h, Bool.and_self, Bool.and_true]
theorem small_K (t : List Nat) : (encK t).depth ≤ 3 := by
  have g := can_nats t
  simp only [encK, encT, PyData.depth, PyData.depthAll, g.2]
  omega
/-! ### dicts with tuples of numbers as keys -/
def tK (t : List Nat) : List Key := t.map fun n => Sum.inl ((n : Nat) : Int)
theorem tK_kV (t : List Nat) : (tK t).map kV = nv t := by
  simp only [tK, nv, List.map_map]
  all_goals rfl
theorem tK_inj : ∀ {a b : List Nat}, tK a = tK b → a = b
  | [], [], _ => rfl
  | [], _ :: _, h => by cases h
  | _ :: _, [], h => by cases h
  | x :: a, y :: b, h => by
    rw [tK, tK, List.map_cons, List.map_cons] at h
    injection h with h1 h2
    injection h1 with h1
    rw [tK_inj (a := a) (b := b) h2, show x = y by omega]
/-- the dict's keys are the tuples L -/
def KeysL (kvs : List (List Key × V)) (L : List (List Nat)) : Prop := kvs.map (·.1) = L.map tK
/-- tuples of numbers, each one tracked as it stands -/
inductive TupsU (H : Hp) : List Addr → List (List Nat) → Prop
  | nil : TupsU H [] []
  | cons {a : Addr} {t : List Nat} {rs : List Addr} {L : List (List Nat)} : H a = some (.tup (nv t)) → TupsU H rs L → TupsU H (a :: rs) (t :: L)
theorem TupsU.tups {K : PySem.W.Frag} {H : Hp} : ∀ {rs : List Addr} {L : List (List Nat)}, TupsU H rs L → Tups K H rs L
  | _, _, .nil => .nil
  | _, _, .cons h t => .cons (SqT.of h) t.tups
theorem TupsU.length {H : Hp} : ∀ {rs : List Addr} {L : List (List Nat)}, TupsU H rs L → rs.length = L.length
  | _, _, .nil => rfl
  | _, _, .cons _ t => congrArg (· + 1) t.length
theorem TupsU.mono {H H' : Hp} (e : ∀ b xs, H b = some (.tup xs) → H' b = some (.tup xs)) : ∀ {rs : List Addr} {L : List (List Nat)}, TupsU H rs L → TupsU H' rs L
  | _, _, .nil => .nil
  | _, _, .cons h t => .cons (e _ _ h) (t.mono e)
theorem TupsU.app {H : Hp} : ∀ {rs qs : List Addr} {L M : List (List Nat)}, TupsU H rs L → TupsU H qs M → TupsU H (rs ++ qs) (L ++ M)
  | _, _, _, _, .nil, k => k
  | _, _, _, _, .cons h t, k => .cons h (t.app k)
def RU (H : Hp) (v : Value) (t : List Nat) : Prop := ∃ a, v = Value.ref a ∧ H a = some (.tup (nv t))
theorem each_U {H : Hp} : ∀ {rs : List Addr} {L : List (List Nat)} {us : List Value}, TupsU H rs L → Vals (rs.map V.ref) us → EachIs (RU H) us L
  | _, _, _, .nil, .nil => .nil
  | _, _, _, .cons h t, .cons r r' => .cons ⟨_, r, h⟩ (each_U t r')
theorem U_each {H : Hp} : ∀ {us : List Value} {L : List (List Nat)}, EachIs (RU H) us L → ∃ rs : List Addr, TupsU H rs L ∧ Vals (rs.map V.ref) us
  | _, _, .nil => ⟨[], .nil, .nil⟩
  | _, _, .cons ⟨a, e, h⟩ t => by
    obtain ⟨rs, h1, h2⟩ := U_each t
    exact ⟨a :: rs, .cons h h1, .cons e h2⟩
theorem tups_keys {H : Hp} : ∀ {kvs : List (List Key × V)} {L : List (List Nat)} {bs : List Addr}, KeysL kvs L → IsKeys H kvs bs → TupsU H bs L
  | [], [], _, _, .nil => .nil
  | [], _ :: _, _, h, _ => by cases h
  | _ :: _, [], _, h, _ => by cases h
  | p :: kvs, t :: L, _, h, .cons e r => by
    unfold KeysL at h
    rw [List.map_cons, List.map_cons] at h
    injection h with h1 h2
    refine .cons ?_ (tups_keys (kvs := kvs) h2 r)
    rw [← tK_kV, ← h1]
    exact e
section
variable {X : Cx}
def tSortL (T : List (Addr × Str)) (K : PySem.W.Frag) (te : TE) : TE := fun σ H Q => te σ H fun v H1 => ∃ (d : Addr) (L : List (List Nat)) (kvs : List (List Key × V)), v = .ref d ∧ H1 d = some (.dT kvs) ∧ KeysL kvs L ∧ Tabs T H1 ∧
  ∀ (H2 : Hp) (p : Addr) (qs : List Addr), ExtN H1 H2 → Tabs T H2 → H2 p = none → TupsU H2 qs (srt encK L) → Q (.ref p) (upd H2 p (.lst (qs.map V.ref)))
/-- sorted(d, key=lambda t: (len(t), t)), d a dict with tuples of numbers as keys -/
theorem pe_sortedLam {T : List (Addr × Str)} {e : Expr} {te : TE} {c P : Addr} {x : Str} {params : Arguments} {p p1 p2 p3 p4 p5 lpos kpos pos : Pos} (hc : X.calm = true) (hu : X.A.units + 64 < cLine) (hdp : X.A.depth < recursionLimit) (hg : Gl X "sorted") (hm : X.mg "sorted" = none) (hl : X.mg "len" = none) (he : PE X e te)
    (TB : TabB X.base X.mg c P) (hcode : X.env.code = .ref c) (hmT : (P, X.env.qual ++ "<lambda>") ∈ T) (hT : ∀ p ∈ T, p.1 = P → p.2 = X.env.qual ++ "<lambda>") (hdef : defaultsOf params X.env = ([], []))
    (hbind : ∀ (q : Str) (pm cv ctv v : Value), bindArgs (kla_fn "<lambda>" q params (body2 x p1 p2 p3 p4 p5) (sc2 x) [] pm cv ctv) ⟨[v], []⟩ = pure [(x, v)]) (hx : (x == ("__debug__" : Str)) = false) (hxl : (("len" : Str) == x) = false)
    (hst : backTo pos (starEach [e] X.env) = (false, eval e X.env) :: backTo pos (starEach [] X.env) := by rfl) (hpl : (backTo pos (starEach [e] X.env)).any (·.1) = false := by rfl) :
    PE X (.Call (.Name "sorted" p) [e] [⟨some "key", .Lambda params (body2 x p1 p2 p3 p4 p5) (sc2 x) lpos, kpos⟩] pos) (tSortL T X.K te) := by
  refine ⟨fun pins s σ H Q I h => ?_⟩
  refine wpAny_Call_Name_kw (ld_blt I hg hm boot_sorted ?_ (by decide) (by decide))
  refine PyProof.Rows.callWith_kw ?_ hst hpl rfl rfl
  rw [hst]
  refine spliced_cons (thn (he.run pins s σ H _ I h) fun u s1 ⟨v, H1, I1, r1, d, L, kvs, ev, hd, hk, T1, q⟩ => ?_)
  subst ev
  obtain rfl : u = Value.ref d := r1
  refine spliced_nil ?_
  show wpAny _ _ (evalAll ((do let v ← eval (.Lambda params (body2 x p1 p2 p3 p4 p5) (sc2 x) lpos) X.env; standAt pos; pure v) :: [])) _ _ s1
  refine wpAny_evalAll_cons (wpAny_bind ?_)
  refine lam_make2 I1 TB hcode hmT hT T1 hdef (fun y hy e => ?_) fun f c' pm ctv H2 s2 I2 eN T2 hf hfn hfr hco => ?_
  · rcases List.mem_cons.mp (show y ∈ [(x, NameKind.local), (("len" : Str), .globalImplicit)] from hy) with rfl | hy
    · cases e
    · rw [List.mem_singleton.mp hy] at e
      cases e
  refine wpAny_bind (wpAny_standAt (wpAny_pure (wpAny_evalAll_nil ?_)))
  show wpAny _ _ (call (.builtin "sorted") [.ref d] [(Str.ofString "key", .ref f)]) _ _ s2
  have hd2 : H2 d = some (.dT kvs) := eN d _ hd (fun _ z => by cases z)
  obtain ⟨z, hs, ks, pr, o, es, ep, ho, hxo, hdt, hen, hn⟩ := (show ObjOk X.prog X.w H2 s2.heap d (.dT kvs) from I2.hok d _ hd2)
  have l1 : es.size = ks.length := size_of_entries hen
  have l2 : kvs.length = ks.length := Paired.length pr
  have hkeys : TupsU H2 (ks.map fun x => x.2.1) L := tups_keys hk (isKeys_of pr)
  have e1 := each_U hkeys (vals_refs (ks.map fun x => x.2.1))
  have hz' : ((ks.map fun x => x.2.1).map Value.ref).length ≤ sizeLine := by rw [List.length_map, List.length_map]; omega
  have hco2 := I2.hok c' _ hco
  obtain ⟨hrec, _, _⟩ := hco2
  refine RS.sorted_key_gathered (vs := (ks.map fun x => x.2.1).map Value.ref) encK hz' (fun Tr E' hT' => ?_) e1 (AllAlike.of alike_K) (Sortable.tuples fun b => ⟨_, _, rfl⟩) (fun b _ => ?_) (fun v t hv _ h tk kp => ?_) fun out h1 h' tk c2 k1 k2 hp ho2 eo => ?_
  · refine kdu_collect (kdl_raw hs hxo hdt) (I2.ok.hd hc) ho (by omega) fun h' tk acc hk' hacc => ?_
    have ea : acc.toList = (ks.map fun x => x.2.1).map Value.ref := by
      have hlen : acc.toList.length = ks.length := by rw [Array.length_toList, hacc.1]; exact l1
      apply List.ext_getElem?
      intro j
      rw [List.map_map, List.getElem?_map]
      cases hj : acc.toList[j]? with
      | none =>
        have := List.getElem?_eq_none_iff.mp hj
        rw [List.getElem?_eq_none (by omega)]
        rfl
      | some v =>
        obtain ⟨en, e0, hv⟩ := hacc.2 j v (by rw [← Array.getElem?_toList]; exact hj)
        have qe := entry_at hen j
        rw [e0] at qe
        cases hb : ks[j]? with
        | none =>
          rw [hb] at qe
          exact nomatch (show some en = none from qe)
        | some b =>
          rw [hb] at qe
          have e2 : en = entryOfKey (tupleKind (mixKind X.prog X.w)) b := Option.some.inj qe
          rw [hv, e2]
          rfl
    rw [ea]
    exact hT' h' tk hk'
  · have := small_K b
    omega
  · obtain ⟨a, rfl, ha⟩ := hv
    have hf' : s2.heap.get? f = some (kla_obj "<lambda>" (X.env.qual ++ "<lambda>") params (body2 x p1 p2 p3 p4 p5) (sc2 x) [] pm c' ctv) := hf
    exact lamk_turn (A := X.A.in1.in1) I2 hf' hrec (hbind _ _ _ _) hl hx hxl hdp (SqT.of ha) h tk kp
  · obtain ⟨qs, hq, rq⟩ := U_each eo
    have hl2 : (qs.map V.ref).length ≤ sizeLine := by
      rw [List.length_map, hq.length, (List.mergeSort_perm L _).length_eq, ← hkeys.length, List.length_map]
      omega
    have I3 : Inv X pins σ H2 { s2 with heap := h1, toks := tk } := I2.kept k1
    exact ⟨.ref h1.objs.size, upd H2 h1.objs.size (.lst (qs.map V.ref)), I3.laid (t' := tk) k2 (Nat.le_refl _) ⟨hl2, out, c2, rq, hp⟩, rfl, q H2 _ qs eN T2 (I3.hok.fresh (Nat.le_refl _)) hq⟩
end
end LK

namespace LK
open PySem PySem.Spec PyProof.Rows PySem.W PySem.Calls L2 L5 LamX
section
variable {prog : Program} {w : World} {A : Around} {E : Value → Shared → Prop} {s : Shared} {vs : List Value}
/-- sorted of what has at most one item -/
theorem sorted_few {src : Value} {Q : Value → Shared → Prop} (h1 : vs.length ≤ 1)
    (gather : ∀ (T : List Value → Shared → Prop) (E' : Value → Shared → Prop), (∀ h' tk, (∀ b o, s.heap.get? b = some o → h'.get? b = some o) → T vs { s with heap := h', toks := tk }) → wpAny (model prog w) A.in1 (collect src) T E' s)
    (h : ∀ (g h' : Heap) (tk c : Nat), (∀ b o, s.heap.get? b = some o → g.get? b = some o) → (∀ b o, g.get? b = some o → h'.get? b = some o) → h'.get? g.objs.size = some (seqObj "list" vs.toArray c) → Q (.ref g.objs.size) { s with heap := h', toks := tk }) :
    wpAny (model prog w) A (call (.builtin "sorted") [src]) Q E s := by
  have hz : vs.length ≤ sizeLine := Nat.le_trans h1 (by decide)
  refine call_function_entry kind_sorted plain_sorted entry_sorted (args_sorted1 _) ?_
  unfold Builtin.«sorted»
  refine wpAny_bind (m := checkCount "sorted" 1 1 _) (wpAny_pure ?_)
  refine wpAny_bind (gather _ _ fun g tk1 k1 => ?_)
  refine wpAny_bind (wpAny_newList ?_ hz)
  have hL : (g.push (seqObj "list" vs.toArray 0)).get? g.objs.size = some (seqObj "list" vs.toArray 0) := Heap.get?_push_size _ rfl
  refine wpAny_bind (wpAny_holding (wpAny_call_entry slot_list_sort ⟨_, hL, rfl⟩ entry_list_sort ?_ (PyProof.Rows.args_list_sort _)))
  refine SrtO.list_sort_ord (s := { s with heap := g.push (seqObj "list" vs.toArray 0), toks := tk1 }) (ltv := fun _ _ => false) ⟨(fun _ _ h => by cases h), (fun _ _ _ _ _ => rfl)⟩ hL hz (fun h2 => absurd h2 (by omega)) fun out hs hb => ⟨_, rfl, ?_⟩
  have eo : out = vs := by
    have hp := hb.perm
    match vs, h1, hp with
    | [], _, hp => exact List.perm_nil.mp hp
    | [v], _, hp => exact List.perm_singleton.mp hp
  subst eo
  obtain ⟨c, hc⟩ := sortedHeap_at (out := out.toArray) hL
  exact wpAny_pure ⟨_, rfl, h g _ _ c k1 (fun b o q => (sortedHeap_old (Nat.ne_of_lt (Heap.lt_size q)) (Heap.lt_size (Heap.get?_push_of_some _ q))).trans (Heap.get?_push_of_some _ q)) hc⟩
end
section
variable {X : Cx}
/-- sorted(l), l a list of tuples of numbers of any lengths -/
def rSortAny (K : PySem.W.Frag) : List V → Hp → VK → Prop := fun vs H Q => ∃ (a : Addr) (rs : List Addr) (L : List (List Nat)), vs = [V.ref a] ∧ SqL K H a (rs.map V.ref) ∧ TupsU H rs L ∧ ((∀ t ∈ L, t ≠ []) ∨ L.length ≤ 1) ∧
  ∀ (p : Addr) (qs : List Addr), H p = none → TupsU H qs (srt encT L) → Q (.ref p) (upd H p (.lst (qs.map V.ref)))
theorem cr_sortAny (hu : X.A.units + 64 < cLine) : CallR X (.builtin "sorted") (rSortAny X.K) := by
  intro pins s σ H vs us Q I r h
  obtain ⟨a, rs, L, rfl, hs, hT, hL, q⟩ := h
  obtain ⟨its, rv, pl, hz⟩ := I.list hs
  obtain ⟨o, ho, hc, n, hdt⟩ := pl.isList
  rw [Vals.ref1 r]
  have e1 := each_U hT rv
  have hz' : its.length ≤ sizeLine := by rw [← rv.length]; exact hz
  have gat : ∀ (T : List Value → Shared → Prop) (E' : Value → Shared → Prop), (∀ h' tk, (∀ b o, s.heap.get? b = some o → h'.get? b = some o) → T its { s with heap := h', toks := tk }) → wpAny (model X.prog X.w) X.A.in1 (collect (.ref a)) T E' s := fun T E' hT' =>
    wpAny_collect_seq a (.inl rfl) ho hc hdt (fun h' k => by simpa using hT' h' s.toks k) (by simpa using hz')
  have lenL : its.length = L.length := e1.length
  rcases hL with hL | hL
  · refine RS.sorted_gathered (vs := its) (enc := encT) hz' gat e1 (e1.mono fun v t ⟨a, e, h⟩ => by rw [e]; exact RS.tup_reads I (SqT.of h)) (AllAlike.of RS.alike_nats) (.inl fun e he => ?_) (fun b _ => ?_) fun out h1' h' tk c k1 k2 hp eo => ?_
    · obtain ⟨t, ht, rfl⟩ := List.mem_map.mp he
      cases t with
      | nil => exact absurd rfl (hL _ ht)
      | cons n t => exact ⟨_, _, rfl⟩
    · have := RS.tup_small b
      omega
    · obtain ⟨qs, hq, rq⟩ := U_each eo
      have hl2 : (qs.map V.ref).length ≤ sizeLine := by rw [List.length_map, hq.length, (List.mergeSort_perm L _).length_eq, ← lenL]; exact hz'
      have I1 : Inv X pins σ H { s with heap := h1', toks := tk } := I.kept k1
      exact ⟨.ref h1'.objs.size, upd H h1'.objs.size (.lst (qs.map V.ref)), I1.laid (t' := tk) k2 (Nat.le_refl _) ⟨hl2, out, c, rq, hp⟩, rfl, q _ qs (I1.hok.fresh (Nat.le_refl _)) hq⟩
  · refine sorted_few (vs := its) (by omega) gat fun g h' tk c k1 k2 hp => ?_
    have I1 : Inv X pins σ H { s with heap := g, toks := tk } := I.kept k1
    have eL : srt encT L = L := srt_is encT_inj (List.Perm.refl _) (by
      match L, hL with
      | [], _ => exact .nil
      | [t], _ => exact List.pairwise_singleton _ _)
    exact ⟨.ref g.objs.size, upd H g.objs.size (.lst (rs.map V.ref)), I1.laid (t' := tk) k2 (Nat.le_refl _) ⟨hz, its, c, rv, hp⟩, rfl, q _ rs (I1.hok.fresh (Nat.le_refl _)) (by rw [eL]; exact hT)⟩
/-- pairs (how many, the tuple) -/
inductive Prs (K : PySem.W.Frag) (H : Hp) : List Addr → List (List Nat) → Prop
  | nil : Prs K H [] []
  | cons {r b : Addr} {t : List Nat} {rs : List Addr} {L : List (List Nat)} : SqT K H r [.int ((t.length : Nat) : Int), .ref b] → H b = some (.tup (nv t)) → Prs K H rs L → Prs K H (r :: rs) (t :: L)
theorem Prs.length {K : PySem.W.Frag} {H : Hp} : ∀ {rs : List Addr} {L : List (List Nat)}, Prs K H rs L → rs.length = L.length
  | _, _, .nil => rfl
  | _, _, .cons _ _ r => congrArg (· + 1) r.length
def RPr (K : PySem.W.Frag) (H : Hp) (v : Value) (t : List Nat) : Prop := ∃ a b, v = Value.ref a ∧ SqT K H a [.int ((t.length : Nat) : Int), .ref b] ∧ H b = some (.tup (nv t))
theorem prs_each {K : PySem.W.Frag} {H : Hp} : ∀ {rs : List Addr} {L : List (List Nat)} {us : List Value}, Prs K H rs L → Vals (rs.map V.ref) us → EachIs (RPr K H) us L
  | _, _, _, .nil, .nil => .nil
  | _, _, _, .cons h1 h2 t, .cons r r' => .cons ⟨_, _, r, h1, h2⟩ (prs_each t r')
theorem each_prs {K : PySem.W.Frag} {H : Hp} : ∀ {us : List Value} {L : List (List Nat)}, EachIs (RPr K H) us L → ∃ rs : List Addr, Prs K H rs L ∧ Vals (rs.map V.ref) us
  | _, _, .nil => ⟨[], .nil, .nil⟩
  | _, _, .cons ⟨a, b, e, h, h'⟩ t => by
    obtain ⟨rs, h1, h2⟩ := each_prs t
    exact ⟨a :: rs, .cons h h' h1, .cons e h2⟩
def rSortPrs (K : PySem.W.Frag) : List V → Hp → VK → Prop := fun vs H Q => ∃ (a : Addr) (rs : List Addr) (L : List (List Nat)), vs = [V.ref a] ∧ SqL K H a (rs.map V.ref) ∧ Prs K H rs L ∧
  ∀ (p : Addr) (qs : List Addr), H p = none → Prs K H qs (srt encK L) → Q (.ref p) (upd H p (.lst (qs.map V.ref)))
theorem cr_sortPrs (hu : X.A.units + 64 < cLine) : CallR X (.builtin "sorted") (rSortPrs X.K) := by
  intro pins s σ H vs us Q I r h
  obtain ⟨a, rs, L, rfl, hs, hT, q⟩ := h
  obtain ⟨its, rv, pl, hz⟩ := I.list hs
  obtain ⟨o, ho, hc, n, hdt⟩ := pl.isList
  rw [Vals.ref1 r]
  have e1 := prs_each hT rv
  have hz' : its.length ≤ sizeLine := by rw [← rv.length]; exact hz
  have lenL : its.length = L.length := e1.length
  have e2 : EachIs (fun v t => Reads s.heap v (encK t) []) its L := e1.mono fun v t ⟨a, b, e, h1, h2⟩ => by
    subst e
    obtain ⟨it2, rv2, ⟨o2, ho2, hc2, n2, hd2⟩, _⟩ := I.tuple h1
    cases rv2 with
    | cons r1 r2 =>
      cases r2 with
      | cons r3 r4 =>
        cases r4
        obtain ⟨tk, rfl⟩ := r1
        cases r3
        refine .tuple ho2 hc2 hd2 ?_
        exact .cons (as := []) (bs := []) (.int _ tk) (.cons (as := []) (bs := []) (RS.tup_reads I (SqT.of h2)) .nil)
  refine RS.sorted_gathered (vs := its) (enc := encK) hz' (fun T E' hT' => wpAny_collect_seq a (.inl rfl) ho hc hdt (fun h' k => by simpa using hT' h' s.toks k) (by simpa using hz')) e1 e2 (AllAlike.of alike_K) (Sortable.tuples fun b => ⟨_, _, rfl⟩) (fun b _ => ?_) fun out h1' h' tk c k1 k2 hp eo => ?_
  · have := small_K b
    omega
  · obtain ⟨qs, hq, rq⟩ := each_prs eo
    have hl2 : (qs.map V.ref).length ≤ sizeLine := by rw [List.length_map, hq.length, (List.mergeSort_perm L _).length_eq, ← lenL]; exact hz'
    have I1 : Inv X pins σ H { s with heap := h1', toks := tk } := I.kept k1
    exact ⟨.ref h1'.objs.size, upd H h1'.objs.size (.lst (qs.map V.ref)), I1.laid (t' := tk) k2 (Nat.le_refl _) ⟨hl2, out, c, rq, hp⟩, rfl, q _ qs (I1.hok.fresh (Nat.le_refl _)) hq⟩
end
section
variable {H H' : Hp}
theorem TupsU.same (s : ∀ b o, H b = some o → H' b = some o) {rs : List Addr} {L : List (List Nat)} (h : TupsU H rs L) : TupsU H' rs L := h.mono fun b xs e => s b _ e
theorem TupsU.ext (s : LamX.ExtN H H') {rs : List Addr} {L : List (List Nat)} (h : TupsU H rs L) : TupsU H' rs L := h.mono fun b xs e => s b _ e fun _ z => by cases z
theorem TupsU.get : ∀ {rs : List Addr} {L : List (List Nat)} {i : Nat} {v : V}, TupsU H rs L → (rs.map V.ref)[i]? = some v → ∃ a t, v = .ref a ∧ rs[i]? = some a ∧ L[i]? = some t ∧ H a = some (.tup (nv t))
  | _, _, _, _, .nil, e => by simp at e
  | _, _, 0, _, .cons h _, e => by simp at e; subst e; exact ⟨_, _, rfl, rfl, rfl, h⟩
  | _, _, i + 1, v, .cons _ t, e => by
    obtain ⟨a, u, h1, h2, h3, h4⟩ := TupsU.get (i := i) (v := v) t (by simpa using e)
    exact ⟨a, u, h1, by simpa using h2, by simpa using h3, h4⟩
theorem TupsU.take : ∀ {rs : List Addr} {L : List (List Nat)} (k : Nat), TupsU H rs L → TupsU H (rs.take k) (L.take k)
  | _, _, 0, _ => by rw [List.take_zero, List.take_zero]; exact .nil
  | _, _, k + 1, .nil => by rw [List.take_nil, List.take_nil]; exact .nil
  | _, _, k + 1, .cons h t => by rw [List.take_succ_cons, List.take_succ_cons]; exact .cons h (TupsU.take k t)
theorem TupsU.drop : ∀ {rs : List Addr} {L : List (List Nat)} (k : Nat), TupsU H rs L → TupsU H (rs.drop k) (L.drop k)
  | _, _, 0, h => by rw [List.drop_zero, List.drop_zero]; exact h
  | _, _, k + 1, .nil => by rw [List.drop_nil, List.drop_nil]; exact .nil
  | _, _, k + 1, .cons h t => by rw [List.drop_succ_cons, List.drop_succ_cons]; exact TupsU.drop k t
end
end LK

/-! families of sets of corners -/
namespace M38
open LK L5
abbrev Asc (t : List Nat) : Prop := t.Pairwise (· < ·)
def smaller (t : List Nat) : List (List Nat) := (List.range t.length).map fun i => t.take i ++ t.drop (i + 1)
theorem mem_smaller {t u : List Nat} : u ∈ smaller t ↔ ∃ i, i < t.length ∧ u = t.take i ++ t.drop (i + 1) := by
  unfold smaller
  rw [List.mem_map]
  constructor
  · rintro ⟨i, hi, rfl⟩
    exact ⟨i, List.mem_range.mp hi, rfl⟩
  · rintro ⟨i, hi, rfl⟩
    exact ⟨i, List.mem_range.mpr hi, rfl⟩
theorem smaller_len {t u : List Nat} (h : u ∈ smaller t) : u.length + 1 = t.length := by
  obtain ⟨i, hi, rfl⟩ := mem_smaller.mp h
  rw [List.length_append, List.length_take, List.length_drop]
  omega
theorem smaller_sub {t u : List Nat} (h : u ∈ smaller t) : u.Sublist t := by
  obtain ⟨i, hi, rfl⟩ := mem_smaller.mp h
  have h1 : (t.drop (i + 1)).Sublist (t.drop i) := by
    rw [← List.drop_drop]
    exact List.drop_sublist _ _
  have h2 := (List.Sublist.refl (t.take i)).append h1
  rw [List.take_append_drop] at h2
  exact h2
theorem smaller_cons {a : Nat} {t u : List Nat} (h : u ∈ smaller t) : a :: u ∈ smaller (a :: t) := by
  obtain ⟨i, hi, rfl⟩ := mem_smaller.mp h
  exact mem_smaller.mpr ⟨i + 1, by rw [List.length_cons]; omega, rfl⟩
theorem between : ∀ {u t : List Nat}, u.Sublist t → u.length < t.length → ∃ w, w.Sublist t ∧ u ∈ smaller w
  | _, _, .slnil, h => absurd h (by simp)
  | _, _, .cons (l₁ := u) (l₂ := t) a s, _ => ⟨a :: u, s.cons_cons a, mem_smaller.mpr ⟨0, by simp, by simp⟩⟩
  | _, _, .cons_cons (l₁ := u) (l₂ := t) a s, h => by
    obtain ⟨w, h1, h2⟩ := between s (by simpa using h)
    exact ⟨a :: w, h1.cons_cons a, smaller_cons h2⟩
theorem closed_down {S : List (List Nat)} (h : ∀ t ∈ S, ∀ u ∈ smaller t, u ∈ S) : ∀ (k : Nat) (t u : List Nat), t ∈ S → u.Sublist t → t.length - u.length = k → u ∈ S
  | 0, t, u, ht, hs, hk => by
    have := hs.length_le
    rw [hs.eq_of_length (by omega)]
    exact ht
  | k + 1, t, u, ht, hs, hk => by
    obtain ⟨w, h1, h2⟩ := between hs (by omega)
    have := smaller_len h2
    exact h w (closed_down h k t w ht h1 (by omega)) u h2
theorem closed_sub {S : List (List Nat)} (h : ∀ t ∈ S, ∀ u ∈ smaller t, u ∈ S) {t u : List Nat} (ht : t ∈ S) (hs : u.Sublist t) : u ∈ S := closed_down h _ t u ht hs rfl
/-! ### ascending tuples -/
theorem sub_of_mem : ∀ {m t : List Nat}, Asc t → Asc m → (∀ x ∈ t, x ∈ m) → t.Sublist m
  | [], [], _, _, _ => .slnil
  | [], x :: t, _, _, h => absurd (h x List.mem_cons_self) (by simp)
  | y :: m, [], _, _, _ => List.nil_sublist _
  | y :: m, x :: t, ht, hm, h => by
    rw [Asc, List.pairwise_cons] at ht hm
    by_cases e : x = y
    · subst e
      refine (sub_of_mem ht.2 hm.2 fun z hz => ?_).cons_cons x
      rcases List.mem_cons.mp (h z (List.mem_cons_of_mem _ hz)) with e | hz'
      · have := ht.1 z hz
        omega
      · exact hz'
    · have hx : x ∈ m := (List.mem_cons.mp (h x List.mem_cons_self)).resolve_left e
      have hlt := hm.1 x hx
      refine (sub_of_mem (List.pairwise_cons.mpr ht) hm.2 fun z hz => ?_).cons y
      rcases List.mem_cons.mp (h z hz) with e | hz'
      · subst e
        rcases List.mem_cons.mp hz with e | hz
        · exact absurd e.symm (by omega)
        · have := ht.1 z hz
          omega
      · exact hz'
theorem mem_of_sub {m t : List Nat} (h : t.Sublist m) : ∀ x ∈ t, x ∈ m := fun x hx => h.subset hx
def On (n : Nat) (t : List Nat) : Prop := Asc t ∧ ∀ x ∈ t, x < n
theorem On.sub {n : Nat} {t m : List Nat} (h : On n m) (s : t.Sublist m) : On n t := ⟨h.1.sublist s, fun x hx => h.2 x (s.subset hx)⟩
theorem On.mono {n k : Nat} {t : List Nat} (h : On n t) (hk : n ≤ k) : On k t := ⟨h.1, fun x hx => Nat.lt_of_lt_of_le (h.2 x hx) hk⟩
theorem asc_snoc {t : List Nat} {x : Nat} : Asc (t ++ [x]) ↔ Asc t ∧ ∀ y ∈ t, y < x := by
  rw [Asc, List.pairwise_append]
  constructor
  · rintro ⟨h1, _, h3⟩
    exact ⟨h1, fun y hy => h3 y hy x (by simp)⟩
  · rintro ⟨h1, h2⟩
    exact ⟨h1, List.pairwise_singleton _ _, fun y hy z hz => by
      rw [List.mem_singleton.mp hz]
      exact h2 y hy⟩
def subs : Nat → List (List Nat)
  | 0 => [[]]
  | n + 1 => subs n ++ (subs n).map (· ++ [n])
theorem mem_subs : ∀ {n : Nat} {t : List Nat}, t ∈ subs n ↔ On n t
  | 0, t => by
    constructor
    · intro h
      rw [List.mem_singleton.mp h]
      exact ⟨.nil, fun x hx => nomatch hx⟩
    · intro h
      cases t with
      | nil => exact List.mem_singleton.mpr rfl
      | cons x t => exact absurd (h.2 x List.mem_cons_self) (by omega)
  | n + 1, t => by
    show t ∈ subs n ++ (subs n).map (· ++ [n]) ↔ _
    rw [List.mem_append, List.mem_map, mem_subs]
    constructor
    · rintro (h | ⟨u, hu, rfl⟩)
      · exact h.mono (Nat.le_succ n)
      · have hu := mem_subs.mp hu
        refine ⟨asc_snoc.mpr ⟨hu.1, hu.2⟩, fun x hx => ?_⟩
        rcases List.mem_append.mp hx with hx | hx
        · exact Nat.lt_succ_of_lt (hu.2 x hx)
        · rw [List.mem_singleton.mp hx]
          exact Nat.lt_succ_self n
    · intro h
      rcases List.eq_nil_or_concat t with e | ⟨u, x, e⟩
      · exact .inl ⟨h.1, fun x hx => by rw [e] at hx; cases hx⟩
      · rw [List.concat_eq_append] at e
        subst e
        obtain ⟨h1, h2⟩ := asc_snoc.mp h.1
        have hx := h.2 x (by simp)
        by_cases e : x = n
        · subst e
          exact .inr ⟨u, mem_subs.mpr ⟨h1, h2⟩, rfl⟩
        · refine .inl ⟨h.1, fun y hy => ?_⟩
          rcases List.mem_append.mp hy with hy | hy
          · have := h2 y hy
            omega
          · rw [List.mem_singleton.mp hy]
            omega
theorem nodup_map_inj {α β : Type} {f : α → β} (hf : ∀ a b, f a = f b → a = b) : ∀ {l : List α}, l.Nodup → (l.map f).Nodup
  | [], _ => .nil
  | a :: l, h => by
    rw [List.nodup_cons] at h
    rw [List.map_cons, List.nodup_cons]
    refine ⟨fun hm => ?_, nodup_map_inj hf h.2⟩
    obtain ⟨b, hb, e⟩ := List.mem_map.mp hm
    exact h.1 (hf b a e ▸ hb)
theorem nodup_subs : ∀ n, (subs n).Nodup
  | 0 => by simp [subs]
  | n + 1 => by
    show (subs n ++ (subs n).map (· ++ [n])).Nodup
    rw [List.nodup_append]
    refine ⟨nodup_subs n, nodup_map_inj (fun a b e => List.append_cancel_right e) (nodup_subs n), fun a ha b hb e => ?_⟩
    obtain ⟨u, _, rfl⟩ := List.mem_map.mp hb
    have := (mem_subs.mp ha).2 n (by rw [e]; simp)
    omega
theorem len_subs : ∀ n, (subs n).length = 2 ^ n
  | 0 => rfl
  | n + 1 => by
    show (subs n ++ (subs n).map (· ++ [n])).length = _
    rw [List.length_append, List.length_map, len_subs n, Nat.pow_succ]
    omega
theorem len_le {α : Type} [DecidableEq α] : ∀ {l m : List α}, l.Nodup → (∀ x ∈ l, x ∈ m) → l.length ≤ m.length
  | [], _, _, _ => Nat.zero_le _
  | x :: l, m, h, sub => by
    obtain ⟨hx, hl⟩ := List.nodup_cons.mp h
    have ih := len_le (l := l) (m := m.erase x) hl fun y hy => (List.mem_erase_of_ne (fun e : y = x => hx (by rw [← e]; exact hy))).mpr (sub y (List.mem_cons_of_mem _ hy))
    have h1 := List.length_erase_of_mem (sub x List.mem_cons_self)
    have h2 := List.length_pos_of_mem (sub x List.mem_cons_self)
    rw [List.length_cons]
    omega
theorem few {n : Nat} {L : List (List Nat)} (hn : n ≤ 8) (h : L.Nodup) (hL : ∀ t ∈ L, On n t) : L.length ≤ 256 := by
  have h1 := len_le h fun t ht => mem_subs.mpr ((hL t ht).mono hn)
  rw [len_subs] at h1
  exact h1
theorem on_len {n : Nat} {t : List Nat} (h : On n t) : t.length ≤ n := by
  have h1 := len_le (h.1.imp fun h => Nat.ne_of_lt h : t.Nodup) (m := List.range n) fun x hx => List.mem_range.mpr (h.2 x hx)
  rwa [List.length_range] at h1
/-! ### families -/
def Down (G : List (List Nat)) (t : List Nat) : Prop := ∃ m ∈ G, t.Sublist m
/-- S: all sets below those of G, by their sizes, then as tuples -/
structure Fam (G S : List (List Nat)) : Prop where
  nd : S.Nodup
  asc : S.Pairwise fun p q => PySem.W.dataLe false encK p q = true
  mem : ∀ t, t ∈ S ↔ Down G t
theorem perm_of_mem {α : Type} [DecidableEq α] {l m : List α} (h1 : l.Nodup) (h2 : m.Nodup) (h : ∀ x, x ∈ l ↔ x ∈ m) : l.Perm m := by
  rw [List.perm_iff_count]
  intro x
  rw [h1.count, h2.count]
  simp only [h x]
theorem Fam.uniq {G G' S S' : List (List Nat)} (h : Fam G S) (h' : Fam G' S') (e : ∀ t, Down G t ↔ Down G' t) : S = S' :=
  perm_eq (le_anti encK_inj) (perm_of_mem h.nd h'.nd fun t => (h.mem t).trans ((e t).trans (h'.mem t).symm)) h.asc h'.asc
theorem fam_srt {G L : List (List Nat)} (h1 : L.Nodup) (h2 : ∀ t, t ∈ L ↔ Down G t) : Fam G (srt encK L) := ⟨(srt_perm encK L).nodup_iff.mpr h1, srt_asc encK L, fun t => (srt_perm encK L).mem_iff.trans (h2 t)⟩
theorem Fam.closed {G S : List (List Nat)} (h : Fam G S) {t u : List Nat} (ht : t ∈ S) (hs : u.Sublist t) : u ∈ S := by
  obtain ⟨m, hm, h1⟩ := (h.mem t).mp ht
  exact (h.mem u).mpr ⟨m, hm, hs.trans h1⟩
theorem Fam.on {n : Nat} {G S : List (List Nat)} (h : Fam G S) (hG : ∀ t ∈ G, On n t) : ∀ t ∈ S, On n t := fun t ht => by
  obtain ⟨m, hm, h1⟩ := (h.mem t).mp ht
  exact (hG m hm).sub h1
/-- what the loop keeps: found, waiting -/
structure Loop (n : Nat) (G L ws : List (List Nat)) : Prop where
  nd : L.Nodup
  inL : ∀ t ∈ L, Down G t
  inW : ∀ t ∈ ws, Down G t
  all : ∀ g ∈ G, g ∈ L ∨ g ∈ ws
  cl : ∀ t ∈ L, ∀ u ∈ smaller t, u ∈ L ∨ u ∈ ws
theorem Loop.start (n : Nat) (G : List (List Nat)) : Loop n G [] G := ⟨.nil, fun _ h => (nomatch h), fun t h => ⟨t, h, List.Sublist.refl t⟩, fun _ h => .inr h, fun _ h => (nomatch h)⟩
theorem Loop.skip {n : Nat} {G L ws : List (List Nat)} {t : List Nat} (h : Loop n G L (ws ++ [t])) (ht : t ∈ L) : Loop n G L ws := by
  have f : ∀ u, u ∈ L ∨ u ∈ ws ++ [t] → u ∈ L ∨ u ∈ ws := fun u hu => by
    rcases hu with hu | hu
    · exact .inl hu
    · rcases List.mem_append.mp hu with hu | hu
      · exact .inr hu
      · rw [List.mem_singleton.mp hu]
        exact .inl ht
  exact ⟨h.nd, h.inL, fun u hu => h.inW u (List.mem_append_left _ hu), fun g hg => f g (h.all g hg), fun u hu v hv => f v (h.cl u hu v hv)⟩
theorem Loop.new {n : Nat} {G L ws : List (List Nat)} {t : List Nat} (h : Loop n G L (ws ++ [t])) (ht : t ∉ L) : Loop n G (L ++ [t]) (ws ++ smaller t) := by
  have dt := h.inW t (by simp)
  have f : ∀ u, u ∈ L ∨ u ∈ ws ++ [t] → u ∈ L ++ [t] ∨ u ∈ ws ++ smaller t := fun u hu => by
    rcases hu with hu | hu
    · exact .inl (List.mem_append_left _ hu)
    · rcases List.mem_append.mp hu with hu | hu
      · exact .inr (List.mem_append_left _ hu)
      · exact .inl (List.mem_append_right _ hu)
  refine ⟨?_, fun u hu => ?_, fun u hu => ?_, fun g hg => f g (h.all g hg), fun u hu v hv => ?_⟩
  · rw [List.nodup_append]
    exact ⟨h.nd, by simp, fun a ha b hb e => ht (by rw [List.mem_singleton.mp hb] at e; exact e ▸ ha)⟩
  · rcases List.mem_append.mp hu with hu | hu
    · exact h.inL u hu
    · rw [List.mem_singleton.mp hu]
      exact dt
  · rcases List.mem_append.mp hu with hu | hu
    · exact h.inW u (List.mem_append_left _ hu)
    · obtain ⟨m, hm, h1⟩ := dt
      exact ⟨m, hm, (smaller_sub hu).trans h1⟩
  · rcases List.mem_append.mp hu with hu | hu
    · exact f v (h.cl u hu v hv)
    · rw [List.mem_singleton.mp hu] at hv
      exact .inr (List.mem_append_right _ hv)
theorem Loop.done {n : Nat} {G L : List (List Nat)} (h : Loop n G L []) : Fam G (srt encK L) := by
  have cl : ∀ t ∈ L, ∀ u ∈ smaller t, u ∈ L := fun t ht u hu => (h.cl t ht u hu).resolve_right (by simp)
  refine fam_srt h.nd fun t => ⟨h.inL t, fun ⟨m, hm, hs⟩ => ?_⟩
  exact closed_sub cl ((h.all m hm).resolve_right (by simp)) hs
theorem smaller_many {n : Nat} {t : List Nat} (hn : n ≤ 8) (h : On n t) : (smaller t).length ≤ 8 := by
  have := on_len h
  unfold smaller
  rw [List.length_map, List.length_range]
  omega
/-! ### the greatest ones -/
def cov (S : List (List Nat)) (t : List Nat) : Bool := S.any fun u => decide (t ∈ smaller u)
def sbB (t u : List Nat) : Bool := t.all fun x => decide (x ∈ u)
def lcov (S : List (List Nat)) (t : List Nat) : Bool := S.any fun u => decide (t.length < u.length) && sbB t u
theorem cov_iff {S : List (List Nat)} {t : List Nat} : cov S t = true ↔ ∃ u ∈ S, t ∈ smaller u := by
  unfold cov
  simp
theorem sbB_iff {t u : List Nat} : sbB t u = true ↔ ∀ x ∈ t, x ∈ u := by
  unfold sbB
  simp
theorem lcov_iff {S : List (List Nat)} {t : List Nat} : lcov S t = true ↔ ∃ u ∈ S, t.length < u.length ∧ ∀ x ∈ t, x ∈ u := by
  unfold lcov
  simp [sbB_iff]
theorem cov_eq {n : Nat} {G S : List (List Nat)} (h : Fam G S) (hG : ∀ t ∈ G, On n t) {t : List Nat} (ht : t ∈ S) : cov S t = lcov S t := by
  have on := h.on hG
  rw [Bool.eq_iff_iff, cov_iff, lcov_iff]
  constructor
  · rintro ⟨u, hu, hs⟩
    have := smaller_len hs
    exact ⟨u, hu, by omega, mem_of_sub (smaller_sub hs)⟩
  · rintro ⟨u, hu, hl, hm⟩
    obtain ⟨w, h1, h2⟩ := between (sub_of_mem (on t ht).1 (on u hu).1 hm) hl
    exact ⟨w, h.closed hu h1, h2⟩
def tops (S : List (List Nat)) : List (List Nat) := S.filter fun t => !cov S t
def gr (S : List (List Nat)) : List (List Nat) := srt encT (tops S)
theorem mem_tops {S : List (List Nat)} {t : List Nat} : t ∈ tops S ↔ t ∈ S ∧ cov S t = false := by
  unfold tops
  rw [List.mem_filter, Bool.not_eq_true']
theorem mem_gr {S : List (List Nat)} {t : List Nat} : t ∈ gr S ↔ t ∈ S ∧ cov S t = false := (srt_perm _ _).mem_iff.trans mem_tops
theorem tops_ok {G S : List (List Nat)} (h : Fam G S) : (∀ t ∈ tops S, t ≠ []) ∨ (tops S).length ≤ 1 := by
  by_cases e : [] ∈ tops S
  · refine .inr ?_
    have h1 := (mem_tops.mp e).2
    have all : ∀ t ∈ S, t = [] := fun t ht => by
      by_cases z : t = []
      · exact z
      · have hl : ([] : List Nat).length < t.length := List.length_pos_iff.mpr z
        obtain ⟨w, h2, h3⟩ := between (List.nil_sublist t) hl
        have := cov_iff.mpr ⟨w, h.closed ht h2, h3⟩
        rw [h1] at this
        cases this
    have := len_le (l := tops S) (m := [[]]) (h.nd.filter _) fun t ht => by rw [all t (mem_tops.mp ht).1]; simp
    simpa using this
  · exact .inl fun t ht z => e (z ▸ ht)
theorem under {n : Nat} {G S : List (List Nat)} (h : Fam G S) (hG : ∀ t ∈ G, On n t) : ∀ (k : Nat) (t : List Nat), t ∈ S → n - t.length = k → ∃ g ∈ gr S, t.Sublist g := by
  have on := h.on hG
  intro k
  induction k using Nat.strongRecOn with
  | ind k ih =>
    intro t ht hk
    cases e : cov S t with
    | false => exact ⟨t, mem_gr.mpr ⟨ht, e⟩, List.Sublist.refl t⟩
    | true =>
      obtain ⟨u, hu, hs⟩ := cov_iff.mp e
      have h1 := smaller_len hs
      have h2 := on_len (on u hu)
      obtain ⟨g, hg, h3⟩ := ih (n - u.length) (by omega) u hu rfl
      exact ⟨g, hg, (smaller_sub hs).trans h3⟩
theorem down_gr {n : Nat} {G S : List (List Nat)} (h : Fam G S) (hG : ∀ t ∈ G, On n t) (t : List Nat) : Down G t ↔ Down (gr S) t := by
  rw [← h.mem t]
  constructor
  · intro ht
    obtain ⟨g, hg, hs⟩ := under h hG _ t ht rfl
    exact ⟨g, hg, hs⟩
  · rintro ⟨g, hg, hs⟩
    exact h.closed (mem_gr.mp hg).1 hs
theorem gr_inj {n n' : Nat} {G S G' S' : List (List Nat)} (h : Fam G S) (hG : ∀ t ∈ G, On n t) (h' : Fam G' S') (hG' : ∀ t ∈ G', On n' t) : S = S' ↔ gr S = gr S' := by
  constructor
  · intro e
    rw [e]
  · intro e
    exact h.uniq h' fun t => by rw [down_gr h hG t, down_gr h' hG' t, e]
/-- more sets of the family, in another sequence -/
theorem more_same {G S M : List (List Nat)} (h : Fam G S) (h1 : ∀ g ∈ G, g ∈ M) (h2 : ∀ t ∈ M, t ∈ S) (t : List Nat) : Down M t ↔ Down G t := by
  constructor
  · rintro ⟨m, hm, hs⟩
    exact (h.mem t).mp (h.closed (h2 m hm) hs)
  · rintro ⟨m, hm, hs⟩
    exact ⟨m, h1 m hm, hs⟩
/-! ### the law's own -/
def lall (n : Nat) (G : List (List Nat)) : List (List Nat) := (subs n).filter fun t => G.any fun m => sbB t m
theorem lall_fam {n : Nat} {G : List (List Nat)} (hG : ∀ t ∈ G, On n t) : Fam G (srt encK (lall n G)) := by
  refine fam_srt ((nodup_subs n).filter _) fun t => ?_
  unfold lall
  rw [List.mem_filter, mem_subs, List.any_eq_true]
  constructor
  · rintro ⟨h1, m, hm, h2⟩
    exact ⟨m, hm, sub_of_mem h1.1 (hG m hm).1 (sbB_iff.mp h2)⟩
  · rintro ⟨m, hm, hs⟩
    exact ⟨(hG m hm).sub hs, m, hm, sbB_iff.mpr (mem_of_sub hs)⟩
theorem srt_lcov {n : Nat} {G S : List (List Nat)} (h : Fam G S) (hG : ∀ t ∈ G, On n t) : srt encT (S.filter fun t => !lcov S t) = gr S := by
  unfold gr tops
  have : (S.filter fun t => !lcov S t) = S.filter fun t => !cov S t := List.filter_congr fun t ht => by rw [cov_eq h hG ht]
  rw [this]
theorem Fam.nil {S : List (List Nat)} (h : Fam [] S) : S = [] := List.eq_nil_iff_forall_not_mem.mpr fun t ht => by
  obtain ⟨m, hm, _⟩ := (h.mem t).mp ht
  cases hm
theorem Fam.ne {G S : List (List Nat)} (h : Fam G S) (hG : G ≠ []) : S ≠ [] := by
  obtain ⟨g, hg⟩ := List.exists_mem_of_ne_nil G hG
  intro e
  have := (h.mem g).mpr ⟨g, hg, List.Sublist.refl g⟩
  rw [e] at this
  cases this
end M38

/-! tables: places with integers over a bottom, in lowest terms -/
namespace M24
open LK L5
abbrev Ent := List (List Nat × Int)
/-- the integer at a place -/
def ev : Ent → List Nat → Int
  | [], _ => 0
  | p :: L, t => if p.1 = t then p.2 else ev L t
def keys (L : Ent) : List (List Nat) := L.map (·.1)
theorem ev_mem : ∀ {L : Ent} {p : List Nat × Int}, (keys L).Nodup → p ∈ L → ev L p.1 = p.2
  | q :: L, p, nd, h => by
    rw [keys, List.map_cons, List.nodup_cons] at nd
    rcases List.mem_cons.mp h with e | h
    · subst e
      exact if_pos rfl
    · have ne : ¬ q.1 = p.1 := fun e => nd.1 (e ▸ List.mem_map_of_mem h)
      rw [ev, if_neg ne]
      exact ev_mem (L := L) nd.2 h
theorem ev_none : ∀ {L : Ent} {t : List Nat}, t ∉ keys L → ev L t = 0
  | [], _, _ => rfl
  | p :: L, t, h => by
    rw [keys, List.map_cons, List.mem_cons] at h
    have ne : ¬ p.1 = t := fun e => h (.inl e.symm)
    rw [ev, if_neg ne]
    exact ev_none fun k => h (.inr k)
theorem mem_of_ev {L : Ent} {t : List Nat} (h : ev L t ≠ 0) : t ∈ keys L := by
  by_cases e : t ∈ keys L
  · exact e
  · exact absurd (ev_none e) h
/-- the common divisor of a number and all integers -/
def gN : Nat → Ent → Nat
  | g, [] => g
  | g, p :: L => gN (Nat.gcd g p.2.natAbs) L
theorem dvd_gN {d : Nat} : ∀ {L : Ent} {g : Nat}, d ∣ gN g L ↔ d ∣ g ∧ ∀ p ∈ L, d ∣ p.2.natAbs
  | [], g => by simp [gN]
  | p :: L, g => by
    rw [gN, dvd_gN, Nat.dvd_gcd_iff]
    simp only [List.mem_cons, forall_eq_or_imp]
    exact and_assoc
theorem dvd_gN' {d : Nat} {L : Ent} {g : Nat} (nd : (keys L).Nodup) : d ∣ gN g L ↔ d ∣ g ∧ ∀ t, d ∣ (ev L t).natAbs := by
  rw [dvd_gN]
  refine and_congr_right fun _ => ⟨fun h t => ?_, fun h p hp => ?_⟩
  · by_cases e : t ∈ keys L
    · obtain ⟨p, hp, rfl⟩ := List.mem_map.mp e
      rw [ev_mem nd hp]
      exact h p hp
    · rw [ev_none e]
      exact Nat.dvd_zero d
  · have := h p.1
    rwa [ev_mem nd hp] at this
theorem gN_pos {L : Ent} {g : Nat} (h : 0 < g) : 0 < gN g L := Nat.pos_of_dvd_of_pos ((dvd_gN (L := L)).mp (Nat.dvd_refl _)).1 h
/-- what all is divided by -/
def sg (L : Ent) (b : Int) : Int := if b < 0 then -((gN b.natAbs L : Nat) : Int) else ((gN b.natAbs L : Nat) : Int)
def kept (L : Ent) : List (List Nat) := (srt encT (keys L)).filter fun t => decide (ev L t ≠ 0)
def low (L : Ent) (b : Int) : Ent × Int := ((kept L).map fun t => (t, ev L t / sg L b), b / sg L b)
theorem mem_kept {L : Ent} {t : List Nat} : t ∈ kept L ↔ ev L t ≠ 0 := by
  unfold kept
  rw [List.mem_filter, decide_eq_true_iff, (srt_perm encT (keys L)).mem_iff]
  exact ⟨fun h => h.2, fun h => ⟨mem_of_ev h, h⟩⟩
theorem kept_nd {L : Ent} (nd : (keys L).Nodup) : (kept L).Nodup := ((srt_perm encT (keys L)).nodup_iff.mpr nd).sublist List.filter_sublist
theorem kept_asc (L : Ent) : (kept L).Pairwise fun p q => PySem.W.dataLe false encT p q = true := (srt_asc encT (keys L)).sublist List.filter_sublist
theorem asc_same {K M : List (List Nat)} (h1 : K.Nodup) (h2 : M.Nodup) (a1 : K.Pairwise fun p q => PySem.W.dataLe false encT p q = true) (a2 : M.Pairwise fun p q => PySem.W.dataLe false encT p q = true) (h : ∀ t, t ∈ K ↔ t ∈ M) : K = M :=
  perm_eq (le_anti encT_inj) (M38.perm_of_mem h1 h2 h) a1 a2
theorem kept_congr {L M : Ent} (n1 : (keys L).Nodup) (n2 : (keys M).Nodup) (h : ∀ t, (ev L t ≠ 0 ↔ ev M t ≠ 0)) : kept L = kept M :=
  asc_same (kept_nd n1) (kept_nd n2) (kept_asc L) (kept_asc M) fun t => by rw [mem_kept, mem_kept, h]
theorem gN_congr {L M : Ent} {g : Nat} (n1 : (keys L).Nodup) (n2 : (keys M).Nodup) (h : ∀ t, ev L t = ev M t) : gN g L = gN g M := by
  refine Nat.dvd_antisymm ((dvd_gN' n2).mpr ?_) ((dvd_gN' n1).mpr ?_)
  · have := (dvd_gN' n1).mp (Nat.dvd_refl (gN g L))
    exact ⟨this.1, fun t => h t ▸ this.2 t⟩
  · have := (dvd_gN' n2).mp (Nat.dvd_refl (gN g M))
    exact ⟨this.1, fun t => (h t).symm ▸ this.2 t⟩
theorem low_congr {L M : Ent} {b : Int} (n1 : (keys L).Nodup) (n2 : (keys M).Nodup) (h : ∀ t, ev L t = ev M t) : low L b = low M b := by
  unfold low sg
  rw [kept_congr n1 n2 fun t => by rw [h], gN_congr n1 n2 h]
  refine Prod.ext (List.map_congr_left fun t _ => ?_) rfl
  rw [h]
theorem sg_ne {L : Ent} {b : Int} (hb : b ≠ 0) : sg L b ≠ 0 := by
  have := gN_pos (L := L) (g := b.natAbs) (by omega)
  unfold sg
  split <;> omega
theorem sg_dvd {L : Ent} {b : Int} (nd : (keys L).Nodup) : sg L b ∣ b ∧ ∀ t, sg L b ∣ ev L t := by
  have k := (dvd_gN' (L := L) (g := b.natAbs) nd).mp (Nat.dvd_refl _)
  have c : ∀ x : Int, gN b.natAbs L ∣ x.natAbs → sg L b ∣ x := fun x hx => by
    have h1 : ((gN b.natAbs L : Nat) : Int) ∣ x := Int.ofNat_dvd_left.mpr hx
    unfold sg
    split
    · exact Int.neg_dvd.mpr h1
    · exact h1
  exact ⟨c b k.1, fun t => c _ (k.2 t)⟩
theorem ev_map {f : List Nat → Int} {t : List Nat} : ∀ {K : List (List Nat)}, ev (K.map fun t => (t, f t)) t = if t ∈ K then f t else 0
  | [] => by simp [ev]
  | u :: K => by
    rw [List.map_cons, ev, ev_map (K := K)]
    by_cases e : u = t
    · rw [if_pos e, if_pos (by rw [e]; exact List.mem_cons_self), e]
    · rw [if_neg e]
      have : t ∈ u :: K ↔ t ∈ K := by
        rw [List.mem_cons]
        exact ⟨fun h => h.resolve_left fun z => e z.symm, .inr⟩
      by_cases h : t ∈ K
      · rw [if_pos h, if_pos (this.mpr h)]
      · rw [if_neg h, if_neg fun z => h (this.mp z)]
theorem ev_low {L : Ent} {b : Int} (t : List Nat) : ev (low L b).1 t = ev L t / sg L b := by
  show ev ((kept L).map _) t = _
  rw [ev_map (f := fun t => ev L t / sg L b)]
  by_cases h : t ∈ kept L
  · rw [if_pos h]
  · rw [if_neg h]
    have : ev L t = 0 := by
      by_cases e : ev L t = 0
      · exact e
      · exact absurd (mem_kept.mpr e) h
    rw [this, Int.zero_ediv]
theorem keys_low {L : Ent} {b : Int} : keys (low L b).1 = kept L := by
  show ((kept L).map _).map _ = _
  rw [List.map_map]
  exact List.map_id' (kept L)
/-- in lowest terms -/
structure Lw (T : Ent × Int) : Prop where
  nd : (keys T.1).Nodup
  asc : (keys T.1).Pairwise fun p q => PySem.W.dataLe false encT p q = true
  nz : ∀ p ∈ T.1, p.2 ≠ 0
  pos : 0 < T.2
  one : gN T.2.natAbs T.1 = 1
theorem exact_mul {a s : Int} (h : s ∣ a) : a / s * s = a := Int.ediv_mul_cancel h
theorem low_pos {L : Ent} {b : Int} (nd : (keys L).Nodup) (hb : b ≠ 0) : 0 < b / sg L b := by
  have d := (sg_dvd (b := b) nd).1
  have e := exact_mul d
  have p := gN_pos (L := L) (g := b.natAbs) (by omega)
  have ne : b / sg L b ≠ 0 := fun z => by
    rw [z, Int.zero_mul] at e
    exact hb e.symm
  rcases Int.lt_or_gt_of_ne ne with h | h
  · exfalso
    unfold sg at e h
    by_cases hn : b < 0
    · rw [if_pos hn] at e h
      have := Int.mul_pos_of_neg_of_neg h (show -((gN b.natAbs L : Nat) : Int) < 0 by omega)
      omega
    · rw [if_neg hn] at e h
      have := Int.mul_neg_of_neg_of_pos h (show (0 : Int) < ((gN b.natAbs L : Nat) : Int) by omega)
      omega
  · exact h
theorem low_lw {L : Ent} {b : Int} (nd : (keys L).Nodup) (hb : b ≠ 0) : Lw (low L b) := by
  have hs := sg_ne (L := L) hb
  have ds := sg_dvd (L := L) (b := b) nd
  have nk : (keys (low L b).1).Nodup := keys_low ▸ kept_nd nd
  refine ⟨nk, keys_low ▸ kept_asc L, fun p hp => ?_, low_pos nd hb, ?_⟩
  · obtain ⟨t, ht, rfl⟩ := List.mem_map.mp hp
    intro z
    have z' : ev L t / sg L b = 0 := z
    have := exact_mul (ds.2 t)
    rw [z', Int.zero_mul] at this
    exact mem_kept.mp ht this.symm
  · have k := (dvd_gN' (L := (low L b).1) (g := (low L b).2.natAbs) nk).mp (Nat.dvd_refl _)
    generalize hg : gN (low L b).2.natAbs (low L b).1 = g at k
    have up : ∀ x : Int, sg L b ∣ x → g ∣ (x / sg L b).natAbs → g * gN b.natAbs L ∣ x.natAbs := fun x hx hd => by
      have e := exact_mul hx
      have en : x.natAbs = (x / sg L b).natAbs * (sg L b).natAbs := by rw [← Int.natAbs_mul, e]
      have es : (sg L b).natAbs = gN b.natAbs L := by unfold sg; split <;> omega
      rw [en, es]
      exact Nat.mul_dvd_mul_right hd _
    have dd : g * gN b.natAbs L ∣ gN b.natAbs L := (dvd_gN' nd).mpr ⟨up b ds.1 k.1, fun t => up _ (ds.2 t) (by have := k.2 t; rwa [ev_low] at this)⟩
    have p := gN_pos (L := L) (g := b.natAbs) (by omega)
    have le := Nat.le_of_dvd p dd
    have g0 : 0 < g := hg ▸ gN_pos (by have := low_pos nd hb; show 0 < (b / sg L b).natAbs; omega)
    have : g * gN b.natAbs L ≤ 1 * gN b.natAbs L := by omega
    have := Nat.le_of_mul_le_mul_right this p
    omega
theorem Lw.ext {T U : Ent × Int} (h : Lw T) (k : Lw U) (e : ∀ t, ev T.1 t * U.2 = ev U.1 t * T.2) : T = U := by
  have hb : T.2.natAbs ∣ U.2.natAbs := by
    have d : T.2.natAbs ∣ gN U.2.natAbs U.1 * T.2.natAbs := Nat.dvd_mul_left _ _
    -- T.2 divides U.2 times each integer of T, and times itself
    have all : ∀ m : Nat, (m ∣ T.2.natAbs * U.2.natAbs ∧ ∀ t, m ∣ (ev T.1 t).natAbs * U.2.natAbs) → m ∣ U.2.natAbs := fun m hm => by
      have : ∀ {L : Ent} {g : Nat}, m ∣ g * U.2.natAbs → (∀ p ∈ L, m ∣ p.2.natAbs * U.2.natAbs) → m ∣ gN g L * U.2.natAbs := by
        intro L
        induction L with
        | nil => intro g h1 _; exact h1
        | cons p L ih =>
          intro g h1 h2
          refine ih (g := Nat.gcd g p.2.natAbs) ?_ fun q hq => h2 q (List.mem_cons_of_mem _ hq)
          rw [← Nat.gcd_mul_right]
          exact Nat.dvd_gcd h1 (h2 p List.mem_cons_self)
      have r := this (L := T.1) (g := T.2.natAbs) hm.1 fun p hp => by
        have := hm.2 p.1
        rwa [ev_mem h.nd hp] at this
      rwa [h.one, Nat.one_mul] at r
    refine all T.2.natAbs ⟨Nat.dvd_mul_right _ _, fun t => ?_⟩
    rw [← Int.natAbs_mul, e t, Int.natAbs_mul]
    exact Nat.dvd_mul_left _ _
  have hc : U.2.natAbs ∣ T.2.natAbs := by
    have all : ∀ m : Nat, (m ∣ U.2.natAbs * T.2.natAbs ∧ ∀ t, m ∣ (ev U.1 t).natAbs * T.2.natAbs) → m ∣ T.2.natAbs := fun m hm => by
      have : ∀ {L : Ent} {g : Nat}, m ∣ g * T.2.natAbs → (∀ p ∈ L, m ∣ p.2.natAbs * T.2.natAbs) → m ∣ gN g L * T.2.natAbs := by
        intro L
        induction L with
        | nil => intro g h1 _; exact h1
        | cons p L ih =>
          intro g h1 h2
          refine ih (g := Nat.gcd g p.2.natAbs) ?_ fun q hq => h2 q (List.mem_cons_of_mem _ hq)
          rw [← Nat.gcd_mul_right]
          exact Nat.dvd_gcd h1 (h2 p List.mem_cons_self)
      have r := this (L := U.1) (g := U.2.natAbs) hm.1 fun p hp => by
        have := hm.2 p.1
        rwa [ev_mem k.nd hp] at this
      rwa [k.one, Nat.one_mul] at r
    refine all U.2.natAbs ⟨Nat.dvd_mul_right _ _, fun t => ?_⟩
    rw [← Int.natAbs_mul, ← e t, Int.natAbs_mul]
    exact Nat.dvd_mul_left _ _
  have e2 : T.2 = U.2 := by
    have := Nat.dvd_antisymm hb hc
    have p1 := h.pos
    have p2 := k.pos
    omega
  have ee : ∀ t, ev T.1 t = ev U.1 t := fun t => by
    have := e t
    rw [e2] at this
    have p2 := k.pos
    exact Int.eq_of_mul_eq_mul_right (by omega) this
  have ek : keys T.1 = keys U.1 := asc_same h.nd k.nd h.asc k.asc fun t => by
    have m : ∀ {V : Ent × Int}, Lw V → (t ∈ keys V.1 ↔ ev V.1 t ≠ 0) := fun {V} hv => ⟨fun ht => by
      obtain ⟨p, hp, rfl⟩ := List.mem_map.mp ht
      rw [ev_mem hv.nd hp]
      exact hv.nz p hp, mem_of_ev⟩
    rw [m h, m k, ee]
  have e1 : T.1 = U.1 := by
    have self : ∀ {V : Ent × Int}, Lw V → V.1 = (keys V.1).map fun t => (t, ev V.1 t) := fun {V} hv => by
      unfold keys
      rw [List.map_map]
      refine ((List.map_congr_left fun p hp => ?_).trans (List.map_id _)).symm
      show (p.1, ev V.1 p.1) = p
      rw [ev_mem hv.nd hp]
    rw [self h, self k, ek]
    exact List.map_congr_left fun t _ => by rw [ee]
  exact Prod.ext e1 e2
/-- fractions that are the same have the same lowest terms -/
theorem low_eq {L M : Ent} {b c : Int} (n1 : (keys L).Nodup) (n2 : (keys M).Nodup) (hb : b ≠ 0) (hc : c ≠ 0) (h : ∀ t, ev L t * c = ev M t * b) : low L b = low M c := by
  refine (low_lw n1 hb).ext (low_lw n2 hc) fun t => ?_
  have s1 := sg_ne (L := L) hb
  have s2 := sg_ne (L := M) hc
  have d1 := sg_dvd (L := L) (b := b) n1
  have d2 := sg_dvd (L := M) (b := c) n2
  rw [ev_low, ev_low]
  show ev L t / sg L b * (c / sg M c) = ev M t / sg M c * (b / sg L b)
  have k1 := exact_mul (d1.2 t)
  have k2 := exact_mul d2.1
  have k3 := exact_mul (d2.2 t)
  have k4 := exact_mul d1.1
  have hh := h t
  generalize sg L b = s at s1 k1 k4 ⊢
  generalize sg M c = r at s2 k2 k3 ⊢
  generalize ev L t / s = x at k1 ⊢
  generalize c / r = y at k2 ⊢
  generalize ev M t / r = u at k3 ⊢
  generalize b / s = v at k4 ⊢
  rw [← k1, ← k2, ← k3, ← k4] at hh
  have : (x * y) * (s * r) = (u * v) * (s * r) := by
    calc (x * y) * (s * r) = x * s * (y * r) := by rw [Int.mul_assoc, Int.mul_left_comm y s r, ← Int.mul_assoc]
      _ = u * r * (v * s) := hh
      _ = (u * v) * (s * r) := by rw [Int.mul_comm s r, Int.mul_assoc u r, Int.mul_left_comm r v s, ← Int.mul_assoc u v]
  exact Int.eq_of_mul_eq_mul_right (Int.mul_ne_zero s1 s2) this
end M24

/-! dicts whose keys are tuples: comprehensions -/
namespace DT
open PySem PySem.Spec PyProof.Rows L2
/-- d[t] = v, t a tracked tuple -/
theorem set_tup {X : Cx} {ps : List (Addr × Obj)} {σ : L2.St} {G : Hp} {q : Shared} {E : Value → Shared → Prop} {d b : Addr} {m : List (List Key × V)} {t : List Key} {v : V} {r : Value} {Q : Unit → Shared → Prop} (hu : X.A.units < cLine) (J : Inv X ps σ G q) (hd : G d = some (.dT m)) (hb : G b = some (.tup (t.map kV)))
    (few : m.length < sizeLine) (rv : RelV v r) (go : ∀ q', Inv X ps σ (upd G d (.dT (putK m t v))) q' → Q () q') : wpAny (model X.prog X.w) X.A (dictSet d (.ref b) r) Q E q := by
  obtain ⟨z, ns, xs, rel, dd⟩ := dt_of J.hok hd
  have lx : xs.length ≤ sizeLine := (Paired.length rel) ▸ z
  have lp : (putK m t v).length ≤ sizeLine := Nat.le_trans (length_putK m t v) few
  refine wpAny_dictSet_heap (hsz := lx) (knd := tupleKind (mixKind X.prog X.w)) hu (key_of J.hok hb) dd fun g dd' sb => go _ ?_
  obtain ⟨o, es, ep, ho, c2, c3, c4, _, c5⟩ := dd'
  refine d_write J (by rw [hd]; exact True.intro) sb ⟨o, ho⟩ ⟨lp, ns, _, (rel.put t hb rv).keeps fun c ys ec => ?_, o, es, ep, ho, c2, c3, c4, c5⟩
  have nc : c ≠ d := fun e => by
    rw [e, hd] at ec
    cases ec
  rw [upd_ne nc]
  exact ec
/-- what one turn asks, a key and a value -/
def Turn (d : Addr) (g : TG) (tt : TT) (tk tv : TE) (vs : List Nat) (σ : L2.St) (x : V) (G : Hp) (Nx : Hp → Prop) : Prop := g x (wipe σ vs) G fun σ2 G2 => wipe σ2 vs = wipe σ vs ∧ tt σ2 G2 fun b G3 =>
  if b = true then tk σ2 G3 fun y G4 => tv σ2 G4 fun z G5 => ∃ (m : List (List Key × V)) (t : List Key) (p : Addr), y = .ref p ∧ G5 p = some (.tup (t.map kV)) ∧ G5 d = some (.dT m) ∧ m.length < sizeLine ∧ Nx (upd G5 d (.dT (putK m t z))) else Nx G3
/-- how the walk goes with the new dict at d -/
def Goes (J : It) (d : Addr) (g : TG) (tt : TT) (tk tv : TE) (vs : List Nat) (σ : L2.St) (Qd : Hp → Prop) (W : Nat → Nat → Hp → Prop) : Prop := ∀ i m G, W i m G → (J.stop i G ∧ Qd G) ∨ (J.go i G ∧ ∃ Nx : Hp → Prop, (∀ G', Nx G' → ∃ m', m' < m ∧ W (i + 1) m' G') ∧ ∀ x G', J.yld i G x G' → Turn d g tt tk tv vs σ x G' Nx)
/-- {k: v for target in iter if ..}, each key a tuple -/
def tDcT (wi : TI) (g : TG) (tt : TT) (tk tv : TE) (vs : List Nat) : TE := fun σ G Q => wi σ G fun J G1 => ∀ d, G1 d = none → ∃ W : Nat → Nat → Hp → Prop, (∃ m, W 0 m (upd G1 d (.dT []))) ∧ Goes J d g tt tk tv vs σ (Q (.ref d)) W
section
variable {X : Cx}
abbrev BlkE (X : Cx) (scope : Scope) (F : Cx → Prop) : Prop := ∀ (q : Shared) (G : Hp) (C : Addr) (cl : List (Str × Addr)) (fp : List Addr), F (X.blk q G scope (compEnvC scope cl C X.env) fp)
abbrev newD : Obj := { cls := .type "dict", data := .dict #[] }
theorem core {ps : List (Addr × Obj)} {q : Shared} {σ : L2.St} {G : Hp} {Q : VK} {kx vx tg iter : Expr} {ifs : List Expr} {scope : Scope} {own : List (Str × Nat)} {p1 p2 : Pos} {wi : TI} {g : TG} {tt : TT} {tk tv : TE} {use : Option (Value → Sem Unit)} {Qf : Value → Shared → Prop}
    (calm : X.calm = true) (hu : X.A.units < cLine) (nd : X.N.Nodup) (J : Inv X ps σ G q) (hi : PI X tg iter wi) (ok : BlkOk X.N X.env.scope scope own) (hg : BlkE X scope fun Y => PG Y tg g) (ht : BlkE X scope fun Y => PTs Y ifs tt) (hk : BlkE X scope fun Y => PE Y kx tk) (hv : BlkE X scope fun Y => PE Y vx tv)
    (fold : ∀ x, foldedSetIterable iter X.env x = pure x) (h : tDcT wi g tt tk tv (own.map (·.2)) σ G Q)
    (fin : ∀ d C q' m G', Inv X ps σ G' q' → Q (.ref d) G' → q'.heap.Ns C m → FpOk X ps G' C → compPost (model X.prog X.w) X.A X.xe use Qf (.ref d) C (.ok .next) q') :
    wpAny (model X.prog X.w) X.A (comprehension (.DictComp kx vx [⟨tg, iter, ifs, 0⟩] scope p1) scope X.env p2 newDict false (eval iter X.env) use) Qf X.xe q := by
  have free0 : ∀ y ∈ scope.names, y.2 = .free → ∃ c, X.env.cells.lookup y.1 = some c := fun y hy e => (ok.free y hy e).elim (fun k => J.ok.has _ (.inl k)) (fun k => J.ok.has _ (.inr k))
  refine wpAny_comprehension_free (use := use) rfl fold (closure_ok free0) ok.kind (fun y hy e => by rw [ok.uniq y hy, e]) (thn (hi.run ps q σ G _ J h) fun xv q1 hx => thn hx fun itv q2 h2 => ?_)
  obtain ⟨it, fp, tn, It0, G2, rfl, J2, T, st2, f2, turns⟩ := h2
  refine wpAny_newObj_type (newEnv_comp ?_)
  generalize hD : q2.heap.objs.size = d
  have dn : G2 d = none := J2.hok.fresh (Nat.le_of_eq hD)
  obtain ⟨W, ⟨m0, w0⟩, turn⟩ := turns d dn
  generalize hq3 : ({ q2 with heap := q2.heap.push newD } : Shared) = q3
  have J3 : Inv X ps σ (upd G2 d (.dT [])) q3 := by
    subst hq3
    subst hD
    exact J2.laid (t' := q2.toks) (fun b o e => Heap.get?_push_of_some _ e) (Nat.le_refl _) (dt_empty q2.heap J2.big)
  have eh3 : q3.heap = q2.heap.push newD := hq3 ▸ rfl
  have lts : ∀ b ∈ fp, b < q2.heap.objs.size := fun b hb => (T.obj _ _ st2 b hb).elim fun o e => Heap.lt_size e.1
  have f3 : ∀ b ∈ fp, FpOk X ps (upd G2 d (.dT [])) b ∧ b < q3.heap.objs.size := fun b hb => by
    have lt := lts b hb
    have nb : b ≠ d := by rw [← hD]; exact Nat.ne_of_lt lt
    exact ⟨⟨(upd_ne nb).trans (f2 b hb).1, (f2 b hb).2⟩, by rw [eh3, Heap.size_push]; exact Nat.lt_succ_of_lt lt⟩
  have st3 : tn 0 q3.heap := T.keep _ _ _ st2 fun b _ o e => eh3 ▸ Heap.get?_push_of_some _ e
  have J4 := block_start J3 ok nd f3
  have bg := hg q3 (upd G2 d (.dT [])) q3.heap.objs.size (cellsFrom (q3.heap.objs.size + 1) scope.names (cloFrom X.env.cells scope.names [])) fp
  have bt := ht q3 (upd G2 d (.dT [])) q3.heap.objs.size (cellsFrom (q3.heap.objs.size + 1) scope.names (cloFrom X.env.cells scope.names [])) fp
  have bk := hk q3 (upd G2 d (.dT [])) q3.heap.objs.size (cellsFrom (q3.heap.objs.size + 1) scope.names (cloFrom X.env.cells scope.names [])) fp
  have bv := hv q3 (upd G2 d (.dT [])) q3.heap.objs.size (cellsFrom (q3.heap.objs.size + 1) scope.names (cloFrom X.env.cells scope.names [])) fp
  show codeAny _ _ (.compStart (.DictComp kx vx [⟨tg, iter, ifs, 0⟩] scope p1) 0 (.ref it) (.ref d) (compEnvC scope (cellsFrom (q3.heap.objs.size + 1) scope.names (cloFrom X.env.cells scope.names [])) q3.heap.objs.size X.env)) (compPost (model X.prog X.w) X.A X.xe use Qf (.ref d) q3.heap.objs.size) { q3 with heap := pushCells (q3.heap.push newD) scope.names }
  have fpn : ∀ b ∈ fp, (upd G2 d (.dT [])) b = none := fun b hb => (f3 b hb).1.1
  generalize hE : compEnvC scope (cellsFrom (q3.heap.objs.size + 1) scope.names (cloFrom X.env.cells scope.names [])) q3.heap.objs.size X.env = ce at J4 bg bt bk bv ⊢
  have eL : ce.locals = q3.heap.objs.size := hE ▸ rfl
  generalize upd G2 d (.dT []) = G3 at J3 J4 bg bt bk bv w0 fpn f3
  generalize hq4 : ({ q3 with heap := pushCells (q3.heap.push newD) scope.names } : Shared) = q4 at J4 ⊢
  have st4 : tn 0 q4.heap := T.keep _ _ _ st3 fun b _ o e => hq4 ▸ pushCells_keeps _ _ _ _ (Heap.get?_push_of_some _ e)
  have blkOk : ∀ {σ' : L2.St} {G' : Hp} {q' : Shared}, Inv (X.blk q3 G3 scope ce fp) [] σ' G' q' → (∀ b ∈ fp, G' b = none) → ∀ b ∈ fp, FpOk (X.blk q3 G3 scope ce fp) [] G' b := fun I' hn b hb =>
    ⟨hn b hb, (I'.ok.exf b hb).1, I'.ok.exfs b hb, .inl hb, fun x c e => (I'.ok.exf b hb).2 x c e, fun p hp => absurd (show p ∈ ([] : List (Addr × Obj)) ++ [] from hp) (by simp)⟩
  refine codeAny_compStart_dict ?_ (T.self X.A 0 _ _ _ st4 ?_)
  all_goals
    refine compLoop_anyD (fun n q' => ∃ i G', Inv (X.blk q3 G3 scope ce fp) [] (wipe σ (own.map (·.2))) G' q' ∧ tn i q'.heap ∧ (∀ b ∈ fp, G' b = none) ∧ W i n G') ?_ m0 ⟨0, G3, J4, st4, fpn, w0⟩
    rintro n q5 ⟨i, G5, J5, st5, n5, w5⟩
    rcases turn i n G5 w5 with ⟨stop, qq⟩ | ⟨go, Nx, next, step⟩
    · refine thnF (T.done (X.blk q3 G3 scope ce fp) rfl rfl rfl calm i [] q5 _ G5 (fun _ _ => False) J5 (blkOk J5 n5) st5 stop) fun r q6 ⟨hr, J6⟩ => ?_
      subst hr
      have J7 : Inv X ps σ G5 q6 := J3.call' (ch := fp) J6.os J6.base J6.hok J6.bare fun b hb => ⟨(f3 b hb).1.2.2.2.1, (f3 b hb).1.2.1, (f3 b hb).1.2.2.2.2.1, (f3 b hb).1.2.2.2.2.2⟩
      have fC : G5 q3.heap.objs.size = none := eL ▸ (show G5 ce.locals = none from J6.free)
      obtain ⟨mm, hn, _⟩ := J6.loc
      have hn' : q6.heap.Ns q3.heap.objs.size mm := eL ▸ (show q6.heap.Ns ce.locals mm from hn)
      exact fin d q3.heap.objs.size q6 mm G5 J7 qq hn' (J3.fpOk (Nat.le_refl _) fC)
    · refine thnF (T.item (X.blk q3 G3 scope ce fp) rfl rfl rfl calm i [] q5 _ G5 (fun _ _ => False) J5 (blkOk J5 n5) st5 go) fun r q6 ⟨u, hr, h6⟩ => ?_
      subst hr
      refine thnF h6 fun _ q7 ⟨x, G7, J7, r7, y7, st7, n7⟩ => ?_
      refine thnF (bg.run _ q7 _ G7 x u _ (J7.pinned (blkOk J7 n7) (T.obj _ _ st7)) r7 (step x G7 y7)) fun _ q8 ⟨σ8, G8, J8, hw8, a8⟩ => ?_
      refine thnF (bt.run _ q8 σ8 G8 _ J8 a8) fun b q9 ⟨G9, J9, a9⟩ => ?_
      have close : ∀ {q' : Shared} {G' : Hp}, Inv (X.blk q3 G3 scope ce fp) ([] ++ pinsAt fp q7.heap) σ8 G' q' → Nx G' → ∃ m, m < n ∧ ∃ i G', Inv (X.blk q3 G3 scope ce fp) [] (wipe σ (own.map (·.2))) G' q' ∧ tn i q'.heap ∧ (∀ b ∈ fp, G' b = none) ∧ W i m G' := fun {q' G'} I' nx => by
        obtain ⟨m', lt, w'⟩ := next G' nx
        have pin : ∀ b ∈ fp, ∀ o, q7.heap.get? b = some o → q'.heap.get? b = some o ∧ G' b = none := fun b hb o e => (I'.pin (b, o) (List.mem_append_right _ (List.mem_append_right _ (mem_pinsAt hb e)))).elim fun z1 z2 => ⟨z1, z2.1⟩
        have same_len : (wipe σ (own.map (·.2))).length = σ8.length := by rw [← hw8, wipe_length]
        refine ⟨m', lt, i + 1, G', (I'.unpinned (pins := [])).weak same_len (fun j v e => (wipe_some (hw8 ▸ e)).1), T.keep _ _ _ st7 fun b hb o e => (pin b hb o e).1, fun b hb => ?_, w'⟩
        obtain ⟨o, e, _⟩ := T.obj _ _ st7 b hb
        exact (pin b hb o e).2
      cases b with
      | false => exact close J9 a9
      | true =>
        refine thnF (bk.run _ q9 σ8 G9 _ J9 a9) fun z q10 ⟨yk, G10, J10, r10, a10⟩ => ?_
        refine thnF (bv.run _ q10 σ8 G10 _ J10 a10) fun z2 q11 ⟨yv, G11, J11, r11, m, t, p, ek, hp, hd, few, nx⟩ => ?_
        subst ek
        obtain rfl : z = Value.ref p := r10
        exact set_tup (X := X.blk q3 G3 scope ce fp) hu J11 hd hp few r11 fun q12 J12 => close J12 nx
/-- as a value -/
theorem pe_dcT {kx vx tg iter : Expr} {ifs : List Expr} {scope : Scope} {own : List (Str × Nat)} {pos : Pos} {wi : TI} {g : TG} {tt : TT} {tk tv : TE} (calm : X.calm = true) (hu : X.A.units < cLine) (nd : X.N.Nodup) (hi : PI X tg iter wi) (ok : BlkOk X.N X.env.scope scope own)
    (hg : BlkE X scope fun Y => PG Y tg g) (ht : BlkE X scope fun Y => PTs Y ifs tt) (hk : BlkE X scope fun Y => PE Y kx tk) (hv : BlkE X scope fun Y => PE Y vx tv) (fold : ∀ x, foldedSetIterable iter X.env x = pure x := by intro _; rfl) :
    PE X (.DictComp kx vx [⟨tg, iter, ifs, 0⟩] scope pos) (tDcT wi g tt tk tv (own.map (·.2))) := by
  refine ⟨fun ps q σ G Q J h => ?_⟩
  rw [arm_eval_DictComp]
  refine core calm hu nd J hi ok hg ht hk hv fold h fun d C q' m G' J' qq hn f => ⟨m, hn, fun h2 sb => ?_⟩
  exact ⟨.ref d, G', J'.turned (t' := q'.toks) (fun b o hb e => (sb.2 b hb).trans e) f.1 f.2.1 f.2.2.2.1 f.2.2.2.2.1 f.2.2.2.2.2, rfl, qq⟩
/-- over anything that is walked -/
theorem goes_it {J : It} {n : Nat} {Gd : Hp → Prop} {Y : Nat → Hp → V → Hp → Prop} (w : Walk J n Gd Y) {d : Addr} {g : TG} {tt : TT} {tk tv : TE} {vs : List Nat} {σ : L2.St} {G1 : Hp} {Qd : Hp → Prop} (P : Nat → Hp → Prop) (h0 : P 0 (upd G1 d (.dT []))) (stays : ∀ i G, i ≤ n → P i G → Gd G)
    (step : ∀ i x G G', i < n → P i G → Y i G x G' → Turn d g tt tk tv vs σ x G' (P (i + 1))) (last : ∀ G, P n G → Qd G) :
    ∃ W : Nat → Nat → Hp → Prop, (∃ m, W 0 m (upd G1 d (.dT []))) ∧ Goes J d g tt tk tv vs σ Qd W := by
  refine ⟨fun i m G => m = n - i ∧ i ≤ n ∧ P i G, ⟨n, by simp, Nat.zero_le _, h0⟩, ?_⟩
  rintro i m G ⟨rfl, le, p⟩
  have gd := stays i G le p
  rcases Nat.lt_or_ge i n with lt | ge
  · exact .inr ⟨w.goes i G lt gd, P (i + 1), fun G' p' => ⟨n - (i + 1), by omega, rfl, lt, p'⟩, fun x G' y => step i x G G' lt p (w.yields i G x G' lt gd y)⟩
  · obtain rfl : i = n := by omega
    exact .inl ⟨w.stops G gd, last G p⟩
end
end DT

/-! dicts whose keys are tuples: == and != -/
namespace DT
open PySem PySem.W PySem.Spec PyProof.Rows PySem.Calls
section
variable {prog : Program} {w : World} {K : Type} [DecidableEq K] {knd : HeapKind prog w K} {A : Around} {E : Value → Shared → Prop} {s : Shared}
/-- what is told of each entry: it lacks there, or its value is compared -/
def Told (prog : Program) (w : World) (A : Around) (s : Shared) (ys : List (K × Addr × Value)) (f : K × Addr × Value → Bool) (x : K × Addr × Value) : Prop := (atKey ys x.1 = none ∧ f x = false) ∨ ∃ p, atKey ys x.1 = some p ∧ SeqAt.EqP prog w A s x.2.2 p.2 (f x)
theorem range_step {i n x : Nat} {rest : List Nat} (le : i ≤ n) (e : x :: rest = List.range' i (n - i)) : i < n ∧ x = i ∧ rest = List.range' (i + 1) (n - (i + 1)) := by
  rcases Nat.lt_or_ge i n with lt | ge
  · rw [show n - i = n - (i + 1) + 1 by omega, List.range'_succ] at e
    injection e with e1 e2
    exact ⟨lt, e1, e2⟩
  · rw [show n - i = 0 by omega] at e
    cases e
theorem pairs_eq {nm : String} {a b : Addr} {xs ys : List (K × Addr × Value)} {f : K × Addr × Value → Bool} {Q : Bool → Shared → Prop} (na : (a == sysModules) = false) (nb : (b == sysModules) = false) (room : knd.room A) (da : s.heap.DictOfH knd a xs) (db : s.heap.DictOfH knd b ys)
    (each : xs.length = ys.length → ∀ x ∈ xs, Told prog w A s ys f x) (h : Q (xs.length == ys.length && xs.all f) s) : wpAny (model prog w) A (Builtin.Dict.samePairs nm a b) Q E s := by
  obtain ⟨oa, ea, pa, ga, _, ta, la, ia, _⟩ := da
  obtain ⟨ob, eb, pb, gb, _, tb, lb, ib, ub⟩ := db
  have za : ea.size = xs.length := size_of_entries la
  have zb : eb.size = ys.length := size_of_entries lb
  rw [← za, ← zb] at h
  unfold Builtin.Dict.samePairs Builtin.Dict.showsAll
  rw [na, nb, if_neg Bool.false_ne_true]
  refine wpAny_bind (wpAny_pure (wpAny_bind (wpAny_pure (wpAny_bind (wpAny_dictEntries ga ta ?_)))))
  dsimp only
  refine wpAny_bind (wpAny_dictEntries gb tb ?_)
  by_cases same : ea.size = eb.size
  · rw [if_neg (by rw [same]; simp)]
    have h' : Q (xs.all f) s := by simpa [same] using h
    have each' := each (by omega)
    refine wpAny_bind (wpAny_dictEpoch ga ta (wpAny_bind ?_))
    rw [Std.Legacy.Range.forIn_eq_forIn_range']
    simp only [Std.Legacy.Range.size, Nat.sub_zero, Nat.add_sub_cancel, Nat.div_one]
    refine wpAny_forIn_list _ (fun rest q t => t = s ∧ q = (none, ()) ∧ ∃ i, rest = List.range' i (ea.size - i) ∧ i ≤ ea.size ∧ (xs.take i).all f = true) _ ?_ ?_ _ _ ⟨rfl, rfl, 0, by simp, Nat.zero_le _, rfl⟩
    · rintro j rest q t ⟨rfl, rfl, i, er, le, ok⟩
      obtain ⟨lt, rfl, er'⟩ := range_step le er
      have lt' : j < xs.length := by omega
      obtain ⟨x, hx⟩ : ∃ x, xs[j]? = some x := ⟨xs[j], List.getElem?_eq_getElem lt'⟩
      have mx : x ∈ xs := List.mem_of_getElem? hx
      have stop : f x = false → xs.all f = false := fun e => by
        rw [List.all_eq_false]
        exact ⟨x, mx, by rw [e]; exact Bool.false_ne_true⟩
      refine wpAny_bind (wpAny_dictEntries ga ta ?_)
      rw [entry_at la j, hx]
      show wpAny _ _ (holding [Value.ref x.2.1, x.2.2] _ >>= _) _ _ _
      refine wpAny_bind (wpAny_holding (wpAny_bind (wpAny_dictFind_heap (k := x.1) room (ia x mx) gb tb lb ib ub (fun none' => ?_) fun k p hk => ?_)))
      · rcases each' x mx with ⟨_, e⟩ | ⟨p, e, _⟩
        · refine wpAny_pure ?_
          show wpAny _ _ (if (!false) = true then _ else _) _ _ _
          rw [if_pos (by decide)]
          rw [stop e] at h'
          exact wpAny_pure (wpAny_pure h')
        · rw [atKey_none_of_get none'] at e
          cases e
      · rcases each' x mx with ⟨e, _⟩ | ⟨p', e, eq⟩
        · rw [atKey_of_get ub hk] at e
          cases e
        · rw [atKey_of_get ub hk] at e
          obtain rfl := Option.some.inj e
          refine wpAny_bind (wpAny_dictEntries gb tb ?_)
          rw [entry_at lb k, hk]
          refine wpAny_holding (eq _ _ ?_)
          cases hf : f x with
          | false =>
            show wpAny _ _ (if (!false) = true then _ else _) _ _ _
            rw [if_pos (by decide)]
            rw [stop hf] at h'
            exact wpAny_pure (wpAny_pure h')
          | true =>
            show wpAny _ _ (if (!true) = true then _ else _) _ _ _
            rw [if_neg (by decide)]
            refine wpAny_bind (wpAny_dictEpoch ga ta ?_)
            rw [if_neg (by simp)]
            refine wpAny_pure ⟨rfl, rfl, j + 1, er', lt, ?_⟩
            rw [List.take_add_one, hx, List.all_append, ok]
            simp [hf]
    · rintro q t ⟨rfl, rfl, i, er, le, ok⟩
      have e : i = ea.size := by
        have := congrArg List.length er
        rw [List.length_range'] at this
        have : 0 = ea.size - i := this
        omega
      rw [e, za, List.take_length] at ok
      rw [ok] at h'
      exact wpAny_pure h'
  · rw [if_pos (by simpa using same)]
    rw [show (ea.size == eb.size) = false by simpa using same, Bool.false_and] at h
    exact wpAny_bind (wpAny_rule (wpAny_pure h))
/-- a == b, a != b -/
theorem cmp_eq {a b : Addr} {xs ys : List (K × Addr × Value)} {f : K × Addr × Value → Bool} {Q : Value → Shared → Prop} (na : (a == sysModules) = false) (nb : (b == sysModules) = false) (hu : A.units < cLine) (room : knd.room A.in1) (da : s.heap.DictOfH knd a xs) (db : s.heap.DictOfH knd b ys)
    (each : xs.length = ys.length → ∀ x ∈ xs, Told prog w A.in1 s ys f x) (h : Q (.bool (xs.length == ys.length && xs.all f)) s) : wpAny (model prog w) A (richCompare .Eq (.ref a) (.ref b)) Q E s := by
  refine wpAny_richCompare_same_room (op := .Eq) da.typeIs db.typeIs PySem.F.slot_dict_eq (wpAny_call_entry PySem.F.slot_dict_eq da.typeIs PySem.F.entry_dict_eq ?_ (PySem.F.args_dict_eq_2 _ _)) hu
  show wpAny _ _ (Builtin.Dict.dictSlotArgs "__eq__" ⟨[.ref a, .ref b], []⟩ >>= _) _ _ s
  unfold Builtin.Dict.dictSlotArgs
  refine wpAny_bind (wpAny_bind (wpAny_notOrdered_dict da.typeIs ?_))
  refine wpAny_pure (wpAny_bind (wpAny_isInstance (T := "dict") db.typeIs PySem.F.sub_dict_dict ?_))
  simp only [Bool.not_true, Bool.false_eq_true, if_false]
  refine wpAny_bind (wpAny_pure (wpAny_bind (wpAny_pure (wpAny_bind (pairs_eq na nb room da db each ?_)))))
  exact wpAny_pure ⟨_, rfl, (fun x => nomatch x), by simpa using h⟩
theorem cmp_ne {a b : Addr} {xs ys : List (K × Addr × Value)} {f : K × Addr × Value → Bool} {Q : Value → Shared → Prop} (na : (a == sysModules) = false) (nb : (b == sysModules) = false) (hu : A.units < cLine) (room : knd.room A.in1) (da : s.heap.DictOfH knd a xs) (db : s.heap.DictOfH knd b ys)
    (each : xs.length = ys.length → ∀ x ∈ xs, Told prog w A.in1 s ys f x) (h : Q (.bool (!(xs.length == ys.length && xs.all f))) s) : wpAny (model prog w) A (richCompare .NotEq (.ref a) (.ref b)) Q E s := by
  refine wpAny_richCompare_same_room (op := .NotEq) da.typeIs db.typeIs PySem.F.slot_dict_ne (wpAny_call_entry PySem.F.slot_dict_ne da.typeIs PySem.F.entry_dict_ne ?_ (PySem.F.args_dict_ne_2 _ _)) hu
  show wpAny _ _ (Builtin.Dict.dictSlotArgs "__ne__" ⟨[.ref a, .ref b], []⟩ >>= _) _ _ s
  unfold Builtin.Dict.dictSlotArgs
  refine wpAny_bind (wpAny_bind (wpAny_notOrdered_dict da.typeIs ?_))
  refine wpAny_pure (wpAny_bind (wpAny_isInstance (T := "dict") db.typeIs PySem.F.sub_dict_dict ?_))
  simp only [Bool.not_true, Bool.false_eq_true, if_false]
  refine wpAny_bind (wpAny_pure (wpAny_bind (wpAny_pure (wpAny_bind (pairs_eq na nb room da db each ?_)))))
  exact wpAny_pure ⟨_, rfl, (fun x => nomatch x), by simpa using h⟩
end
end DT
namespace DT
open PySem PySem.Spec PyProof.Rows L2
/-! ### with ints as values -/
/-- the pairs of a dict with tuples as keys and ints as values -/
def iD (L : List (List Key × Int)) : List (List Key × V) := L.map fun p => (p.1, V.int p.2)
/-- whether the first dict has just what the second one has -/
def eqI (L M : List (List Key × Int)) : Bool := L.length == M.length && L.all fun p => decide (valV (iD M) p.1 = some (V.int p.2))
theorem val_iD {k : List Key} {v : V} : ∀ {M : List (List Key × Int)}, valV (iD M) k = some v → ∃ j, v = V.int j
  | [], h => by cases h
  | m :: M, h => by
    by_cases e : m.1 = k
    · rw [show iD (m :: M) = (m.1, V.int m.2) :: iD M from rfl, valV_pos (p := (m.1, V.int m.2)) e] at h
      exact ⟨m.2, (Option.some.inj h).symm⟩
    · rw [show iD (m :: M) = (m.1, V.int m.2) :: iD M from rfl, valV_neg (p := (m.1, V.int m.2)) e] at h
      exact val_iD h
/-- what is asked of an entry as it lies there -/
def fI (M : List (List Key × Int)) (x : List Key × Addr × Value) : Bool := match x.2.2 with
  | .int i _ => decide (valV (iD M) x.1 = some (V.int i))
  | _ => false
theorem all_fI {H : Hp} {M : List (List Key × Int)} : ∀ {L : List (List Key × Int)} {xs : List (List Key × Addr × Value)}, KT H (iD L) xs → (xs.all (fI M) = L.all fun p => decide (valV (iD M) p.1 = some (V.int p.2))) ∧ xs.length = L.length ∧ ∀ x ∈ xs, ∃ i t, x.2.2 = Value.int i t
  | [], [], .nil => ⟨rfl, rfl, fun _ h => nomatch h⟩
  | l :: L, x :: xs, .cons h r => by
    obtain ⟨h1, _, h3⟩ := h
    obtain ⟨t, ht⟩ := h3
    have h1' : l.1 = x.1 := h1
    have ht' : x.2.2 = Value.int l.2 t := ht
    obtain ⟨i1, i2, i3⟩ := all_fI (L := L) r
    refine ⟨?_, congrArg (· + 1) i2, fun y hy => ?_⟩
    · rw [List.all_cons, List.all_cons, i1]
      have : fI M x = decide (valV (iD M) l.1 = some (V.int l.2)) := by
        unfold fI
        rw [ht', h1']
      rw [this]
    · rcases List.mem_cons.mp hy with rfl | hy
      · exact ⟨_, _, ht'⟩
      · exact i3 y hy
theorem told_iD {prog : Program} {w : World} {A : Around} {s : Shared} {H : Hp} {M : List (List Key × Int)} {ys : List (List Key × Addr × Value)} (r : KT H (iD M) ys) {x : List Key × Addr × Value} {i : Int} {t : Tok} (hx : x.2.2 = Value.int i t) : Told prog w A s ys (fI M) x := by
  have rv := r.val x.1
  have ef : fI M x = decide (valV (iD M) x.1 = some (V.int i)) := by
    unfold fI
    rw [hx]
  cases hv : valV (iD M) x.1 with
  | none =>
    rw [hv] at rv
    refine .inl ⟨?_, ?_⟩
    · cases e : atKey ys x.1 with
      | none => rfl
      | some p =>
        have := rv.none_of
        rw [e] at this
        cases this
    · rw [ef, hv]
      exact decide_eq_false (by simp)
  | some v =>
    obtain ⟨j, rfl⟩ := val_iD hv
    rw [hv] at rv
    obtain ⟨u, hu, t', ht'⟩ := rv.some_of
    cases e : atKey ys x.1 with
    | none => rw [e] at hu; cases hu
    | some p =>
      rw [e] at hu
      have hu' : p.2 = u := Option.some.inj hu
      refine .inr ⟨p, e, ?_⟩
      rw [ef, hv, hx, hu', show u = Value.int j t' from ht']
      have : decide (some (V.int j) = some (V.int i)) = (i == j) := by
        rw [Bool.eq_iff_iff, decide_eq_true_iff, beq_iff_eq]
        exact ⟨fun z => by cases z; rfl, fun z => by rw [z]⟩
      rw [this]
      exact (SeqAt.EqAt.int_int i t j t').eqP
/-- a == b, dicts with tuples as keys and ints as values -/
def rEqDT (g : Bool → Bool) : R2 := fun x y H Q => ∃ (a b : Addr) (L M : List (List Key × Int)), x = .ref a ∧ y = .ref b ∧ H a = some (.dT (iD L)) ∧ H b = some (.dT (iD M)) ∧ Q (.bl (g (eqI L M))) H
theorem rc_iD {X : Cx} {ps : List (Addr × Obj)} {σ : L2.St} {H : Hp} {s : Shared} {A : Around} {a b : Addr} {L M : List (List Key × Int)} (I : Inv X ps σ H s) (hu : A.units + 1 < cLine) (ea : H a = some (.dT (iD L))) (eb : H b = some (.dT (iD M))) (E : Value → Shared → Prop) :
    (∀ Q : Value → Shared → Prop, Q (.bool (eqI L M)) s → wpAny (model X.prog X.w) A (richCompare .Eq (.ref a) (.ref b)) Q E s) ∧ (∀ Q : Value → Shared → Prop, Q (.bool (!eqI L M)) s → wpAny (model X.prog X.w) A (richCompare .NotEq (.ref a) (.ref b)) Q E s) := by
  obtain ⟨_, na, xs, ra, da⟩ := dt_of I.hok ea
  obtain ⟨_, nb, ys, rb, db⟩ := dt_of I.hok eb
  obtain ⟨f1, f2, f3⟩ := all_fI (M := M) ra
  have g2 : ys.length = M.length := (all_fI (M := M) rb).2.1
  have each : xs.length = ys.length → ∀ x ∈ xs, Told X.prog X.w A.in1 s ys (fI M) x := fun _ x hx => by
    obtain ⟨i, t, e⟩ := f3 x hx
    exact told_iD rb e
  have ev : (xs.length == ys.length && xs.all (fI M)) = eqI L M := by
    unfold eqI
    rw [f1, f2, g2]
  have hu0 : A.units < cLine := by omega
  have room : (tupleKind (mixKind X.prog X.w)).room A.in1 := hu
  exact ⟨fun Q q => cmp_eq na nb hu0 room da db each (ev ▸ q), fun Q q => cmp_ne na nb hu0 room da db each (ev ▸ q)⟩
theorem op_eqDT {X : Cx} (hu : X.A.units + 1 < cLine) : OpR X (compareOp .Eq) (rEqDT id) := by
  intro pins s σ H x y v u Q I rx ry h
  obtain ⟨a, b, L, M, rfl, rfl, ea, eb, q⟩ := h
  obtain rfl : v = Value.ref a := rx
  obtain rfl : u = Value.ref b := ry
  exact (rc_iD I hu ea eb _).1 _ ⟨.bl _, H, I, rfl, q⟩
theorem op_neDT {X : Cx} (hu : X.A.units + 1 < cLine) : OpR X (compareOp .NotEq) (rEqDT not) := by
  intro pins s σ H x y v u Q I rx ry h
  obtain ⟨a, b, L, M, rfl, rfl, ea, eb, q⟩ := h
  obtain rfl : v = Value.ref a := rx
  obtain rfl : u = Value.ref b := ry
  exact (rc_iD I hu ea eb _).2 _ ⟨.bl _, H, I, rfl, q⟩
end DT

/-! dicts whose keys are tuples: sorted(d), dict(pairs), list(d.values()) -/
namespace DT
open PySem PySem.W PySem.Spec PyProof.Rows PySem.Calls L2 L5 LK
section
variable {X : Cx}
/-- sorted(d), the keys tuples of numbers, none of them empty -/
def rSortDT : List V → Hp → VK → Prop := fun vs H Q => ∃ (d : Addr) (kvs : List (List Key × V)) (L : List (List Nat)), vs = [V.ref d] ∧ Rd H d (.dT kvs) ∧ KeysL kvs L ∧ (∀ t ∈ L, t ≠ []) ∧ ∀ (p : Addr) (qs : List Addr), H p = none → TupsU H qs (srt encT L) → Q (.ref p) (upd H p (.lst (qs.map V.ref)))
theorem cr_sortDT (calm : X.calm = true) (hu : X.A.units + 64 < cLine) : CallR X (.builtin "sorted") rSortDT := by
  intro pins s σ H vs us Q I r h
  obtain ⟨d, kvs, L, rfl, hd, hk, ne, q⟩ := h
  rw [Vals.ref1 r]
  obtain ⟨z, hs, ks, pr, o, es, ep, ho, hxo, hdt, hen, hn⟩ := (show ObjOk X.prog X.w H s.heap d (.dT kvs) from hd.ok I.hok)
  have l1 : es.size = ks.length := size_of_entries hen
  have l2 : kvs.length = ks.length := Paired.length pr
  have hkeys : TupsU H (ks.map fun x => x.2.1) L := tups_keys hk (isKeys_of pr)
  have e1 := each_U hkeys (vals_refs (ks.map fun x => x.2.1))
  have few : ((ks.map fun x => x.2.1).map Value.ref).length ≤ sizeLine := by rw [List.length_map, List.length_map]; omega
  have gat : ∀ (T : List Value → Shared → Prop) (E' : Value → Shared → Prop), (∀ h' tk, (∀ b o, s.heap.get? b = some o → h'.get? b = some o) → T ((ks.map fun x => x.2.1).map Value.ref) { s with heap := h', toks := tk }) → wpAny (model X.prog X.w) X.A.in1 (collect (.ref d)) T E' s := fun T E' go => by
    refine kdu_collect (kdl_raw hs hxo hdt) (I.ok.hd calm) ho (by omega) fun h' tk acc keep have' => ?_
    have ea : acc.toList = (ks.map fun x => x.2.1).map Value.ref := by
      refine List.ext_getElem? fun j => ?_
      rw [List.map_map, List.getElem?_map]
      cases hj : acc.toList[j]? with
      | none =>
        have k1 := List.getElem?_eq_none_iff.mp hj
        rw [Array.length_toList, have'.1] at k1
        rw [List.getElem?_eq_none (by omega)]
        rfl
      | some v =>
        obtain ⟨en, e0, hv⟩ := have'.2 j v (by rw [← Array.getElem?_toList]; exact hj)
        have qe := entry_at hen j
        rw [e0] at qe
        cases hb : ks[j]? with
        | none => rw [hb] at qe; cases qe
        | some b =>
          rw [hb] at qe
          rw [hv, show en = entryOfKey (tupleKind (mixKind X.prog X.w)) b from Option.some.inj qe]
          rfl
    rw [ea]
    exact go h' tk keep
  refine RS.sorted_gathered (vs := (ks.map fun x => x.2.1).map Value.ref) (enc := encT) few gat e1 (e1.mono fun v t ⟨a, e, h⟩ => by rw [e]; exact RS.tup_reads I (SqT.of h)) (AllAlike.of RS.alike_nats) (.inl fun e he => ?_) (fun b _ => ?_) fun out h1 h' tk c k1 k2 hp eo => ?_
  · obtain ⟨t, ht, rfl⟩ := List.mem_map.mp he
    cases t with
    | nil => exact absurd rfl (ne _ ht)
    | cons n t => exact ⟨_, _, rfl⟩
  · have := RS.tup_small b
    omega
  · obtain ⟨qs, hq, rq⟩ := U_each eo
    have hl2 : (qs.map V.ref).length ≤ sizeLine := by
      rw [List.length_map, hq.length, (List.mergeSort_perm L _).length_eq, ← hkeys.length, List.length_map]
      omega
    have I1 : Inv X pins σ H { s with heap := h1, toks := tk } := I.kept k1
    exact ⟨.ref h1.objs.size, upd H h1.objs.size (.lst (qs.map V.ref)), I1.laid (t' := tk) k2 (Nat.le_refl _) ⟨hl2, out, c, rq, hp⟩, rfl, q _ qs (I1.hok.fresh (Nat.le_refl _)) hq⟩
/-! ### dict(pairs) -/
/-- pairs put one after the other -/
def putAll (m : List (List Key × V)) (ps : List (List Key × V)) : List (List Key × V) := ps.foldl (fun acc p => putK acc p.1 p.2) m
theorem putAll_len : ∀ (ps m : List (List Key × V)), (putAll m ps).length ≤ m.length + ps.length
  | [], m => Nat.le_refl _
  | p :: ps, m => by
    have h1 := putAll_len ps (putK m p.1 p.2)
    have h2 := length_putK m p.1 p.2
    rw [List.length_cons]
    show (putAll (putK m p.1 p.2) ps).length ≤ _
    omega
theorem kt_putAll {H : Hp} : ∀ {ps : List (List Key × V)} {rs : List (List Key × Addr × Value)} {m : List (List Key × V)} {xs : List (List Key × Addr × Value)}, KT H ps rs → KT H m xs → KT H (putAll m ps) (storedAllH xs rs)
  | [], [], _, _, .nil, k => k
  | p :: ps, r :: rs, m, xs, .cons h t, k => by
    obtain ⟨h1, h2, h3⟩ := h
    have h1' : p.1 = r.1 := h1
    show KT H (putAll (putK m p.1 p.2) ps) (storedAllH (storedH xs r.1 r.2.1 r.2.2) rs)
    rw [← h1']
    exact kt_putAll t (k.put p.1 h2 h3)
/-- dict(l), l a list of pairs of a tuple and a value -/
def rDictPT (K : PySem.W.Frag) : List V → Hp → VK → Prop := fun vs H Q => ∃ (l : Addr) (rs : List Addr) (ps : List (List Key × V)), vs = [V.ref l] ∧ SqL K H l (rs.map V.ref) ∧ Paired (fun r p => ∃ b, SqT K H r [.ref b, p.2] ∧ H b = some (.tup (p.1.map kV))) rs ps ∧
  ∀ p, H p = none → Q (.ref p) (upd H p (.dT (putAll [] ps)))
theorem pairs_at {pins : List (Addr × Obj)} {σ : L2.St} {H : Hp} {s : Shared} (I : Inv X pins σ H s) : ∀ {rs : List Addr} {ps : List (List Key × V)}, Paired (fun r p => ∃ b, SqT X.K H r [.ref b, p.2] ∧ H b = some (.tup (p.1.map kV))) rs ps →
    ∃ xs : List (List Key × Addr × Value), KT H ps xs ∧ xs.length = rs.length ∧ ∀ (j : Nat) (x : List Key × Addr × Value), xs[j]? = some x → ∃ r, rs[j]? = some r ∧ s.heap.IsTuple r #[.ref x.2.1, x.2.2]
  | _, _, .nil => ⟨[], .nil, rfl, fun j x e => by simp at e⟩
  | _, _, .cons (a := r) (b := p) h t => by
    obtain ⟨xs, k1, k2, k3⟩ := pairs_at I t
    obtain ⟨b, hT, hb⟩ := h
    obtain ⟨its, rv, pl, _⟩ := I.tuple hT
    obtain ⟨u, y, ei, ru, ry⟩ := vals2 rv
    subst ei
    obtain rfl : u = Value.ref b := ru
    refine ⟨(p.1, b, y) :: xs, .cons ⟨rfl, hb, ry⟩ k1, by rw [List.length_cons, List.length_cons, k2], fun j x e => ?_⟩
    cases j with
    | zero =>
      obtain rfl : (p.1, b, y) = x := Option.some.inj e
      exact ⟨r, rfl, pl⟩
    | succ j =>
      obtain ⟨r', e1, e2⟩ := k3 j x (by simpa using e)
      exact ⟨r', by simpa using e1, e2⟩
theorem cr_dictPT (calm : X.calm = true) (hu : X.A.units + 64 < cLine) : CallR X (.type "dict") (rDictPT X.K) := by
  intro pins s σ H vs us Q I r h
  obtain ⟨l, rs, ps, rfl, hl, hp, q⟩ := h
  rw [Vals.ref1 r]
  obtain ⟨its, rv, pl, hz⟩ := I.list hl
  obtain ⟨xs, kt, lx, at_⟩ := pairs_at I hp
  have ei : its = rs.map Value.ref := refs_at rv
  subst ei
  rw [List.length_map] at hz
  obtain ⟨o, n, ho, hc, hd, hdat⟩ := pl
  have keyed : ∀ x ∈ xs, (tupleKind (mixKind X.prog X.w)).is s.heap x.1 x.2.1 := fun x hx => by
    obtain ⟨p, hp1, hp2⟩ : ∃ p : List Key × V, p.1 = x.1 ∧ H x.2.1 = some (.tup (p.1.map kV)) := by
      have all : ∀ {m : List (List Key × V)} {ys : List (List Key × Addr × Value)}, KT H m ys → ∀ y ∈ ys, ∃ p : List Key × V, p.1 = y.1 ∧ H y.2.1 = some (.tup (p.1.map kV)) := by
        intro m ys k
        induction k with
        | nil => intro y hy; cases hy
        | @cons p y _ _ a _ ih =>
          intro z hz
          rcases List.mem_cons.mp hz with e | hz
          · subst e
            exact ⟨p, a.1, a.2.1⟩
          · exact ih z hz
      exact all kt x hx
    rw [← hp1]
    exact key_of I.hok hp2
  have P := PairArg.list (prog := X.prog) (w := X.w) l (rs.map Value.ref).toArray (fun j => rs.getD j 0) (xs.map fun x => (Value.ref x.2.1, x.2.2))
  have pit : PairItems s.heap (rs.map Value.ref).toArray (fun j => rs.getD j 0) (xs.map fun x => (Value.ref x.2.1, x.2.2)) := by
    refine ⟨by simp [lx], fun j k v e => ?_⟩
    rw [List.getElem?_map] at e
    cases hx : xs[j]? with
    | none => rw [hx] at e; cases e
    | some x =>
      rw [hx] at e
      obtain ⟨rfl, rfl⟩ : Value.ref x.2.1 = k ∧ x.2.2 = v := by
        have := Option.some.inj e
        exact ⟨congrArg Prod.fst this, congrArg Prod.snd this⟩
      obtain ⟨r', e1, e2⟩ := at_ j x hx
      have eg : rs.getD j 0 = r' := by rw [List.getD_eq_getElem?_getD, e1]; rfl
      refine ⟨?_, .inl (by show s.heap.IsTuple (rs.getD j 0) _; rw [eg]; exact e2)⟩
      simp [eg, e1]
  have ok : PlainSeq "list" s.heap l (rs.map Value.ref).toArray ∧ PairItems s.heap (rs.map Value.ref).toArray (fun j => rs.getD j 0) (xs.map fun x => (Value.ref x.2.1, x.2.2)) := ⟨⟨o, n, ho, hc, hd, hdat⟩, pit⟩
  have have' : PairsHaveH (tupleKind (mixKind X.prog X.w)) (xs.map fun x => (Value.ref x.2.1, x.2.2)).length (PairRel (xs.map fun x => (Value.ref x.2.1, x.2.2))) xs := by
    refine ⟨by rw [List.length_map], fun i key v e => ?_⟩
    have e' : (xs.map fun x => (Value.ref x.2.1, x.2.2))[i]? = some (key, v) := e
    rw [List.getElem?_map] at e'
    cases hx : xs[i]? with
    | none => rw [hx] at e'; cases e'
    | some x =>
      rw [hx] at e'
      have := Option.some.inj e'
      exact ⟨x.1, x.2.1, by rw [← show x.2.2 = v from congrArg Prod.snd this], (congrArg Prod.fst this).symm⟩
  have stay : KeysStay (tupleKind (mixKind X.prog X.w)) s.heap s.heap.objs.size [] xs := fun h' keep x hx => by
    obtain ⟨ob, vs, n, h1, h2, h3, h4⟩ := keyed x hx
    exact ⟨ob, vs, n, keep _ _ (Nat.ne_of_lt (Heap.lt_size h1)) (by simp) h1, h2, h3, h4⟩
  refine call_dict_pairsH P (I.ok.hd calm) (show X.A.in1.in1.units < cLine by show X.A.units + 1 + 1 < cLine; omega) ok have' stay (by rw [List.length_map, lx]; exact hz) fun h' tk dd keep => ?_
  have kp : ∀ b o, s.heap.get? b = some o → h'.get? b = some o := fun b o e => keep b o (by simp) e
  have nm : (s.heap.objs.size == sysModules) = false := beq_eq_false_iff_ne.mpr (Nat.ne_of_gt I.big)
  have lp : (putAll [] ps).length ≤ sizeLine := by
    refine Nat.le_trans (putAll_len ps []) ?_
    rw [List.length_nil, Nat.zero_add, Paired.length kt, lx]
    exact hz
  have fr : H s.heap.objs.size = none := I.hok.fresh (Nat.le_refl _)
  obtain ⟨ob, es, ep, h1, h2, h3, h4, _, h5⟩ := dd
  refine ⟨.ref s.heap.objs.size, upd H s.heap.objs.size (.dT (putAll [] ps)), I.laid (t' := tk) kp (Nat.le_refl _) ?_, rfl, q _ fr⟩
  refine ⟨lp, nm, _, (kt_putAll kt .nil).keeps fun b ys e => ?_, ob, es, ep, h1, h2, h3, h4, h5⟩
  rw [upd_ne (ne_of_none e fr)]
  exact e
/-! ### d.values() -/
theorem meets_vals {prog : Program} {w : World} {d : Addr} {es : Array DictEntry} {ep : Nat} (nm : (d == sysModules) = false) :
    MeetsIn prog w (Builtin.«dict.values» ⟨[.ref d], []⟩) (fun _ R s => Raw s.heap d es ep ∧ R (.ok (.ret (.ref s.heap.objs.size))) { s with heap := s.heap.push { cls := .type "dict_values", data := .fields #[.ref d] } }) :=
  .of_wp fun A R s ⟨hm, h⟩ => by
    refine wpAny_bind ?_
    unfold Builtin.Dict.noArgs
    refine wpAny_bind (wpAny_notOrdered_dict hm.typeIs (wpAny_pure ?_))
    show wpAny _ _ (Builtin.Dict.showsAll d >>= _) _ _ s
    unfold Builtin.Dict.showsAll
    rw [nm, if_neg Bool.false_ne_true]
    exact wpAny_bind (wpAny_pure (wpAny_bind (wpAny_newObj_type (wpAny_pure ⟨_, rfl, h⟩))))
/-- the view d.values() at p -/
def valsO (p d : Addr) : HO := .ext fun h => h.IsValuesView p d
theorem valsO_ok {P : Program} {w : World} {H : Hp} {h : Heap} {p d : Addr} (e : h.get? p = some { cls := .type "dict_values", data := .fields #[.ref d] }) : ObjOk P w H h p (valsO p d) :=
  ⟨⟨_, e, rfl, rfl⟩, ⟨_, e⟩, fun h1 h2 ⟨o, ho, r⟩ k => ⟨o, k o ho, r⟩⟩
def rValsT : V → List V → Hp → VK → Prop := fun x xs H Q => ∃ (a : Addr) (kvs : List (List Key × V)), x = .ref a ∧ xs = [] ∧ H a = some (.dT kvs) ∧ ∀ p, H p = none → Q (.ref p) (upd H p (valsO p a))
theorem mt_valsT : MtR X "dict.values" rValsT := by
  intro pins s σ H x xs v us Q I rx rxs h
  obtain ⟨a, kvs, rfl, rfl, ha, q⟩ := h
  cases rx
  cases rxs
  obtain ⟨_, nm, _, _, o, es, ep, ho, hx, hdat, _⟩ := dt_of I.hok ha
  have raw : Raw s.heap a es ep := ⟨o, ho, hx, hdat⟩
  refine call_meetsIn PySem.F.slot_dict_values raw.typeIs PySem.F.entry_dict_values (PySem.F.args_dict_values_1 _) (meets_vals (es := es) (ep := ep) nm) ⟨raw, ?_⟩
  exact ⟨.ref s.heap.objs.size, upd H s.heap.objs.size (valsO s.heap.objs.size a), I.laid (t' := s.toks) (fun b u e => Heap.get?_push_of_some _ e) (Nat.le_refl _) (valsO_ok (Heap.get?_push_size _ rfl)), rfl, q _ (I.hok.fresh (Nat.le_refl _))⟩
/-- list(v), v a view of the values -/
def rListVals : List V → Hp → VK → Prop := fun vs H Q => ∃ (r d : Addr) (kvs : List (List Key × V)), vs = [V.ref r] ∧ H r = some (valsO r d) ∧ H d = some (.dT kvs) ∧ ∀ p, H p = none → Q (.ref p) (upd H p (.lst (kvs.map (·.2))))
theorem cr_listVals (calm : X.calm = true) : CallR X (.type "list") rListVals := by
  intro pins s σ H vs us Q I r h
  obtain ⟨v, d, kvs, rfl, hv, hd, q⟩ := h
  rw [Vals.ref1 r]
  obtain ⟨z, nm, ks, pr, o, es, ep, ho, hx, hdt, hen, hn⟩ := (show ObjOk X.prog X.w H s.heap d (.dT kvs) from I.hok d _ hd)
  obtain ⟨view, _, _⟩ := (show ObjOk X.prog X.w H s.heap v (valsO v d) from I.hok v _ hv)
  have l1 : es.size = ks.length := size_of_entries hen
  have l2 : kvs.length = ks.length := Paired.length pr
  refine kdl_call (KdlSrc.rawValues (es := es) (ep := ep)) (I.ok.hd calm) ⟨view, o, ho, hx, hdt⟩ (by omega) fun h' tk acc c keep e it => ?_
  have rv : Vals (kvs.map (·.2)) acc.toList := by
    have ea : acc.toList = ks.map fun x => x.2.2 := by
      refine List.ext_getElem? fun j => ?_
      rw [List.getElem?_map]
      cases hj : acc.toList[j]? with
      | none =>
        have k1 := List.getElem?_eq_none_iff.mp hj
        rw [Array.length_toList, it.1] at k1
        rw [List.getElem?_eq_none (by omega)]
        rfl
      | some u =>
        obtain ⟨lt, hu⟩ := it.2 j u (by rw [← Array.getElem?_toList]; exact hj)
        have qe := entry_at hen j
        rw [Array.getElem?_eq_getElem lt] at qe
        cases hb : ks[j]? with
        | none => rw [hb] at qe; cases qe
        | some b =>
          rw [hb] at qe
          rw [hu, show es[j] = entryOfKey (tupleKind (mixKind X.prog X.w)) b from Option.some.inj qe]
          rfl
    rw [ea]
    have go : ∀ {m : List (List Key × V)} {ys : List (List Key × Addr × Value)}, KT H m ys → Vals (m.map (·.2)) (ys.map fun x => x.2.2) := by
      intro m ys k
      induction k with
      | nil => exact .nil
      | cons a _ ih => exact .cons a.2.2 ih
    exact go pr
  have lz : (kvs.map (·.2)).length ≤ sizeLine := by rw [List.length_map]; exact z
  refine ⟨.ref s.heap.objs.size, _, I.laid (t' := tk) (o := .lst (kvs.map (·.2))) keep (Nat.le_refl _) ?_, rfl, q _ (I.hok.fresh (Nat.le_refl _))⟩
  exact ⟨lz, acc.toList, c, rv, by rw [Array.toArray_toList]; exact e⟩
end
end DT

namespace K60
open PySem PySem.Spec PyProof.Rows L2 RZ L5 XX LK M24 DT M38
/-! ### the text by places -/
def topS (i : Nat) : Stmt := PySem.Challenge.pw_pureladders_k60_whole_pure_tables.main.body.getD i (.Pass ⟨0, 0, 0, 0⟩)
abbrev s_is_number : Stmt := topS 10
abbrev N_is_number : List Str := ["value"]
theorem sc_is_number : FnScope N_is_number ["value"] (defScope s_is_number) := ⟨rfl, rfl, rfl, by decide +kernel, rfl, by decide +kernel, by decide +kernel⟩
abbrev s_is_passed : Stmt := topS 11
abbrev N_is_passed : List Str := ["value"]
theorem sc_is_passed : FnScope N_is_passed ["value"] (defScope s_is_passed) := ⟨rfl, rfl, rfl, by decide +kernel, rfl, by decide +kernel, by decide +kernel⟩
abbrev s_is_within : Stmt := topS 12
abbrev N_is_within : List Str := ["value", "least", "most"]
theorem sc_is_within : FnScope N_is_within ["value", "least", "most"] (defScope s_is_within) := ⟨rfl, rfl, rfl, by decide +kernel, rfl, by decide +kernel, by decide +kernel⟩
abbrev s_check_within : Stmt := topS 13
abbrev N_check_within : List Str := ["value", "least", "most"]
theorem sc_check_within : FnScope N_check_within ["value", "least", "most"] (defScope s_check_within) := ⟨rfl, rfl, rfl, by decide +kernel, rfl, by decide +kernel, by decide +kernel⟩
abbrev s_check_passed : Stmt := topS 14
abbrev N_check_passed : List Str := ["value"]
theorem sc_check_passed : FnScope N_check_passed ["value"] (defScope s_check_passed) := ⟨rfl, rfl, rfl, by decide +kernel, rfl, by decide +kernel, by decide +kernel⟩
abbrev s_is_set : Stmt := topS 16
abbrev N_is_set : List Str := ["value", "many", "corner", "low", "high"]
theorem sc_is_set : FnScope N_is_set ["value", "many"] (defScope s_is_set) := ⟨rfl, rfl, rfl, by decide +kernel, rfl, by decide +kernel, by decide +kernel⟩
abbrev s_greatest_divisor : Stmt := topS 18
abbrev N_greatest_divisor : List Str := ["numbers", "found", "number"]
theorem sc_greatest_divisor : FnScope N_greatest_divisor ["numbers"] (defScope s_greatest_divisor) := ⟨rfl, rfl, rfl, by decide +kernel, rfl, by decide +kernel, by decide +kernel⟩
abbrev s_lowest_pair : Stmt := topS 20
abbrev N_lowest_pair : List Str := ["top", "bottom", "divisor"]
theorem sc_lowest_pair : FnScope N_lowest_pair ["top", "bottom"] (defScope s_lowest_pair) := ⟨rfl, rfl, rfl, by decide +kernel, rfl, by decide +kernel, by decide +kernel⟩
abbrev s_pair_text : Stmt := topS 21
abbrev N_pair_text : List Str := ["pair", "top", "bottom"]
theorem sc_pair_text : FnScope N_pair_text ["pair"] (defScope s_pair_text) := ⟨rfl, rfl, rfl, by decide +kernel, rfl, by decide +kernel, by decide +kernel⟩
abbrev s_table_text : Stmt := topS 28
abbrev N_table_text : List Str := ["entries", "bottom", "parts", "step", "degree", "fraction", "lines"]
theorem sc_table_text : FnScope N_table_text ["entries", "bottom"] (defScope s_table_text) := ⟨rfl, rfl, rfl, by decide +kernel, rfl, by decide +kernel, by decide +kernel⟩
abbrev s_step_text : Stmt := topS 29
abbrev N_step_text : List Str := ["step", "parts", "body"]
theorem sc_step_text : FnScope N_step_text ["step", "parts"] (defScope s_step_text) := ⟨rfl, rfl, rfl, by decide +kernel, rfl, by decide +kernel, by decide +kernel⟩
abbrev s_is_place : Stmt := topS 37
abbrev N_is_place : List Str := ["value"]
theorem sc_is_place : FnScope N_is_place ["value"] (defScope s_is_place) := ⟨rfl, rfl, rfl, by decide +kernel, rfl, by decide +kernel, by decide +kernel⟩
abbrev s_is_entries : Stmt := topS 38
abbrev N_is_entries : List Str := ["value", "place"]
theorem sc_is_entries : FnScope N_is_entries ["value"] (defScope s_is_entries) := ⟨rfl, rfl, rfl, by decide +kernel, rfl, by decide +kernel, by decide +kernel⟩
abbrev s_check_bottom : Stmt := topS 39
abbrev N_check_bottom : List Str := ["value"]
theorem sc_check_bottom : FnScope N_check_bottom ["value"] (defScope s_check_bottom) := ⟨rfl, rfl, rfl, by decide +kernel, rfl, by decide +kernel, by decide +kernel⟩
abbrev s_made_table : Stmt := topS 40
abbrev N_made_table : List Str := ["entries", "bottom", "table", "found"]
theorem sc_made_table : FnScope N_made_table ["entries", "bottom"] (defScope s_made_table) := ⟨rfl, rfl, rfl, by decide +kernel, rfl, by decide +kernel, by decide +kernel⟩
abbrev s_table_of_fractions : Stmt := topS 41
abbrev N_table_of_fractions : List Str := ["fractions", "bottom", "place", "kept", "table"]
theorem sc_table_of_fractions : FnScope N_table_of_fractions ["fractions"] (defScope s_table_of_fractions) := ⟨rfl, rfl, rfl, by decide +kernel, rfl, by decide +kernel, by decide +kernel⟩
abbrev s_lowest : Stmt := topS 42
abbrev N_lowest : List Str := ["entries", "bottom", "divisor", "kept", "place"]
theorem sc_lowest : FnScope N_lowest ["entries", "bottom"] (defScope s_lowest) := ⟨rfl, rfl, rfl, by decide +kernel, rfl, by decide +kernel, by decide +kernel⟩
abbrev s_scaled : Stmt := topS 43
abbrev N_scaled : List Str := ["entries", "number", "place"]
theorem sc_scaled : FnScope N_scaled ["entries", "number"] (defScope s_scaled) := ⟨rfl, rfl, rfl, by decide +kernel, rfl, by decide +kernel, by decide +kernel⟩
abbrev s_sum_of : Stmt := topS 44
abbrev N_sum_of : List Str := ["one", "other", "sign", "over", "under", "place", "found"]
theorem sc_sum_of : FnScope N_sum_of ["one", "other", "sign"] (defScope s_sum_of) := ⟨rfl, rfl, rfl, by decide +kernel, rfl, by decide +kernel, by decide +kernel⟩
abbrev s_told_entry : Stmt := topS 45
abbrev N_told_entry : List Str := ["pair", "bottom"]
theorem sc_told_entry : FnScope N_told_entry ["pair", "bottom"] (defScope s_told_entry) := ⟨rfl, rfl, rfl, by decide +kernel, rfl, by decide +kernel, by decide +kernel⟩
abbrev s_is_pure : Stmt := topS 49
abbrev N_is_pure : List Str := ["value"]
theorem sc_is_pure : FnScope N_is_pure ["value"] (defScope s_is_pure) := ⟨rfl, rfl, rfl, by decide +kernel, rfl, by decide +kernel, by decide +kernel⟩
abbrev s_check_degrees : Stmt := topS 50
abbrev N_check_degrees : List Str := ["value"]
theorem sc_check_degrees : FnScope N_check_degrees ["value"] (defScope s_check_degrees) := ⟨rfl, rfl, rfl, by decide +kernel, rfl, by decide +kernel, by decide +kernel⟩
abbrev s_distances : Stmt := topS 51
abbrev N_distances : List Str := ["degrees", "found", "degree", "product", "other"]
theorem sc_distances : FnScope N_distances ["degrees"] (defScope s_distances) := ⟨rfl, rfl, rfl, by decide +kernel, rfl, by decide +kernel, by decide +kernel⟩
abbrev s_places_of : Stmt := topS 52
abbrev N_places_of : List Str := ["degrees"]
theorem sc_places_of : FnScope N_places_of ["degrees"] (defScope s_places_of) := ⟨rfl, rfl, rfl, by decide +kernel, rfl, by decide +kernel, by decide +kernel⟩
abbrev s_pure_table : Stmt := topS 53
abbrev N_pure_table : List Str := ["degrees", "place", "far"]
theorem sc_pure_table : FnScope N_pure_table ["degrees"] (defScope s_pure_table) := ⟨rfl, rfl, rfl, by decide +kernel, rfl, by decide +kernel, by decide +kernel⟩
abbrev s_whole_pure : Stmt := topS 54
abbrev N_whole_pure : List Str := ["degrees", "entries", "place"]
theorem sc_whole_pure : FnScope N_whole_pure ["degrees"] (defScope s_whole_pure) := ⟨rfl, rfl, rfl, by decide +kernel, rfl, by decide +kernel, by decide +kernel⟩
abbrev s_factor_of : Stmt := topS 55
abbrev N_factor_of : List Str := ["degrees", "factor", "far"]
theorem sc_factor_of : FnScope N_factor_of ["degrees"] (defScope s_factor_of) := ⟨rfl, rfl, rfl, by decide +kernel, rfl, by decide +kernel, by decide +kernel⟩
abbrev s_whole_entries : Stmt := topS 56
abbrev N_whole_entries : List Str := ["degrees", "factor", "place", "far"]
theorem sc_whole_entries : FnScope N_whole_entries ["degrees"] (defScope s_whole_entries) := ⟨rfl, rfl, rfl, by decide +kernel, rfl, by decide +kernel, by decide +kernel⟩
abbrev s_w_bowl : Stmt := topS 58
abbrev N_w_bowl : List Str := ["_law_script", "_law_spot", "_law_cell", "_law_great", "_law_seed"]
theorem sc_w_bowl : FnScope N_w_bowl ["_law_script", "_law_spot"] (defScope s_w_bowl) := ⟨rfl, rfl, rfl, by decide +kernel, rfl, by decide +kernel, by decide +kernel⟩
abbrev s_w_dip : Stmt := topS 59
abbrev N_w_dip : List Str := ["_law_bowl_here", "_law_total", "_law_found", "_law_one", "_law_two"]
theorem sc_w_dip : FnScope N_w_dip ["_law_bowl_here", "_law_total"] (defScope s_w_dip) := ⟨rfl, rfl, rfl, by decide +kernel, rfl, by decide +kernel, by decide +kernel⟩
abbrev s_w_pick : Stmt := topS 60
abbrev N_w_pick : List Str := ["_law_bowl_here", "_law_items"]
theorem sc_w_pick : FnScope N_w_pick ["_law_bowl_here", "_law_items"] (defScope s_w_pick) := ⟨rfl, rfl, rfl, by decide +kernel, rfl, by decide +kernel, by decide +kernel⟩
abbrev s_w_share : Stmt := topS 61
abbrev N_w_share : List Str := ["_law_one", "_law_other"]
theorem sc_w_share : FnScope N_w_share ["_law_one", "_law_other"] (defScope s_w_share) := ⟨rfl, rfl, rfl, by decide +kernel, rfl, by decide +kernel, by decide +kernel⟩
abbrev s_w_low : Stmt := topS 62
abbrev N_w_low : List Str := ["_law_top", "_law_bottom", "_law_share_here"]
theorem sc_w_low : FnScope N_w_low ["_law_top", "_law_bottom"] (defScope s_w_low) := ⟨rfl, rfl, rfl, by decide +kernel, rfl, by decide +kernel, by decide +kernel⟩
abbrev s_w_pure : Stmt := topS 63
abbrev N_w_pure : List Str := ["_law_degrees_here", "_law_found", "_law_step", "_law_degree", "_law_whole", "_law_other"]
theorem sc_w_pure : FnScope N_w_pure ["_law_degrees_here"] (defScope s_w_pure) := ⟨rfl, rfl, rfl, by decide +kernel, rfl, by decide +kernel, by decide +kernel⟩
abbrev s_w_of : Stmt := topS 64
abbrev N_w_of : List Str := ["_law_table", "_law_place"]
theorem sc_w_of : FnScope N_w_of ["_law_table"] (defScope s_w_of) := ⟨rfl, rfl, rfl, by decide +kernel, rfl, by decide +kernel, by decide +kernel⟩
abbrev s_w_degrees : Stmt := topS 65
abbrev N_w_degrees : List Str := ["_law_bowl_here", "_law_size", "_law_most", "_law_found", "_law_turn"]
theorem sc_w_degrees : FnScope N_w_degrees ["_law_bowl_here", "_law_size", "_law_most"] (defScope s_w_degrees) := ⟨rfl, rfl, rfl, by decide +kernel, rfl, by decide +kernel, by decide +kernel⟩
abbrev s_w_power : Stmt := topS 66
abbrev N_w_power : List Str := ["_law_number", "_law_exponent", "_law_found", "_law_turn"]
theorem sc_w_power : FnScope N_w_power ["_law_number", "_law_exponent"] (defScope s_w_power) := ⟨rfl, rfl, rfl, by decide +kernel, rfl, by decide +kernel, by decide +kernel⟩
abbrev s_w_rules : Stmt := topS 67
abbrev N_w_rules : List Str := ["_law_table", "_law_step", "_law_degree", "_law_steps", "_law_found", "_law_exponent", "_law_whole", "_law_sign"]
theorem sc_w_rules : FnScope N_w_rules ["_law_table"] (defScope s_w_rules) := ⟨rfl, rfl, rfl, by decide +kernel, rfl, by decide +kernel, by decide +kernel⟩
abbrev s_w_right : Stmt := topS 68
abbrev N_w_right : List Str := ["_law_bowl_here", "_law_degrees_here", "_law_told", "_law_due", "_law_whole", "_law_factor", "_law_share_here", "_law_place", "_law_one"]
theorem sc_w_right : FnScope N_w_right ["_law_bowl_here"] (defScope s_w_right) := ⟨rfl, rfl, rfl, by decide +kernel, rfl, by decide +kernel, by decide +kernel⟩
abbrev s_law : Stmt := topS 69
abbrev N_law : List Str := ["_law_script", "_law_spot", "_law_bowl_here", "_law_turn", "_law_told", "_law_due"]
theorem sc_law : FnScope N_law ["_law_script"] (defScope s_law) := ⟨rfl, rfl, rfl, by decide +kernel, rfl, by decide +kernel, by decide +kernel⟩
abbrev TableS : Stmt := topS 36
abbrev s_init : Stmt := inClass TableS 0
abbrev N_init : List Str := ["self", "entries", "bottom"]
theorem sc_init : FnScope N_init ["self", "entries", "bottom"] (defScope s_init) := ⟨rfl, rfl, rfl, by decide +kernel, rfl, by decide +kernel, by decide +kernel⟩
abbrev s_at : Stmt := inClass TableS 5
abbrev N_at : List Str := ["self", "step", "degree"]
theorem sc_at : FnScope N_at ["self", "step", "degree"] (defScope s_at) := ⟨rfl, rfl, rfl, by decide +kernel, rfl, by decide +kernel, by decide +kernel⟩
abbrev s_times : Stmt := inClass TableS 6
abbrev N_times : List Str := ["self", "top", "bottom"]
theorem sc_times : FnScope N_times ["self", "top", "bottom"] (defScope s_times) := ⟨rfl, rfl, rfl, by decide +kernel, rfl, by decide +kernel, by decide +kernel⟩
abbrev s_add : Stmt := inClass TableS 7
abbrev N_add : List Str := ["self", "other"]
theorem sc_add : FnScope N_add ["self", "other"] (defScope s_add) := ⟨rfl, rfl, rfl, by decide +kernel, rfl, by decide +kernel, by decide +kernel⟩
abbrev s_sub : Stmt := inClass TableS 8
abbrev N_sub : List Str := ["self", "other"]
theorem sc_sub : FnScope N_sub ["self", "other"] (defScope s_sub) := ⟨rfl, rfl, rfl, by decide +kernel, rfl, by decide +kernel, by decide +kernel⟩
abbrev s_neg : Stmt := inClass TableS 9
abbrev N_neg : List Str := ["self"]
theorem sc_neg : FnScope N_neg ["self"] (defScope s_neg) := ⟨rfl, rfl, rfl, by decide +kernel, rfl, by decide +kernel, by decide +kernel⟩
abbrev s_eq : Stmt := inClass TableS 10
abbrev N_eq : List Str := ["self", "other"]
theorem sc_eq : FnScope N_eq ["self", "other"] (defScope s_eq) := ⟨rfl, rfl, rfl, by decide +kernel, rfl, by decide +kernel, by decide +kernel⟩
abbrev s_bool : Stmt := inClass TableS 11
abbrev N_bool : List Str := ["self"]
theorem sc_bool : FnScope N_bool ["self"] (defScope s_bool) := ⟨rfl, rfl, rfl, by decide +kernel, rfl, by decide +kernel, by decide +kernel⟩
abbrev s_str : Stmt := inClass TableS 12
abbrev N_str : List Str := ["self"]
theorem sc_str : FnScope N_str ["self"] (defScope s_str) := ⟨rfl, rfl, rfl, by decide +kernel, rfl, by decide +kernel, by decide +kernel⟩
abbrev s_entries : Stmt := inClass TableS 2
abbrev N_entries : List Str := ["self", "place"]
theorem sc_entries : FnScope N_entries ["self"] (defScope s_entries) := ⟨rfl, rfl, rfl, by decide +kernel, rfl, by decide +kernel, by decide +kernel⟩
abbrev s_bottom : Stmt := inClass TableS 3
abbrev N_bottom : List Str := ["self"]
theorem sc_bottom : FnScope N_bottom ["self"] (defScope s_bottom) := ⟨rfl, rfl, rfl, by decide +kernel, rfl, by decide +kernel, by decide +kernel⟩
abbrev s_end_ : Stmt := inClass TableS 4
abbrev N_end_ : List Str := ["self"]
theorem sc_end_ : FnScope N_end_ ["self"] (defScope s_end_) := ⟨rfl, rfl, rfl, by decide +kernel, rfl, by decide +kernel, by decide +kernel⟩
/-! ### what the top has written -/
/-- a maker of lambdas: its code object is known -/
structure FunC (K : PySem.W.Frag) (x qual : Str) (st : Stmt) (f : Addr) (fd : FuncData) (c : Addr) : Prop where
  ex : ∃ (oc : Value) (od : Option Addr) (kV doc pm : Value) (an : Option Addr) (ct : Value) (osl : Array (Option Value)),
    fd = PySem.W.fnOf x qual (defArgs st) (defBody st) (defScope st) .none kV doc pm an (.ref c) ct ∧ K.lookup f = some ⟨oc, od, .func fd, osl⟩ ∧ PySem.W.codeIn K (.ref c) qual = true
structure Txt (K : PySem.W.Frag) (mg : Str → Option Value) where
  a_is_number : Addr
  d_is_number : FuncData
  F_is_number : Fun K "is_number" "is_number" s_is_number a_is_number d_is_number
  b_is_number : Binds K d_is_number ["value"] []
  m_is_number : mg "is_number" = some (.ref a_is_number)
  a_is_passed : Addr
  d_is_passed : FuncData
  F_is_passed : Fun K "is_passed" "is_passed" s_is_passed a_is_passed d_is_passed
  b_is_passed : Binds K d_is_passed ["value"] []
  m_is_passed : mg "is_passed" = some (.ref a_is_passed)
  a_is_within : Addr
  d_is_within : FuncData
  F_is_within : Fun K "is_within" "is_within" s_is_within a_is_within d_is_within
  b_is_within : Binds K d_is_within ["value", "least", "most"] []
  m_is_within : mg "is_within" = some (.ref a_is_within)
  a_check_within : Addr
  d_check_within : FuncData
  F_check_within : Fun K "check_within" "check_within" s_check_within a_check_within d_check_within
  b_check_within : Binds K d_check_within ["value", "least", "most"] []
  m_check_within : mg "check_within" = some (.ref a_check_within)
  a_check_passed : Addr
  d_check_passed : FuncData
  F_check_passed : Fun K "check_passed" "check_passed" s_check_passed a_check_passed d_check_passed
  b_check_passed : Binds K d_check_passed ["value"] []
  m_check_passed : mg "check_passed" = some (.ref a_check_passed)
  a_is_set : Addr
  d_is_set : FuncData
  F_is_set : Fun K "is_set" "is_set" s_is_set a_is_set d_is_set
  b_is_set : Binds K d_is_set ["value", "many"] []
  m_is_set : mg "is_set" = some (.ref a_is_set)
  a_greatest_divisor : Addr
  d_greatest_divisor : FuncData
  F_greatest_divisor : Fun K "greatest_divisor" "greatest_divisor" s_greatest_divisor a_greatest_divisor d_greatest_divisor
  b_greatest_divisor : Binds K d_greatest_divisor ["numbers"] []
  m_greatest_divisor : mg "greatest_divisor" = some (.ref a_greatest_divisor)
  a_lowest_pair : Addr
  d_lowest_pair : FuncData
  F_lowest_pair : Fun K "lowest_pair" "lowest_pair" s_lowest_pair a_lowest_pair d_lowest_pair
  b_lowest_pair : Binds K d_lowest_pair ["top", "bottom"] []
  m_lowest_pair : mg "lowest_pair" = some (.ref a_lowest_pair)
  a_pair_text : Addr
  d_pair_text : FuncData
  F_pair_text : Fun K "pair_text" "pair_text" s_pair_text a_pair_text d_pair_text
  b_pair_text : Binds K d_pair_text ["pair"] []
  m_pair_text : mg "pair_text" = some (.ref a_pair_text)
  a_table_text : Addr
  d_table_text : FuncData
  F_table_text : Fun K "table_text" "table_text" s_table_text a_table_text d_table_text
  b_table_text : Binds K d_table_text ["entries", "bottom"] []
  m_table_text : mg "table_text" = some (.ref a_table_text)
  a_step_text : Addr
  d_step_text : FuncData
  F_step_text : Fun K "step_text" "step_text" s_step_text a_step_text d_step_text
  b_step_text : Binds K d_step_text ["step", "parts"] []
  m_step_text : mg "step_text" = some (.ref a_step_text)
  a_is_place : Addr
  d_is_place : FuncData
  F_is_place : Fun K "is_place" "is_place" s_is_place a_is_place d_is_place
  b_is_place : Binds K d_is_place ["value"] []
  m_is_place : mg "is_place" = some (.ref a_is_place)
  a_is_entries : Addr
  d_is_entries : FuncData
  F_is_entries : Fun K "is_entries" "is_entries" s_is_entries a_is_entries d_is_entries
  b_is_entries : Binds K d_is_entries ["value"] []
  m_is_entries : mg "is_entries" = some (.ref a_is_entries)
  a_check_bottom : Addr
  d_check_bottom : FuncData
  F_check_bottom : Fun K "check_bottom" "check_bottom" s_check_bottom a_check_bottom d_check_bottom
  b_check_bottom : Binds K d_check_bottom ["value"] []
  m_check_bottom : mg "check_bottom" = some (.ref a_check_bottom)
  a_made_table : Addr
  d_made_table : FuncData
  F_made_table : Fun K "made_table" "made_table" s_made_table a_made_table d_made_table
  b_made_table : Binds K d_made_table ["entries", "bottom"] []
  m_made_table : mg "made_table" = some (.ref a_made_table)
  a_table_of_fractions : Addr
  d_table_of_fractions : FuncData
  F_table_of_fractions : Fun K "table_of_fractions" "table_of_fractions" s_table_of_fractions a_table_of_fractions d_table_of_fractions
  b_table_of_fractions : Binds K d_table_of_fractions ["fractions"] []
  m_table_of_fractions : mg "table_of_fractions" = some (.ref a_table_of_fractions)
  a_lowest : Addr
  d_lowest : FuncData
  F_lowest : Fun K "lowest" "lowest" s_lowest a_lowest d_lowest
  b_lowest : Binds K d_lowest ["entries", "bottom"] []
  m_lowest : mg "lowest" = some (.ref a_lowest)
  a_scaled : Addr
  d_scaled : FuncData
  F_scaled : Fun K "scaled" "scaled" s_scaled a_scaled d_scaled
  b_scaled : Binds K d_scaled ["entries", "number"] []
  m_scaled : mg "scaled" = some (.ref a_scaled)
  a_sum_of : Addr
  d_sum_of : FuncData
  F_sum_of : Fun K "sum_of" "sum_of" s_sum_of a_sum_of d_sum_of
  b_sum_of : Binds K d_sum_of ["one", "other", "sign"] []
  m_sum_of : mg "sum_of" = some (.ref a_sum_of)
  a_told_entry : Addr
  d_told_entry : FuncData
  F_told_entry : Fun K "told_entry" "told_entry" s_told_entry a_told_entry d_told_entry
  b_told_entry : Binds K d_told_entry ["pair", "bottom"] []
  m_told_entry : mg "told_entry" = some (.ref a_told_entry)
  a_is_pure : Addr
  d_is_pure : FuncData
  F_is_pure : Fun K "is_pure" "is_pure" s_is_pure a_is_pure d_is_pure
  b_is_pure : Binds K d_is_pure ["value"] []
  m_is_pure : mg "is_pure" = some (.ref a_is_pure)
  a_check_degrees : Addr
  d_check_degrees : FuncData
  F_check_degrees : Fun K "check_degrees" "check_degrees" s_check_degrees a_check_degrees d_check_degrees
  b_check_degrees : Binds K d_check_degrees ["value"] []
  m_check_degrees : mg "check_degrees" = some (.ref a_check_degrees)
  a_distances : Addr
  d_distances : FuncData
  F_distances : Fun K "distances" "distances" s_distances a_distances d_distances
  b_distances : Binds K d_distances ["degrees"] []
  m_distances : mg "distances" = some (.ref a_distances)
  a_places_of : Addr
  d_places_of : FuncData
  F_places_of : Fun K "places_of" "places_of" s_places_of a_places_of d_places_of
  b_places_of : Binds K d_places_of ["degrees"] []
  m_places_of : mg "places_of" = some (.ref a_places_of)
  a_pure_table : Addr
  d_pure_table : FuncData
  F_pure_table : Fun K "pure_table" "pure_table" s_pure_table a_pure_table d_pure_table
  b_pure_table : Binds K d_pure_table ["degrees"] []
  m_pure_table : mg "pure_table" = some (.ref a_pure_table)
  a_whole_pure : Addr
  d_whole_pure : FuncData
  F_whole_pure : Fun K "whole_pure" "whole_pure" s_whole_pure a_whole_pure d_whole_pure
  b_whole_pure : Binds K d_whole_pure ["degrees"] []
  m_whole_pure : mg "whole_pure" = some (.ref a_whole_pure)
  a_factor_of : Addr
  d_factor_of : FuncData
  F_factor_of : Fun K "factor_of" "factor_of" s_factor_of a_factor_of d_factor_of
  b_factor_of : Binds K d_factor_of ["degrees"] []
  m_factor_of : mg "factor_of" = some (.ref a_factor_of)
  a_whole_entries : Addr
  d_whole_entries : FuncData
  F_whole_entries : Fun K "whole_entries" "whole_entries" s_whole_entries a_whole_entries d_whole_entries
  b_whole_entries : Binds K d_whole_entries ["degrees"] []
  m_whole_entries : mg "whole_entries" = some (.ref a_whole_entries)
  a_w_bowl : Addr
  d_w_bowl : FuncData
  F_w_bowl : Fun K "_law_bowl" "_law_bowl" s_w_bowl a_w_bowl d_w_bowl
  b_w_bowl : Binds K d_w_bowl ["_law_script", "_law_spot"] []
  m_w_bowl : mg "_law_bowl" = some (.ref a_w_bowl)
  a_w_dip : Addr
  d_w_dip : FuncData
  F_w_dip : Fun K "_law_dip" "_law_dip" s_w_dip a_w_dip d_w_dip
  b_w_dip : Binds K d_w_dip ["_law_bowl_here", "_law_total"] []
  m_w_dip : mg "_law_dip" = some (.ref a_w_dip)
  a_w_pick : Addr
  d_w_pick : FuncData
  F_w_pick : Fun K "_law_pick" "_law_pick" s_w_pick a_w_pick d_w_pick
  b_w_pick : Binds K d_w_pick ["_law_bowl_here", "_law_items"] []
  m_w_pick : mg "_law_pick" = some (.ref a_w_pick)
  a_w_share : Addr
  d_w_share : FuncData
  F_w_share : Fun K "_law_share" "_law_share" s_w_share a_w_share d_w_share
  b_w_share : Binds K d_w_share ["_law_one", "_law_other"] []
  m_w_share : mg "_law_share" = some (.ref a_w_share)
  a_w_low : Addr
  d_w_low : FuncData
  F_w_low : Fun K "_law_low" "_law_low" s_w_low a_w_low d_w_low
  b_w_low : Binds K d_w_low ["_law_top", "_law_bottom"] []
  m_w_low : mg "_law_low" = some (.ref a_w_low)
  a_w_pure : Addr
  d_w_pure : FuncData
  F_w_pure : Fun K "_law_pure" "_law_pure" s_w_pure a_w_pure d_w_pure
  b_w_pure : Binds K d_w_pure ["_law_degrees_here"] []
  m_w_pure : mg "_law_pure" = some (.ref a_w_pure)
  a_w_of : Addr
  d_w_of : FuncData
  F_w_of : Fun K "_law_of" "_law_of" s_w_of a_w_of d_w_of
  b_w_of : Binds K d_w_of ["_law_table"] []
  m_w_of : mg "_law_of" = some (.ref a_w_of)
  a_w_degrees : Addr
  d_w_degrees : FuncData
  F_w_degrees : Fun K "_law_degrees" "_law_degrees" s_w_degrees a_w_degrees d_w_degrees
  b_w_degrees : Binds K d_w_degrees ["_law_bowl_here", "_law_size", "_law_most"] []
  m_w_degrees : mg "_law_degrees" = some (.ref a_w_degrees)
  a_w_power : Addr
  d_w_power : FuncData
  F_w_power : Fun K "_law_power" "_law_power" s_w_power a_w_power d_w_power
  b_w_power : Binds K d_w_power ["_law_number", "_law_exponent"] []
  m_w_power : mg "_law_power" = some (.ref a_w_power)
  a_w_rules : Addr
  d_w_rules : FuncData
  F_w_rules : Fun K "_law_rules" "_law_rules" s_w_rules a_w_rules d_w_rules
  b_w_rules : Binds K d_w_rules ["_law_table"] []
  m_w_rules : mg "_law_rules" = some (.ref a_w_rules)
  a_w_right : Addr
  d_w_right : FuncData
  F_w_right : Fun K "_law_right" "_law_right" s_w_right a_w_right d_w_right
  b_w_right : Binds K d_w_right ["_law_bowl_here"] []
  m_w_right : mg "_law_right" = some (.ref a_w_right)
  a_law : Addr
  d_law : FuncData
  F_law : Fun K "law" "law" s_law a_law d_law
  b_law : Binds K d_law ["_law_script"] []
  m_law : mg "law" = some (.ref a_law)
  z_isinstance : mg "isinstance" = none
  z_int : mg "int" = none
  z_bool : mg "bool" = none
  z_tuple : mg "tuple" = none
  z_all : mg "all" = none
  z_zip : mg "zip" = none
  z_str : mg "str" = none
  z_len : mg "len" = none
  z_dict : mg "dict" = none
  z_sorted : mg "sorted" = none
  z_list : mg "list" = none
  z_abs : mg "abs" = none
  z_enumerate : mg "enumerate" = none
  z_max : mg "max" = none
  z_range : mg "range" = none
  z_min : mg "min" = none
  z_ValueError : mg "ValueError" = none
  z_IndexError : mg "IndexError" = none
  z_NotImplemented : mg "NotImplemented" = none
  z_classmethod : mg "classmethod" = none
  z_property : mg "property" = none
  z_gcd : mg "gcd" = some (.builtin "math.gcd")
  z_lcm : mg "lcm" = some (.builtin "math.lcm")
  t_MAX_DIGITS : Nat
  c_MAX_DIGITS : mg "MAX_DIGITS" = some (.int 60 t_MAX_DIGITS)
  t_MAX_STEP_tables : Nat
  c_MAX_STEP_tables : mg "MAX_STEP_tables" = some (.int 8 t_MAX_STEP_tables)
  t_MAX_PLACE_tables : Nat
  c_MAX_PLACE_tables : mg "MAX_PLACE_tables" = some (.int 480 t_MAX_PLACE_tables)
  t_MAX_STEP_degrees : Nat
  c_MAX_STEP_degrees : mg "MAX_STEP_degrees" = some (.int 8 t_MAX_STEP_degrees)
  t_MAX_PLACE_degrees : Nat
  c_MAX_PLACE_degrees : mg "MAX_PLACE_degrees" = some (.int 480 t_MAX_PLACE_degrees)
  t_BEYOND_DIGITS : Nat
  c_BEYOND_DIGITS : mg "BEYOND_DIGITS" = some (.int 1000000000000000000000000000000000000000000000000000000000000 t_BEYOND_DIGITS)
end K60

namespace K60
open PySem PySem.Spec PyProof.Rows L2 RZ L5 XX LK M24 DT M38
section
variable {K : PySem.W.Frag} {H H' : Hp}
/-! ### values of any kind -/
/-- an entry: some i where it is an integer, no bool -/
inductive El (K : PySem.W.Frag) (H : Hp) : V → Option Int → Prop
  | int (i : Int) : El K H (.int i) (some i)
  | bl (b : Bool) : El K H (.bl b) none
  | non : El K H .non none
  | str (x : Str) : El K H (.str x) none
  | tup {a : Addr} {xs : List V} (h : SqT K H a xs) : El K H (.ref a) none
theorem El.same (s : Same H H') {v : V} {o : Option Int} (h : El K H v o) : El K H' v o := by
  cases h with
  | int i => exact .int i
  | bl b => exact .bl b
  | non => exact .non
  | str x => exact .str x
  | tup h => exact .tup (same_sqt s h)
theorem El.isi {v : V} {o : Option Int} (h : El K H v o) : ∃ t bi bb, TyX K H v t ∧ PySem.W.kitOne K t (.type "int") = some bi ∧ PySem.W.kitOne K t (.type "bool") = some bb ∧ o.isSome = (bi && !bb) ∧ ∀ i, o = some i → v = .int i := by
  cases h with
  | int i => exact ⟨_, true, false, .base (.int i), kit_ty (by decide +kernel), kit_ty (by decide +kernel), rfl, fun j e => by cases e; rfl⟩
  | bl b => exact ⟨_, true, true, .base (.bl b), kit_ty (by decide +kernel), kit_ty (by decide +kernel), rfl, fun j e => by cases e⟩
  | non => exact ⟨_, false, false, .base .non, kit_ty (by decide +kernel), kit_ty (by decide +kernel), rfl, fun j e => by cases e⟩
  | str x => exact ⟨_, false, false, .base (.str x), kit_ty (by decide +kernel), kit_ty (by decide +kernel), rfl, fun j e => by cases e⟩
  | tup h => exact ⟨_, false, false, sqt_ty h, kit_ty (by decide +kernel), kit_ty (by decide +kernel), rfl, fun j e => by cases e⟩
abbrev Els (K : PySem.W.Frag) (H : Hp) : List V → List (Option Int) → Prop := Paired (El K H)
theorem Els.same (s : Same H H') : ∀ {vs : List V} {os : List (Option Int)}, Els K H vs os → Els K H' vs os
  | _, _, .nil => .nil
  | _, _, .cons h t => .cons (h.same s) (Els.same s t)
theorem Els.length : ∀ {vs : List V} {os : List (Option Int)}, Els K H vs os → vs.length = os.length
  | _, _, .nil => rfl
  | _, _, .cons _ t => congrArg (· + 1) (Els.length t)
theorem Els.get : ∀ {vs : List V} {os : List (Option Int)} {i : Nat} {v : V}, Els K H vs os → vs[i]? = some v → ∃ o, os[i]? = some o ∧ El K H v o
  | _, _, _, _, .nil, e => by simp at e
  | _, _, 0, _, .cons h _, e => by simp at e; subst e; exact ⟨_, rfl, h⟩
  | _, _, i + 1, v, .cons _ t, e => by
    obtain ⟨u, h1, h2⟩ := Els.get (i := i) (v := v) t (by simpa using e)
    exact ⟨u, by simpa using h1, h2⟩
theorem Els.app : ∀ {vs us : List V} {os ps : List (Option Int)}, Els K H vs os → Els K H us ps → Els K H (vs ++ us) (os ++ ps)
  | _, _, _, _, .nil, s => s
  | _, _, _, _, .cons r t, s => .cons r (Els.app t s)
theorem els_nv : ∀ t : List Nat, Els K H (nv t) (t.map fun n => some ((n : Nat) : Int))
  | [] => .nil
  | n :: t => .cons (.int _) (els_nv t)
/-- a value: some os where it is a tuple -/
inductive Va (K : PySem.W.Frag) (H : Hp) : V → Option (List (Option Int)) → Prop
  | tup {a : Addr} {vs : List V} {os : List (Option Int)} (h : SqT K H a vs) (e : Els K H vs os) (hl : vs.length ≤ 1000) : Va K H (.ref a) (some os)
  | lst {a : Addr} {xs : List V} (h : SqL K H a xs) : Va K H (.ref a) none
  | dic {a : Addr} (h : H a = some (.dK [])) : Va K H (.ref a) none
  | non : Va K H .non none
  | int (i : Int) : Va K H (.int i) none
  | str (x : Str) : Va K H (.str x) none
  | own {a C dx : Addr} {fs : List (Str × V)} (h : H a = some (.ins C dx fs)) (t : ∀ H' : Hp, H' a = some (.ins C dx fs) → TyX K H' (.ref a) (.ref C)) (k : PySem.W.kitOne K (.ref C) (.type "tuple") = some false) : Va K H (.ref a) none
theorem same_sql {a : Addr} {xs : List V} (e : Same H H') (h : SqL K H a xs) : SqL K H' a xs := by
  rcases h with (h | ⟨o, h⟩) | h
  · exact .inl (.inl (e _ _ h))
  · exact .inl (.inr ⟨o, e _ _ h⟩)
  · exact .inr h
theorem sql_ty {a : Addr} {xs : List V} (h : SqL K H a xs) : TyX K H (.ref a) (.type "list") := by
  rcases h with (h | ⟨o, h⟩) | ⟨o, its, n, e, c, _⟩
  · exact .base (.lst h)
  · exact .base (.frz h)
  · exact .kList e c
theorem Va.same (s : Same H H') {v : V} {d : Option (List (Option Int))} (h : Va K H v d) : Va K H' v d := by
  cases h with
  | tup h e hl => exact .tup (same_sqt s h) (e.same s) hl
  | lst h => exact .lst (same_sql s h)
  | dic h => exact .dic (s _ _ h)
  | non => exact .non
  | int i => exact .int i
  | str x => exact .str x
  | own h t k => exact .own (s _ _ h) t k
theorem Va.isi {v : V} {d : Option (List (Option Int))} (h : Va K H v d) : ∃ t, TyX K H v t ∧ PySem.W.kitOne K t (.type "tuple") = some d.isSome := by
  cases h with
  | tup h e hl => exact ⟨_, sqt_ty h, kit_ty (show kitB "tuple" "tuple" = some true by decide +kernel)⟩
  | lst h => exact ⟨_, sql_ty h, kit_ty (by decide +kernel)⟩
  | dic h => exact ⟨_, .base (.dK h), kit_ty (by decide +kernel)⟩
  | non => exact ⟨_, .base .non, kit_ty (by decide +kernel)⟩
  | int i => exact ⟨_, .base (.int i), kit_ty (by decide +kernel)⟩
  | str x => exact ⟨_, .base (.str x), kit_ty (by decide +kernel)⟩
  | own h t k => exact ⟨_, t _ h, k⟩
theorem Va.get {v : V} {os : List (Option Int)} (h : Va K H v (some os)) : ∃ a vs, v = .ref a ∧ SqT K H a vs ∧ Els K H vs os ∧ vs.length ≤ 1000 := by
  cases h with
  | tup h e hl => exact ⟨_, _, rfl, h, e, hl⟩
/-! ### what the program asks of them -/
def inB (o : Option Int) (a b : Int) : Bool := match o with
  | some i => decide (a ≤ i) && decide (i ≤ b)
  | none => false
def areB (d : Option (List (Option Int))) (n m : Int) : Bool := match d with
  | some os => decide (((os.length : Nat) : Int) = n) && os.all fun o => inB o 0 m
  | none => false
def anyB (d : Option (List (Option Int))) : Bool := match d with
  | some os => decide (1 ≤ os.length) && decide (os.length ≤ 8) && areB d ((os.length : Nat) : Int) 60
  | none => false
def Prod60 (t : List Nat) : Prop := 1 ≤ t.length ∧ t.length ≤ 8 ∧ ∀ e ∈ t, e ≤ 60
theorem els_nat : ∀ {vs : List V} {os : List (Option Int)}, Els K H vs os → (os.all fun o => inB o 0 60) = true → ∃ u : List Nat, vs = nv u ∧ os = (u.map fun n => some ((n : Nat) : Int)) ∧ ∀ e ∈ u, e ≤ 60
  | _, _, .nil, _ => ⟨[], rfl, rfl, fun _ h => nomatch h⟩
  | _, _, .cons h t, ha => by
    rw [List.all_cons, Bool.and_eq_true] at ha
    obtain ⟨u, rfl, rfl, hu⟩ := els_nat t ha.2
    cases h with
    | int i =>
      have h1 : (decide ((0 : Int) ≤ i) && decide (i ≤ 60)) = true := ha.1
      rw [Bool.and_eq_true] at h1
      have h2 := of_decide_eq_true h1.1
      have h3 := of_decide_eq_true h1.2
      refine ⟨i.toNat :: u, ?_, ?_, fun e he => ?_⟩
      · show _ = V.int _ :: nv u
        rw [show ((i.toNat : Nat) : Int) = i by omega]
      · show _ = some _ :: _
        rw [show ((i.toNat : Nat) : Int) = i by omega]
      · rcases List.mem_cons.mp he with rfl | he
        · omega
        · exact hu e he
    | bl b => cases ha.1
    | non => cases ha.1
    | str x => cases ha.1
    | tup h => cases ha.1
theorem are_get {v : V} {d : Option (List (Option Int))} {n : Nat} (h : Va K H v d) (e : areB d ((n : Nat) : Int) 60 = true) : ∃ r u, v = .ref r ∧ SqT K H r (nv u) ∧ u.length = n ∧ (∀ e ∈ u, e ≤ 60) ∧ d = some (u.map fun n => some ((n : Nat) : Int)) := by
  cases d with
  | none => cases e
  | some os =>
    obtain ⟨a, vs, rfl, hT, hE, _⟩ := h.get
    have e' : (decide (((os.length : Nat) : Int) = ((n : Nat) : Int)) && os.all fun o => inB o 0 60) = true := e
    rw [Bool.and_eq_true] at e'
    obtain ⟨u, rfl, rfl, hu⟩ := els_nat hE e'.2
    have hl := of_decide_eq_true e'.1
    rw [List.length_map] at hl
    exact ⟨a, u, rfl, hT, by omega, hu, rfl⟩
theorem are_prod {t : List Nat} (h : ∀ e ∈ t, e ≤ 60) : areB (some (t.map fun n => some ((n : Nat) : Int))) ((t.length : Nat) : Int) 60 = true := by
  refine Bool.and_eq_true_iff.mpr ⟨decide_eq_true (by rw [List.length_map]), List.all_eq_true.mpr fun o ho => ?_⟩
  obtain ⟨n, hn, rfl⟩ := List.mem_map.mp ho
  have := h n hn
  show (decide ((0 : Int) ≤ ((n : Nat) : Int)) && decide (((n : Nat) : Int) ≤ 60)) = true
  rw [decide_eq_true (show (0 : Int) ≤ ((n : Nat) : Int) by omega), decide_eq_true (show ((n : Nat) : Int) ≤ 60 by omega)]
  rfl
theorem va_prod {a : Addr} {t : List Nat} (h : SqT K H a (nv t)) (hl : t.length ≤ 1000) : Va K H (.ref a) (some (t.map fun n => some ((n : Nat) : Int))) := .tup h (els_nv t) (by rw [nv_len]; exact hl)
end
end K60

namespace K60
open PySem PySem.Spec PyProof.Rows L2 RZ L5 XX LK M24 DT M38
theorem take_more {α : Type} {l : List α} {i : Nat} {x : α} (h : l[i]? = some x) : l.take (i + 1) = l.take i ++ [x] := by
  rw [List.take_add_one, h]
  rfl
section
variable {P : Program} {w : World} {K : PySem.W.Frag} {mg : Str → Option Value} {base : Heap}
/-! ### is_number, is_within, are_exponents, check_within, of any value -/
def sp_num (K : PySem.W.Frag) : Sp := fun vs H Q _ => ∃ v o, vs = [v] ∧ El K H v o ∧ Q (.bl o.isSome) H
theorem ok_num (T : Txt K mg) : FnOk P w K mg base CX0 1 T.a_is_number T.d_is_number ["value"] (sp_num K) := by
  refine T.F_is_number.ok sc_is_number (fun vs H Q E h => ?_) (fun cdv A outer s H vs Q E hr h => ?_)
  · obtain ⟨v, o, rfl, _⟩ := h
    rfl
  · obtain ⟨v, o, rfl, he, q⟩ := h
    refine ⟨_, pss_one (ps_ret (pe_and (pe_callB call_isi (by rfl) T.z_isinstance boot_isinstance (pa_cons (pv 0) (pa_cons (pe_bltn (v := .ty "int") (by rfl) T.z_int boot_int rfl) pa_nil)))
      (pe_one (pe_not (pe_callB call_isi (by rfl) T.z_isinstance boot_isinstance (pa_cons (pv 0) (pa_cons (pe_bltn (v := .ty "bool") (by rfl) T.z_bool boot_bool rfl) pa_nil))))))), ?_⟩
    obtain ⟨t, bi, bb, ty, e1, e2, e3, _⟩ := he.isi
    refine ⟨_, rfl, _, _, _, _, bi, rfl, .ty _, ty, e1, bi, rfl, ?_⟩
    cases bi with
    | true =>
      refine iteT ⟨_, rfl, _, _, _, _, bb, rfl, .ty _, ty, e2, bb, rfl, ?_⟩
      rw [e3] at q
      exact q
    | false =>
      refine iteF ?_
      rw [e3] at q
      exact q
def sp_within (K : PySem.W.Frag) : Sp := fun vs H Q _ => ∃ v o, ∃ a b : Int, vs = [v, .int a, .int b] ∧ El K H v o ∧ Q (.bl (inB o a b)) H
theorem ok_within (T : Txt K mg) : FnOk P w K mg base CX0 2 T.a_is_within T.d_is_within ["value", "least", "most"] (sp_within K) := by
  refine T.F_is_within.ok sc_is_within (fun vs H Q E h => ?_) (fun cdv A outer s H vs Q E hr h => ?_)
  · obtain ⟨v, o, a, b, rfl, _⟩ := h
    rfl
  · obtain ⟨v, o, a, b, rfl, he, q⟩ := h
    refine ⟨_, pss_one (ps_ret (pe_and (pe_call (ok_num T) hr (by rfl) T.m_is_number T.F_is_number.kp T.b_is_number .nil pass0 (pa_cons (pv 0) pa_nil)) (pe_one (pe_chain op_le op_le (pv 1) (pv 0) (pv 2))))), ?_⟩
    refine ⟨_, rfl, v, o, rfl, he, o.isSome, rfl, ?_⟩
    cases o with
    | none => exact iteF q
    | some i =>
      obtain ⟨_, _, _, _, _, _, _, e⟩ := he.isi
      obtain rfl := e i rfl
      refine iteT ?_
      refine ⟨_, rfl, _, rfl, _, _, rfl, rfl, _, rfl, ite2 (fun c => ?_) (fun c => ?_)⟩
      · refine ⟨_, rfl, _, _, rfl, rfl, ?_⟩
        have q' : Q (.bl (decide (a ≤ i) && decide (i ≤ b))) H := q
        rw [c] at q'
        exact q'
      · have q' : Q (.bl (decide (a ≤ i) && decide (i ≤ b))) H := q
        rw [Bool.eq_false_iff.mpr c] at q'
        exact q'
def sp_checkw : Sp := fun vs H Q _ => ∃ i a b : Int, vs = [.int i, .int a, .int b] ∧ a ≤ i ∧ i ≤ b ∧ Q .non H
theorem ok_checkw (T : Txt K mg) : FnOk P w K mg base CX0 3 T.a_check_within T.d_check_within ["value", "least", "most"] sp_checkw := by
  refine T.F_check_within.ok sc_check_within (fun vs H Q E h => ?_) (fun cdv A outer s H vs Q E hr h => ?_)
  · obtain ⟨i, a, b, rfl, _⟩ := h
    rfl
  · obtain ⟨i, a, b, rfl, h1, h2, q⟩ := h
    refine ⟨_, pss_one (ps_if (pt_not (pt_val (pe_call (ok_within T) hr (by rfl) T.m_is_within T.F_is_within.kp T.b_is_within .nil pass0 (pa_cons (pv 0) (pa_cons (pv 1) (pa_cons (pv 2) pa_nil)))))) (pss_one ps_never) pss_nil), ?_⟩
    refine ⟨_, rfl, _, rfl, _, rfl, _, some i, a, b, rfl, .int i, true, ?_, iteF q⟩
    refine congrArg V.bl ?_
    show (decide (a ≤ i) && decide (i ≤ b)) = true
    rw [decide_eq_true h1, decide_eq_true h2]
    rfl
end
end K60

namespace K60
open PySem PySem.Spec PyProof.Rows L2 RZ L5 XX LK M24 DT M38
section
variable {P : Program} {w : World} {K : PySem.W.Frag} {mg : Str → Option Value} {base : Heap}
/-! ### a comprehension over zip of two tuples of one length -/
abbrev lcTurn (D : Addr) (g : TG) (tt : TT) (te : TE) (vs : List Nat) (σ : L2.St) (Nx : Hp → Prop) (v : V) (H : Hp) : Prop := g v (wipe σ vs) H fun σ2 H2 => wipe σ2 vs = wipe σ vs ∧ tt σ2 H2 fun b H3 =>
  if b = true then te σ2 H3 fun y H4 => ∃ acc, H4 D = some (.lst acc) ∧ acc.length < sizeLine ∧ Nx (upd H4 D (.lst (acc ++ [y]))) else Nx H3
theorem lc_zipT {a b : Addr} {xs ys : List V} {g : TG} {tt : TT} {te : TE} {vs : List Nat} {σ : L2.St} {H1 : Hp} {D : Addr} {Qd : Hp → Prop} (hl : xs.length = ys.length) (Pv : Nat → Hp → Prop) (h0 : Pv 0 (upd H1 D (.lst []))) (hq : ∀ i H, Pv i H → SqT K H a xs ∧ SqT K H b ys)
    (hs : ∀ (i : Nat) (x y : V) (T : Addr) (H : Hp), xs[i]? = some x → ys[i]? = some y → Pv i H → H T = none → lcTurn D g tt te vs σ (Pv (i + 1)) (.ref T) (upd H T (.tup [x, y]))) (hd : ∀ H, Pv xs.length H → Qd H) :
    ∃ W : Nat → Nat → Hp → Prop, (∃ m, W 0 m (upd H1 D (.lst []))) ∧ ∀ i m H0, W i m H0 →
      ((ItzT K a b).stop i H0 ∧ Qd H0) ∨ ((ItzT K a b).go i H0 ∧ ∃ Nx : Hp → Prop, (∀ H', Nx H' → ∃ m', m' < m ∧ W (i + 1) m' H') ∧ ∀ v H', (ItzT K a b).yld i H0 v H' → lcTurn D g tt te vs σ Nx v H') := by
  refine ⟨fun i m H => i + m = xs.length ∧ Pv i H, ⟨xs.length, Nat.zero_add _, h0⟩, fun i m H0 hw => ?_⟩
  obtain ⟨em, pi⟩ := hw
  obtain ⟨ta, tb⟩ := hq i H0 pi
  cases m with
  | zero =>
    have ei : i = xs.length := em
    subst ei
    exact .inl ⟨⟨xs, ys, ta, tb, Or.inl (Nat.le_refl _)⟩, hd H0 pi⟩
  | succ m =>
    have i1 : i < xs.length := by omega
    have i2 : i < ys.length := hl ▸ i1
    refine .inr ⟨⟨xs, ys, _, _, ta, tb, List.getElem?_eq_getElem i1, List.getElem?_eq_getElem i2⟩, Pv (i + 1), fun H' p => ⟨m, Nat.lt_succ_self m, by omega, p⟩, fun v H' out => ?_⟩
    obtain ⟨T, _, _, rfl, free, rfl, fx, fy⟩ := out
    exact hs i _ _ T H0 (fx xs ta) (fy ys tb) pi free
theorem getD_at {t : List Nat} {i : Nat} (h : i < t.length) : t[i]? = some (t.getD i 0) := by
  rw [List.getD_eq_getElem?_getD, List.getElem?_eq_getElem h]
  rfl
theorem nv_take (t : List Nat) (k : Nat) : nv (t.take k) = (nv t).take k := List.map_take
theorem cut_to (xs : List V) (k : Nat) (h : k ≤ xs.length) : cutV xs none (some (k : Int)) = xs.take k := by
  unfold cutV
  rw [show HT.sIx xs.length xs.length (some (k : Int)) = min k xs.length from HT.sIx_nat xs.length xs.length k, HT.sIx_none, Nat.min_eq_left h]
  rfl
/-! ### tuple rules whose answer is told alike in all cases -/
def rCatB (K : PySem.W.Frag) : R2 := fun x y H Q => ∃ a b xs ys, x = .ref a ∧ y = .ref b ∧ SqT K H a xs ∧ SqT K H b ys ∧ xs.length + ys.length ≤ sizeLine ∧ ∀ H' z, Same H H' → SqT K H' z (xs ++ ys) → Q (.ref z) H'
theorem op_catB {X : Cx} : OpR X (binaryOp .Add) (rCatB X.K) := by
  intro pins s σ H x y v u Q I rx ry h
  obtain ⟨a, b, xs, ys, rfl, rfl, hx, hy, hz, q⟩ := h
  refine op_catA pins s σ H _ _ v u Q I rx ry ⟨a, b, xs, ys, rfl, rfl, hx, hy, hz, fun e => ?_, fun _ e => ?_, fun _ _ p hp => q _ p (same_new hp _) (SqT.of upd_same)⟩
  · subst e
    exact q H b (Same.refl H) hy
  · subst e
    rw [List.append_nil] at q
    exact q H a (Same.refl H) hx
def rSlB (K : PySem.W.Frag) : V → Option Int → Option Int → Hp → VK → Prop := fun x lo hi H Q => ∃ a xs, x = .ref a ∧ SqT K H a xs ∧ ∀ H' z, Same H H' → SqT K H' z (cutV xs lo hi) → Q (.ref z) H'
theorem sl_tupB {X : Cx} : SlR X (rSlB X.K) := by
  intro pins s σ H x v vl vu lo hi sl Q I rx hs pl pu h
  obtain ⟨a, xs, rfl, hx, q⟩ := h
  refine sl_tupA pins s σ H _ v vl vu lo hi sl Q I rx hs pl pu ⟨a, xs, rfl, hx, fun e => ?_, fun _ p hp => q _ p (same_new hp _) (SqT.of upd_same)⟩
  have e2 : cutV xs lo hi = xs := by
    unfold cutV
    rw [e.1, e.2]
    exact List.take_length
  rw [e2] at q
  exact q H a (Same.refl H) hx
/-! ### all but the pail stands -/
def Bar (p : Addr) (H H' : Hp) : Prop := ∀ b o, b ≠ p → H b = some o → H' b = some o
theorem Bar.trans {p : Addr} {A B C : Hp} (a : Bar p A B) (b : Bar p B C) : Bar p A C := fun c o n h => b c o n (a c o n h)
theorem Bar.same {p : Addr} {A B : Hp} (a : Same A B) : Bar p A B := fun c o _ h => a c o h
theorem Bar.upd {p : Addr} {A : Hp} {o : HO} : Bar p A (upd A p o) := fun c u n h => by
  rw [upd_ne n]
  exact h
theorem passG {X : Cx} : Passes (CX X.prog X.w) X E0 := fun _ _ _ _ _ _ _ c => by
  obtain ⟨_, _, _, _, _, _, _, _, _, _, _, _, no⟩ := c
  exact no.elim
theorem nostop : NoStop K E0 := fun _ _ _ no => no.elim
theorem ref_get {rs : List Addr} {i : Nat} {x : V} (h : (rs.map V.ref)[i]? = some x) : ∃ a, rs[i]? = some a ∧ x = .ref a := by
  rw [List.getElem?_map] at h
  cases e : rs[i]? with
  | none =>
    rw [e] at h
    cases h
  | some n =>
    rw [e] at h
    exact ⟨n, rfl, (Option.some.inj h).symm⟩
end
section
variable {P : Program} {w : World} {K : PySem.W.Frag} {mg : Str → Option Value} {base : Heap}
/-! ### the law's own draws -/
abbrev pailO (g x c : Int) : HO := .lst [.int g, .int x, .int c]
theorem mpos {j : Int} (h : (0 : Int) < j) : (0 : Int) < j := h
theorem PE.weak {X : Cx} {e : Expr} {t t' : TE} (h : PE X e t) (i : ∀ σ H Q, t' σ H Q → t σ H Q) : PE X e t' := ⟨fun pins s σ H Q I h' => h.run pins s σ H Q I (i σ H Q h')⟩
end
end K60

namespace K60
open PySem PySem.Spec PyProof.Rows L2 RZ L5 XX LK M24 DT M38
section
variable {P : Program} {w : World} {K : PySem.W.Frag} {mg : Str → Option Value} {base : Heap}
def sp_pot (K : PySem.W.Frag) : Sp := fun vs H Q _ => ∃ (a : Addr) (ns : List Int) (k : Nat), vs = [.ref a, .int ((k : Nat) : Int)] ∧ SqL K H a (ns.map V.int) ∧ k < 1000 ∧ ∀ (H' : Hp) (r : Addr) (g x c : Int), Same H H' → H r = none → H' r = some (pailO g x c) → Q (.ref r) H'
theorem ok_pot (T : Txt K mg) : FnOk P w K mg base CX0 1 T.a_w_bowl T.d_w_bowl ["_law_script", "_law_spot"] (sp_pot K) := by
  refine T.F_w_bowl.ok sc_w_bowl (fun vs H Q E h => ?_) (fun cdv A outer s H vs Q E hr h => ?_)
  · obtain ⟨a, ns, k, rfl, _⟩ := h
    rfl
  · obtain ⟨a, ns, k, rfl, hS, hk, q⟩ := h
    refine ⟨_, (pss_cons (ps_set (i := 2) sc_w_bowl.nd rfl (Or.inl rfl) (PE.weak (t' := fun σ' H' Q' => σ' = start N_w_bowl [.ref a, .int ((k : Nat) : Int)] ∧ H' = H ∧ ∀ i : Int, Q' (.int i) H) (pe_ifExp (pt_cmpR op_lt (pv 1) (pe_callB call_len_seq (by rfl) T.z_len boot_len (pa_cons (pv 0) pa_nil)) (nomark _)) (pe_callTy call_int1 (by rfl) T.z_int boot_int (pa_cons (pe_ix ix_list (pv 0) (pv 1) (fun _ _ => rfl)) pa_nil)) (pe_op op_add (pe_op op_mul pe_int (pv 1)) pe_int)) ?imp))
      (pss_cons (ps_set (i := 3) sc_w_bowl.nd rfl (Or.inl rfl) (pe_op op_mod (pe_callB call_abs (by rfl) T.z_abs boot_abs (pa_cons (pv 2) pa_nil)) (pe_op op_powW (pe_op op_pow pe_int pe_int) pe_int)))
      (pss_cons (ps_set (i := 4) sc_w_bowl.nd rfl (Or.inl rfl) (pe_op op_mod (pe_callTy call_int1 (by rfl) T.z_int boot_int (pa_cons (pe_op op_add (pe_op op_add (pe_op op_add (pe_op op_mul (pv 3) pe_int) (pe_op op_mul pe_int (pv 1))) (pe_op op_mul pe_int (pe_callTy call_int1 (by rfl) T.z_int boot_int (pa_cons (pe_cmpR op_lt (pv 2) pe_int (nomark _)) pa_nil)))) pe_int) pa_nil)) pe_int))
      (pss_one (ps_ret (pe_lst (pa_cons (pe_callB (call_max2 rfl) (by rfl) T.z_max (by decide +kernel) (pa_cons pe_int (pa_cons (pe_op op_sub (pv 3) (pe_op op_pow pe_int pe_int)) pa_nil))) (pa_cons (pv 4) (pa_cons pe_int pa_nil))))))))), ?_⟩
    case imp =>
      rintro σ' H' Q' ⟨rfl, rfl, h⟩
      refine ⟨_, rfl, _, rfl, a, _, rfl, .inl hS, _, _, rfl, rfl, _, rfl, ite2 (fun c => ?_) (fun c => ?_)⟩
      · have c' := of_decide_eq_true c
        rw [List.length_map] at c'
        have hlt : k < ns.length := by omega
        refine ⟨_, rfl, _, rfl, a, _, _, .int ns[k], rfl, rfl, hS, atI_nat (by rw [List.getElem?_map, List.getElem?_eq_getElem hlt] <;> rfl), .inl ⟨_, rfl, ?_⟩⟩
        exact h _
      · exact ⟨_, rfl, _, _, rfl, rfl, .inl ⟨by decide, by decide⟩, _, _, rfl, rfl, h _⟩
    refine ⟨rfl, rfl, fun cell => ?_⟩
    refine ⟨_, rfl, _, rfl, _, _, rfl, rfl, ⟨by decide, by decide, by decide⟩, _, _, rfl, rfl, ⟨by decide, by decide +kernel⟩, _, _, rfl, rfl, Int.pow_pos (Int.pow_pos (by decide)), ?_⟩
    refine ⟨_, rfl, _, _, rfl, rfl, .inr ⟨by decide, by decide⟩, _, rfl, _, _, rfl, rfl, .inl ⟨by decide, by decide⟩, _, _, rfl, rfl, _, rfl, _, _, rfl, rfl, .inr ⟨_, rfl, _, _, rfl, rfl, .inl ⟨by decide, by decide⟩, _, _, rfl, rfl, _, _, rfl, rfl, .inl ⟨_, rfl, _, _, rfl, rfl, mpos (by decide), ?_⟩⟩⟩
    refine ⟨_, rfl, _, _, rfl, rfl, ⟨by decide, by decide, by decide⟩, _, _, rfl, rfl, _, _, rfl, _, rfl, ?_⟩
    refine ⟨by show 3 ≤ sizeLine; decide, fun z hz => ?_⟩
    exact q _ z _ _ _ (same_new hz _) hz upd_same
abbrev rDip (H : Hp) (p : Addr) (m : Int) (Q : VK) : Prop := ∀ g x c r : Int, 0 ≤ r → r < m → Q (.int r) (upd H p (pailO g x c))
def sp_dip : Sp := fun vs H Q _ => ∃ (p : Addr) (m g x c : Int), vs = [.ref p, .int m] ∧ H p = some (pailO g x c) ∧ 0 < m ∧ m.natAbs.log2 < 9000 ∧ rDip H p m Q
theorem ok_dip (T : Txt K mg) : FnOk P w K mg base CX0 1 T.a_w_dip T.d_w_dip ["_law_bowl_here", "_law_total"] sp_dip := by
  refine T.F_w_dip.ok sc_w_dip (fun vs H Q E h => ?_) (fun cdv A outer s H vs Q E hr h => ?_)
  · obtain ⟨p, m, g, x, c, rfl, _⟩ := h
    rfl
  · obtain ⟨p, m, g, x, c, rfl, hp, h0, h1, q⟩ := h
    refine ⟨_, (pss_cons (ps_if (pt_cmpR op_gt (pe_ix ix_list (pv 0) pe_int (fun _ _ => rfl)) pe_int (nomark _)) (pss_cons (ps_set (i := 2) sc_w_dip.nd rfl (Or.inl rfl) (pe_op op_mod (pe_callTy call_int1 (by rfl) T.z_int boot_int (pa_cons (pe_ix ix_list (pv 0) pe_int (fun _ _ => rfl)) pa_nil)) (pv 1)))
      (pss_cons (ps_asg (pe_op op_fdivW (pe_ix ix_list (pv 0) pe_int (fun _ _ => rfl)) (pv 1)) (pg_sub (pv 0) pe_int set_list))
      (pss_one (ps_ret (pv 2))))) pss_nil)
      (pss_cons (ps_asg (pe_op op_add (pe_ix ix_list (pv 0) pe_int (fun _ _ => rfl)) pe_int) (pg_sub (pv 0) pe_int set_list))
      (pss_cons (ps_set (i := 3) sc_w_dip.nd rfl (Or.inl rfl) (pe_op op_mod (pe_callTy call_int1 (by rfl) T.z_int boot_int (pa_cons (pe_op op_add (pe_op op_add (pe_op op_mul (pe_ix ix_list (pv 0) pe_int (fun _ _ => rfl)) pe_int) (pe_op op_mul (pe_ix ix_list (pv 0) pe_int (fun _ _ => rfl)) pe_int)) pe_int) pa_nil)) pe_int))
      (pss_cons (ps_set (i := 4) sc_w_dip.nd rfl (Or.inl rfl) (pe_op op_mod (pe_callTy call_int1 (by rfl) T.z_int boot_int (pa_cons (pe_op op_add (pe_op op_mul (pv 3) (pv 3)) (pe_op op_mul pe_int (pe_ix ix_list (pv 0) pe_int (fun _ _ => rfl)))) pa_nil)) pe_int))
      (pss_one (ps_ret (pe_op op_mod (pe_callTy call_int1 (by rfl) T.z_int boot_int (pa_cons (pe_op op_fdiv (pe_op op_mod (pe_callTy call_int1 (by rfl) T.z_int boot_int (pa_cons (pe_op op_add (pe_op op_mul (pv 4) pe_int) (pv 3)) pa_nil)) pe_int) pe_int) pa_nil)) (pv 1)))))))), ?_⟩
    have a0 : atI [V.int g, V.int x, V.int c] (0 : Int) = some (.int g) := rfl
    refine ⟨_, rfl, p, _, _, _, rfl, rfl, SqL.of hp, a0, _, _, rfl, rfl, _, rfl, ite2 (fun d => ?_) (fun d => ?_)⟩
    · refine ⟨_, rfl, p, _, _, _, rfl, rfl, SqL.of hp, a0, .inl ⟨_, rfl, _, rfl, _, _, rfl, rfl, h0, ?_⟩⟩
      refine ⟨_, rfl, p, _, _, _, rfl, rfl, SqL.of hp, a0, _, rfl, _, _, rfl, rfl, ⟨h0, h1⟩, ?_⟩
      refine ⟨_, rfl, p, _, _, 0, rfl, rfl, hp, rfl, ?_⟩
      exact ⟨_, rfl, q _ _ _ _ (Int.emod_nonneg _ (by omega)) (Int.emod_lt_of_pos _ h0)⟩
    · have a2 : atI [V.int g, V.int x, V.int c] (2 : Int) = some (.int c) := rfl
      refine ⟨_, rfl, p, _, _, _, rfl, rfl, SqL.of hp, a2, _, _, rfl, rfl, _, rfl, p, _, _, 2, rfl, rfl, hp, rfl, ?_⟩
      have hp' : (upd H p (.lst [V.int g, V.int x, V.int (c + 1)])) p = some (.lst [V.int g, V.int x, V.int (c + 1)]) := upd_same
      have b1 : atI [V.int g, V.int x, V.int (c + 1)] (1 : Int) = some (.int x) := rfl
      have b2 : atI [V.int g, V.int x, V.int (c + 1)] (2 : Int) = some (.int (c + 1)) := rfl
      refine ⟨_, rfl, p, _, _, _, rfl, rfl, SqL.of hp', b1, _, _, rfl, rfl, .inr ⟨by decide, by decide⟩, _, rfl, p, _, _, _, rfl, rfl, SqL.of hp', b2, _, _, rfl, rfl, .inr ⟨by decide, by decide⟩, _, _, rfl, rfl, _, _, rfl, rfl, .inl ⟨_, rfl, _, _, rfl, rfl, mpos (by decide), ?_⟩⟩
      have r0 := Int.emod_nonneg (x * 67867967 + (c + 1) * 49979687 + 401) (show (2305843009213693951 : Int) ≠ 0 by decide)
      have r1 := Int.emod_lt_of_pos (x * 67867967 + (c + 1) * 49979687 + 401) (show (0 : Int) < 2305843009213693951 by decide)
      generalize (x * 67867967 + (c + 1) * 49979687 + 401) % 2305843009213693951 = one at r0 r1 ⊢
      refine ⟨_, rfl, _, rfl, _, _, rfl, rfl, .inl ⟨by omega, by omega⟩, _, rfl, p, _, _, _, rfl, rfl, SqL.of hp', b2, _, _, rfl, rfl, .inl ⟨by decide, by decide⟩, _, _, rfl, rfl, .inl ⟨_, rfl, _, _, rfl, rfl, mpos (by decide), ?_⟩⟩
      generalize (one * one + 86028121 * (c + 1)) % 2305843009213693921 = two
      refine ⟨_, rfl, _, _, rfl, rfl, .inr ⟨by decide, by decide⟩, _, rfl, _, _, rfl, rfl, .inl ⟨_, rfl, _, _, rfl, rfl, mpos (by decide), _, _, rfl, rfl, ⟨by decide, by decide⟩, .inl ⟨_, rfl, _, rfl, _, _, rfl, rfl, h0, ?_⟩⟩⟩
      exact q _ _ _ _ (Int.emod_nonneg _ (by omega)) (Int.emod_lt_of_pos _ h0)
end
theorem log_le {n : Nat} (h : n < 2 ^ 100) : n.log2 < 9000 := by
  by_cases e : n = 0
  · subst e
    decide
  · exact Nat.lt_of_lt_of_le ((Nat.log2_lt e).mpr h) (by decide)
end K60

namespace K60
open PySem PySem.Spec PyProof.Rows L2 RZ L5 XX LK M24 DT M38
section
variable {P : Program} {w : World} {K : PySem.W.Frag} {mg : Str → Option Value} {base : Heap}
/-! ### a comprehension over zip of two tuples of one length -/
/-! ### tuple rules whose answer is told alike in all cases -/
/-! ### all but the pail stands -/
end
section
variable {P : Program} {w : World} {K : PySem.W.Frag} {mg : Str → Option Value} {base : Heap}
/-! ### the law's own draws -/
def sp_some (K : PySem.W.Frag) : Sp := fun vs H Q _ => ∃ (p a : Addr) (xs : List V) (g x c : Int), vs = [.ref p, .ref a] ∧ H p = some (pailO g x c) ∧ a ≠ p ∧ SqL K H a xs ∧ xs ≠ [] ∧ xs.length ≤ 1000 ∧ ∀ g x c v, v ∈ xs → Q v (upd H p (pailO g x c))
theorem ok_some (T : Txt K mg) : FnOk P w K mg base CX0 2 T.a_w_pick T.d_w_pick ["_law_bowl_here", "_law_items"] (sp_some K) := by
  refine T.F_w_pick.ok sc_w_pick (fun vs H Q E h => ?_) (fun cdv A outer s H vs Q E hr h => ?_)
  · obtain ⟨p, a, xs, g, x, c, rfl, _⟩ := h
    rfl
  · obtain ⟨p, a, xs, g, x, c, rfl, hp, hne, hS, hn, hz, q⟩ := h
    refine ⟨_, pss_one (ps_ret (pe_ix ix_list (pv 1) (pe_call (ok_dip T) hr (by rfl) T.m_w_dip T.F_w_dip.kp T.b_w_dip .nil pass0 (pa_cons (pv 0) (pa_cons (pe_callB call_len_seq (by rfl) T.z_len boot_len (pa_cons (pv 1) pa_nil)) pa_nil))) (fun _ _ => rfl))), ?_⟩
    have hpos : 0 < xs.length := List.length_pos_iff.mpr hn
    refine ⟨_, rfl, _, rfl, _, rfl, a, _, rfl, .inl hS, p, _, g, x, c, rfl, hp, by omega, log_le (Nat.lt_of_le_of_lt (show ((xs.length : Nat) : Int).natAbs ≤ 1000 by omega) (by decide)), fun g' x' c' r h0 h1 => ?_⟩
    have hlt : r.toNat < xs.length := by omega
    refine ⟨a, xs, r, xs[r.toNat], rfl, rfl, sql_updL hne hS, ?_, q _ _ _ _ (List.getElem_mem hlt)⟩
    have := atI_nat (xs := xs) (List.getElem?_eq_getElem hlt)
    rw [show ((r.toNat : Nat) : Int) = r by omega] at this
    exact this
end
end K60

namespace K60
open PySem PySem.Spec PyProof.Rows L2 RZ L5 XX LK M24 DT M38
section
variable {P : Program} {w : World} {K : PySem.W.Frag} {mg : Str → Option Value} {base : Heap}
abbrev BIG : Int := 1000000000000000000000000000000000000000000000000000000000000
def sp_passed : Sp := fun vs H Q _ => ∃ i : Int, vs = [.int i] ∧ -BIG < i ∧ i < BIG ∧ Q (.bl true) H
theorem ok_passed (T : Txt K mg) : FnOk P w K mg base CX0 2 T.a_is_passed T.d_is_passed ["value"] sp_passed := by
  refine T.F_is_passed.ok sc_is_passed (fun vs H Q E h => ?_) (fun cdv A outer s H vs Q E hr h => ?_)
  · obtain ⟨i, rfl, _⟩ := h
    rfl
  · obtain ⟨i, rfl, h1, h2, q⟩ := h
    refine ⟨_, (pss_one (ps_ret (pe_and (pe_call  (ok_num T) (hr.mono (by decide)) (by rfl) T.m_is_number T.F_is_number.kp T.b_is_number .nil pass0 (pa_cons (pv 0) pa_nil)) (pe_one (pe_chain op_lt op_lt (pe_un un_neg (pe_glob (v := .int 1000000000000000000000000000000000000000000000000000000000000) rfl T.c_BEYOND_DIGITS ⟨_, rfl⟩)) (pv 0) (pe_glob (v := .int 1000000000000000000000000000000000000000000000000000000000000) rfl T.c_BEYOND_DIGITS ⟨_, rfl⟩)))))), ?_⟩
    refine ⟨_, rfl, .int i, some i, rfl, .int i, true, rfl, iteT ?_⟩
    refine ⟨_, rfl, _, rfl, _, _, rfl, rfl, _, rfl, ?_⟩
    rw [decide_eq_true h1]
    refine iteT ⟨_, _, rfl, rfl, ?_⟩
    have e : decide (i < BIG) = true := decide_eq_true h2
    show Q (V.bl (decide (i < BIG))) H
    rw [e]
    exact q
theorem ok_checkp (T : Txt K mg) : FnOk P w K mg base CX0 3 T.a_check_passed T.d_check_passed ["value"] (fun vs H Q _ => ∃ i : Int, vs = [.int i] ∧ -BIG < i ∧ i < BIG ∧ Q .non H) := by
  refine T.F_check_passed.ok sc_check_passed (fun vs H Q E h => ?_) (fun cdv A outer s H vs Q E hr h => ?_)
  · obtain ⟨i, rfl, _⟩ := h
    rfl
  · obtain ⟨i, rfl, h1, h2, q⟩ := h
    refine ⟨_, (pss_one (ps_if (pt_not (pt_val (pe_call  (ok_passed T) (hr.mono (by decide)) (by rfl) T.m_is_passed T.F_is_passed.kp T.b_is_passed .nil pass0 (pa_cons (pv 0) pa_nil)))) (pss_one ps_never) pss_nil)), ?_⟩
    exact ⟨_, rfl, i, rfl, h1, h2, true, rfl, iteF q⟩
theorem ok_checkb (T : Txt K mg) : FnOk P w K mg base CX0 3 T.a_check_bottom T.d_check_bottom ["value"] (fun vs H Q _ => ∃ i : Int, vs = [.int i] ∧ -BIG < i ∧ i < BIG ∧ i ≠ 0 ∧ Q .non H) := by
  refine T.F_check_bottom.ok sc_check_bottom (fun vs H Q E h => ?_) (fun cdv A outer s H vs Q E hr h => ?_)
  · obtain ⟨i, rfl, _⟩ := h
    rfl
  · obtain ⟨i, rfl, h1, h2, h0, q⟩ := h
    refine ⟨_, (pss_one (ps_if (PW.pt (pw_or (pt_not (pt_val (pe_call  (ok_passed T) (hr.mono (by decide)) (by rfl) T.m_is_passed T.F_is_passed.kp T.b_is_passed .nil pass0 (pa_cons (pv 0) pa_nil)))) (pw_or1 (pt_cmpR op_eq (pv 0) pe_int (nomark _))))) (pss_one ps_never) pss_nil)), ?_⟩
    refine ⟨_, rfl, i, rfl, h1, h2, true, rfl, iteF ⟨_, rfl, rfl, _, rfl, ?_⟩⟩
    rw [decide_eq_false (show ¬ (V.int i = V.int 0) from fun z => h0 (by cases z; rfl))]
    exact iteF q
/-- the common divisor of some integers -/
def gI (g : Nat) (ns : List Int) : Nat := ns.foldl (fun a x => Nat.gcd a x.natAbs) g
theorem ok_gdiv (T : Txt K mg) : FnOk P w K mg base CX0 1 T.a_greatest_divisor T.d_greatest_divisor ["numbers"] (fun vs H Q _ => ∃ (a : Addr) (ns : List Int), vs = [.ref a] ∧ SqL K H a (ns.map V.int) ∧ Q (.int ((gI 0 ns : Nat) : Int)) H) := by
  refine T.F_greatest_divisor.ok sc_greatest_divisor (fun vs H Q E h => ?_) (fun cdv A outer s H vs Q E hr h => ?_)
  · obtain ⟨a, ns, rfl, _⟩ := h
    rfl
  · obtain ⟨a, ns, rfl, hS, q⟩ := h
    refine ⟨_, (pss_cons (ps_set (i := 1) sc_greatest_divisor.nd rfl (Or.inl rfl) pe_int)
      (pss_cons (ps_for PassesOwn.never rfl (pi_list (pv 0)) (pg_name (i := 2) sc_greatest_divisor.nd rfl (Or.inl rfl))
      (pss_one (ps_set (i := 1) sc_greatest_divisor.nd rfl (Or.inl rfl) (pe_callBfun cr_gcd (by rfl) T.z_gcd (pa_cons (pv 1) (pa_cons (pv 2) pa_nil))))))
      (pss_one (ps_ret (pv 1))))), ?_⟩
    refine ⟨_, rfl, a, rfl, ⟨_, hS⟩, ?_⟩
    refine for_list (K := K) (a := a) (xs := ns.map V.int) (fun i σ H' => ∃ v2 : Option V, σ = [some (.ref a), some (.int ((gI 0 (ns.take i) : Nat) : Int)), v2] ∧ H' = H) ⟨none, rfl, rfl⟩ (fun i σ H' _ ⟨_, _, e⟩ => e ▸ hS) (fun i x σ H' hi hh => ?_) (fun σ H' hh => ?_)
    · obtain ⟨v2, rfl, rfl⟩ := hh
      rw [List.getElem?_map] at hi
      obtain ⟨n, hn⟩ : ∃ n, ns[i]? = some n := by
        cases h : ns[i]? with
        | none => rw [h] at hi; cases hi
        | some n => exact ⟨n, rfl⟩
      rw [hn] at hi
      obtain rfl : V.int n = x := Option.some.inj hi
      refine ⟨_, rfl, _, rfl, _, _, rfl, ?_⟩
      refine ⟨some (V.int n), ?_, rfl⟩
      rw [take_more hn]
      unfold gI
      rw [List.foldl_append]
      rfl
    · obtain ⟨v2, rfl, rfl⟩ := hh
      rw [List.length_map, List.take_length]
      exact ⟨_, rfl, q⟩
end
end K60

namespace K60
open PySem PySem.Spec PyProof.Rows L2 RZ L5 XX LK M24 DT M38
theorem hu_of {k : Nat} {A : Around} (hr : Room k A) : A.units + 1 < cLine := by have := hr.un; omega
theorem log_of {n : Nat} (h : n < 2 ^ 4000) : n.log2 < 9000 := by
  by_cases e : n = 0
  · subst e
    decide
  · exact Nat.lt_of_lt_of_le ((Nat.log2_lt e).mpr h) (by decide)
/-! ### the dicts of tables -/
def kI (L : Ent) : List (List Key × Int) := L.map fun p => (tK p.1, p.2)
abbrev iT (L : Ent) : List (List Key × V) := iD (kI L)
theorem keys_iT (L : Ent) : KeysL (iT L) (keys L) := by
  unfold KeysL iT iD kI keys
  rw [List.map_map, List.map_map, List.map_map]
  rfl
theorem len_iT (L : Ent) : (iT L).length = L.length := by
  unfold iT iD kI
  rw [List.length_map, List.length_map]
theorem val_iT (t : List Nat) : ∀ L : Ent, valV (iT L) (tK t) = if t ∈ keys L then some (V.int (ev L t)) else none
  | [] => rfl
  | p :: L => by
    have ih := val_iT t L
    by_cases e : p.1 = t
    · rw [if_pos (by rw [keys, List.map_cons, e]; exact List.mem_cons_self), ev, if_pos e]
      exact valV_pos (p := (tK p.1, V.int p.2)) (by rw [e])
    · have e' : ¬ tK p.1 = tK t := fun z => e (tK_inj z)
      rw [show iT (p :: L) = (tK p.1, V.int p.2) :: iT L from rfl, valV_neg (p := (tK p.1, V.int p.2)) e', ih, ev, if_neg e]
      have : t ∈ keys (p :: L) ↔ t ∈ keys L := by
        rw [keys, List.map_cons, List.mem_cons]
        exact ⟨fun h => h.resolve_left fun z => e z.symm, .inr⟩
      by_cases h : t ∈ keys L
      · rw [if_pos h, if_pos (this.mpr h)]
      · rw [if_neg h, if_neg (fun z => h (this.mp z))]
theorem nv_key {H : Hp} {b : Addr} {t : List Nat} (h : H b = some (.tup (nv t))) : H b = some (.tup ((tK t).map kV)) := by rw [tK_kV]; exact h
theorem key_nv {H : Hp} {b : Addr} {t : List Nat} (h : H b = some (.tup ((tK t).map kV))) : H b = some (.tup (nv t)) := by rw [tK_kV] at h; exact h
theorem get_iT {H : Hp} {a b : Addr} {L : Ent} {t : List Nat} (h : Rd H a (.dT (iT L))) (hb : H b = some (.tup (nv t))) (ht : t ∈ keys L) : DGet H a (.ref b) (some (V.int (ev L t))) :=
  .inr ⟨_, tK t, b, h, rfl, nv_key hb, by rw [val_iT, if_pos ht]⟩
theorem get_iTd {H : Hp} {a b : Addr} {L : Ent} {t : List Nat} (h : Rd H a (.dT (iT L))) (hb : H b = some (.tup (nv t))) : DGet H a (.ref b) (if t ∈ keys L then some (V.int (ev L t)) else none) :=
  .inr ⟨_, tK t, b, h, rfl, nv_key hb, (val_iT t L).symm⟩
/-- a locked dict, unlocked again -/
theorem unlock {H H' : Hp} {d : Addr} {u : HO} {od : Obj} (hd : H d = some u) (s : Same (upd H d (.frz od u)) H') : Same H (upd H' d u) := fun b o h => by
  by_cases e : b = d
  · rw [e, hd] at h
    rw [e, upd_same]
    exact h
  · rw [upd_ne e]
    exact s b o (by rw [upd_ne e]; exact h)
def Plc (t : List Nat) : Prop := ∃ s d : Nat, t = [s, d] ∧ s ≤ 8 ∧ d ≤ 480
theorem at_step {L : Ent} {i : Nat} {k : List Key} {v : V} (h : (iT L)[i]? = some (k, v)) : ∃ p, L[i]? = some p ∧ k = tK p.1 ∧ v = V.int p.2 := by
  unfold iT iD kI at h
  rw [List.getElem?_map, List.getElem?_map] at h
  cases e : L[i]? with
  | none => rw [e] at h; cases h
  | some p =>
    rw [e] at h
    have := Option.some.inj h
    exact ⟨p, rfl, (congrArg Prod.fst this).symm, (congrArg Prod.snd this).symm⟩
theorem mem_keys {L : Ent} {i : Nat} {p : List Nat × Int} (h : L[i]? = some p) : p.1 ∈ keys L := List.mem_map_of_mem (List.mem_of_getElem? h)
section
variable {P : Program} {w : World} {K : PySem.W.Frag} {mg : Str → Option Value} {base : Heap}
theorem ok_lpair (T : Txt K mg) : FnOk P w K mg base CX0 1 T.a_lowest_pair T.d_lowest_pair ["top", "bottom"] (fun vs H Q _ => ∃ a b : Int, vs = [.int a, .int b] ∧ 0 < b ∧ b.natAbs < 2 ^ 4000 ∧
    ∀ H' z, Same H H' → H' z = some (.tup [.int (a / ((Nat.gcd a.natAbs b.natAbs : Nat) : Int)), .int (b / ((Nat.gcd a.natAbs b.natAbs : Nat) : Int))]) → Q (.ref z) H') := by
  refine T.F_lowest_pair.ok sc_lowest_pair (fun vs H Q E h => ?_) (fun cdv A outer s H vs Q E hr h => ?_)
  · obtain ⟨a, b, rfl, _⟩ := h
    rfl
  · obtain ⟨a, b, rfl, hb, hl, q⟩ := h
    refine ⟨_, (pss_cons (ps_set (i := 2) sc_lowest_pair.nd rfl (Or.inl rfl) (pe_callBfun cr_gcd (by rfl) T.z_gcd (pa_cons (pv 0) (pa_cons (pv 1) pa_nil))))
      (pss_one (ps_ret (pe_tup (pa_cons (pe_op op_fdivW (pv 0) (pv 2)) (pa_cons (pe_op op_fdivW (pv 1) (pv 2)) pa_nil)))))), ?_⟩
    have gp : 0 < Nat.gcd a.natAbs b.natAbs := Nat.gcd_pos_of_pos_right _ (by omega)
    have gl : Nat.gcd a.natAbs b.natAbs ≤ b.natAbs := Nat.gcd_le_right _ (by omega)
    have ok : CDivW a ((Nat.gcd a.natAbs b.natAbs : Nat) : Int) := ⟨by omega, log_of (by rw [Int.natAbs_natCast]; omega)⟩
    refine ⟨_, rfl, _, rfl, a, b, rfl, _, rfl, _, rfl, _, _, rfl, rfl, ok, _, rfl, _, rfl, _, _, rfl, rfl, ok, by show 2 ≤ sizeLine; decide, fun z hz => ?_⟩
    exact q _ z (same_new hz _) upd_same
theorem ok_place (T : Txt K mg) : FnOk P w K mg base CX0 3 T.a_is_place T.d_is_place ["value"] (fun vs H Q _ => ∃ (b : Addr) (t : List Nat), vs = [.ref b] ∧ H b = some (.tup (nv t)) ∧ Plc t ∧ Q (.bl true) H) := by
  refine T.F_is_place.ok sc_is_place (fun vs H Q E h => ?_) (fun cdv A outer s H vs Q E hr h => ?_)
  · obtain ⟨b, t, rfl, _⟩ := h
    rfl
  · obtain ⟨b, t, rfl, hb, ⟨s, d, rfl, hs, hd⟩, q⟩ := h
    refine ⟨_, (pss_cons (ps_if (PW.pt (pw_or (pt_not (pt_val (pe_callB call_isi (by rfl) T.z_isinstance boot_isinstance (pa_cons (pv 0) (pa_cons (pe_bltn (v := .ty "tuple") (by rfl) T.z_tuple boot_tuple rfl) pa_nil))))) (pw_or1 (pt_cmpR op_ne (pe_callB call_len_seq (by rfl) T.z_len boot_len (pa_cons (pv 0) pa_nil)) pe_int (nomark _))))) (pss_one (ps_ret pe_bl)) pss_nil)
      (pss_one (ps_ret (pe_and (pe_call  (ok_within T) (hr.mono (by decide)) (by rfl) T.m_is_within T.F_is_within.kp T.b_is_within .nil pass0 (pa_cons (pe_ix ix_tup (pv 0) pe_int (fun _ _ => rfl)) (pa_cons pe_int (pa_cons (pe_glob (v := .int 8) rfl T.c_MAX_STEP_tables ⟨_, rfl⟩) pa_nil)))) (pe_one (pe_call  (ok_within T) (hr.mono (by decide)) (by rfl) T.m_is_within T.F_is_within.kp T.b_is_within .nil pass0 (pa_cons (pe_ix ix_tup (pv 0) pe_int (fun _ _ => rfl)) (pa_cons pe_int (pa_cons (pe_glob (v := .int 480) rfl T.c_MAX_PLACE_tables ⟨_, rfl⟩) pa_nil))))))))), ?_⟩
    refine ⟨_, rfl, _, _, _, _, true, rfl, .ty _, .base (.tup hb), kit_ty (by decide +kernel), true, rfl, iteF ?_⟩
    refine ⟨_, rfl, b, _, rfl, .inr (SqT.of hb), rfl, _, rfl, ?_⟩
    rw [nv_len]
    refine iteF ?_
    refine ⟨_, rfl, b, _, _, .int ((s : Nat) : Int), rfl, rfl, SqT.of hb, rfl, _, some ((s : Nat) : Int), 0, 8, rfl, .int _, true, ?_, iteT ?_⟩
    · refine congrArg V.bl ?_
      show (decide ((0 : Int) ≤ ((s : Nat) : Int)) && decide (((s : Nat) : Int) ≤ 8)) = true
      rw [decide_eq_true (by omega), decide_eq_true (by omega)]
      rfl
    refine ⟨_, rfl, b, _, _, .int ((d : Nat) : Int), rfl, rfl, SqT.of hb, rfl, _, some ((d : Nat) : Int), 0, 480, rfl, .int _, ?_⟩
    have e : inB (some ((d : Nat) : Int)) 0 480 = true := by
      show (decide ((0 : Int) ≤ ((d : Nat) : Int)) && decide (((d : Nat) : Int) ≤ 480)) = true
      rw [decide_eq_true (by omega), decide_eq_true (by omega)]
      rfl
    rw [e]
    exact q
end
section
variable {P : Program} {w : World} {K : PySem.W.Frag} {mg : Str → Option Value} {base : Heap}
structure EntOk (L : Ent) : Prop where
  nd : (keys L).Nodup
  plc : ∀ p ∈ L, Plc p.1
  few : L.length ≤ 4400
def Bd (L : Ent) (B : Int) : Prop := ∀ p ∈ L, -B < p.2 ∧ p.2 < B
theorem ok_entries (T : Txt K mg) : FnOk P w K mg base CX0 4 T.a_is_entries T.d_is_entries ["value"] (fun vs H Q _ => ∃ (d : Addr) (L : Ent), vs = [.ref d] ∧ H d = some (.dT (iT L)) ∧ EntOk L ∧ Bd L BIG ∧ ∀ H', Same H H' → Q (.bl true) H') := by
  refine T.F_is_entries.ok sc_is_entries (fun vs H Q E h => ?_) (fun cdv A outer s H vs Q E hr h => ?_)
  · obtain ⟨d, L, rfl, _⟩ := h
    rfl
  · obtain ⟨d, L, rfl, hd, ok, bd, q⟩ := h
    refine ⟨_, (pss_one (ps_ret (pe_and (pe_callB call_isi (by rfl) T.z_isinstance boot_isinstance (pa_cons (pv 0) (pa_cons (pe_bltn (v := .ty "dict") (by rfl) T.z_dict boot_dict rfl) pa_nil))) (pe_one (pe_lock (pe_callB (cr_all rfl) (by rfl) T.z_all (by decide +kernel) (pa_cons (pe_lc (own := [("place", 1)]) (g := gName 1) (tt := tYes) rfl sc_is_entries.nd (pi_keys (pv 0)) (blkOk_by (own := [("place", 1)]) (N := N_is_entries) (sc := defScope s_is_entries) (by decide +kernel)) (fun _ _ _ _ _ => (pg_name (i := 1) sc_is_entries.nd rfl (Or.inl rfl))) (fun _ _ _ _ _ => pts_nil) (fun _ _ _ _ _ => (pe_and (pe_call  (ok_place T) (hr.mono (by decide)) (by rfl) T.m_is_place T.F_is_place.kp T.b_is_place .nil pass0 (pa_cons (pv 1) pa_nil)) (pe_one (pe_call  (ok_passed T) (hr.mono (by decide)) (by rfl) T.m_is_passed T.F_is_passed.kp T.b_is_passed .nil pass0 (pa_cons (pe_dget (hu_of hr) (pv 0) (pv 1) (fun _ _ => rfl)) pa_nil)))))) pa_nil))))))), ?_⟩
    refine ⟨_, rfl, _, _, _, _, true, rfl, .ty _, .base (.dT hd), kit_ty (by decide +kernel), true, rfl, iteT ?_⟩
    refine ⟨d, _, hd, trivial, fun od => ?_⟩
    have hfz : (upd H d (.frz od (.dT (iT L)))) d = some (.frz od (.dT (iT L))) := upd_same
    have back : ∀ H', Same (upd H d (.frz od (.dT (iT L)))) H' → Same H (upd H' d (.dT (iT L))) := fun H' s => unlock hd s
    generalize (upd H d (.frz od (.dT (iT L)))) = H1 at hfz back ⊢
    refine ⟨_, rfl, d, od, rfl, .inr ⟨_, hfz, fun D hD => ?_⟩⟩
    have sD := same_new hD (.lst [])
    have few := ok.few
    refine lc_it (walk_keysT (d := d) (o := od) (kvs := iT L)) (fun i H' => Same H1 H' ∧ H' D = some (.lst ((List.replicate i true).map V.bl))) ⟨sD, upd_same⟩ (fun i H' _ hh => hh.1 _ _ hfz) ?_ ?_
    · rintro i x Hx H3 hi ⟨s3, eD⟩ ⟨e4, k, v, r, hx, rfl, hq⟩
      subst e4
      obtain ⟨p, hp, rfl, rfl⟩ := at_step hx
      have hq' := key_nv hq
      have mp := List.mem_of_getElem? hp
      have fz3 := s3 _ _ hfz
      have ilt : i < L.length := (List.getElem?_eq_some_iff.mp hp).1
      refine ⟨rfl, _, rfl, r, p.1, rfl, hq', ok.plc p mp, true, rfl, iteT ⟨_, rfl, _, rfl, d, _, rfl, get_iT (.inr ⟨od, fz3⟩) hq' (mem_keys hp), _, rfl, ?_⟩⟩
      have b := bd p mp
      rw [ev_mem ok.nd mp]
      refine ⟨b.1, b.2, ?_⟩
      refine ⟨_, eD, by rw [List.length_map, List.length_replicate]; exact sizeK (by omega), same_updL s3 hD, ?_⟩
      rw [upd_same, List.replicate_succ', List.map_append]
      rfl
    · rintro H3 ⟨s3, eD⟩
      refine ⟨D, _, rfl, SqL.of eD, s3 _ _ hfz, ?_⟩
      have e : (List.replicate (iT L).length true).all id = true := by simp
      rw [e]
      exact q _ (back H3 s3)
end
end K60

namespace K60
open PySem PySem.Spec PyProof.Rows L2 RZ L5 XX LK M24 DT M38
/-! ### lowest terms, by the program -/
theorem snocU {H H' : Hp} {D : Addr} {rs : List Addr} {L : List (List Nat)} {a : Addr} {t : List Nat} {acc : List V} (s : Same H H') (eD : H' D = some (.lst acc)) (h : TupsU H' rs L) (ha : H' a = some (.tup (nv t))) :
    TupsU (upd H' D (.lst ((rs ++ [a]).map V.ref))) (rs ++ [a]) (L ++ [t]) := by
  have nT : ∀ {b : Addr} {xs : List V}, H' b = some (.tup xs) → b ≠ D := fun {b xs} e z => by
    rw [z, eD] at e
    cases e
  refine TupsU.app (h.mono fun b xs e => by rw [upd_ne (nT e)]; exact e) (.cons ?_ .nil)
  rw [upd_ne (nT ha)]
  exact ha
theorem op_fdivNW {X : Cx} : OpR X (binaryOp .FloorDiv) (rI (fun _ j => j ≠ 0 ∧ j.natAbs.log2 < 9000) fun i j => .int (i.fdiv j)) := opI fun _ _ _ _ _ _ _ hc q => floordiv_int hc.1 q (.inl (PyProof.noPylong_of_log2 hc.2))
theorem gI_gN : ∀ (L : Ent) (g : Nat), gI g (L.map (·.2)) = gN g L
  | [], _ => rfl
  | p :: L, g => gI_gN L (Nat.gcd g p.2.natAbs)
theorem gI_all (L : Ent) (b : Int) : gI 0 (b :: L.map (·.2)) = gN b.natAbs L := by
  show gI (Nat.gcd 0 b.natAbs) (L.map (·.2)) = _
  rw [Nat.gcd_zero_left, gI_gN]
theorem vals_iT (L : Ent) : (iT L).map (·.2) = (L.map (·.2)).map V.int := by
  unfold iT iD kI
  rw [List.map_map, List.map_map, List.map_map]
  rfl
theorem put_iT {M : Ent} {t : List Nat} (v : Int) (h : t ∉ keys M) : putK (iT M) (tK t) (V.int v) = iT (M ++ [(t, v)]) := by
  have hv := val_iT t M
  rw [if_neg h] at hv
  unfold putK
  rw [valV_any, hv, if_neg (by simp)]
  unfold iT iD kI
  rw [List.map_append, List.map_append]
  rfl
structure EntN (L : Ent) : Prop where
  nd : (keys L).Nodup
  ne : ∀ t ∈ keys L, t ≠ []
  few : L.length ≤ 4400
theorem kept_few {L : Ent} (h : EntN L) : (kept L).length ≤ 4400 := by
  have h1 := List.length_filter_le (fun t => decide (ev L t ≠ 0)) (srt encT (keys L))
  have h2 := (srt_perm encT (keys L)).length_eq
  unfold keys at h2
  rw [List.length_map] at h2
  have := h.few
  show ((srt encT (keys L)).filter _).length ≤ _
  unfold keys at h1 ⊢
  omega
theorem keys_part (K : List (List Nat)) (f : List Nat → Int) : keys (K.map fun t => (t, f t)) = K := by
  unfold keys
  rw [List.map_map]
  exact List.map_id' K
theorem not_before {K : List (List Nat)} (nd : K.Nodup) {i : Nat} {t : List Nat} (h : K[i]? = some t) : t ∉ K.take i := fun hm => by
  obtain ⟨j, hj⟩ := List.mem_iff_getElem?.mp hm
  have lt : j < i := by
    have := (List.getElem?_eq_some_iff.mp hj).1
    rw [List.length_take] at this
    omega
  rw [List.getElem?_take_of_lt lt] at hj
  have hi := (List.getElem?_eq_some_iff.mp h).1
  have hj' := (List.getElem?_eq_some_iff.mp hj).1
  have e : K[j] = K[i] := by
    rw [(List.getElem?_eq_some_iff.mp hj).2, (List.getElem?_eq_some_iff.mp h).2]
  have := (List.pairwise_iff_getElem.mp nd) j i hj' hi lt
  exact this e
section
variable {P : Program} {w : World} {K : PySem.W.Frag} {mg : Str → Option Value} {base : Heap}
def sp_lowest : Sp := fun vs H Q _ => ∃ (d : Addr) (L : Ent) (b : Int), vs = [.ref d, .int b] ∧ H d = some (.dT (iT L)) ∧ EntN L ∧ b ≠ 0 ∧ b.natAbs < 2 ^ 4000 ∧
  ∀ H' z e, Same H H' → H' z = some (.tup [.ref e, .int (low L b).2]) → H' e = some (.dT (iT (low L b).1)) → Q (.ref z) H'
theorem ok_lowest (T : Txt K mg) : FnOk P w K mg base CX0 2 T.a_lowest T.d_lowest ["entries", "bottom"] sp_lowest := by
  refine T.F_lowest.ok sc_lowest (fun vs H Q E h => ?_) (fun cdv A outer s H vs Q E hr h => ?_)
  · obtain ⟨d, L, b, rfl, _⟩ := h
    rfl
  · obtain ⟨d, L, b, rfl, hd, ok, hb, hl, q⟩ := h
    refine ⟨_, (pss_cons (ps_set (i := 2) sc_lowest.nd rfl (Or.inr rfl) (pe_call  (ok_gdiv T) (hr.mono (by decide)) (by rfl) T.m_greatest_divisor T.F_greatest_divisor.kp T.b_greatest_divisor .nil pass0 (pa_cons (pe_op op_cat (pe_lst (pa_cons (pv 1) pa_nil)) (pe_callTy (cr_listVals rfl) (by rfl) T.z_list boot_list (pa_cons (pe_bm0 PySem.F.plainAttrs_dict PySem.F.slot_dict_values PySem.F.type_dict_values mt_valsT (pv 0)) pa_nil))) pa_nil)))
      (pss_cons (ps_if (pt_cmpR op_lt (pv 1) pe_int (nomark _)) (pss_one (ps_set (i := 2) sc_lowest.nd rfl (Or.inr rfl) (pe_un un_neg (pv 2)))) pss_nil)
      (pss_cons (ps_setLc (i := 3) (own := [("place", 4)]) (g := gName 4) rfl sc_lowest.nd rfl rfl (sw_true rfl rfl rfl (by decide +kernel)) (pi_list (pe_callB (cr_sortDT rfl hr.units) (by rfl) T.z_sorted boot_sorted (pa_cons (pv 0) pa_nil))) (blkOk_by (own := [("place", 4)]) (N := N_lowest) (sc := defScope s_lowest) (by decide +kernel)) (fun _ _ _ _ _ => (pg_name (i := 4) sc_lowest.nd rfl (Or.inl rfl))) (fun _ _ _ _ _ => pts_one (pt_cmpR op_ne (pe_dget (hu_of hr) (pv 0) (pv 4) (fun _ _ => rfl)) pe_int (nomark _))) (fun _ _ _ _ _ => (pv 4)))
      (pss_one (ps_ret (pe_tup (pa_cons (pe_dcT (own := [("place", 4)]) (g := gName 4) (tt := tYes) rfl hr.units0 sc_lowest.nd (pi_list (pv 3)) (blkOk_by (own := [("place", 4)]) (N := N_lowest) (sc := defScope s_lowest) (by decide +kernel)) (fun _ _ _ _ _ => (pg_name (i := 4) sc_lowest.nd rfl (Or.inl rfl))) (fun _ _ _ _ _ => pts_nil) (fun _ _ _ _ _ => (pv 4)) (fun _ _ _ _ _ => (pe_op op_fdivNW (pe_dget (hu_of hr) (pv 0) (pv 4) (fun _ _ => rfl)) (pv 2)))) (pa_cons (pe_op op_fdivNW (pv 1) (pv 2)) pa_nil)))))))), ?_⟩
    have few := ok.few
    have kf := kept_few ok
    refine ⟨_, rfl, by show 1 ≤ sizeLine; decide, fun p1 n1 => ?_⟩
    have s1 := same_new n1 (.lst [V.int b])
    refine ⟨_, rfl, .inr (.inr (.inl ⟨rfl, .inr ⟨_, s1 _ _ hd⟩⟩)), d, _, rfl, rfl, s1 _ _ hd, fun p2 n2 => ?_⟩
    have s2 := same_new n2 (valsO p2 d)
    refine ⟨p2, d, _, rfl, upd_same, s2 _ _ (s1 _ _ hd), fun p3 n3 => ?_⟩
    have s3 := same_new n3 (.lst ((iT L).map (·.2)))
    refine ⟨p1, p3, _, _, rfl, rfl, (s2.trans s3) _ _ upd_same, upd_same, by rw [List.length_map, len_iT]; exact Nat.le_of_lt (sizeK (by show 1 + _ ≤ _; omega)), fun p4 n4 => ?_⟩
    have s4 := same_new n4 (.lst ([V.int b] ++ (iT L).map (·.2)))
    have S4 := s1.trans (s2.trans (s3.trans s4))
    refine ⟨p4, b :: L.map (·.2), rfl, SqL.of (by rw [upd_same, vals_iT]; rfl), ?_⟩
    rw [gI_all]
    generalize (upd _ p4 (.lst ([V.int b] ++ (iT L).map (·.2)))) = H4 at S4 ⊢
    have hd4 := S4 _ _ hd
    have sn := sg_ne (L := L) hb
    have sd := sg_dvd (L := L) (b := b) ok.nd
    have sl : (sg L b).natAbs.log2 < 9000 := by
      have e : (sg L b).natAbs = gN b.natAbs L := by unfold sg; split <;> omega
      have := Nat.le_of_dvd (by omega) ((dvd_gN (L := L) (g := b.natAbs)).mp (Nat.dvd_refl _)).1
      rw [e]
      exact log_of (by omega)
    refine ⟨_, rfl, _, _, rfl, rfl, _, rfl, ?_⟩
    by_cases c : b < 0
    · rw [decide_eq_true c]
      have es : -((gN b.natAbs L : Nat) : Int) = sg L b := by unfold sg; rw [if_pos c]
      refine iteT ⟨_, rfl, _, rfl, ?_⟩
      show gName 2 (V.int (-((gN b.natAbs L : Nat) : Int))) _ H4 _
      rw [es]
      refine ⟨_, rfl, d, _, _, rfl, .inl hd4, keys_iT L, ok.ne, fun p5 qs n5 hq => ?_⟩
      have s5 := same_new n5 (.lst (qs.map V.ref))
      have e5 : (upd H4 p5 (.lst (qs.map V.ref))) p5 = some (.lst (qs.map V.ref)) := upd_same
      have hq5 := hq.same s5
      generalize (upd H4 p5 (.lst (qs.map V.ref))) = H5 at s5 e5 hq5 ⊢
      have hd5 := s5 _ _ hd4
      have lsr : (srt encT (keys L)).length ≤ 4400 := by
        rw [(srt_perm encT (keys L)).length_eq]
        show (L.map (·.1)).length ≤ _
        rw [List.length_map]
        exact few
      refine ⟨p5, rfl, ⟨_, SqL.of e5⟩, fun D hD => ?_⟩
      have sD := same_new hD (.lst [])
      refine lc_list (K := K) (a := p5) (xs := qs.map V.ref) (fun i H' => Same H5 H' ∧ ∃ rs : List Addr, H' D = some (.lst (rs.map V.ref)) ∧ TupsU H' rs (((srt encT (keys L)).take i).filter fun t => decide (ev L t ≠ 0))) ⟨sD, [], upd_same, .nil⟩ (fun i H' _ hh => SqL.of (hh.1 _ _ e5)) (fun i x H6 hx hh => ?_) (fun H6 hh => ?_)
      · obtain ⟨s6, rs, eD, hR⟩ := hh
        obtain ⟨r, t, rfl, _, ht, hr1⟩ := (hq5.same s6).get hx
        have hrl := hR.length
        have hfl := List.length_filter_le (fun t => decide (ev L t ≠ 0)) ((srt encT (keys L)).take i)
        rw [List.length_take] at hfl
        have mt : t ∈ keys L := (srt_perm encT (keys L)).mem_iff.mp (List.mem_of_getElem? ht)
        refine ⟨rfl, _, rfl, _, rfl, d, _, rfl, get_iT (.inl (s6 _ _ hd5)) hr1 mt, rfl, _, rfl, ?_⟩
        by_cases z : ev L t = 0
        · rw [z, decide_eq_true rfl]
          refine iteF ⟨s6, rs, eD, ?_⟩
          rw [take_more ht, List.filter_append, List.filter_cons, if_neg (by rw [z]; decide), List.filter_nil, List.append_nil]
          exact hR
        · rw [decide_eq_false (show ¬ V.int (ev L t) = V.int 0 from fun k => z (V.int.inj k))]
          refine iteT ⟨_, rfl, _, eD, by rw [List.length_map]; exact sizeK (by omega), same_updL s6 hD, rs ++ [r], by rw [upd_same, List.map_append]; rfl, ?_⟩
          rw [take_more ht, List.filter_append, List.filter_cons, if_pos (decide_eq_true z), List.filter_nil]
          have := snocU (t := t) s6 eD hR hr1
          rw [List.map_append] at this
          exact this
      · obtain ⟨s6, rs, eD, hR⟩ := hh
        rw [List.length_map, hq.length, List.take_length] at hR
        have hR' : TupsU H6 rs (kept L) := hR
        have hd6 := s6 _ _ hd5
        have S6 := S4.trans (s5.trans s6)
        have rl := hR'.length
        have kn := kept_nd ok.nd
        refine ⟨_, rfl, D, rfl, ⟨_, SqL.of eD⟩, fun e he => ?_⟩
        have se := same_new he (.dT [])
        refine goes_it (walk_list (K := K) (a := D) (xs := rs.map V.ref)) (fun i H' => Same H6 H' ∧ H' e = some (.dT (iT (((kept L).take i).map fun t => (t, ev L t / sg L b))))) ⟨se, upd_same⟩ (fun i H' _ hh => SqL.of (hh.1 _ _ eD)) ?_ ?_
        · rintro i x G G' hi ⟨s7, ee⟩ ⟨e4, hx⟩
          subst e4
          obtain ⟨r, t, rfl, _, ht, hr1⟩ := (hR'.same s7).get hx
          have mt : t ∈ keys L := mem_of_ev (mem_kept.mp (List.mem_of_getElem? ht))
          have il := (List.getElem?_eq_some_iff.mp ht).1
          refine ⟨rfl, _, rfl, _, rfl, _, rfl, d, _, rfl, get_iT (.inl (s7 _ _ hd6)) hr1 mt, _, rfl, _, _, rfl, rfl, ⟨sn, sl⟩, _, tK t, r, rfl, nv_key hr1, ee, by rw [len_iT, List.length_map, List.length_take]; exact sizeK (by omega), same_updL s7 he, ?_⟩
          rw [upd_same]
          show some (HO.dT (putK (iT _) (tK t) (V.int ((ev L t).fdiv (sg L b))))) = _
          rw [Int.fdiv_eq_ediv_of_dvd (sd.2 t), put_iT _ (by rw [keys_part]; exact not_before kn ht), take_more ht, List.map_append]
          rfl
        · rintro G ⟨s7, ee⟩
          rw [List.length_map, rl, List.take_length] at ee
          refine ⟨_, rfl, _, rfl, _, _, rfl, rfl, ⟨sn, sl⟩, by show 2 ≤ sizeLine; decide, fun z hz => ?_⟩
          have sz := same_new hz (.tup [V.ref e, V.int (b.fdiv (sg L b))])
          refine q _ z e (S6.trans (s7.trans sz)) ?_ (sz _ _ ee)
          rw [upd_same]
          show some (HO.tup [V.ref e, V.int (b.fdiv (sg L b))]) = _
          rw [Int.fdiv_eq_ediv_of_dvd sd.1]
          rfl
    · rw [decide_eq_false c]
      have es : ((gN b.natAbs L : Nat) : Int) = sg L b := by unfold sg; rw [if_neg c]
      rw [es]
      refine iteF ⟨_, rfl, d, _, _, rfl, .inl hd4, keys_iT L, ok.ne, fun p5 qs n5 hq => ?_⟩
      have s5 := same_new n5 (.lst (qs.map V.ref))
      have e5 : (upd H4 p5 (.lst (qs.map V.ref))) p5 = some (.lst (qs.map V.ref)) := upd_same
      have hq5 := hq.same s5
      generalize (upd H4 p5 (.lst (qs.map V.ref))) = H5 at s5 e5 hq5 ⊢
      have hd5 := s5 _ _ hd4
      have lsr : (srt encT (keys L)).length ≤ 4400 := by
        rw [(srt_perm encT (keys L)).length_eq]
        show (L.map (·.1)).length ≤ _
        rw [List.length_map]
        exact few
      refine ⟨p5, rfl, ⟨_, SqL.of e5⟩, fun D hD => ?_⟩
      have sD := same_new hD (.lst [])
      refine lc_list (K := K) (a := p5) (xs := qs.map V.ref) (fun i H' => Same H5 H' ∧ ∃ rs : List Addr, H' D = some (.lst (rs.map V.ref)) ∧ TupsU H' rs (((srt encT (keys L)).take i).filter fun t => decide (ev L t ≠ 0))) ⟨sD, [], upd_same, .nil⟩ (fun i H' _ hh => SqL.of (hh.1 _ _ e5)) (fun i x H6 hx hh => ?_) (fun H6 hh => ?_)
      · obtain ⟨s6, rs, eD, hR⟩ := hh
        obtain ⟨r, t, rfl, _, ht, hr1⟩ := (hq5.same s6).get hx
        have hrl := hR.length
        have hfl := List.length_filter_le (fun t => decide (ev L t ≠ 0)) ((srt encT (keys L)).take i)
        rw [List.length_take] at hfl
        have mt : t ∈ keys L := (srt_perm encT (keys L)).mem_iff.mp (List.mem_of_getElem? ht)
        refine ⟨rfl, _, rfl, _, rfl, d, _, rfl, get_iT (.inl (s6 _ _ hd5)) hr1 mt, rfl, _, rfl, ?_⟩
        by_cases z : ev L t = 0
        · rw [z, decide_eq_true rfl]
          refine iteF ⟨s6, rs, eD, ?_⟩
          rw [take_more ht, List.filter_append, List.filter_cons, if_neg (by rw [z]; decide), List.filter_nil, List.append_nil]
          exact hR
        · rw [decide_eq_false (show ¬ V.int (ev L t) = V.int 0 from fun k => z (V.int.inj k))]
          refine iteT ⟨_, rfl, _, eD, by rw [List.length_map]; exact sizeK (by omega), same_updL s6 hD, rs ++ [r], by rw [upd_same, List.map_append]; rfl, ?_⟩
          rw [take_more ht, List.filter_append, List.filter_cons, if_pos (decide_eq_true z), List.filter_nil]
          have := snocU (t := t) s6 eD hR hr1
          rw [List.map_append] at this
          exact this
      · obtain ⟨s6, rs, eD, hR⟩ := hh
        rw [List.length_map, hq.length, List.take_length] at hR
        have hR' : TupsU H6 rs (kept L) := hR
        have hd6 := s6 _ _ hd5
        have S6 := S4.trans (s5.trans s6)
        have rl := hR'.length
        have kn := kept_nd ok.nd
        refine ⟨_, rfl, D, rfl, ⟨_, SqL.of eD⟩, fun e he => ?_⟩
        have se := same_new he (.dT [])
        refine goes_it (walk_list (K := K) (a := D) (xs := rs.map V.ref)) (fun i H' => Same H6 H' ∧ H' e = some (.dT (iT (((kept L).take i).map fun t => (t, ev L t / sg L b))))) ⟨se, upd_same⟩ (fun i H' _ hh => SqL.of (hh.1 _ _ eD)) ?_ ?_
        · rintro i x G G' hi ⟨s7, ee⟩ ⟨e4, hx⟩
          subst e4
          obtain ⟨r, t, rfl, _, ht, hr1⟩ := (hR'.same s7).get hx
          have mt : t ∈ keys L := mem_of_ev (mem_kept.mp (List.mem_of_getElem? ht))
          have il := (List.getElem?_eq_some_iff.mp ht).1
          refine ⟨rfl, _, rfl, _, rfl, _, rfl, d, _, rfl, get_iT (.inl (s7 _ _ hd6)) hr1 mt, _, rfl, _, _, rfl, rfl, ⟨sn, sl⟩, _, tK t, r, rfl, nv_key hr1, ee, by rw [len_iT, List.length_map, List.length_take]; exact sizeK (by omega), same_updL s7 he, ?_⟩
          rw [upd_same]
          show some (HO.dT (putK (iT _) (tK t) (V.int ((ev L t).fdiv (sg L b))))) = _
          rw [Int.fdiv_eq_ediv_of_dvd (sd.2 t), put_iT _ (by rw [keys_part]; exact not_before kn ht), take_more ht, List.map_append]
          rfl
        · rintro G ⟨s7, ee⟩
          rw [List.length_map, rl, List.take_length] at ee
          refine ⟨_, rfl, _, rfl, _, _, rfl, rfl, ⟨sn, sl⟩, by show 2 ≤ sizeLine; decide, fun z hz => ?_⟩
          have sz := same_new hz (.tup [V.ref e, V.int (b.fdiv (sg L b))])
          refine q _ z e (S6.trans (s7.trans sz)) ?_ (sz _ _ ee)
          rw [upd_same]
          show some (HO.tup [V.ref e, V.int (b.fdiv (sg L b))]) = _
          rw [Int.fdiv_eq_ediv_of_dvd sd.1]
          rfl
end
end K60

/-! a, o.f = .. : a field as one of several targets -/
namespace DT
open PySem PySem.Spec PyProof.Rows L2
section
variable {X : Cx}
def gFld (K : PySem.W.Frag) (ta : TE) (f : Str) : TG := fun v σ H Q => ta σ H fun x H1 => ∃ a C dx fs, x = .ref a ∧ H1 a = some (.ins C dx fs) ∧ Cls K C ∧ NoAttr K C f ∧ fs.length < 1000 ∧ Q σ (upd H1 a (.ins C dx (putF f v fs)))
theorem pg_fld {o : Expr} {f : Str} {pos : Pos} {ta : TE} (ha : PE X o ta) : PG X (.Attribute o f pos) (gFld X.K ta f) := by
  refine ⟨fun pins s σ H v u Q I r h => ?_⟩
  rw [assign_Attribute]
  refine wpAny_bind (wpAny_holding (thn (ha.run pins s σ H _ I h) fun ov s1 ⟨x, H1, I1, rx, a, C, dx, fs, ex, ea, c, n, l, q⟩ => ?_))
  subst ex
  obtain rfl : ov = Value.ref a := rx
  refine wpAny_bind (wpAny_standAt (wpAny_bind (wpAny_holding ?_)))
  exact setattr_ok I1 ea c n l r fun s3 I3 => wpAny_release ⟨σ, _, I3, q⟩
end
end DT

/-! == between two objects of one own class -/
namespace W7
open PySem PySem.W PySem.Calls PyProof.Rows
section
variable {prog : Program} {w : World} {A : Around} {E : Value → Shared → Prop} {s : Shared} {K : Frag} {x y C f : Addr} {ox oy : Obj} {od oe : Option Obj}
theorem cmp_same {op : CmpOp} {Q : Value → Shared → Prop} (room : A.units < cLine) (kin : K.In s.heap) (I : InstAt s.heap x ox C od) (J : InstAt s.heap y oy C oe)
    (at_ : findIn K (.ref C) (cmpInfo op).2.1 = some (some (.ref f))) (fn : isFn K (.ref f) = true) (h : wpAny (model prog w) A (call (.ref f) [.ref x, .ref y]) (PySem.W.CmpBack Q) E s) : wpAny (model prog w) A (richCompare op (.ref x) (.ref y)) Q E s := by
  have tried : wpAny (model prog w) A (tryCompare (.ref x) (cmpInfo op).2.1 (.ref y)) (fun r s' => ∃ v, r = some v ∧ Q v s') E s := by
    unfold tryCompare
    refine wpAny_bind (ifBound_K kin I at_ fn (wpAny_mono h (fun v s' hv => ?_) fun _ _ e => e))
    cases v <;> first | exact hv.elim | exact wpAny_pure ⟨_, rfl, hv⟩
  unfold richCompare
  simp only [oneThing_ref]
  refine wpAny_holding (wpAny_bind (wpAny_cRoomFor room (wpAny_bind (I.type.here (wpAny_bind (J.type.here ?_))))))
  have same : (Value.ref C != Value.ref C) = false := by simp
  simp only [same, Bool.false_eq_true, if_false]
  refine wpAny_bind (wpAny_pure ?_)
  simp only [Bool.false_eq_true, if_false]
  refine wpAny_bind (wpAny_mono tried (fun r s' got => ?_) fun _ _ e => e)
  obtain ⟨v, rfl, q⟩ := got
  exact wpAny_pure q
end
end W7
namespace W7
open PySem PySem.Spec PyProof.Rows L2
section
variable {X : Cx} {CX : CXT} {C f : Addr} {fd : FuncData} {ps : List Str} {sp : Sp} {k : Nat}
theorem op_eqOwn (at_ : PySem.W.findIn X.K (.ref C) "__eq__" = some (some (.ref f))) (fn : PySem.W.isFn X.K (.ref f) = true) (F : FnOk X.prog X.w X.K X.mg X.base CX k f fd ps sp) (hr : Room k X.A) (hb : Binds X.K fd ps []) (hx : Passes CX X E0) : OpR X (compareOp .Eq) (rOwn C sp) := by
  intro pins s σ H x y v u Q I rx ry h
  obtain ⟨a, b, dx, dy, fs, gs, rfl, rfl, ha, hb2, q⟩ := h
  obtain rfl : v = Value.ref a := rx
  obtain rfl : u = Value.ref b := ry
  obtain ⟨_, Oa, _⟩ := ins_get I.hok ha
  obtain ⟨_, Ja, _⟩ := Oa.look
  obtain ⟨_, Ob, _⟩ := ins_get I.hok hb2
  obtain ⟨_, Jb, _⟩ := Ob.look
  refine cmp_same (op := .Eq) (Nat.lt_of_le_of_lt (Nat.le_add_right _ _) hr.units) I.kIn Ja Jb at_ fn (wpAny_mono (run_fn (dvs := []) (ds := []) (vs := [.ref a, .ref b]) (us := [.ref a, .ref b]) (Q := Q) F hr hb .nil hx I (.cons rfl (.cons rfl .nil)) q) (fun r s' z => ?_) fun _ _ z => z)
  cases r with
  | notImplemented =>
    obtain ⟨_, _, _, rel, _⟩ := z
    exact no_notimpl rel
  | _ => exact z
end
end W7

/-! in, not in, len, str, != of objects of one own class -/
namespace W7
open PySem PySem.W PySem.Calls PyProof.Rows Builtin
section
variable {M : Model} {prog : Program} {w : World} {A : Around} {E : Value → Shared → Prop} {s : Shared} {K : Frag} {x y C f : Addr} {ox oy : Obj} {od oe : Option Obj} {v : Value}
theorem contains_in {Q : Bool → Shared → Prop} (X : K.In s.heap) (I : InstAt s.heap x ox C od) (hs : findIn K (.ref C) "__contains__" = some (some (.ref f))) (hf : isFn K (.ref f) = true)
    (h : wpAny M A (call (.ref f) [.ref x, v]) (PySem.W.BoolBack Q) E s) : wpAny M A (contains (.ref x) v) Q E s := by
  unfold contains
  refine wpAny_holding (wpAny_bind (wpAny_bind (I.type.here ((looks_findIn X hs).here ?_))))
  rw [if_neg (by simp)]
  refine wpAny_bind (unlessNone_K X I hs hf (wpAny_mono h (fun r s' z => ?_) fun _ _ e => e))
  cases r <;> first | exact z.elim | exact wpAny_truthy_bool z
theorem len_in {Q : Value → Shared → Prop} (X : K.In s.heap) (I : InstAt s.heap x ox C od) (hs : findIn K (.ref C) "__len__" = some (some (.ref f))) (hf : isFn K (.ref f) = true)
    (h : wpAny (model prog w) A.in1 (call (.ref f) [.ref x]) (PySem.W.LenBack Q) E s) : wpAny (model prog w) A (call (.builtin "len") [.ref x]) Q E s := by
  refine Calls.call_function_entry kind_len plain_len entry_len (args_len1 _) ?_
  unfold Builtin.«len»
  refine wpAny_bind (m := oneArg "len" _) (wpAny_pure ?_)
  refine wpAny_bind (m := callSpecial? (.ref x) (Str.ofString "__len__")) (special_fn X I hs (beq_iff_eq.mp hf) (wpAny_mono h (fun r s' hr => ?_) fun _ _ y => y))
  cases r <;> first | exact hr.elim | skip
  rename_i n u
  obtain ⟨⟨h0, h1⟩, hq⟩ := hr
  refine wpAny_bind (wpAny_holding (wpAny_pure ?_))
  refine wpAny_bind (wpAny_letGo ?_)
  show wpAny _ _ (if n < 0 then _ else _) _ _ _
  rw [if_neg (by omega)]
  show wpAny _ _ (if n ≥ 2 ^ 63 then _ else _) _ _ _
  rw [if_neg (by omega)]
  exact wpAny_bind (wpAny_mkInt (wpAny_pure ⟨_, rfl, hq⟩))
theorem ifBound_B {name : Str} {id : String} {args : List Value} {Q : Option Value → Shared → Prop} (X : K.In s.heap) (I : InstAt s.heap x ox C od) (hs : findIn K (.ref C) name = some (some (.builtin id)))
    (hb : ∀ self, bindSpecial (.builtin id) self = pure (.builtin id, [self])) (h : wpAny M A (call (.builtin id) (.ref x :: args)) (fun v => Q (some v)) E s) : wpAny M A (callSpecialIfBound? (.ref x) name args) Q E s := by
  simp only [callSpecialIfBound?, bindSpecialIfBound?]
  refine wpAny_holding (wpAny_bind (wpAny_bind (wpAny_bind (I.type.here ((looks_findIn X hs).here ?_)))))
  refine wpAny_bind (wpAny_askSetting (wpAny_ite ?_))
  have fin : wpAny M A (call (.builtin id) ([.ref x] ++ args) >>= fun v => pure (some v)) Q E s := wpAny_bind (wpAny_mono h (fun v s' h' => wpAny_pure h') fun _ _ h' => h')
  split
  · exact wpAny_bind ((Looks.of_pure (hb _)).here (wpAny_pure (by exact fin)))
  · exact wpAny_tryCatch (wpAny_bind ((Looks.of_pure (hb _)).here (wpAny_pure (by exact fin))))
theorem object_ne_own {Q : Value → Shared → Prop} (hu : A.in1.units < cLine) (X : K.In s.heap) (I : InstAt s.heap x ox C od) (hm : mroIn K C (.type "object") = some true) (hr : findIn K (.ref C) "__eq__" = some (some (.ref f))) (hf : isFn K (.ref f) = true)
    (h : wpAny (model prog w) A.in1 (call (.ref f) [.ref x, .ref y]) (PySem.W.BoolBack fun b => Q (.bool (!b))) E s) : wpAny (model prog w) A (call (.builtin "object.__ne__") [.ref x, .ref y]) Q E s := by
  refine wpAny_call (codeAny_call_builtin PySem.F.slot_object_ne.plain PySem.F.entry_object_ne (check_slot (i := "object.__ne__") (owner := "object") (n := "__ne__") (by decide +kernel) (by decide +kernel) (I.type.andThen (looks_mroIn X hm)) (PySem.F.args_object_ne_2 _ _) ?_))
  unfold Builtin.«object.__ne__»
  refine wpAny_bind (m := slotArgs "__ne__" 1 _) (wpAny_pure ?_)
  refine wpAny_bind (m := cRoomFor _ _) (wpAny_cRoomFor hu ?_)
  refine wpAny_bind (m := callSpecialIfBound? (.ref x) (Str.ofString "__eq__") _) (ifBound_K X I hr hf (wpAny_mono h (fun r s' hq => ?_) fun _ _ y => y))
  cases r <;> first | exact hq.elim | skip
  rename_i b
  exact wpAny_bind (wpAny_truthy_bool (wpAny_pure hq))
theorem ne_same {Q : Value → Shared → Prop} (room : A.units < cLine) (room1 : A.in1.units < cLine) (kin : K.In s.heap) (I : InstAt s.heap x ox C od) (J : InstAt s.heap y oy C oe) (hm : mroIn K C (.type "object") = some true)
    (hn : findIn K (.ref C) (cmpInfo .NotEq).2.1 = some (some (.builtin "object.__ne__"))) (at_ : findIn K (.ref C) "__eq__" = some (some (.ref f))) (fn : isFn K (.ref f) = true)
    (h : wpAny (model prog w) A.in1 (call (.ref f) [.ref x, .ref y]) (PySem.W.BoolBack fun b => Q (.bool (!b))) E s) : wpAny (model prog w) A (richCompare .NotEq (.ref x) (.ref y)) Q E s := by
  have tried : wpAny (model prog w) A (tryCompare (.ref x) (cmpInfo .NotEq).2.1 (.ref y)) (fun r s' => ∃ v, r = some v ∧ Q v s') E s := by
    unfold tryCompare
    refine wpAny_bind (ifBound_B kin I hn PySem.F.slot_object_ne.bind (object_ne_own room1 kin I hm at_ fn (wpAny_mono h (fun r s' z => ?_) fun _ _ e => e)))
    cases r <;> first | exact z.elim | skip
    exact wpAny_pure ⟨_, rfl, z⟩
  unfold richCompare
  simp only [oneThing_ref]
  refine wpAny_holding (wpAny_bind (wpAny_cRoomFor room (wpAny_bind (I.type.here (wpAny_bind (J.type.here ?_))))))
  have same : (Value.ref C != Value.ref C) = false := by simp
  simp only [same, Bool.false_eq_true, if_false]
  refine wpAny_bind (wpAny_pure ?_)
  simp only [Bool.false_eq_true, if_false]
  refine wpAny_bind (wpAny_mono tried (fun r s' got => ?_) fun _ _ e => e)
  obtain ⟨v, rfl, q⟩ := got
  exact wpAny_pure q
end
end W7
namespace W7
open PySem PySem.Spec PyProof.Rows L2
section
variable {X : Cx} {CX : CXT} {C f : Addr} {fd : FuncData} {ps : List Str} {sp : Sp} {k : Nat}
/-- v in o, o of the own class at C -/
def rInOwn (C : Addr) (sp : Sp) (g : Bool → Bool) : R2 := fun x y H Q => ∃ (a dx : Addr) (fs : List (Str × V)), y = .ref a ∧ H a = some (.ins C dx fs) ∧ sp [.ref a, x] H (fun v H' => ∃ b, v = .bl b ∧ Q (.bl (g b)) H') E0
theorem run_in {pins : List (Addr × Obj)} {s : Shared} {σ : L2.St} {H : Hp} {x : V} {v : Value} {Q : Bool → Shared → Prop} {R : Bool → Hp → Prop} {a dx : Addr} {fs : List (Str × V)} (at_ : PySem.W.findIn X.K (.ref C) "__contains__" = some (some (.ref f))) (fn : PySem.W.isFn X.K (.ref f) = true) (F : FnOk X.prog X.w X.K X.mg X.base CX k f fd ps sp) (hr : Room k X.A) (hb : Binds X.K fd ps []) (hx : Passes CX X E0)
    (I : Inv X pins σ H s) (rx : RelV x v) (ha : H a = some (.ins C dx fs)) (q : sp [.ref a, x] H (fun v H' => ∃ b, v = .bl b ∧ R b H') E0) (hQ : ∀ b H' s', Inv X pins σ H' s' → R b H' → Q b s') : wpAny (model X.prog X.w) X.A (contains (.ref a) v) Q X.xe s := by
  obtain ⟨_, Oa, _⟩ := ins_get I.hok ha
  obtain ⟨_, Ja, _⟩ := Oa.look
  refine contains_in I.kIn Ja at_ fn (wpAny_mono (run_fn (dvs := []) (ds := []) (vs := [.ref a, x]) (us := [.ref a, v]) F hr hb .nil hx I (.cons rfl (.cons rx .nil)) q) (fun r s' z => ?_) fun _ _ z => z)
  obtain ⟨u, H', I', ru, b, rfl, hR⟩ := z
  cases (show r = Value.bool b from ru)
  exact hQ b H' s' I' hR
theorem op_inOwn (at_ : PySem.W.findIn X.K (.ref C) "__contains__" = some (some (.ref f))) (fn : PySem.W.isFn X.K (.ref f) = true) (F : FnOk X.prog X.w X.K X.mg X.base CX k f fd ps sp) (hr : Room k X.A) (hb : Binds X.K fd ps []) (hx : Passes CX X E0) : OpR X (compareOp .In) (rInOwn C sp id) := by
  intro pins s σ H x y v u Q I rx ry h
  obtain ⟨a, dx, fs, rfl, ha, q⟩ := h
  obtain rfl : u = Value.ref a := ry
  exact wpAny_bind (run_in at_ fn F hr hb hx I rx ha q fun b H' s' I' hR => wpAny_pure ⟨.bl b, H', I', rfl, hR⟩)
theorem op_notinOwn (at_ : PySem.W.findIn X.K (.ref C) "__contains__" = some (some (.ref f))) (fn : PySem.W.isFn X.K (.ref f) = true) (F : FnOk X.prog X.w X.K X.mg X.base CX k f fd ps sp) (hr : Room k X.A) (hb : Binds X.K fd ps []) (hx : Passes CX X E0) : OpR X (compareOp .NotIn) (rInOwn C sp not) := by
  intro pins s σ H x y v u Q I rx ry h
  obtain ⟨a, dx, fs, rfl, ha, q⟩ := h
  obtain rfl : u = Value.ref a := ry
  exact wpAny_bind (run_in at_ fn F hr hb hx I rx ha q fun b H' s' I' hR => wpAny_pure ⟨.bl (!b), H', I', rfl, hR⟩)
/-- a run somewhere below the running body -/
theorem run_sub {pins : List (Addr × Obj)} {σ : L2.St} {H : Hp} {s : Shared} {Q : VK} {us : List Value} {vs : List V} {A1 : Around} {E : XK} (F : FnOk X.prog X.w X.K X.mg X.base CX k f fd ps sp) (sb : Sub X k A1) (hb : Binds X.K fd ps []) (hx : Passes CX X E)
    (I : Inv X pins σ H s) (r : Vals vs us) (h : sp vs H Q E) : wpAny (model X.prog X.w) A1 (call (.ref f) us) (EP X pins σ Q) X.xe s := by
  have e0 : Env0 X.prog X.w X.K X.mg X.base A1 X.stack s H := by
    have e := I.env0
    exact ⟨by rw [sb.fr]; exact e.frames, e.mod, e.bs, e.bsz, e.funs, e.frf, e.hok, e.bare⟩
  have hl := F.len _ _ _ _ h
  have hl2 : us.length = ps.length := by rw [← r.length]; exact hl
  refine wpAny_call (codeAny_mono (F.run A1 X.stack s H ⟨us, []⟩ us vs Q E sb.room e0 (by
    have := hb s us I.kIn (by rw [List.append_nil]; exact hl2)
    rw [List.append_nil] at this
    exact this) r h) fun r s' hq => ?_)
  cases r with
  | error e => exact hx pins σ H s e s' I hq
  | ok fl =>
    cases fl with
    | ret u => exact I.after hq
    | next => exact False.elim hq
    | brk => exact False.elim hq
    | cont => exact False.elim hq
def rLenOwn (C : Addr) (sp : Sp) : List V → Hp → VK → Prop := fun vs H Q => ∃ (a dx : Addr) (fs : List (Str × V)), vs = [.ref a] ∧ H a = some (.ins C dx fs) ∧ sp [.ref a] H (fun v H' => ∃ n : Nat, v = .int ((n : Nat) : Int) ∧ n < 1000000 ∧ Q (.int ((n : Nat) : Int)) H') E0
theorem call_lenOwn1 (at_ : PySem.W.findIn X.K (.ref C) "__len__" = some (some (.ref f))) (fn : PySem.W.isFn X.K (.ref f) = true) (F : FnOk X.prog X.w X.K X.mg X.base CX k f fd ps sp) (hr : Room (k + 1) X.A) (hb : Binds X.K fd ps []) (hx : Passes CX X E0) : CallR X (.builtin "len") (rLenOwn C sp) := by
  intro pins s σ H vs us Q I r h
  obtain ⟨a, dx, fs, rfl, ha, q⟩ := h
  cases r with
  | cons r0 rr =>
    cases rr
    cases r0
    obtain ⟨_, Oa, _⟩ := ins_get I.hok ha
    obtain ⟨_, Ja, _⟩ := Oa.look
    refine len_in I.kIn Ja at_ fn (wpAny_mono (run_sub (vs := [.ref a]) (us := [.ref a]) F ⟨hr.in1, rfl⟩ hb hx I (.cons rfl .nil) q) (fun r s' z => ?_) fun _ _ z => z)
    obtain ⟨v, H', I', rv, n, rfl, hn, hQ⟩ := z
    obtain ⟨t, rfl⟩ := rv
    exact ⟨⟨by omega, by omega⟩, .int _, H', I'.tok _, ⟨_, rfl⟩, hQ⟩
def rStrOwn (C : Addr) (sp : Sp) : List V → Hp → VK → Prop := fun vs H Q => ∃ (a dx : Addr) (fs : List (Str × V)), vs = [.ref a] ∧ H a = some (.ins C dx fs) ∧ sp [.ref a] H (fun v H' => ∃ x : Str, v = .str x ∧ Q (.str x) H') E0
theorem call_strOwn1 (at_ : PySem.W.findIn X.K (.ref C) "__str__" = some (some (.ref f))) (fn : PySem.W.isFn X.K (.ref f) = true) (F : FnOk X.prog X.w X.K X.mg X.base CX k f fd ps sp) (hr : Room (k + 2) X.A) (hb : Binds X.K fd ps []) (hx : Passes CX X E0) : CallR X (.type "str") (rStrOwn C sp) := by
  intro pins s σ H vs us Q I r h
  obtain ⟨a, dx, fs, rfl, ha, q⟩ := h
  cases r with
  | cons r0 rr =>
    cases rr
    cases r0
    obtain ⟨_, Oa, _⟩ := ins_get I.hok ha
    obtain ⟨_, Ja, _⟩ := Oa.look
    have sb : Sub X k X.A.in1.in1 := ⟨(hr.in1).in1, rfl⟩
    refine PySem.W.kso_call (Nat.lt_of_le_of_lt (Nat.le_add_right _ 64) sb.room.units) I.kIn Ja at_ fn (wpAny_mono (run_sub (vs := [.ref a]) (us := [.ref a]) F sb hb hx I (.cons rfl .nil) q) (fun r s' z => ?_) fun _ _ z => z)
    obtain ⟨v, H', I', rv, x, rfl, hQ⟩ := z
    obtain ⟨t, rfl⟩ := rv
    exact ⟨.str x, H', I', ⟨_, rfl⟩, hQ⟩
def rNeOwn (C : Addr) (sp : Sp) : R2 := fun x y H Q => ∃ (a b dx dy : Addr) (fs gs : List (Str × V)), x = .ref a ∧ y = .ref b ∧ H a = some (.ins C dx fs) ∧ H b = some (.ins C dy gs) ∧ sp [.ref a, .ref b] H (fun v H' => ∃ c, v = .bl c ∧ Q (.bl (!c)) H') E0
theorem op_neOwn (hm : PySem.W.mroIn X.K C (.type "object") = some true) (hn : PySem.W.findIn X.K (.ref C) "__ne__" = some (some (.builtin "object.__ne__"))) (at_ : PySem.W.findIn X.K (.ref C) "__eq__" = some (some (.ref f))) (fn : PySem.W.isFn X.K (.ref f) = true) (F : FnOk X.prog X.w X.K X.mg X.base CX k f fd ps sp) (hr : Room (k + 1) X.A) (hb : Binds X.K fd ps []) (hx : Passes CX X E0) : OpR X (compareOp .NotEq) (rNeOwn C sp) := by
  intro pins s σ H x y v u Q I rx ry h
  obtain ⟨a, b, dx, dy, fs, gs, rfl, rfl, ha, hb2, q⟩ := h
  obtain rfl : v = Value.ref a := rx
  obtain rfl : u = Value.ref b := ry
  obtain ⟨_, Oa, _⟩ := ins_get I.hok ha
  obtain ⟨_, Ja, _⟩ := Oa.look
  obtain ⟨_, Ob, _⟩ := ins_get I.hok hb2
  obtain ⟨_, Jb, _⟩ := Ob.look
  have sb : Sub X k X.A.in1 := ⟨hr.in1, rfl⟩
  refine ne_same (Nat.lt_of_le_of_lt (Nat.le_add_right _ _) hr.units) (Nat.lt_of_le_of_lt (Nat.le_add_right _ _) sb.room.units) I.kIn Ja Jb hm hn at_ fn (wpAny_mono (run_sub (vs := [.ref a, .ref b]) (us := [.ref a, .ref b]) F sb hb hx I (.cons rfl (.cons rfl .nil)) q) (fun r s' z => ?_) fun _ _ z => z)
  obtain ⟨v, H', I', rv, c, rfl, hQ⟩ := z
  cases (show r = Value.bool c from rv)
  exact ⟨.bl (!c), H', I', rfl, hQ⟩
end
end W7

/-! iteration over an object whose own __iter__ gives an iterator over a tuple -/
namespace W7
open PySem PySem.Spec PyProof.Rows L2 ItX
/-- at it a new iterator over the tuple at m -/
def ItTO (m it : Addr) : HO := .ext fun h => h.IsTupleIter it m 0
section
variable {X : Cx}
theorem itT_ok {P : Program} {w : World} {H : Hp} {h : Heap} {m it : Addr} (e : h.IsTupleIter it m 0) : ObjOk P w H h it (ItTO m it) := ⟨e, (by obtain ⟨o, ho, _⟩ := e; exact ⟨o, ho⟩), fun h1 h2 q k => q.at fun o z => k o z⟩
def rIterTN (K : PySem.W.Frag) (n : Nat) : List V → Hp → VK → Prop := fun xs H Q => ∃ (l : Addr) (zs : List V), xs = [.ref l] ∧ SqT K H l zs ∧ ∀ it, H it = Option.none → n ≤ it → Q (.ref it) (upd H it (ItTO l it))
open Builtin in
theorem call_iterTN : CallR X (.builtin "iter") (rIterTN X.K X.s_0.heap.objs.size) := by
  intro pins s σ H xs us Q I r h
  obtain ⟨l, zs, rfl, hq, q⟩ := h
  obtain ⟨u, rfl, ru⟩ := vals1 r
  cases ru
  obtain ⟨its, rv, pl, hz⟩ := I.tuple hq
  refine Calls.call_function_entry (by decide +kernel) (by decide +kernel) PySem.W.kdk_entry_iter (PySem.W.kdk_args_iter _) ?_
  unfold Builtin.«iter»
  refine wpAny_bind (m := someArgs "iter" 1 2 _) (wpAny_of_eq (a := [Value.ref l]) (by first | rfl | kernel_rfl!) ?_)
  show wpAny _ _ (pyIter (.ref l) >>= _) _ _ _
  refine wpAny_bind (wpAny_pyIter_tuple pl ?_)
  refine wpAny_pure ⟨_, rfl, ?_⟩
  exact ⟨.ref s.heap.objs.size, _, I.laid (t' := s.toks) (fun b u e => Heap.get?_push_of_some _ e) (Nat.le_refl _) (itT_ok ⟨_, Heap.get?_push_size _ rfl, rfl, rfl⟩), rfl, q _ (I.hok.fresh (Nat.le_refl _)) I.sz⟩
end
/-- a call of an own def in one state: what is promised may speak of the state -/
theorem fn_at {CX : CXT} {P : Program} {w : World} {K : PySem.W.Frag} {mg : Str → Option Value} {base : Heap} {k : Nat} {f : Addr} {name qual : Str} {params : Arguments} {body : List Stmt} {scope : Scope} {dV kV doc pm cdv ct oc : Value} {an od : Option Addr}
    {osl : Array (Option Value)} {N ps : List Str} (lk : K.lookup f = some ⟨oc, od, .func (PySem.W.fnOf name qual params body scope dV kV doc pm an cdv ct), osl⟩) (hcd : PySem.W.codeIn K cdv qual = true) (S : FnScope N ps scope)
    {A : Around} {outer : List Env} {s : Shared} {H : Hp} {args : Args} {us : List Value} {vs : List V} {Q : VK} {E : XK} (hr : Room (k + 1) A) (e0 : Env0 P w K mg base A outer s H) (hb : BindsTo s (PySem.W.fnOf name qual params body scope dV kV doc pm an cdv ct) args (ps.zip us)) (r : Vals vs us) (hl : vs.length = ps.length)
    (hbody : Room k (A.deeper (envOfC qual scope s.heap.objs.size f cdv)) → ∃ t, PSs (cxOf CX P w K mg base N qual scope f cdv A outer s H E) body t ∧ t { nx := fun _ H' => Q .non H', rt := Q } (start N vs) H) :
    codeAny (model P w) A (.call (.ref f) args) (CR CX outer P w H s Q E) s := by
  have KX : K.In s.heap := e0.mod.kin.keeps fun b o e => (e0.bs b o e).1
  have lim : s.heap.NoLimit := e0.mod.nolimit.keeps fun b o e => (e0.bs b o e).1
  have kinds : ∀ y ∈ ps.zip us, scope.names.lookup y.1 = some .local ∨ (scope.names.lookup y.1 = some .cell ∧ ((cellsFrom (s.heap.objs.size + 1) scope.names []).lookup y.1).isSome = true) := fun ⟨n, v⟩ hy => by
    rcases S.par n (List.of_mem_zip hy).1 with q | q
    · exact .inl q
    · exact .inr ⟨q, PySem.W.cellsFrom_some _ _ _ (.inl q)⟩
  obtain ⟨t, ht, hq⟩ := hbody (hr.deeper _)
  refine codeAny_call_function hr.depth (KX _ _ lk) rfl S.co S.gen rfl (PySem.W.codeRec_of KX hcd) (hb _ _ _ _ (wpAny_newFunctionEnv_cells S.kind kinds fun env he s1 x => ?_))
  subst he
  refine ⟨lim.keeps x.toInCall.keep, codeAny_func ?_⟩
  have I : Inv (cxOf CX P w K mg base N qual scope f cdv A outer s H E) [] (start N vs) H s1 := inv_start S hr.hd e0 hl r x
  refine wpAny_mono (ht.run [] s1 (start N vs) H _ I hq) (fun fl s' hs => ?_) fun e s' hs => hs
  cases fl with
  | ret u =>
    obtain ⟨v, σ', H', J, rv, q⟩ := hs
    exact ⟨v, H', J.os, J.bare, J.base, J.hok, rv, q⟩
  | next =>
    obtain ⟨σ', H', J, q⟩ := hs
    exact ⟨V.non, H', J.os, J.bare, J.base, J.hok, rfl, q⟩
  | brk =>
    obtain ⟨_, _, _, q⟩ := hs
    exact q.elim
  | cont =>
    obtain ⟨_, _, _, q⟩ := hs
    exact q.elim
/-- what the method __iter__ of the class at C does: m is where the tuple stands, R says which objects are meant -/
def ItM (X : Cx) (C f : Addr) (R : Addr → Addr → Hp → Prop) : Prop :=
  ∀ (pins : List (Addr × Obj)) (s : Shared) (σ : L2.St) (H : Hp) (a m : Addr), Inv X pins σ H s → R a m H → wpAny (model X.prog X.w) X.A (call (.ref f) [.ref a]) (fun v s' => ∃ it, v = .ref it ∧ Inv X pins σ (upd H it (ItTO m it)) s' ∧ H it = none ∧ X.s_0.heap.objs.size ≤ it) X.xe s
def iOwn (C : Addr) (R : Addr → Addr → Hp → Prop) (K : PySem.W.Frag) (te : TE) : TI := fun σ H Q => te σ H fun x H1 => ∃ (a m dx : Addr) (fs : List (Str × V)), x = .ref a ∧ H1 a = some (.ins C dx fs) ∧ R a m H1 ∧ Q (Itt K m) H1
theorem pi_own {X : Cx} {tg e : Expr} {te : TE} {C f : Addr} {R : Addr → Addr → Hp → Prop} (he : PE X e te) (at_ : PySem.W.findIn X.K (.ref C) "__iter__" = some (some (.ref f))) (fn : PySem.W.isFn X.K (.ref f) = true) (M : ItM X C f R) : PI X tg e (iOwn C R X.K te) := by
  refine ⟨fun pins s σ H Q I h => ?_⟩
  refine thn (he.run pins s σ H _ I h) fun u s1 ⟨x, H1, I1, rx, q1⟩ => ?_
  obtain ⟨a, m, dx, fs, rfl, ha, hR, q⟩ := q1
  obtain rfl : u = Value.ref a := rx
  obtain ⟨_, Oa, _⟩ := ins_get I1.hok ha
  obtain ⟨_, Ja, _⟩ := Oa.look
  obtain ⟨mm, hF⟩ := I1.fr
  refine PySem.W.owit_iter hF I1.ok.mod.kin Ja at_ fn (wpAny_mono (M pins s1 σ H1 a m I1 hR) (fun v s2 z => ?_) fun _ _ z => z)
  obtain ⟨it, rfl, I2, hit, hsz⟩ := z
  have hi := (I2.hok it _ upd_same).1
  obtain ⟨o, ho, hc, hd⟩ := id hi
  have hT : s2.TypeIs (.ref it) "tuple_iterator" := ⟨o, ho, hc⟩
  have I3 := inv_drop I2 (a := it) (show (upd H1 it (ItTO m it)) it = some (.ext _) from upd_same)
  rw [dropH_upd hit] at I3
  have fp := inv_fp I2 (a := it) (u := ItTO m it) upd_same hsz
  rw [dropH_upd hit] at fp
  unfold PySem.W.OwitIt
  refine wpAny_specialOf (name := Str.ofString "__next__") hT PySem.F.slot_tuple_iterator_next.lookup ?_
  exact ⟨it, [it], _, _, H1, rfl, I3, turn_tuple m it, hi, fun b hb => (by
    have e : b = it := by simpa using hb
    subst e
    exact fp), q⟩
end W7

/-! bool(a tuple) -/
namespace W7
open PySem PySem.Spec PyProof.Rows L2
abbrev NewB (l : Addr) (items : Array Value) (R : Result → Shared → Prop) (s : Shared) : Prop := IsTup s.heap l items ∧ R (.ok (.ret (.bool (!items.isEmpty)))) { s with toks := s.toks + 1 + 1 }
theorem boolT_new (l : Addr) (items : Array Value) (fit : (items.size : Int) < 2 ^ 63) : Meets (Builtin.«bool.__new__» ⟨[.type "bool", .ref l], []⟩) (fun _ R s => NewB l items R s) :=
  Meets.of_wp fun prog w A R s z => by
    rcases z with ⟨tup, fin⟩
    rcases s with ⟨hp, g, d, tk, os⟩
    have sub1 := F.conv_sub_bool
    repeat (any_goals (first | assumption | (with_reducible refine truthy_tuple tup fit ?_) | wp_step))
    all_goals first | exact ⟨_, rfl, fin⟩ | exact fin | skip
section
variable {X : Cx}
/-- bool(a tuple) -/
theorem call_boolTup : CallR X (.type "bool") (fun xs H Q => ∃ (a : Addr) (zs : List V), xs = [.ref a] ∧ SqT X.K H a zs ∧ Q (.bl (!zs.isEmpty)) H) := by
  intro pins s σ H xs us Q I r h
  obtain ⟨a, zs, rfl, hq, q⟩ := h
  obtain ⟨u, rfl, ru⟩ := vals1 r
  cases ru
  obtain ⟨its, rv, pl, hz⟩ := I.tuple hq
  have hlen := rv.length
  have hl := line63
  refine call_bool_1 (boolT_new a its.toArray (by simp only [List.size_toArray]; omega)) ⟨pl, rfl, ?_⟩
  refine ⟨.bl (!zs.isEmpty), H, I.tok _, ?_, q⟩
  cases rv <;> rfl
end
end W7

/-! != of an object of an own class and a value of a built-in type -/
namespace W7
open PySem PySem.W PySem.Calls PyProof.Rows Builtin
section
variable {prog : Program} {w : World} {A : Around} {E : Value → Shared → Prop} {s : Shared} {K : Frag} {x C f : Addr} {yv : Value} {ox : Obj} {od : Option Obj}
theorem slot_ne_any {Q : Value → Shared → Prop} (hu : A.in1.units < cLine) (kin : K.In s.heap) (I : InstAt s.heap x ox C od) (hm : mroIn K C (.type "object") = some true) (at_ : findIn K (.ref C) "__eq__" = some (some (.ref f))) (fn : isFn K (.ref f) = true)
    (h : wpAny (model prog w) A.in1 (call (.ref f) [.ref x, yv]) (PySem.W.BoolBack fun b => Q (.bool (!b))) E s) : wpAny (model prog w) A (call (.builtin "object.__ne__") [.ref x, yv]) Q E s := by
  refine wpAny_call (codeAny_call_builtin PySem.F.slot_object_ne.plain PySem.F.entry_object_ne (check_slot (i := "object.__ne__") (owner := "object") (n := "__ne__") (by decide +kernel) (by decide +kernel) (I.type.andThen (looks_mroIn kin hm)) (PySem.F.args_object_ne_2 _ _) ?_))
  unfold Builtin.«object.__ne__»
  refine wpAny_bind (m := slotArgs "__ne__" 1 _) (wpAny_pure ?_)
  refine wpAny_bind (m := cRoomFor _ _) (wpAny_cRoomFor hu ?_)
  refine wpAny_bind (m := callSpecialIfBound? (.ref x) (Str.ofString "__eq__") _) (ifBound_K kin I at_ fn (wpAny_mono h (fun r s' hq => ?_) fun _ _ y => y))
  cases r <;> first | exact hq.elim | skip
  rename_i b
  exact wpAny_bind (wpAny_truthy_bool (wpAny_pure hq))
theorem ne_unlike {n : String} {Q : Value → Shared → Prop} (room : A.units < cLine) (room1 : A.in1.units < cLine) (kin : K.In s.heap) (I : InstAt s.heap x ox C od) (ty : s.TypeIs yv n) (sub : subIn K (.type n) (.ref C) = some false) (hm : mroIn K C (.type "object") = some true)
    (hn : findIn K (.ref C) (cmpInfo .NotEq).2.1 = some (some (.builtin "object.__ne__"))) (at_ : findIn K (.ref C) "__eq__" = some (some (.ref f))) (fn : isFn K (.ref f) = true)
    (h : wpAny (model prog w) A.in1 (call (.ref f) [.ref x, yv]) (PySem.W.BoolBack fun b => Q (.bool (!b))) E s) : wpAny (model prog w) A (richCompare .NotEq (.ref x) yv) Q E s := by
  have tried : wpAny (model prog w) A (tryCompare (.ref x) (cmpInfo .NotEq).2.1 yv) (fun r s' => ∃ v, r = some v ∧ Q v s') E s := by
    unfold tryCompare
    refine wpAny_bind (ifBound_B kin I hn PySem.F.slot_object_ne.bind (slot_ne_any room1 kin I hm at_ fn (wpAny_mono h (fun r s' z => ?_) fun _ _ e => e)))
    cases r <;> first | exact z.elim | skip
    exact wpAny_pure ⟨_, rfl, z⟩
  unfold richCompare
  simp only [oneThing_ref]
  refine wpAny_holding (wpAny_bind (wpAny_cRoomFor room (wpAny_bind (I.type.here (wpAny_bind (wpAny_typeOf ty ?_))))))
  have unlike : (Value.ref C != Value.type n) = true := rfl
  simp only [unlike, if_true]
  refine wpAny_bind ((looks_subIn kin sub).here ?_)
  simp only [Bool.false_eq_true, if_false]
  refine wpAny_bind (wpAny_mono tried (fun r s' got => ?_) fun _ _ e => e)
  obtain ⟨v, rfl, q⟩ := got
  exact wpAny_pure q
end
end W7
namespace W7
open PySem PySem.Spec PyProof.Rows L2
section
variable {X : Cx} {CX : CXT} {C f : Addr} {fd : FuncData} {ps : List Str} {sp : Sp} {k : Nat}
/-- o != t, t a tuple; o != z, z a text -/
def rNeUnlike (K : PySem.W.Frag) (C : Addr) (sp : Sp) : R2 := fun x y H Q => ∃ (a dx : Addr) (fs : List (Str × V)), x = .ref a ∧ ((∃ b ys, y = .ref b ∧ SqT K H b ys) ∨ ∃ z, y = .str z) ∧ H a = some (.ins C dx fs) ∧ sp [.ref a, y] H (fun v H' => ∃ c, v = .bl c ∧ Q (.bl (!c)) H') E0
theorem op_neUnlike (hm : PySem.W.mroIn X.K C (.type "object") = some true) (s1 : PySem.W.subIn X.K (.type "tuple") (.ref C) = some false) (s2 : PySem.W.subIn X.K (.type "str") (.ref C) = some false) (hn : PySem.W.findIn X.K (.ref C) "__ne__" = some (some (.builtin "object.__ne__"))) (at_ : PySem.W.findIn X.K (.ref C) "__eq__" = some (some (.ref f))) (fn : PySem.W.isFn X.K (.ref f) = true) (F : FnOk X.prog X.w X.K X.mg X.base CX k f fd ps sp) (hr : Room (k + 1) X.A) (hb : Binds X.K fd ps []) (hx : Passes CX X E0) : OpR X (compareOp .NotEq) (rNeUnlike X.K C sp) := by
  intro pins s σ H x y v u Q I rx ry h
  obtain ⟨a, dx, fs, rfl, hy, ha, q⟩ := h
  obtain rfl : v = Value.ref a := rx
  obtain ⟨_, Oa, _⟩ := ins_get I.hok ha
  obtain ⟨_, Ja, _⟩ := Oa.look
  have sb : Sub X k X.A.in1 := ⟨hr.in1, rfl⟩
  have go : ∀ n, s.TypeIs u n → PySem.W.subIn X.K (.type n) (.ref C) = some false → wpAny (model X.prog X.w) X.A (compareOp .NotEq (.ref a) u) (EP X pins σ Q) X.xe s := fun n ty sub =>
    ne_unlike (Nat.lt_of_le_of_lt (Nat.le_add_right _ _) hr.units) (Nat.lt_of_le_of_lt (Nat.le_add_right _ _) sb.room.units) I.kIn Ja ty sub hm hn at_ fn (wpAny_mono (run_sub (vs := [.ref a, y]) (us := [.ref a, u]) F sb hb hx I (.cons rfl (.cons ry .nil)) q) (fun r s' z => by
      obtain ⟨v, H', I', rv, c, rfl, hQ⟩ := z
      cases (show r = Value.bool c from rv)
      exact ⟨.bl (!c), H', I', rfl, hQ⟩) fun _ _ z => z)
  rcases hy with ⟨b, ys, rfl, hT⟩ | ⟨z, rfl⟩
  · obtain rfl : u = Value.ref b := ry
    obtain ⟨its, rv, pl, hz⟩ := I.tuple hT
    exact go "tuple" pl.typeIs s1
  · obtain ⟨t, rfl⟩ := ry
    exact go "str" rfl s2
end
end W7

/-! list(o) of an object of an own class with __iter__ (an iterator over a tuple) and __len__ -/
namespace W7
open PySem PySem.Spec PyProof.Rows L2 RZ L5 R7
section
variable {X : Cx} {pins : List (Addr × Obj)} {σ : L2.St} {H : Hp} {A1 : Around} {Rs : Result → Shared → Prop} {q it m : Addr} {xs : List V}
theorem fp_ne {K : PySem.W.Frag} {o : HO} (f : FpOk X pins (upd H q o) it) : it ≠ q := fun z => by
  have := f.1
  rw [z, upd_same] at this
  cases this
theorem tup_loop (hh : A1.in1.handled = none) (hT : SqT X.K H m xs) (hq0 : ∃ ys, H q = some (.lst ys)) (hz : xs.length ≤ 1000)
    (hdone : ∀ s, Inv X pins σ (upd H q (.lst xs)) s → Rs (.ok (.ret .none)) s) :
    ∀ (n i : Nat) (s : Shared), n + i = xs.length → Inv X pins σ (upd H q (.lst (xs.take i))) s → FpOk X pins (upd H q (.lst (xs.take i))) it → s.heap.IsTupleIter it m i →
      codeAny (model X.prog X.w) A1 (.builtin "list.extend.loop" ⟨[.ref q, .ref it, .none], []⟩) Rs s := by
  obtain ⟨ys, hq0⟩ := hq0
  have hTi : ∀ i, SqT X.K (upd H q (.lst (xs.take i))) m xs := fun i => sqt_updL hq0 hT
  intro n
  induction n with
  | zero =>
    intro i s hn I hf st
    have hi : i = xs.length := by omega
    refine codeAny_builtin PySem.F.entry_extend_loop ?_
    rw [Around.under_plainId PySem.F.plain_extend_loop _]
    show wpAny _ A1.in1 (pyNext (.ref it) >>= _) _ _ s
    obtain ⟨its, rv, pl, hzz⟩ := I.tuple (hTi i)
    have hl := rv.length
    obtain ⟨f0, f1, f2, f3, f4, f5⟩ := hf
    refine wpAny_bind (wpAny_pyNext_tuple_end hh st pl (by simp; omega) fun h' eb => ?_)
    have I1 := I.turned (t' := s.toks) (fun b o hb e => eb b o hb e) f0 f1 f3 f4 f5
    rw [hi, List.take_length] at I1
    exact wpAny_pure (hdone _ I1)
  | succ n ih =>
    intro i s hn I hf st
    have hi : i < xs.length := by omega
    refine codeAny_builtin PySem.F.entry_extend_loop ?_
    rw [Around.under_plainId PySem.F.plain_extend_loop _]
    show wpAny _ A1.in1 (pyNext (.ref it) >>= _) _ _ s
    obtain ⟨its, rv, pl, hzz⟩ := I.tuple (hTi i)
    have hx : xs[i]? = some xs[i] := List.getElem?_eq_getElem hi
    obtain ⟨u, hu, ru⟩ := rv.get hx
    have hne : it ≠ q := fp_ne (K := X.K) hf
    obtain ⟨f0, f1, f2, f3, f4, f5⟩ := hf
    refine wpAny_bind (wpAny_pyNext_tuple_item st pl (x := u) (by simpa using hu) fun h' st' sb => ?_)
    have I1 := I.turned (t' := s.toks) (fun b o hb e => (sb.2 b hb).trans e) f0 f1 f3 f4 f5
    show wpAny _ A1.in1 (updateSeq q (·.push u) >>= _) _ _ _
    obtain ⟨z, its2, k, r2, hl, e⟩ := I1.lstM upd_same
    have hl2 : its2.length = i := by
      rw [← hl, List.length_take]
      omega
    refine wpAny_bind (wpAny_updateSeq e rfl (wpAny_pure ⟨plainId_quiet PySem.F.plain_extend_loop _, ?_⟩) (by rw [List.size_toArray, hl2]; exact Nat.le_of_lt (sizeK (by omega))) (by show (its2.toArray.push u).size ≤ sizeLine + 1; rw [Array.size_push, List.size_toArray, hl2]; exact Nat.le_trans (Nat.le_of_lt (sizeK (n := i + 1) (by omega))) (Nat.le_succ _)))
    have I2 := I1.lset (its' := its2 ++ [u]) (ys := xs.take i ++ [xs[i]]) (t' := s.toks) upd_same e (f := (·.push u)) (by simp) (r2.append (.cons ru .nil)) (by rw [List.length_append, List.length_take, List.length_singleton]; exact Nat.le_of_lt (sizeK (by omega)))
    have tk : xs.take (i + 1) = xs.take i ++ [xs[i]] := by
      rw [List.take_add_one, hx]
      rfl
    rw [upd_upd, ← tk] at I2
    refine ih (i + 1) _ (by omega) I2 ⟨?_, f1, f2, f3, f4, f5⟩ ?_
    · rw [upd_ne hne] at f0 ⊢
      exact f0
    · exact st'.at fun o e => by rw [Heap.get?_update_other _ _ (Ne.symm hne)]; exact e
end
end W7

/-! list(o): the length hint by the own len -/
namespace W7
open PySem PySem.Spec PyProof.Rows L2 RZ L5 R7 Builtin
section
variable {prog : Program} {w : World} {A : Around} {E : Value → Shared → Prop} {s : Shared} {K : PySem.W.Frag} {a C f : Addr} {ox : Obj} {od : Option Obj}
theorem own_hint2 {Q : Bool → Shared → Prop} (kin : K.In s.heap) (J : PySem.W.InstAt s.heap a ox C od) (at_ : PySem.W.findIn K (.ref C) "__len__" = some (some (.ref f))) (fn : PySem.W.isFn K (.ref f) = true)
    (h : wpAny (model prog w) A.in1 (call (.ref f) [.ref a]) (PySem.W.LenBack fun v s' => ∀ n t, v = .int n t → n.toNat ≤ 1000000 ∧ Q (n != 0) s') (fun _ _ => False) s) :
    wpAny (model prog w) A (List.listLengthHint (.ref a)) Q E s := by
  unfold List.listLengthHint
  refine wpAny_bind (wpAny_bind (J.type.here ((PySem.W.looks_findIn kin at_).here ?_)))
  refine PySem.W.KFB.if_not rfl ?_
  show wpAny _ _ (if (some (Value.ref f)).isSome = true then _ else _) _ _ _
  refine wpAny_ite_true (decide_eq_true rfl) ?_
  refine wpAny_bind (wpAny_rule ?_)
  refine wpAny_bind (wpAny_attempt (len_in kin J at_ fn (wpAny_mono h (fun v s' z => ?_) fun _ _ e => False.elim e)))
  cases v <;> first | exact z.elim | skip
  rename_i n t
  obtain ⟨z1, z2⟩ := z
  obtain ⟨z3, z4⟩ := z2 n _ rfl
  refine ⟨z1, ?_⟩
  refine wpAny_bind (wpAny_pure ?_)
  refine wpAny_ite_false (decide_eq_false (by rw [notLongL (Nat.le_trans z3 (by decide))]; decide)) ?_
  exact wpAny_pure z4
end
end W7

/-! list(o), o of an own class with __iter__ and __len__ -/
namespace W7
open PySem PySem.Spec PyProof.Rows L2 RZ L5 R7 Builtin ItX
/-- __iter__ of the class, run at A2: as ItM -/
def ItMs (X : Cx) (A2 : Around) (f : Addr) (R : Addr → Addr → Hp → Prop) : Prop :=
  ∀ (pins : List (Addr × Obj)) (s : Shared) (σ : L2.St) (H : Hp) (a m : Addr), Inv X pins σ H s → R a m H → wpAny (model X.prog X.w) A2 (call (.ref f) [.ref a]) (fun v s' => ∃ it, v = .ref it ∧ Inv X pins σ (upd H it (ItTO m it)) s' ∧ H it = none ∧ X.s_0.heap.objs.size ≤ it) X.xe s
section
variable {X : Cx} {pins : List (Addr × Obj)} {σ : L2.St} {H : Hp} {s : Shared} {A1 : Around} {Rs : Result → Shared → Prop} {q a m C fi fl : Addr} {xs : List V} {k : Nat} {fd : FuncData} {ps : List Str} {sp : Sp} {CX : CXT} {R : Addr → Addr → Hp → Prop}
theorem own_ext (hh : A1.in1.handled = none) (noerr : ∀ e s', X.xe e s' → False) (atI : PySem.W.findIn X.K (.ref C) "__iter__" = some (some (.ref fi))) (fnI : PySem.W.isFn X.K (.ref fi) = true) (MI : ItMs X A1.in1 fi R)
    (atL : PySem.W.findIn X.K (.ref C) "__len__" = some (some (.ref fl))) (fnL : PySem.W.isFn X.K (.ref fl) = true) (FL : FnOk X.prog X.w X.K X.mg X.base CX k fl fd ps sp) (sb : Sub X k A1.in1.in1) (bL : Binds X.K fd ps []) (hx : Passes CX X E0)
    (I : Inv X pins σ H s) {dx : Addr} {fs : List (Str × V)} (ha : H a = some (.ins C dx fs)) (hR : R a m H) (hT : SqT X.K H m xs) (hq : H q = some (.lst [])) (hz : xs.length ≤ 1000)
    (spL : ∀ H1, Same H H1 → sp [.ref a] H1 (fun v H' => (∃ n : Nat, v = .int ((n : Nat) : Int) ∧ n ≤ 1000000) ∧ H' = H1) E0)
    (fin : ∀ s', Inv X pins σ (upd H q (.lst xs)) s' → Rs (.ok (.ret .none)) s') :
    wpAny (model X.prog X.w) A1.in1 (List.listExtendWith (.ref q) (.ref a) .none)
      (fun r s' => match r with | .done o => Rs (.ok o) s' | .again c => c.quiet = true ∧ codeAny (model X.prog X.w) A1 c Rs s') (fun e s' => Rs (.error e) s') s := by
  have qa : q ≠ a := fun z => by
    rw [z, ha] at hq
    cases hq
  obtain ⟨_, Oa, _⟩ := ins_get I.hok ha
  obtain ⟨_, Ja, _⟩ := Oa.look
  obtain ⟨_, hF⟩ := I.fr
  unfold List.listExtendWith
  refine wpAny_bind (Ja.type.here ?_)
  have c1 : List.listSameRef (.ref q) (.ref a) = false := by simp [List.listSameRef, qa]
  have c2 : (Value.ref C == Value.type "list") = false := rfl
  have c3 : (Value.ref C == Value.type "tuple") = false := rfl
  simp only [c1, c2, c3, Bool.or_false, Bool.false_eq_true, if_false]
  refine wpAny_bind (PySem.W.owit_iter hF I.ok.mod.kin Ja atI fnI (wpAny_mono (MI pins s σ H a m I hR) (fun v s1 z => ?_) fun e s' he => (noerr e s' he).elim))
  obtain ⟨it, rfl, I1, hit, hsz⟩ := z
  have hti := (I1.hok it _ upd_same).1
  obtain ⟨o, ho, hc, hd⟩ := id hti
  have hty : s1.TypeIs (.ref it) "tuple_iterator" := ⟨o, ho, hc⟩
  unfold PySem.W.OwitIt
  refine wpAny_specialOf (name := Str.ofString "__next__") hty PySem.F.slot_tuple_iterator_next.lookup ?_
  have sm1 : Same H (upd H it (ItTO m it)) := same_new hit _
  obtain ⟨_, Ob, _⟩ := ins_get I1.hok (sm1 _ _ ha)
  obtain ⟨_, Jb, _⟩ := Ob.look
  refine wpAny_bind (wpAny_holding (own_hint2 I1.kIn Jb atL fnL (wpAny_mono (run_sub (vs := [.ref a]) (us := [.ref a]) FL sb bL hx I1 (.cons rfl .nil) (spL _ sm1)) (fun r s2 z => ?_) fun e s' he => noerr e s' he)))
  obtain ⟨v, H2, I2, rv, ⟨n, rfl, hn⟩, rfl⟩ := z
  obtain ⟨t, rfl⟩ := rv
  refine ⟨⟨by omega, by omega⟩, fun n' t' e => ?_⟩
  cases e
  refine ⟨by omega, ?_⟩
  have I3 : Inv X pins σ (upd H it (ItTO m it)) { s2 with toks := s2.toks + 1 } := I2.tok _
  have ht3 := (I3.hok it _ upd_same).1
  have I4 := inv_drop I3 (a := it) (show (upd H it (ItTO m it)) it = some (.ext _) from upd_same)
  rw [dropH_upd hit] at I4
  have f4 := inv_fp I3 (a := it) (u := ItTO m it) upd_same hsz
  rw [dropH_upd hit] at f4
  have hH : upd H q (.lst []) = H := by
    funext b
    by_cases hb : b = q
    · rw [hb, upd_same, hq]
    · rw [upd_ne hb]
  have go : ∀ s', Inv X pins σ H s' → s'.heap.IsTupleIter it m 0 → codeAny (model X.prog X.w) A1 (.builtin "list.extend.loop" ⟨[.ref q, .ref it, .none], []⟩) Rs s' := fun s' J hi =>
    tup_loop hh hT ⟨_, hq⟩ hz fin xs.length 0 s' (Nat.add_zero _) (by rw [List.take_zero, hH]; exact J) (by rw [List.take_zero, hH]; exact f4) hi
  have itq : it ≠ q := fun z => by
    rw [z, hq] at hit
    cases hit
  refine wpAny_ite_split (fun _ => ?_) (fun _ => wpAny_pure ⟨plainId_quiet PySem.F.plain_extend_loop _, go _ I4 ht3⟩)
  refine wpAny_bind (wpAny_rule ?_)
  refine wpAny_bind ?_
  show wpAny _ _ (updateSeq q (·.push .none) >>= fun _ => updateSeq q (·.pop)) _ _ _
  obtain ⟨_, is1, k1, r1, _, e1⟩ := I4.lstM hq
  cases r1
  refine wpAny_bind (wpAny_updateSeq e1 rfl ?_)
  have I5 := I4.lset (f := (·.push Value.none)) (its' := [Value.none]) (ys := [.non]) (t' := s2.toks + 1) hq e1 (by simp) (.cons rfl .nil) (by rw [List.length_singleton, sizeLine_eq]; decide)
  have ht5 : (s2.heap.update q (Obj.mapSeq (·.push Value.none))).IsTupleIter it m 0 := ht3.at fun o e => by
    rw [Heap.get?_update_other _ _ (Ne.symm itq)]
    exact e
  obtain ⟨_, is2, k2, r2, _, e2⟩ := I5.lstM upd_same
  obtain ⟨u2, rfl, ru2⟩ := r2.one
  refine wpAny_updateSeq e2 rfl ?_ (by show 1 ≤ sizeLine; rw [sizeLine_eq]; decide) (by show 0 ≤ sizeLine + 1; exact Nat.zero_le _)
  have I6 := I5.lset (f := (·.pop)) (its := [u2]) (its' := []) (ys := []) (t' := s2.toks + 1) upd_same e2 (by rfl) .nil (Nat.zero_le _)
  rw [upd_upd, hH] at I6
  refine wpAny_pure ⟨plainId_quiet PySem.F.plain_extend_loop _, go _ I6 (ht5.at fun o e => ?_)⟩
  rw [Heap.get?_update_other _ _ (Ne.symm itq)]
  exact e
/-- list(o): ys stand in the tuple over which o's iterator goes -/
def rListO (K : PySem.W.Frag) (C : Addr) (R : Addr → Addr → Hp → Prop) (sp : Sp) : List V → Hp → VK → Prop := fun vs H Q => ∃ (a m dx : Addr) (fs : List (Str × V)) (ys : List V), vs = [.ref a] ∧ H a = some (.ins C dx fs) ∧ ys.length ≤ 1000 ∧
  (∀ H', Same H H' → R a m H' ∧ SqT K H' m ys ∧ sp [.ref a] H' (fun v H2 => (∃ n : Nat, v = .int ((n : Nat) : Int) ∧ n ≤ 1000000) ∧ H2 = H') E0) ∧ ∀ q, H q = none → Q (.ref q) (upd H q (.lst ys))
theorem call_listO (noerr : ∀ e s', X.xe e s' → False) (atI : PySem.W.findIn X.K (.ref C) "__iter__" = some (some (.ref fi))) (fnI : PySem.W.isFn X.K (.ref fi) = true) (MI : ItMs X X.A.in1.in1 fi R)
    (atL : PySem.W.findIn X.K (.ref C) "__len__" = some (some (.ref fl))) (fnL : PySem.W.isFn X.K (.ref fl) = true) (FL : FnOk X.prog X.w X.K X.mg X.base CX k fl fd ps sp) (hr : Room (k + 3) X.A) (bL : Binds X.K fd ps []) (hx : Passes CX X E0) : CallR X (.type "list") (rListO X.K C R sp) := by
  intro pins s σ H vs us Q I rv h
  obtain ⟨a, m, dx, fs, ys, rfl, ha, hz, hst, fin⟩ := h
  obtain ⟨u, rfl, ru⟩ := rv.one
  cases ru
  have sb : Sub X k X.A.in1.in1.in1 := ⟨((hr.in1).in1).in1, rfl⟩
  refine callType_codes (Q₁ := fun o t => o = .ref s.heap.objs.size ∧ t = { s with heap := s.heap.push { cls := .type "list", data := .seq #[] } }) PySem.F.called_list (PySem.F.typeCall_list_1 _) PySem.F.entry_list_init (code_list_new _ ⟨rfl, rfl⟩) fun o t z => ?_
  obtain ⟨rfl, rfl⟩ := z
  have at0 : (s.heap.push { cls := .type "list", data := .seq #[] }).get? s.heap.objs.size = some { cls := .type "list", data := .seq #[] } := Heap.get?_push_size _ rfl
  refine ⟨⟨_, at0, rfl⟩, PySem.F.args_list_init_2 _ _, ?_⟩
  have free : H s.heap.objs.size = none := I.hok.fresh (Nat.le_refl _)
  have I1 : Inv X pins σ (upd H s.heap.objs.size (.lst [])) { s with heap := s.heap.push { cls := .type "list", data := .seq #[] } } := I.lnew (its := []) (t' := s.toks) .nil (Nat.zero_le _)
  have sm := same_new free (.lst [])
  obtain ⟨hR, hT, _⟩ := hst _ sm
  show wpAny _ _ (do let o ← List.listItems (.ref s.heap.objs.size); List.listUpdate (.ref s.heap.objs.size) (fun _ => #[]); letGo o.toList.reverse; List.listExtendWith (.ref s.heap.objs.size) (.ref a) .none) _ _ _
  refine wpAny_bind ?_
  unfold List.listItems
  refine wpAny_bind (wpAny_seqItems at0 rfl (wpAny_pure ?_))
  show wpAny _ _ (updateSeq s.heap.objs.size (fun _ => #[]) >>= fun _ => letGo (#[] : Array Value).toList.reverse >>= fun _ => List.listExtendWith (.ref s.heap.objs.size) (.ref a) .none) _ _ _
  refine wpAny_bind (wpAny_updateSeq at0 rfl ?_)
  have I2 := I1.lset (f := fun _ => #[]) (its := []) (its' := []) (ys := []) (t' := s.toks) upd_same at0 rfl .nil (Nat.zero_le _)
  rw [upd_upd] at I2
  refine wpAny_bind (wpAny_letGo ?_)
  refine own_ext (A1 := X.A.in1) (Rs := wants (fun r t => r = .none ∧ EP X pins σ Q (.ref s.heap.objs.size) t) X.xe) ((hr.in1).in1).hd noerr atI fnI MI atL fnL FL sb bL hx I2 (sm _ _ ha) hR hT upd_same hz (fun H1 s1 => (hst H1 (sm.trans s1)).2.2) fun t J => ?_
  rw [upd_upd] at J
  exact ⟨rfl, .ref s.heap.objs.size, _, J, rfl, fin _ free⟩
end
end W7

/-! bool(o) of an own class with __bool__ -/
namespace W7
open PySem PySem.W PySem.Calls PyProof.Rows Builtin L2
section
variable {prog : Program} {w : World} {M : Model} {A : Around} {E : Value → Shared → Prop} {s : Shared} {K : PySem.W.Frag} {x C f : Addr} {ox : Obj} {od : Option Obj}
theorem truthy_own {Q : Bool → Shared → Prop} (X : K.In s.heap) (I : InstAt s.heap x ox C od) (hs : findIn K (.ref C) "__bool__" = some (some (.ref f))) (hf : isFn K (.ref f) = true)
    (h : wpAny M A (call (.ref f) [.ref x]) (PySem.W.BoolBack Q) E s) : wpAny M A (truthy (.ref x)) Q E s := by
  unfold truthy
  refine wpAny_bind (m := callSpecial? (.ref x) (Str.ofString "__bool__")) (special_fn X I hs (beq_iff_eq.mp hf) (wpAny_mono h (fun r s' hr => ?_) fun _ _ y => y))
  cases r <;> first | exact hr.elim | skip
  exact wpAny_pure hr
theorem call_bool_own {Q : Value → Shared → Prop} (X : K.In s.heap) (I : InstAt s.heap x ox C od) (hs : findIn K (.ref C) "__bool__" = some (some (.ref f))) (hf : isFn K (.ref f) = true)
    (h : wpAny (model prog w) A.in1.in1 (call (.ref f) [.ref x]) (PySem.W.BoolBack fun b t => Q (.bool b) t) E s) : wpAny (model prog w) A (call (.type "bool") [.ref x]) Q E s := by
  refine callType_codes (T := "bool") (Bi := Builtin.«object.__init__») (Q₁ := fun r s₁ => ∃ y, r = .bool y ∧ Q r s₁) PySem.F.called_bool (PySem.F.typeCall_bool_1 _) PySem.F.entry_object_init ?_ ?_
  · refine codeAny_of_tree ?_
    show wpAny _ A.in1.in1 (do checkBuiltinCall "bool.__new__" ⟨[.type "bool", .ref x], []⟩; again (.builtin "bool.__new__" ⟨[.type "bool", .ref x], []⟩)) _ _ s
    refine wpAny_bind (wpAny_of_eq (PySem.F.newCall_bool_1 _) (wpAny_pure ⟨plainId_quiet (by decide +kernel) _, codeAny_builtin PySem.F.entry_bool_new ?_⟩))
    rw [Around.under_plainId (by decide +kernel) _]
    have sub1 := F.conv_sub_bool
    have ht : wpAny (model prog w) A.in1.in1 (truthy (.ref x)) (fun b t => Q (.bool b) t) E s := truthy_own X I hs hf h
    rcases s with ⟨hp, g, d, tk, os⟩
    repeat (first | (with_reducible refine wpAny_mono ht (fun b t hb => ?_) (fun _ _ z => z)) | wp_step)
    exact ⟨b, rfl, hb⟩
  · rintro obj s₁ ⟨y, rfl, hq⟩
    have ty : s₁.TypeIs (.bool y) "bool" := rfl
    exact ⟨ty, PySem.F.args_object_init_2 _ _, object_init_meets PySem.F.called_bool.init.lookup PySem.F.called_bool.made (by decide) prog w A.in1 _ s₁ ⟨ty, rfl, hq⟩⟩
end
section
variable {X : Cx} {C f : Addr} {CX : CXT} {k : Nat} {fd : FuncData} {ps : List Str} {sp : Sp}
def rBoolOwn (C : Addr) (sp : Sp) : List V → Hp → VK → Prop := fun vs H Q => ∃ (a dx : Addr) (fs : List (Str × V)), vs = [.ref a] ∧ H a = some (.ins C dx fs) ∧ sp [.ref a] H (fun v H' => ∃ b : Bool, v = .bl b ∧ Q (.bl b) H') E0
theorem call_boolOwn (at_ : PySem.W.findIn X.K (.ref C) "__bool__" = some (some (.ref f))) (fn : PySem.W.isFn X.K (.ref f) = true) (F : FnOk X.prog X.w X.K X.mg X.base CX k f fd ps sp) (hr : Room (k + 2) X.A) (hb : Binds X.K fd ps []) (hx : Passes CX X E0) : CallR X (.type "bool") (rBoolOwn C sp) := by
  intro pins s σ H vs us Q I r h
  obtain ⟨a, dx, fs, rfl, ha, q⟩ := h
  cases r with
  | cons r0 rr =>
    cases rr
    cases r0
    obtain ⟨_, Oa, _⟩ := ins_get I.hok ha
    obtain ⟨_, Ja, _⟩ := Oa.look
    have sb : Sub X k X.A.in1.in1 := ⟨(hr.in1).in1, rfl⟩
    refine call_bool_own I.kIn Ja at_ fn (wpAny_mono (run_sub (vs := [.ref a]) (us := [.ref a]) F sb hb hx I (.cons rfl .nil) q) (fun r s' z => ?_) fun _ _ z => z)
    obtain ⟨v, H', I', rv, b, rfl, hQ⟩ := z
    obtain rfl : r = Value.bool b := rv
    exact ⟨.bl b, H', I', rfl, hQ⟩
end
end W7

/-! an object of an own class == a tuple -/
namespace W7
open PySem PySem.W PySem.Calls PyProof.Rows Builtin
section
variable {prog : Program} {w : World} {A : Around} {E : Value → Shared → Prop} {s : Shared} {K : Frag} {x C f : Addr} {yv : Value} {ox : Obj} {od : Option Obj}
theorem eq_unlike {n : String} {Q : Value → Shared → Prop} (room : A.units < cLine) (kin : K.In s.heap) (I : InstAt s.heap x ox C od) (ty : s.TypeIs yv n) (sub : subIn K (.type n) (.ref C) = some false)
    (at_ : findIn K (.ref C) (cmpInfo .Eq).2.1 = some (some (.ref f))) (fn : isFn K (.ref f) = true) (h : wpAny (model prog w) A (call (.ref f) [.ref x, yv]) (PySem.W.CmpBack Q) E s) : wpAny (model prog w) A (richCompare .Eq (.ref x) yv) Q E s := by
  have tried : wpAny (model prog w) A (tryCompare (.ref x) (cmpInfo .Eq).2.1 yv) (fun r s' => ∃ v, r = some v ∧ Q v s') E s := by
    unfold tryCompare
    refine wpAny_bind (ifBound_K kin I at_ fn (wpAny_mono h (fun v s' hv => ?_) fun _ _ e => e))
    cases v <;> first | exact hv.elim | exact wpAny_pure ⟨_, rfl, hv⟩
  unfold richCompare
  simp only [oneThing_ref]
  refine wpAny_holding (wpAny_bind (wpAny_cRoomFor room (wpAny_bind (I.type.here (wpAny_bind (wpAny_typeOf ty ?_))))))
  have unlike : (Value.ref C != Value.type n) = true := rfl
  simp only [unlike, if_true]
  refine wpAny_bind ((looks_subIn kin sub).here ?_)
  simp only [Bool.false_eq_true, if_false]
  refine wpAny_bind (wpAny_mono tried (fun r s' got => ?_) fun _ _ e => e)
  obtain ⟨v, rfl, q⟩ := got
  exact wpAny_pure q
end
end W7
namespace W7
open PySem PySem.Spec PyProof.Rows L2
section
variable {X : Cx} {CX : CXT} {C f : Addr} {fd : FuncData} {ps : List Str} {sp : Sp} {k : Nat}
/-- o == t, t a tuple -/
def rEqTup (K : PySem.W.Frag) (C : Addr) (sp : Sp) : R2 := fun x y H Q => ∃ (a dx b : Addr) (fs : List (Str × V)) (ys : List V), x = .ref a ∧ y = .ref b ∧ SqT K H b ys ∧ H a = some (.ins C dx fs) ∧ sp [.ref a, .ref b] H Q E0
theorem op_eqTup (s1 : PySem.W.subIn X.K (.type "tuple") (.ref C) = some false) (at_ : PySem.W.findIn X.K (.ref C) "__eq__" = some (some (.ref f))) (fn : PySem.W.isFn X.K (.ref f) = true) (F : FnOk X.prog X.w X.K X.mg X.base CX k f fd ps sp) (hr : Room k X.A) (hb : Binds X.K fd ps []) (hx : Passes CX X E0) : OpR X (compareOp .Eq) (rEqTup X.K C sp) := by
  intro pins s σ H x y v u Q I rx ry h
  obtain ⟨a, dx, b, fs, ys, rfl, rfl, hT, ha, q⟩ := h
  obtain rfl : v = Value.ref a := rx
  obtain rfl : u = Value.ref b := ry
  obtain ⟨_, Oa, _⟩ := ins_get I.hok ha
  obtain ⟨_, Ja, _⟩ := Oa.look
  obtain ⟨its, rv, pl, hz⟩ := I.tuple hT
  refine eq_unlike (Nat.lt_of_le_of_lt (Nat.le_add_right _ _) hr.units) I.kIn Ja pl.typeIs s1 at_ fn (wpAny_mono (run_fn (dvs := []) (ds := []) (vs := [.ref a, .ref b]) (us := [.ref a, .ref b]) (Q := Q) F hr hb .nil hx I (.cons rfl (.cons rfl .nil)) q) (fun r s' z => ?_) fun _ _ z => z)
  cases r with
  | notImplemented =>
    obtain ⟨_, _, _, rel, _⟩ := z
    exact no_notimpl rel
  | _ => exact z
end
end W7

namespace K60
open PySem PySem.Spec PyProof.Rows L2 RZ L5 XX LK M24 DT M38
open W7
def tabF (e : Addr) (b : Int) : List (Str × V) := [("_entries", .ref e), ("_bottom", .int b)]
/-- a table at a -/
def TabAt (K : PySem.W.Frag) (C : Addr) (H : Hp) (a : Addr) (T : Ent × Int) : Prop := ∃ dx e, H a = some (.ins C dx (tabF e T.2)) ∧ H e = some (.dT (iT T.1))
theorem TabAt.same {K : PySem.W.Frag} {C : Addr} {H H' : Hp} {a : Addr} {T : Ent × Int} (s : Same H H') : TabAt K C H a T → TabAt K C H' a T := fun ⟨dx, e, h1, h2⟩ => ⟨dx, e, s _ _ h1, s _ _ h2⟩
theorem EntOk.n {L : Ent} (h : EntOk L) : EntN L := ⟨h.nd, fun t ht => by
  obtain ⟨p, hp, rfl⟩ := List.mem_map.mp ht
  obtain ⟨s, d, e, _⟩ := h.plc p hp
  rw [e]
  simp, h.few⟩
theorem entOk_nil : EntOk [] := ⟨.nil, fun _ h => (nomatch h), by decide⟩
structure TabT (K : PySem.W.Frag) (mg : Str → Option Value) where
  C : Addr
  cl : Cls K C
  nE : NoAttr K C "_entries"
  nB : NoAttr K C "_bottom"
  gC : mg "Table" = some (.ref C)
  fI : Addr
  dI : FuncData
  FI : FunD K "__init__" "Table.__init__" (defArgs s_init) (defBody s_init) (defScope s_init) [.int 1] [] fI dI
  bI : Binds K dI ["self", "entries", "bottom"] []
  tI : Nat
  eI : Binds K dI ["self", "entries", "bottom"] [.int 1 tI]
  M : Mk K C fI
  ty : ∀ (H : Hp) (a dx : Addr) (fs : List (Str × V)), H a = some (.ins C dx fs) → TyX K H (.ref a) (.ref C)
  kit : PySem.W.kitOne K (.ref C) (.ref C) = some true
  kn : PySem.W.kitOne K (.type "NoneType") (.ref C) = some false
  sn : PySem.W.subIn K (.type "NoneType") (.ref C) = some false
  kd : PySem.W.kitOne K (.type "dict") (.ref C) = some false
  sd : PySem.W.subIn K (.type "dict") (.ref C) = some false
  first : PySem.W.selfFirst K C = true
  p1 : Addr
  g1 : Addr
  d1 : FuncData
  P1 : PropOf K C "entries" p1 g1
  F1 : Fun K "entries" "Table.entries" s_entries g1 d1
  b1 : Binds K d1 ["self"] []
  p2 : Addr
  g2 : Addr
  d2 : FuncData
  P2 : PropOf K C "bottom" p2 g2
  F2 : Fun K "bottom" "Table.bottom" s_bottom g2 d2
  b2 : Binds K d2 ["self"] []
  p3 : Addr
  g3 : Addr
  d3 : FuncData
  P3 : PropOf K C "end" p3 g3
  F3 : Fun K "end" "Table.end" s_end_ g3 d3
  b3 : Binds K d3 ["self"] []
  fA : Addr
  dA : FuncData
  FA : Fun K "at" "Table.at" s_at fA dA
  bA : Binds K dA ["self", "step", "degree"] []
  mA : Meth K C "at" fA
  fX : Addr
  dX : FuncData
  FX : FunD K "times" "Table.times" (defArgs s_times) (defBody s_times) (defScope s_times) [.int 1] [] fX dX
  bX : Binds K dX ["self", "top", "bottom"] []
  tX : Nat
  eX : Binds K dX ["self", "top", "bottom"] [.int 1 tX]
  mX : Meth K C "times" fX
  fP : Addr
  dP : FuncData
  FP : Fun K "__add__" "Table.__add__" s_add fP dP
  bP : Binds K dP ["self", "other"] []
  aP : PySem.W.findIn K (.ref C) (PySem.dunder Operator.Add.info.2) = some (some (.ref fP))
  nP : PySem.W.isFn K (.ref fP) = true
  fM : Addr
  dM : FuncData
  FM : Fun K "__sub__" "Table.__sub__" s_sub fM dM
  bM : Binds K dM ["self", "other"] []
  aM : PySem.W.findIn K (.ref C) (PySem.dunder Operator.Sub.info.2) = some (some (.ref fM))
  nM : PySem.W.isFn K (.ref fM) = true
  fN : Addr
  dN : FuncData
  FN : Fun K "__neg__" "Table.__neg__" s_neg fN dN
  bN : Binds K dN ["self"] []
  aN : PySem.W.findIn K (.ref C) "__neg__" = some (some (.ref fN))
  nN : PySem.W.isFn K (.ref fN) = true
  fE : Addr
  dE : FuncData
  FE : Fun K "__eq__" "Table.__eq__" s_eq fE dE
  bE : Binds K dE ["self", "other"] []
  aE : PySem.W.findIn K (.ref C) "__eq__" = some (some (.ref fE))
  nE' : PySem.W.isFn K (.ref fE) = true
  fB : Addr
  dB : FuncData
  FB : Fun K "__bool__" "Table.__bool__" s_bool fB dB
  bB : Binds K dB ["self"] []
  aB : PySem.W.findIn K (.ref C) "__bool__" = some (some (.ref fB))
  nB' : PySem.W.isFn K (.ref fB) = true
  hm : PySem.W.mroIn K C (.type "object") = some true
  hne : PySem.W.findIn K (.ref C) "__ne__" = some (some (.builtin "object.__ne__"))
section
variable {P : Program} {w : World} {K : PySem.W.Frag} {mg : Str → Option Value} {base : Heap}
theorem FunD.ok0 {x qual : Str} {st : Stmt} {f : Addr} {fd : FuncData} {N ps : List Str} {k : Nat} {sp : Sp} {dvs : List V} {kws : List (Str × V)} (F : FunD K x qual (defArgs st) (defBody st) (defScope st) dvs kws f fd) (S : FnScope N ps (defScope st)) (len : ∀ vs H Q E, sp vs H Q E → vs.length = ps.length)
    (hbody : ∀ (cdv : Value) (A : Around) (outer : List Env) (s : Shared) (H : Hp) (vs : List V) (Q : VK) (E : XK), Room k (A.deeper (envOfC qual (defScope st) s.heap.objs.size f cdv)) → sp vs H Q E →
      ∃ t, PSs (cxOf CX0 P w K mg base N qual (defScope st) f cdv A outer s H E).nox (defBody st) t ∧ t { nx := fun _ H' => Q .non H', rt := Q } (start N vs) H) : FnOk P w K mg base CX0 (k + 1) f fd ps sp := by
  obtain ⟨oc, od, dV, kV, doc, pm, an, cdv, ct, osl, rfl, lk, hcd, _, _⟩ := F.ex
  refine fn_of lk hcd S len fun A outer s H vs Q E hr hsp => ?_
  obtain ⟨t, h, q⟩ := hbody cdv A outer s H vs Q E hr hsp
  exact ⟨t, h.nox, q⟩
def Fr (p : Addr) (H H' : Hp) : Prop := ∀ b o, b ≠ p → H b = some o → H' b = some o
def sp_init (K : PySem.W.Frag) (C : Addr) : Sp := fun vs H Q _ => ∃ (p dx d : Addr) (L : Ent) (b : Int), vs = [.ref p, .ref d, .int b] ∧ H p = some (.ins C dx []) ∧ H d = some (.dT (iT L)) ∧ EntOk L ∧ Bd L BIG ∧ -BIG < b ∧ b < BIG ∧ b ≠ 0 ∧
  ∀ H' e, Fr p H H' → H' p = some (.ins C dx (tabF e (low L b).2)) → H' e = some (.dT (iT (low L b).1)) → Q .non H'
theorem ok_init (T : Txt K mg) (O : TabT K mg) : FnOk P w K mg base CX0 6 O.fI O.dI ["self", "entries", "bottom"] (sp_init K O.C) := by
  refine K60.FunD.ok0 O.FI sc_init (fun vs H Q E h => ?_) (fun cdv A outer s H vs Q E hr h => ?_)
  · obtain ⟨p, dx, d, L, b, rfl, _⟩ := h
    rfl
  · obtain ⟨p, dx, d, L, b, rfl, hp, hd, ok, bd, b1, b2, b0, q⟩ := h
    refine ⟨_, (pss_cons (ps_if (pt_not (pt_val (pe_call  (ok_entries T) (hr.mono (by decide)) (by rfl) T.m_is_entries T.F_is_entries.kp T.b_is_entries .nil pass0 (pa_cons (pv 1) pa_nil)))) (pss_one ps_never) pss_nil)
      (pss_cons (ps_expr (pe_call  (ok_checkb T) (hr.mono (by decide)) (by rfl) T.m_check_bottom T.F_check_bottom.kp T.b_check_bottom .nil pass0 (pa_cons (pv 2) pa_nil)))
      (pss_one (ps_asg (pe_call  (ok_lowest T) (hr.mono (by decide)) (by rfl) T.m_lowest T.F_lowest.kp T.b_lowest .nil pass0 (pa_cons (pv 1) (pa_cons (pv 2) pa_nil))) (pg_tup (by rfl) (pgs_cons (pg_fld (pv 0)) (pgs_cons (pg_fld (pv 0)) pgs_nil))))))), ?_⟩
    refine ⟨_, rfl, d, L, rfl, hd, ok, bd, fun H1 s1 => ⟨_, rfl, iteF ?_⟩⟩
    refine ⟨_, rfl, b, rfl, b1, b2, b0, ?_⟩
    have hl : b.natAbs < 2 ^ 4000 := Nat.lt_of_lt_of_le (show b.natAbs < 2 ^ 200 by unfold BIG at b1 b2; omega) (Nat.pow_le_pow_right (by decide) (by decide))
    refine ⟨_, rfl, _, rfl, d, L, b, rfl, s1 _ _ hd, ok.n, b0, hl, fun H2 z e s2 hz he => ?_⟩
    have hp2 := (s1.trans s2) _ _ hp
    refine ⟨z, _, rfl, SqT.of hz, rfl, _, _, rfl, ?_⟩
    refine ⟨_, rfl, p, _, dx, [], rfl, hp2, O.cl, O.nE, by show 0 < 1000; decide, _, _, rfl, ?_⟩
    refine ⟨_, rfl, p, _, dx, _, rfl, upd_same, O.cl, O.nB, by show 1 < 1000; decide, rfl, ?_⟩
    have ne : e ≠ p := fun k => by
      rw [k, hp2] at he
      cases he
    refine q _ e (fun c o k h => ?_) ?_ ?_
    · rw [upd_ne k, upd_ne k]
      exact (s1.trans s2) c o h
    · rw [upd_same]
      rfl
    · rw [upd_ne ne, upd_ne ne]
      exact he
/-- Table(..) -/
theorem mk_tab {C : Addr} {H : Hp} {d : Addr} {L : Ent} {b : Int} {vs : List V} {Q : Addr → Hp → Prop} {E : XK} (hv : vs = [.ref d, .int b]) (hd : H d = some (.dT (iT L))) (ok : EntOk L) (bd : Bd L BIG) (b1 : -BIG < b) (b2 : b < BIG) (b0 : b ≠ 0)
    (q : ∀ H' x, Same H H' → TabAt K C H' x (low L b) → H x = none → Q x H') :
    ∀ x dx, H x = none → H dx = none → dx ≠ x → sp_init K C (.ref x :: vs) (upd (upd H dx (.own x)) x (.ins C dx [])) (fun v H2 => v = .non ∧ Q x H2) E := by
  subst hv
  intro x dx nx nd ne
  have sx : Same H (upd (upd H dx (.own x)) x (.ins C dx [])) := (same_new nd (.own x)).trans (same_new (by rw [upd_ne (Ne.symm ne)]; exact nx) _)
  refine ⟨x, dx, d, L, b, rfl, upd_same, sx _ _ hd, ok, bd, b1, b2, b0, fun H2 e f2 hx he => ⟨rfl, ?_⟩⟩
  exact q H2 x (fun c o h => f2 c o (ne_of_none h nx) (sx c o h)) ⟨dx, e, hx, he⟩ nx
def sp_ents (K : PySem.W.Frag) (C : Addr) : Sp := fun vs H Q _ => ∃ a T, vs = [.ref a] ∧ TabAt K C H a T ∧ EntN T.1 ∧ ∀ H' z, Same H H' → H z = none → H' z = some (.dT (iT T.1)) → Q (.ref z) H'
theorem ok_ents (T : Txt K mg) (O : TabT K mg) : FnOk P w K mg base CX0 1 O.g1 O.d1 ["self"] (sp_ents K O.C) := by
  refine O.F1.ok sc_entries (fun vs H Q E h => ?_) (fun cdv A outer s H vs Q E hr h => ?_)
  · obtain ⟨a, T, rfl, _⟩ := h
    rfl
  · obtain ⟨a, T, rfl, ⟨dx, d, h1, h2⟩, ok, q⟩ := h
    refine ⟨_, (pss_one (ps_lock (ps_ret (pe_dcT (own := [("place", 1)]) (g := gName 1) (tt := tYes) rfl hr.units0 sc_entries.nd (pi_keys (pe_fld (pv 0) rfl)) (blkOk_by (own := [("place", 1)]) (N := N_entries) (sc := defScope s_entries) (by decide +kernel)) (fun _ _ _ _ _ => (pg_name (i := 1) sc_entries.nd rfl (Or.inl rfl))) (fun _ _ _ _ _ => pts_nil) (fun _ _ _ _ _ => (pv 1)) (fun _ _ _ _ _ => (pe_dget (hu_of hr) (show PE _ _ (tFld K (tVar 0) "_entries") from pe_fld (pv 0) rfl) (pv 1) (fun _ _ => rfl))))))), ?_⟩
    refine ⟨d, _, h2, trivial, fun od => ?_⟩
    have hfz : (upd H d (.frz od (.dT (iT T.1)))) d = some (.frz od (.dT (iT T.1))) := upd_same
    have nad : a ≠ d := fun e => by
      rw [e, h2] at h1
      cases h1
    have h1' : (upd H d (.frz od (.dT (iT T.1)))) a = some (.ins O.C dx (tabF d T.2)) := by rw [upd_ne nad]; exact h1
    have back : ∀ H', Same (upd H d (.frz od (.dT (iT T.1)))) H' → Same H (upd H' d (.dT (iT T.1))) := fun H' s => unlock h2 s
    have fr : ∀ z, (upd H d (.frz od (.dT (iT T.1)))) z = none → H z = none ∧ z ≠ d := fun z hz => by
      have : z ≠ d := fun e => by
        rw [e, upd_same] at hz
        cases hz
      rw [upd_ne this] at hz
      exact ⟨hz, this⟩
    generalize (upd H d (.frz od (.dT (iT T.1)))) = H1 at hfz h1' back fr ⊢
    refine ⟨_, rfl, a, O.C, dx, _, _, rfl, h1', O.cl, O.nE, rfl, d, od, rfl, .inr ⟨_, hfz, fun z hz => ?_⟩⟩
    have sz := same_new hz (.dT [])
    have few := ok.few
    refine goes_it (walk_keysT (d := d) (o := od) (kvs := iT T.1)) (fun i H' => Same H1 H' ∧ H' z = some (.dT (iT (T.1.take i)))) ⟨sz, upd_same⟩ (fun i H' _ hh => hh.1 _ _ hfz) ?_ ?_
    · rintro i x G G' hi ⟨s3, ez⟩ ⟨e4, k, v, r, hx, rfl, hq⟩
      subst e4
      obtain ⟨p, hp, rfl, rfl⟩ := at_step hx
      have hq' := key_nv hq
      have il := (List.getElem?_eq_some_iff.mp hp).1
      have mp := List.mem_of_getElem? hp
      refine ⟨rfl, _, rfl, _, rfl, a, O.C, dx, _, _, rfl, s3 _ _ h1', O.cl, O.nE, rfl, _, rfl, d, _, rfl, get_iT (.inr ⟨od, s3 _ _ hfz⟩) hq' (mem_keys hp), _, tK p.1, r, rfl, nv_key hq', ez, by rw [len_iT, List.length_take]; exact sizeK (by omega), same_updL s3 hz, ?_⟩
      have nb : p.1 ∉ keys (T.1.take i) := by
        have := not_before ok.nd (i := i) (t := p.1) (by unfold keys; rw [List.getElem?_map, hp]; rfl)
        unfold keys at this ⊢
        rwa [List.map_take]
      rw [upd_same, put_iT _ nb, ev_mem ok.nd mp, take_more hp]
    · rintro G ⟨s3, ez⟩
      rw [len_iT, List.take_length] at ez
      have f := fr z hz
      refine ⟨s3 _ _ hfz, q _ z (back G s3) f.1 ?_⟩
      rw [upd_ne f.2]
      exact ez
end
end K60

namespace K60
open PySem PySem.Spec PyProof.Rows L2 RZ L5 XX LK M24 DT M38
theorem v1 {t : Nat} : Vals [V.int 1] [Value.int 1 t] := .cons ⟨_, rfl⟩ .nil
theorem mulW {i j : Int} (hi : i.natAbs < 2 ^ 4000) (hj : j.natAbs < 2 ^ 4000) : CMulW i j := by
  have h1 := log_of hi
  have h2 := log_of hj
  show _ + _ < _
  omega
def Sm (L : Ent) : Prop := ∀ p ∈ L, p.2.natAbs < 2 ^ 4000
def scl (L : Ent) (n : Int) : Ent := L.map fun p => (p.1, p.2 * n)
theorem keys_scl (L : Ent) (n : Int) : keys (scl L n) = keys L := by
  unfold keys scl
  rw [List.map_map]
  rfl
theorem keys_take (L : Ent) (i : Nat) : keys (L.take i) = (keys L).take i := by
  unfold keys
  rw [List.map_take]
theorem get_keys {L : Ent} {i : Nat} {p : List Nat × Int} (h : L[i]? = some p) : (keys L)[i]? = some p.1 := by
  unfold keys
  rw [List.getElem?_map, h]
  rfl
section
variable {P : Program} {w : World} {K : PySem.W.Frag} {mg : Str → Option Value} {base : Heap}
def sp_bot (K : PySem.W.Frag) (C : Addr) : Sp := fun vs H Q _ => ∃ a T, vs = [.ref a] ∧ TabAt K C H a T ∧ Q (.int T.2) H
theorem ok_bot (O : TabT K mg) : FnOk P w K mg base CX0 1 O.g2 O.d2 ["self"] (sp_bot K O.C) := by
  refine O.F2.ok sc_bottom (fun vs H Q E h => ?_) (fun cdv A outer s H vs Q E hr h => ?_)
  · obtain ⟨a, T, rfl, _⟩ := h
    rfl
  · obtain ⟨a, T, rfl, ⟨dx, d, h1, h2⟩, q⟩ := h
    exact ⟨_, pss_one (ps_ret (pe_fld (pv 0) rfl)), _, rfl, a, O.C, dx, _, _, rfl, h1, O.cl, O.nB, rfl, q⟩
def sp_scaled : Sp := fun vs H Q _ => ∃ (d : Addr) (L : Ent) (n : Int), vs = [.ref d, .int n] ∧ H d = some (.dT (iT L)) ∧ EntN L ∧ Sm L ∧ n.natAbs < 2 ^ 4000 ∧ ∀ H' z, Same H H' → H z = none → H' z = some (.dT (iT (scl L n))) → Q (.ref z) H'
theorem ok_scaled (T : Txt K mg) : FnOk P w K mg base CX0 1 T.a_scaled T.d_scaled ["entries", "number"] sp_scaled := by
  refine T.F_scaled.ok sc_scaled (fun vs H Q E h => ?_) (fun cdv A outer s H vs Q E hr h => ?_)
  · obtain ⟨d, L, n, rfl, _⟩ := h
    rfl
  · obtain ⟨d, L, n, rfl, hd, ok, sm, hn, q⟩ := h
    refine ⟨_, (pss_one (ps_lock (ps_ret (pe_dcT (own := [("place", 2)]) (g := gName 2) (tt := tYes) rfl hr.units0 sc_scaled.nd (pi_keys (pv 0)) (blkOk_by (own := [("place", 2)]) (N := N_scaled) (sc := defScope s_scaled) (by decide +kernel)) (fun _ _ _ _ _ => (pg_name (i := 2) sc_scaled.nd rfl (Or.inl rfl))) (fun _ _ _ _ _ => pts_nil) (fun _ _ _ _ _ => (pv 2)) (fun _ _ _ _ _ => (pe_op op_mulW (pe_dget (hu_of hr) (pv 0) (pv 2) (fun _ _ => rfl)) (pv 1))))))), ?_⟩
    refine ⟨d, _, hd, trivial, fun od => ?_⟩
    have hfz : (upd H d (.frz od (.dT (iT L)))) d = some (.frz od (.dT (iT L))) := upd_same
    have back : ∀ H', Same (upd H d (.frz od (.dT (iT L)))) H' → Same H (upd H' d (.dT (iT L))) := fun H' s => unlock hd s
    have fr : ∀ z, (upd H d (.frz od (.dT (iT L)))) z = none → H z = none ∧ z ≠ d := fun z hz => by
      have : z ≠ d := fun e => by
        rw [e, upd_same] at hz
        cases hz
      rw [upd_ne this] at hz
      exact ⟨hz, this⟩
    generalize (upd H d (.frz od (.dT (iT L)))) = H1 at hfz back fr ⊢
    refine ⟨_, rfl, d, od, rfl, .inr ⟨_, hfz, fun z hz => ?_⟩⟩
    have sz := same_new hz (.dT [])
    have few := ok.few
    refine goes_it (walk_keysT (d := d) (o := od) (kvs := iT L)) (fun i H' => Same H1 H' ∧ H' z = some (.dT (iT (scl (L.take i) n)))) ⟨sz, upd_same⟩ (fun i H' _ hh => hh.1 _ _ hfz) ?_ ?_
    · rintro i x G G' hi ⟨s3, ez⟩ ⟨e4, k, v, r, hx, rfl, hq⟩
      subst e4
      obtain ⟨p, hp, rfl, rfl⟩ := at_step hx
      have hq' := key_nv hq
      have il := (List.getElem?_eq_some_iff.mp hp).1
      have mp := List.mem_of_getElem? hp
      have ev' := ev_mem ok.nd mp
      refine ⟨rfl, _, rfl, _, rfl, _, rfl, d, _, rfl, get_iT (.inr ⟨od, s3 _ _ hfz⟩) hq' (mem_keys hp), _, rfl, _, _, rfl, rfl, mulW (by rw [ev']; exact sm p mp) hn, _, tK p.1, r, rfl, nv_key hq', ez, by rw [len_iT]; unfold scl; rw [List.length_map, List.length_take]; exact sizeK (by omega), same_updL s3 hz, ?_⟩
      have nb : p.1 ∉ keys (scl (L.take i) n) := by
        rw [keys_scl, keys_take]
        exact not_before ok.nd (get_keys hp)
      rw [upd_same]
      show some (HO.dT (putK (iT _) (tK p.1) (V.int (ev L p.1 * n)))) = _
      rw [put_iT _ nb, ev', take_more hp]
      unfold scl
      rw [List.map_append]
      rfl
    · rintro G ⟨s3, ez⟩
      rw [len_iT, List.take_length] at ez
      have f := fr z hz
      refine ⟨s3 _ _ hfz, q _ z (back G s3) f.1 ?_⟩
      rw [upd_ne f.2]
      exact ez
def sp_made (K : PySem.W.Frag) (C : Addr) : Sp := fun vs H Q _ => ∃ (d : Addr) (L : Ent) (b : Int), vs = [.ref d, .int b] ∧ H d = some (.dT (iT L)) ∧ EntN L ∧ b ≠ 0 ∧ b.natAbs < 2 ^ 4000 ∧ ∀ H' x, Same H H' → TabAt K C H' x (low L b) → H x = none → Q (.ref x) H'
theorem ok_made (T : Txt K mg) (O : TabT K mg) : FnOk P w K mg base CX0 8 T.a_made_table T.d_made_table ["entries", "bottom"] (sp_made K O.C) := by
  refine T.F_made_table.ok sc_made_table (fun vs H Q E h => ?_) (fun cdv A outer s H vs Q E hr h => ?_)
  · obtain ⟨d, L, b, rfl, _⟩ := h
    rfl
  · obtain ⟨d, L, b, rfl, hd, ok, hb, hl, q⟩ := h
    refine ⟨_, (pss_cons (ps_set (i := 2) sc_made_table.nd rfl (Or.inl rfl) (pe_make O.M (ok_init T O) (hr.mono (by decide)) rfl O.gC O.eI v1 pass0 (pa_cons pe_dnewT pa_nil)))
      (pss_cons (ps_set (i := 3) sc_made_table.nd rfl (Or.inl rfl) (pe_call  (ok_lowest T) (hr.mono (by decide)) (by rfl) T.m_lowest T.F_lowest.kp T.b_lowest .nil pass0 (pa_cons (pv 0) (pa_cons (pv 1) pa_nil))))
      (pss_cons (ps_fld (pv 2) (pe_ix ix_tup (pv 3) pe_int (fun _ _ => rfl)) rfl)
      (pss_cons (ps_fld (pv 2) (pe_ix ix_tup (pv 3) pe_int (fun _ _ => rfl)) rfl)
      (pss_one (ps_ret (pv 2))))))), ?_⟩
    intro d0 hd0
    have s0 := same_new hd0 (.dT [])
    dsimp only [tNil]
    refine mk_tab (K := K) (C := O.C) (d := d0) (L := []) (b := 1) rfl (show _ = some (HO.dT (iT [])) from upd_same) entOk_nil (fun _ h => (nomatch h)) (by decide) (by decide) (by decide) fun H2 x s2 hx nx => ?_
    have S2 := s0.trans s2
    refine ⟨_, rfl, _, rfl, d, L, b, rfl, S2 _ _ hd, ok, hb, hl, fun H3 z e s3 hz he => ?_⟩
    obtain ⟨dx, e0, x1, x2⟩ := hx
    have x3 := s3 _ _ x1
    refine ⟨_, rfl, z, _, _, .ref e, rfl, rfl, SqT.of hz, rfl, _, rfl, x, O.C, dx, _, rfl, x3, O.cl, O.nE, by show 2 < 1000; decide, ?_⟩
    have nzx : z ≠ x := fun k => by
      rw [k, x3] at hz
      cases hz
    have nex : e ≠ x := fun k => by
      rw [k, x3] at he
      cases he
    have hz4 : (upd H3 x (.ins O.C dx (putF "_entries" (.ref e) (tabF e0 (low [] 1).2)))) z = some (.tup [.ref e, .int (low L b).2]) := by rw [upd_ne nzx]; exact hz
    refine ⟨_, rfl, z, _, _, .int (low L b).2, rfl, rfl, SqT.of hz4, rfl, _, rfl, x, O.C, dx, _, rfl, upd_same, O.cl, O.nB, by show 2 < 1000; decide, ?_⟩
    have hx0 : H x = none := s0.free nx
    refine ⟨_, rfl, q _ x (fun c o h => ?_) ⟨dx, e, ?_, ?_⟩ hx0⟩
    · have k := ne_of_none h hx0
      rw [upd_ne k, upd_ne k]
      exact (S2.trans s3) c o h
    · rw [upd_same]
      rfl
    · rw [upd_ne nex, upd_ne nex]
      exact he
end
end K60

namespace K60
open PySem PySem.Spec PyProof.Rows L2 RZ L5 XX LK M24 DT M38
/-- a place put -/
def ups (F : Ent) (t : List Nat) (v : Int) : Ent := if t ∈ keys F then F.map fun p => if p.1 = t then (p.1, v) else p else F ++ [(t, v)]
theorem put_ups (F : Ent) (t : List Nat) (v : Int) : putK (iT F) (tK t) (V.int v) = iT (ups F t v) := by
  by_cases h : t ∈ keys F
  · have hv := val_iT t F
    rw [if_pos h] at hv
    unfold putK ups
    rw [valV_any, hv, if_pos h, if_pos (show (some (V.int (ev F t))).isSome = true from rfl)]
    unfold iT iD kI
    rw [List.map_map, List.map_map, List.map_map, List.map_map]
    refine List.map_congr_left fun p _ => ?_
    show (if tK p.1 = tK t then (tK p.1, V.int v) else (tK p.1, V.int p.2)) = (tK (if p.1 = t then (p.1, v) else p).1, V.int (if p.1 = t then (p.1, v) else p).2)
    by_cases e : p.1 = t
    · rw [if_pos e, if_pos (by rw [e])]
    · rw [if_neg e, if_neg fun z => e (tK_inj z)]
  · rw [put_iT v h]
    unfold ups
    rw [if_neg h]
theorem keys_ups {F : Ent} {t : List Nat} {v : Int} : keys (ups F t v) = if t ∈ keys F then keys F else keys F ++ [t] := by
  unfold ups
  by_cases h : t ∈ keys F
  · rw [if_pos h, if_pos h]
    unfold keys
    rw [List.map_map]
    refine List.map_congr_left fun p _ => ?_
    show (if p.1 = t then (p.1, v) else p).1 = p.1
    split <;> rfl
  · rw [if_neg h, if_neg h]
    unfold keys
    rw [List.map_append]
    rfl
theorem ev_app {t : List Nat} {M : Ent} : ∀ {L : Ent}, t ∉ keys L → ev (L ++ M) t = ev M t
  | [], _ => rfl
  | p :: L, h => by
    rw [keys, List.map_cons, List.mem_cons] at h
    rw [List.cons_append, ev, if_neg fun e => h (.inl e.symm)]
    exact ev_app fun k => h (.inr k)
theorem ev_app_in {t : List Nat} {M : Ent} : ∀ {L : Ent}, t ∈ keys L → ev (L ++ M) t = ev L t
  | p :: L, h => by
    rw [keys, List.map_cons, List.mem_cons] at h
    rw [List.cons_append, ev, ev]
    by_cases e : p.1 = t
    · rw [if_pos e, if_pos e]
    · rw [if_neg e, if_neg e]
      exact ev_app_in (h.resolve_left fun z => e z.symm)
theorem ev_rep {t u : List Nat} {v : Int} : ∀ {F : Ent}, ev (F.map fun p => if p.1 = t then (p.1, v) else p) u = if u = t ∧ t ∈ keys F then v else ev F u
  | [] => by simp [ev, keys]
  | p :: F => by
    have ih := ev_rep (t := t) (u := u) (v := v) (F := F)
    rw [List.map_cons]
    by_cases e : p.1 = t
    · rw [if_pos e, ev, ih, ev]
      show (if p.1 = u then v else _) = _
      by_cases k : u = t
      · have hp : p.1 = u := e.trans k.symm
        rw [if_pos hp, if_pos ⟨k, by rw [keys, List.map_cons, e]; exact List.mem_cons_self⟩]
      · have hp : ¬ p.1 = u := fun z => k (z.symm.trans e)
        rw [if_neg hp, if_neg (fun z => k z.1), if_neg (fun z => k z.1), if_neg hp]
    · rw [if_neg e, ev, ih, ev]
      have m : t ∈ keys (p :: F) ↔ t ∈ keys F := by
        rw [keys, List.map_cons, List.mem_cons]
        exact ⟨fun h => h.resolve_left fun z => e z.symm, .inr⟩
      by_cases hp : p.1 = u
      · have k : ¬ u = t := fun z => e (hp.trans z)
        rw [if_pos hp, if_neg (fun z => k z.1), if_pos hp]
      · rw [if_neg hp, if_neg hp]
        by_cases k : u = t ∧ t ∈ keys F
        · rw [if_pos k, if_pos ⟨k.1, m.mpr k.2⟩]
        · rw [if_neg k, if_neg fun z => k ⟨z.1, m.mp z.2⟩]
theorem ev_ups {F : Ent} {t u : List Nat} {v : Int} : ev (ups F t v) u = if u = t then v else ev F u := by
  unfold ups
  by_cases h : t ∈ keys F
  · rw [if_pos h, ev_rep]
    by_cases e : u = t
    · rw [if_pos ⟨e, h⟩, if_pos e]
    · rw [if_neg (fun z => e z.1), if_neg e]
  · rw [if_neg h]
    by_cases e : u = t
    · rw [if_pos e, e, ev_app h]
      exact if_pos rfl
    · rw [if_neg e]
      by_cases k : u ∈ keys F
      · exact ev_app_in k
      · rw [ev_app k, ev_none k]
        show (if t = u then v else 0) = 0
        rw [if_neg fun z => e z.symm]
/-- integers added, place by place -/
def addE (F : Ent) (L : Ent) (c : Int) : Ent := L.foldl (fun F p => ups F p.1 (ev F p.1 + p.2 * c)) F
theorem ev_addE {c : Int} {u : List Nat} : ∀ {L F : Ent}, (keys L).Nodup → ev (addE F L c) u = ev F u + ev L u * c
  | [], F, _ => by
    show ev F u = _ + 0 * c
    rw [Int.zero_mul, Int.add_zero]
  | p :: L, F, nd => by
    rw [keys, List.map_cons, List.nodup_cons] at nd
    show ev (addE (ups F p.1 (ev F p.1 + p.2 * c)) L c) u = _
    rw [ev_addE (L := L) nd.2, ev_ups, ev]
    by_cases e : u = p.1
    · rw [if_pos e, if_pos e.symm]
      have : ev L u = 0 := ev_none (e ▸ nd.1)
      rw [this, Int.zero_mul, Int.add_zero, e]
    · rw [if_neg e, if_neg fun z => e z.symm]
theorem keys_addE {c : Int} : ∀ {L F : Ent}, (keys F).Nodup → (keys (addE F L c)).Nodup ∧ (∀ t, t ∈ keys (addE F L c) → t ∈ keys F ∨ t ∈ keys L) ∧ (addE F L c).length ≤ F.length + L.length
  | [], F, nd => ⟨nd, fun t h => .inl h, Nat.le_refl _⟩
  | p :: L, F, nd => by
    have k1 : (keys (ups F p.1 (ev F p.1 + p.2 * c))).Nodup := by
      rw [keys_ups]
      split
      · exact nd
      · rename_i h
        rw [List.nodup_append]
        exact ⟨nd, by simp, fun x hx y hy e => h (by rw [List.mem_singleton.mp hy] at e; exact e ▸ hx)⟩
    have k2 : (ups F p.1 (ev F p.1 + p.2 * c)).length ≤ F.length + 1 := by
      unfold ups
      split
      · rw [List.length_map]; omega
      · rw [List.length_append]; exact Nat.le_refl _
    obtain ⟨i1, i2, i3⟩ := keys_addE (c := c) (L := L) k1
    refine ⟨i1, fun t h => ?_, by rw [List.length_cons]; exact Nat.le_trans i3 (by omega)⟩
    rcases i2 t h with h | h
    · rw [keys_ups] at h
      split at h
      · exact .inl h
      · rcases List.mem_append.mp h with h | h
        · exact .inl h
        · rw [List.mem_singleton.mp h]
          exact .inr (by rw [keys, List.map_cons]; exact List.mem_cons_self)
    · exact .inr (by rw [keys, List.map_cons]; exact List.mem_cons_of_mem _ h)
theorem addE_take {F L : Ent} {c : Int} {i : Nat} {p : List Nat × Int} (h : L[i]? = some p) : addE F (L.take (i + 1)) c = ups (addE F (L.take i) c) p.1 (ev (addE F (L.take i) c) p.1 + p.2 * c) := by
  rw [take_more h]
  unfold addE
  rw [List.foldl_append]
  rfl
/-- the sum of two tables, the second one times the sign -/
def sumT (T U : Ent × Int) (sg : Int) : Ent × Int := low (addE (scl T.1 U.2) U.1 (sg * T.2)) (T.2 * U.2)
end K60

/-! x = {k: v for ..}, the keys tuples -/
namespace DT
open PySem PySem.Spec PyProof.Rows L2
section
variable {X : Cx}
theorem ps_setDcT {i : Nat} {y : Str} {py : Pos} {kx vx tg iter : Expr} {ifs : List Expr} {scope : Scope} {own : List (Str × Nat)} {pos spos : Pos} {wi : TI} {g : TG} {tt : TT} {tk tv : TE} (calm : X.calm = true) (hu : X.A.units < cLine) (nd : X.N.Nodup) (hy : X.N[i]? = some y) (loc : X.env.scope.names.lookup y = some .local)
    (sw : swapsWith (.DictComp kx vx [⟨tg, iter, ifs, 0⟩] scope pos) (some (.Name y py)) spos.line X.env = pure true) (hi : PI X tg iter wi) (ok : BlkOk X.N X.env.scope scope own)
    (hg : BlkE X scope fun Y => PG Y tg g) (ht : BlkE X scope fun Y => PTs Y ifs tt) (hk : BlkE X scope fun Y => PE Y kx tk) (hv : BlkE X scope fun Y => PE Y vx tv) (fold : ∀ x, foldedSetIterable iter X.env x = pure x := by intro _; rfl) :
    PS X (.Assign [.Name y py] (.DictComp kx vx [⟨tg, iter, ifs, 0⟩] scope pos) spos) (tAsg (tDcT wi g tt tk tv (own.map (·.2))) (gName i)) := by
  refine ⟨fun ps q σ G D J h => ?_⟩
  rw [exec_Assign_Name_used _ _ _ _ sw]
  refine wpAny_bind (wpAny_standAt (wpAny_bind ?_))
  show wpAny _ X.A (do let _ ← comprehension (.DictComp kx vx [⟨tg, iter, ifs, 0⟩] scope pos) scope X.env (firstIterPos [⟨tg, iter, ifs, 0⟩] pos) newDict false (eval iter X.env) (some (assign (.Name y py) X.env))) _ _ q
  have h : tDcT wi g tt tk tv (own.map (·.2)) σ G (fun x G1 => gName i x σ G1 D.nx) := h
  refine wpAny_bind (thn (core (Qf := fun _ t => SP X ps D .next t) calm hu nd J hi ok hg ht hk hv fold h fun d C t m G' J' qq hn f => ?_) fun _ t ht' => wpAny_pure (wpAny_pure ht'))
  show wpAny _ _ (assign (.Name y py) X.env (.ref d)) _ _ _
  refine wpAny_assign_Name (store_ok2 (v := V.ref d) J' nd hy (.inl loc) rfl (fun s2 I2 ⟨a, sb, ha⟩ => ?_) (.inr loc))
  obtain ⟨f0, f1, f2, f3, f4, f5⟩ := f
  have nCa : C ≠ a := ha.elim (fun z => by rw [z]; exact f1) fun z e => f4 y a z e.symm
  exact ⟨m, hn.sameBut sb nCa, fun h3 sb3 => ⟨_, G', I2.turned (t' := s2.toks) (fun b o hb e => (sb3.2 b hb).trans e) f0 f1 f3 f4 f5, qq⟩⟩
theorem sw_trueD {kx vx : Expr} {gs : List Comprehension} {scope : Scope} {pos py : Pos} {y : Str} {l : Nat} {env : Env} (hk : env.scope.kind = .function) (hy : env.scope.names.lookup y = some .local) (hl : (py.line == pos.line) = true)
    (ha : (scope.names.any fun (n, k) => n == y && (k == .local || k == .cell)) = false) : swapsWith (.DictComp kx vx gs scope pos) (some (.Name y py)) l env = pure true := by
  have b : env.blockKind = .function := by unfold Env.blockKind; rw [hk]; rfl
  unfold swapsWith
  simp only [b, show env.kindOf y = some .local from hy, ha, Expr.pos, hl]
  rfl
end
end DT

namespace K60
open PySem PySem.Spec PyProof.Rows L2 RZ L5 XX LK M24 DT M38
theorem getD_iT (F : Ent) (t : List Nat) : ((if t ∈ keys F then some (V.int (ev F t)) else none).getD (.int 0)) = V.int (ev F t) := by
  by_cases h : t ∈ keys F
  · rw [if_pos h]
    rfl
  · rw [if_neg h, ev_none h]
    rfl
theorem scl_n {L : Ent} (h : EntN L) (n : Int) : EntN (scl L n) := ⟨by rw [keys_scl]; exact h.nd, by rw [keys_scl]; exact h.ne, by unfold scl; rw [List.length_map]; exact h.few⟩
section
variable {P : Program} {w : World} {K : PySem.W.Frag} {mg : Str → Option Value} {base : Heap}
def sp_sum (K : PySem.W.Frag) (C : Addr) : Sp := fun vs H Q _ => ∃ (a b : Addr) (T U : Ent × Int) (sg : Int), vs = [.ref a, .ref b, .int sg] ∧ TabAt K C H a T ∧ TabAt K C H b U ∧ EntN T.1 ∧ EntN U.1 ∧ T.1.length + U.1.length ≤ 4400 ∧ Sm T.1 ∧ Sm U.1 ∧ T.2 ≠ 0 ∧ U.2 ≠ 0 ∧ T.2.natAbs < 2 ^ 1900 ∧ U.2.natAbs < 2 ^ 1900 ∧ (sg = 1 ∨ sg = -1) ∧
  ∀ H' x, Same H H' → TabAt K C H' x (sumT T U sg) → H x = none → Q (.ref x) H'
theorem ok_sum (T : Txt K mg) (O : TabT K mg) : FnOk P w K mg base CX0 9 T.a_sum_of T.d_sum_of ["one", "other", "sign"] (sp_sum K O.C) := by
  refine T.F_sum_of.ok sc_sum_of (fun vs H Q E h => ?_) (fun cdv A outer s H vs Q E hr h => ?_)
  · obtain ⟨a, b, T, U, sg, rfl, _⟩ := h
    rfl
  · obtain ⟨a, b, A1, B1, sg, rfl, hA, hB, okA, okB, few2, smA, smB, nA, nB, lA, lB, hsg, q⟩ := h
    refine ⟨_, (pss_cons (ps_asg (pe_tup (pa_cons (pe_prop (E := E0) (pv 0) O.cl O.P1 (ok_ents T O) (hr.mono (by decide)) O.b1 .nil pass0 rfl) (pa_cons (pe_prop (E := E0) (pv 1) O.cl O.P1 (ok_ents T O) (hr.mono (by decide)) O.b1 .nil pass0 rfl) pa_nil))) (pg_tup (by rfl) (pgs_cons (pg_name (i := 3) sc_sum_of.nd rfl (Or.inr rfl)) (pgs_cons (pg_name (i := 4) sc_sum_of.nd rfl (Or.inl rfl)) pgs_nil))))
      (pss_cons (ps_lock (ps_setDcT (i := 6) (own := [("place", 5)]) (g := gName 5) (tt := tYes) rfl hr.units0 sc_sum_of.nd rfl rfl (sw_trueD rfl rfl rfl (by decide +kernel)) (pi_keys (pv 3)) (blkOk_by (own := [("place", 5)]) (N := N_sum_of) (sc := defScope s_sum_of) (by decide +kernel)) (fun _ _ _ _ _ => (pg_name (i := 5) sc_sum_of.nd rfl (Or.inl rfl))) (fun _ _ _ _ _ => pts_nil) (fun _ _ _ _ _ => (pv 5)) (fun _ _ _ _ _ => (pe_op op_mulW (pe_dget (hu_of hr) (pv 3) (pv 5) (fun _ _ => rfl)) (pe_prop (E := E0) (pv 1) O.cl O.P2 (ok_bot O) (hr.mono (by decide)) O.b2 .nil pass0 rfl)))))
      (pss_cons (ps_lock (ps_for PassesOwn.never rfl (pi_keys (pv 4)) (pg_name (i := 5) sc_sum_of.nd rfl (Or.inl rfl))
      (pss_one (ps_dput (hu_of hr) (pv 6) (pv 5) (pe_op op_add (pe_dget2 (hu_of hr) (pv 6) (pv 5) pe_int ⟨rfl, rfl, rfl, rfl⟩) (pe_op op_mulW (pe_op op_mulW (pv 2) (pe_dget (hu_of hr) (pv 4) (pv 5) (fun _ _ => rfl))) (pe_prop (E := E0) (pv 0) O.cl O.P2 (ok_bot O) (hr.mono (by decide)) O.b2 .nil pass0 rfl))) rfl))))
      (pss_one (ps_ret (pe_call  (ok_made T O) (hr.mono (by decide)) (by rfl) T.m_made_table T.F_made_table.kp T.b_made_table .nil pass0 (pa_cons (pv 6) (pa_cons (pe_op op_mulW (pe_prop (E := E0) (pv 0) O.cl O.P2 (ok_bot O) (hr.mono (by decide)) O.b2 .nil pass0 rfl) (pe_prop (E := E0) (pv 1) O.cl O.P2 (ok_bot O) (hr.mono (by decide)) O.b2 .nil pass0 rfl)) pa_nil)))))))), ?_⟩
    have p40 : (2 : Nat) ^ 1900 ≤ 2 ^ 4000 := Nat.pow_le_pow_right (by decide) (by decide)
    have ⟨dA, eA, hA1, hA2⟩ := hA
    have ⟨dB, eB, hB1, hB2⟩ := hB
    refine ⟨_, rfl, a, dA, _, rfl, hA1, a, A1, rfl, hA, okA, fun H1 z1 s1 n1 hz1 => ?_⟩
    refine ⟨_, rfl, b, dB, _, rfl, s1 _ _ hB1, b, B1, rfl, hB.same s1, okB, fun H2 z2 s2 n2 hz2 => ?_⟩
    refine ⟨by show 2 ≤ sizeLine; decide, fun u hu => ?_⟩
    have su := same_new hu (.tup [.ref z1, .ref z2])
    refine ⟨u, _, rfl, SqT.of upd_same, rfl, _, _, rfl, _, _, rfl, rfl, ?_⟩
    have S3 := s1.trans (s2.trans su)
    have o3 : (upd H2 u (.tup [.ref z1, .ref z2])) z1 = some (.dT (iT A1.1)) := (s2.trans su) _ _ hz1
    have u3 : (upd H2 u (.tup [.ref z1, .ref z2])) z2 = some (.dT (iT B1.1)) := su _ _ hz2
    generalize (upd H2 u (.tup [.ref z1, .ref z2])) = H3 at S3 o3 u3 ⊢
    have hA3 := hA.same S3
    have hB3 := hB.same S3
    have nz12 : z2 ≠ z1 := fun e => by
      rw [e, hz1] at n2
      cases n2
    -- the first table, times the other's bottom
    refine ⟨z1, _, o3, trivial, fun od => ?_⟩
    have hfz : (upd H3 z1 (.frz od (.dT (iT A1.1)))) z1 = some (.frz od (.dT (iT A1.1))) := upd_same
    have back : ∀ H', Same (upd H3 z1 (.frz od (.dT (iT A1.1)))) H' → Same H3 (upd H' z1 (.dT (iT A1.1))) := fun H' s => unlock o3 s
    have fr : ∀ z, (upd H3 z1 (.frz od (.dT (iT A1.1)))) z = none → H3 z = none ∧ z ≠ z1 := fun z hz => by
      have : z ≠ z1 := fun e => by
        rw [e, upd_same] at hz
        cases hz
      rw [upd_ne this] at hz
      exact ⟨hz, this⟩
    have hB4 : TabAt K O.C (upd H3 z1 (.frz od (.dT (iT A1.1)))) b B1 := by
      obtain ⟨d5, e5, k1, k2⟩ := hB
      have c1 : b ≠ z1 := fun e => by rw [e] at k1; rw [k1] at n1; cases n1
      have c2 : e5 ≠ z1 := fun e => by rw [e] at k2; rw [k2] at n1; cases n1
      exact ⟨d5, e5, by rw [upd_ne c1]; exact S3 _ _ k1, by rw [upd_ne c2]; exact S3 _ _ k2⟩
    generalize (upd H3 z1 (.frz od (.dT (iT A1.1)))) = H4 at hfz back fr hB4 ⊢
    refine ⟨_, rfl, z1, od, rfl, .inr ⟨_, hfz, fun f hf => ?_⟩⟩
    have sf := same_new hf (.dT [])
    have few := okA.few
    refine goes_it (walk_keysT (d := z1) (o := od) (kvs := iT A1.1)) (fun i H' => Same H4 H' ∧ H' f = some (.dT (iT (scl (A1.1.take i) B1.2)))) ⟨sf, upd_same⟩ (fun i H' _ hh => hh.1 _ _ hfz) ?_ ?_
    · rintro i x G G' hi ⟨s5, ez⟩ ⟨e4, k, v, r, hx, rfl, hq⟩
      subst e4
      obtain ⟨p, hp, rfl, rfl⟩ := at_step hx
      have hq' := key_nv hq
      have il := (List.getElem?_eq_some_iff.mp hp).1
      have mp := List.mem_of_getElem? hp
      have ev' := ev_mem okA.nd mp
      have hB5 := hB4.same s5
      have ⟨d6, e6, k1, k2⟩ := hB5
      refine ⟨rfl, _, rfl, _, rfl, _, rfl, z1, _, rfl, get_iT (.inr ⟨od, s5 _ _ hfz⟩) hq' (mem_keys hp), _, rfl, b, d6, _, rfl, k1, b, B1, rfl, hB5, _, _, rfl, rfl, mulW (by rw [ev']; exact smA p mp) (by omega), _, tK p.1, r, rfl, nv_key hq', ez, by rw [len_iT]; unfold scl; rw [List.length_map, List.length_take]; exact sizeK (by omega), same_updL s5 hf, ?_⟩
      have nb : p.1 ∉ keys (scl (A1.1.take i) B1.2) := by
        rw [keys_scl, keys_take]
        exact not_before okA.nd (get_keys hp)
      rw [upd_same]
      show some (HO.dT (putK (iT _) (tK p.1) (V.int (ev A1.1 p.1 * B1.2)))) = _
      rw [put_iT _ nb, ev', take_more hp]
      unfold scl
      rw [List.map_append]
      rfl
    · rintro G ⟨s5, ez⟩
      rw [len_iT, List.take_length] at ez
      have f2 := fr f hf
      refine ⟨s5 _ _ hfz, ?_⟩
      have S5 := back G s5
      have hf5 : (upd G z1 (.dT (iT A1.1))) f = some (.dT (iT (scl A1.1 B1.2))) := by rw [upd_ne f2.2]; exact ez
      generalize (upd G z1 (.dT (iT A1.1))) = H5 at S5 hf5 ⊢
      have u5 := S5 _ _ u3
      have hA5 := hA3.same S5
      have hB5 := hB3.same S5
      have nzf : z2 ≠ f := fun e => by
        rw [e, f2.1] at u3
        cases u3
      -- the second one, place by place
      refine ⟨z2, _, u5, trivial, fun od2 => ?_⟩
      have hfz2 : (upd H5 z2 (.frz od2 (.dT (iT B1.1)))) z2 = some (.frz od2 (.dT (iT B1.1))) := upd_same
      have hf6 : (upd H5 z2 (.frz od2 (.dT (iT B1.1)))) f = some (.dT (iT (scl A1.1 B1.2))) := by rw [upd_ne (Ne.symm nzf)]; exact hf5
      have kA1 : (upd H5 z2 (.frz od2 (.dT (iT B1.1)))) a = some (.ins O.C dA (tabF eA A1.2)) := by
        rw [upd_ne fun e => by rw [e] at hA1; rw [s1 _ _ hA1] at n2; cases n2]
        exact (S3.trans S5) _ _ hA1
      have kA2 : (upd H5 z2 (.frz od2 (.dT (iT B1.1)))) eA = some (.dT (iT A1.1)) := by
        rw [upd_ne fun e => by rw [e] at hA2; rw [s1 _ _ hA2] at n2; cases n2]
        exact (S3.trans S5) _ _ hA2
      have off : ∀ {c : Addr} {o : HO}, H c = some o → c ≠ f := fun {c o} h e => by
        have := S3 _ _ h
        rw [e, f2.1] at this
        cases this
      have back2 : ∀ H', (∀ c o, c ≠ f → (upd H5 z2 (.frz od2 (.dT (iT B1.1)))) c = some o → H' c = some o) → ∀ c o, c ≠ f → H5 c = some o → (upd H' z2 (.dT (iT B1.1))) c = some o := fun H' k c o nf h => by
        by_cases e : c = z2
        · rw [e, u5] at h
          rw [e, upd_same]
          exact h
        · rw [upd_ne e]
          exact k c o nf (by rw [upd_ne e]; exact h)
      generalize (upd H5 z2 (.frz od2 (.dT (iT B1.1)))) = H6 at hfz2 hf6 kA1 kA2 back2 ⊢
      refine ⟨_, rfl, z2, od2, rfl, .inr ⟨_, hfz2, ?_⟩⟩
      have lF : ∀ i, (addE (scl A1.1 B1.2) (B1.1.take i) (sg * A1.2)).length ≤ 4400 := fun i => by
        have := (keys_addE (c := sg * A1.2) (L := B1.1.take i) (F := scl A1.1 B1.2) (by rw [keys_scl]; exact okA.nd)).2.2
        unfold scl at this ⊢
        rw [List.length_map, List.length_take] at this
        omega
      refine for_it (walk_keysT (d := z2) (o := od2) (kvs := iT B1.1)) (fun i σ H' => ∃ v5, σ = [some (.ref a), some (.ref b), some (.int sg), some (.ref z1), some (.ref z2), v5, some (.ref f)] ∧ (∀ c o, c ≠ f → H6 c = some o → H' c = some o) ∧ H' f = some (.dT (iT (addE (scl A1.1 B1.2) (B1.1.take i) (sg * A1.2))))) ⟨_, rfl, fun _ _ _ h => h, hf6⟩ (fun i σ H' _ ⟨_, _, k, _⟩ => k _ _ nzf hfz2) ?_ ?_
      · rintro i x σ G6 G6' hi ⟨v5, rfl, k6, ef⟩ ⟨e4, k, v, r, hx, rfl, hq⟩
        subst e4
        obtain ⟨p, hp, rfl, rfl⟩ := at_step hx
        have hq' := key_nv hq
        have mp := List.mem_of_getElem? hp
        have ev' := ev_mem okB.nd mp
        have tA : TabAt K O.C G6' a A1 := ⟨dA, eA, k6 _ _ (off hA1) kA1, k6 _ _ (off hA2) kA2⟩
        have ms : (sg * ev B1.1 p.1).natAbs < 2 ^ 4000 := by
          have := smB p mp
          rw [← ev'] at this
          rcases hsg with e | e
          · rw [e, Int.one_mul]; exact this
          · rw [e, Int.neg_mul, Int.one_mul, Int.natAbs_neg]; exact this
        have mg' : sg.natAbs < 2 ^ 4000 := Nat.lt_of_le_of_lt (show sg.natAbs ≤ 1 by rcases hsg with e | e <;> rw [e] <;> decide) (Nat.one_lt_two_pow (by decide))
        refine ⟨_, rfl, f, rfl, .inr ⟨_, .inl ef⟩, _, rfl, _, get_iTd (.inl ef) hq', ?_⟩
        rw [getD_iT]
        refine ⟨_, rfl, _, rfl, _, rfl, z2, _, rfl, get_iT (.inr ⟨od2, k6 _ _ nzf hfz2⟩) hq' (mem_keys hp), _, _, rfl, rfl, mulW mg' (by have := smB p mp; rw [ev']; exact this), ?_⟩
        refine ⟨_, rfl, a, dA, _, rfl, k6 _ _ (off hA1) kA1, a, A1, rfl, tA, _, _, rfl, rfl, mulW ms (by omega), _, _, rfl, rfl, ?_⟩
        refine ⟨_, rfl, _, rfl, f, _, rfl, DPut.t ef (nv_key hq') (by rw [len_iT]; have := lF i; exact sizeK (by omega)), ?_⟩
        refine ⟨_, rfl, fun c o nf h => by rw [upd_ne nf]; exact k6 c o nf h, ?_⟩
        rw [upd_same, addE_take hp]
        show some (HO.dT (putK (iT _) (tK p.1) (V.int (ev _ p.1 + sg * ev B1.1 p.1 * A1.2)))) = _
        rw [put_ups, ev', Int.mul_comm sg p.2, Int.mul_assoc]
      · rintro σ G6 ⟨v5, rfl, k6, ef⟩
        rw [len_iT, List.take_length] at ef
        refine ⟨k6 _ _ nzf hfz2, ?_⟩
        have B2 := back2 G6 k6
        have f7 : (upd G6 z2 (.dT (iT B1.1))) f = some (.dT (iT (addE (scl A1.1 B1.2) B1.1 (sg * A1.2)))) := by rw [upd_ne (Ne.symm nzf)]; exact ef
        have S7 : ∀ c o, H c = some o → (upd G6 z2 (.dT (iT B1.1))) c = some o := fun c o h => B2 c o (off h) ((S3.trans S5) c o h)
        generalize (upd G6 z2 (.dT (iT B1.1))) = H7 at f7 S7 ⊢
        have tA := hA.same S7
        have tB := hB.same S7
        have bb : (A1.2 * B1.2).natAbs < 2 ^ 4000 := by
          rw [Int.natAbs_mul]
          have := Nat.mul_lt_mul_of_lt_of_lt lA lB
          rw [← Nat.pow_add] at this
          exact Nat.lt_of_lt_of_le this (Nat.pow_le_pow_right (by decide) (by decide))
        have kk := keys_addE (c := sg * A1.2) (L := B1.1) (F := scl A1.1 B1.2) (by rw [keys_scl]; exact okA.nd)
        refine ⟨_, rfl, _, rfl, a, dA, _, rfl, S7 _ _ hA1, a, A1, rfl, tA, _, rfl, b, dB, _, rfl, S7 _ _ hB1, b, B1, rfl, tB, _, _, rfl, rfl, mulW (by omega) (by omega), f, _, _, rfl, f7, ⟨kk.1, fun t ht => ?_, ?_⟩, Int.mul_ne_zero nA nB, bb, fun H8 x s8 hx nx => ?_⟩
        · rcases kk.2.1 t ht with h | h
          · rw [keys_scl] at h
            exact okA.ne t h
          · exact okB.ne t h
        · have := kk.2.2
          unfold scl at this ⊢
          rw [List.length_map] at this
          omega
        · refine q H8 x (fun c o h => s8 c o (S7 c o h)) hx ?_
          cases e : H x with
          | none => rfl
          | some o =>
            rw [S7 x o e] at nx
            cases nx
end
end K60

namespace K60
open PySem PySem.Spec PyProof.Rows L2 RZ L5 XX LK M24 DT M38
section
variable {P : Program} {w : World} {K : PySem.W.Frag} {mg : Str → Option Value} {base : Heap}
/-- what two tables must be to be added -/
structure Two (T U : Ent × Int) : Prop where
  okA : EntN T.1
  okB : EntN U.1
  few : T.1.length + U.1.length ≤ 4400
  smA : Sm T.1
  smB : Sm U.1
  nA : T.2 ≠ 0
  nB : U.2 ≠ 0
  lA : T.2.natAbs < 2 ^ 1900
  lB : U.2.natAbs < 2 ^ 1900
def sp_bin (K : PySem.W.Frag) (C : Addr) (sg : Int) : Sp := fun vs H Q _ => ∃ (a b : Addr) (T U : Ent × Int), vs = [.ref a, .ref b] ∧ TabAt K C H a T ∧ TabAt K C H b U ∧ Two T U ∧ ∀ H' x, Same H H' → TabAt K C H' x (sumT T U sg) → H x = none → Q (.ref x) H'
theorem ok_add (T : Txt K mg) (O : TabT K mg) : FnOk P w K mg base CX0 10 O.fP O.dP ["self", "other"] (sp_bin K O.C 1) := by
  refine O.FP.ok sc_add (fun vs H Q E h => ?_) (fun cdv A outer s H vs Q E hr h => ?_)
  · obtain ⟨a, b, A1, B1, rfl, _⟩ := h
    rfl
  · obtain ⟨a, b, A1, B1, rfl, hA, hB, t, q⟩ := h
    refine ⟨_, (pss_cons (ps_if (pt_not (pt_val (pe_callB call_isi (by rfl) T.z_isinstance boot_isinstance (pa_cons (pv 1) (pa_cons (pe_glob (v := .ref O.C) rfl O.gC rfl) pa_nil))))) (pss_one ps_never) pss_nil)
      (pss_one (ps_ret (pe_call  (ok_sum T O) (hr.mono (by decide)) (by rfl) T.m_sum_of T.F_sum_of.kp T.b_sum_of .nil pass0 (pa_cons (pv 0) (pa_cons (pv 1) (pa_cons pe_int pa_nil))))))), ?_⟩
    have ⟨dy, e, k1, k2⟩ := hB
    refine ⟨_, rfl, _, _, _, _, true, rfl, .own _, O.ty H b dy _ k1, O.kit, true, rfl, iteF ?_⟩
    exact ⟨_, rfl, _, rfl, a, b, A1, B1, 1, rfl, hA, hB, t.okA, t.okB, t.few, t.smA, t.smB, t.nA, t.nB, t.lA, t.lB, .inl rfl, q⟩
theorem ok_sub (T : Txt K mg) (O : TabT K mg) : FnOk P w K mg base CX0 10 O.fM O.dM ["self", "other"] (sp_bin K O.C (-1)) := by
  refine O.FM.ok sc_sub (fun vs H Q E h => ?_) (fun cdv A outer s H vs Q E hr h => ?_)
  · obtain ⟨a, b, A1, B1, rfl, _⟩ := h
    rfl
  · obtain ⟨a, b, A1, B1, rfl, hA, hB, t, q⟩ := h
    refine ⟨_, (pss_cons (ps_if (pt_not (pt_val (pe_callB call_isi (by rfl) T.z_isinstance boot_isinstance (pa_cons (pv 1) (pa_cons (pe_glob (v := .ref O.C) rfl O.gC rfl) pa_nil))))) (pss_one ps_never) pss_nil)
      (pss_one (ps_ret (pe_call  (ok_sum T O) (hr.mono (by decide)) (by rfl) T.m_sum_of T.F_sum_of.kp T.b_sum_of .nil pass0 (pa_cons (pv 0) (pa_cons (pv 1) (pa_cons (pe_un un_neg pe_int) pa_nil))))))), ?_⟩
    have ⟨dy, e, k1, k2⟩ := hB
    refine ⟨_, rfl, _, _, _, _, true, rfl, .own _, O.ty H b dy _ k1, O.kit, true, rfl, iteF ?_⟩
    exact ⟨_, rfl, _, rfl, _, rfl, a, b, A1, B1, -1, rfl, hA, hB, t.okA, t.okB, t.few, t.smA, t.smB, t.nA, t.nB, t.lA, t.lB, .inr rfl, q⟩
def timesT (T : Ent × Int) (n m : Int) : Ent × Int := low (scl T.1 n) (T.2 * m)
def sp_neg (K : PySem.W.Frag) (C : Addr) : Sp := fun vs H Q _ => ∃ (a : Addr) (T : Ent × Int), vs = [.ref a] ∧ TabAt K C H a T ∧ EntN T.1 ∧ Sm T.1 ∧ T.2 ≠ 0 ∧ T.2.natAbs < 2 ^ 1900 ∧ ∀ H' x, Same H H' → TabAt K C H' x (low (scl T.1 (-1)) T.2) → H x = none → Q (.ref x) H'
theorem ok_neg (T : Txt K mg) (O : TabT K mg) : FnOk P w K mg base CX0 9 O.fN O.dN ["self"] (sp_neg K O.C) := by
  refine O.FN.ok sc_neg (fun vs H Q E h => ?_) (fun cdv A outer s H vs Q E hr h => ?_)
  · obtain ⟨a, A1, rfl, _⟩ := h
    rfl
  · obtain ⟨a, A1, rfl, hA, ok, sm, nA, lA, q⟩ := h
    refine ⟨_, (pss_one (ps_ret (pe_call  (ok_made T O) (hr.mono (by decide)) (by rfl) T.m_made_table T.F_made_table.kp T.b_made_table .nil pass0 (pa_cons (pe_call  (ok_scaled T) (hr.mono (by decide)) (by rfl) T.m_scaled T.F_scaled.kp T.b_scaled .nil pass0 (pa_cons (pe_fld (pv 0) rfl) (pa_cons (pe_un un_neg pe_int) pa_nil))) (pa_cons (pe_fld (pv 0) rfl) pa_nil))))), ?_⟩
    have ⟨dx, e, h1, h2⟩ := hA
    have p40 : (2 : Nat) ^ 1900 ≤ 2 ^ 4000 := Nat.pow_le_pow_right (by decide) (by decide)
    refine ⟨_, rfl, a, O.C, dx, _, _, rfl, h1, O.cl, O.nE, rfl, _, rfl, e, A1.1, -1, rfl, h2, ok, sm, Nat.one_lt_two_pow (by decide), fun H1 z s1 n1 hz => ?_⟩
    refine ⟨_, rfl, a, O.C, dx, _, _, rfl, s1 _ _ h1, O.cl, O.nB, rfl, z, _, _, rfl, hz, scl_n ok _, nA, by omega, fun H2 x s2 hx nx => ?_⟩
    exact q H2 x (s1.trans s2) hx (s1.free nx)
def sp_times (K : PySem.W.Frag) (C : Addr) : Sp := fun vs H Q _ => ∃ (a : Addr) (T : Ent × Int) (n m : Int), vs = [.ref a, .int n, .int m] ∧ TabAt K C H a T ∧ EntN T.1 ∧ Sm T.1 ∧ T.2 ≠ 0 ∧ T.2.natAbs < 2 ^ 1900 ∧ -BIG < n ∧ n < BIG ∧ -BIG < m ∧ m < BIG ∧ m ≠ 0 ∧
  ∀ H' x, Same H H' → TabAt K C H' x (timesT T n m) → H x = none → Q (.ref x) H'
theorem big_lt {n : Int} (h1 : -BIG < n) (h2 : n < BIG) : n.natAbs < 2 ^ 200 := by
  unfold BIG at h1 h2
  omega
theorem ok_times (T : Txt K mg) (O : TabT K mg) : FnOk P w K mg base CX0 9 O.fX O.dX ["self", "top", "bottom"] (sp_times K O.C) := by
  refine K60.FunD.ok0 O.FX sc_times (fun vs H Q E h => ?_) (fun cdv A outer s H vs Q E hr h => ?_)
  · obtain ⟨a, A1, n, m, rfl, _⟩ := h
    rfl
  · obtain ⟨a, A1, n, m, rfl, hA, ok, sm, nA, lA, n1, n2, m1, m2, m0, q⟩ := h
    refine ⟨_, (pss_cons (ps_expr (pe_call  (ok_checkp T) (hr.mono (by decide)) (by rfl) T.m_check_passed T.F_check_passed.kp T.b_check_passed .nil pass0 (pa_cons (pv 1) pa_nil)))
      (pss_cons (ps_expr (pe_call  (ok_checkb T) (hr.mono (by decide)) (by rfl) T.m_check_bottom T.F_check_bottom.kp T.b_check_bottom .nil pass0 (pa_cons (pv 2) pa_nil)))
      (pss_one (ps_ret (pe_call  (ok_made T O) (hr.mono (by decide)) (by rfl) T.m_made_table T.F_made_table.kp T.b_made_table .nil pass0 (pa_cons (pe_call  (ok_scaled T) (hr.mono (by decide)) (by rfl) T.m_scaled T.F_scaled.kp T.b_scaled .nil pass0 (pa_cons (pe_fld (pv 0) rfl) (pa_cons (pv 1) pa_nil))) (pa_cons (pe_op op_mulW (pe_fld (pv 0) rfl) (pv 2)) pa_nil))))))), ?_⟩
    have ⟨dx, e, h1, h2⟩ := hA
    have p19 : (2 : Nat) ^ 1900 ≤ 2 ^ 4000 := Nat.pow_le_pow_right (by decide) (by decide)
    have p2 : (2 : Nat) ^ 200 ≤ 2 ^ 4000 := Nat.pow_le_pow_right (by decide) (by decide)
    have bn := big_lt n1 n2
    have bm := big_lt m1 m2
    have bb : (A1.2 * m).natAbs < 2 ^ 4000 := by
      rw [Int.natAbs_mul]
      have := Nat.mul_lt_mul_of_lt_of_lt lA bm
      rw [← Nat.pow_add] at this
      exact Nat.lt_of_lt_of_le this (Nat.pow_le_pow_right (by decide) (by decide))
    refine ⟨_, rfl, n, rfl, n1, n2, _, rfl, m, rfl, m1, m2, m0, ?_⟩
    refine ⟨_, rfl, a, O.C, dx, _, _, rfl, h1, O.cl, O.nE, rfl, _, rfl, e, A1.1, n, rfl, h2, ok, sm, by omega, fun H1 z s1 k1 hz => ?_⟩
    refine ⟨_, rfl, a, O.C, dx, _, _, rfl, s1 _ _ h1, O.cl, O.nB, rfl, _, rfl, _, _, rfl, rfl, mulW (by omega) (by omega), z, _, _, rfl, hz, scl_n ok _, Int.mul_ne_zero nA m0, bb, fun H2 x s2 hx nx => ?_⟩
    exact q H2 x (s1.trans s2) hx (s1.free nx)
def sp_eqt (K : PySem.W.Frag) (C : Addr) : Sp := fun vs H Q _ => ∃ (a b : Addr) (T U : Ent × Int), vs = [.ref a, .ref b] ∧ TabAt K C H a T ∧ TabAt K C H b U ∧ Q (.bl (eqI (kI T.1) (kI U.1) && decide (T.2 = U.2))) H
theorem ok_eqt (T : Txt K mg) (O : TabT K mg) : FnOk P w K mg base CX0 1 O.fE O.dE ["self", "other"] (sp_eqt K O.C) := by
  refine O.FE.ok sc_eq (fun vs H Q E h => ?_) (fun cdv A outer s H vs Q E hr h => ?_)
  · obtain ⟨a, b, A1, B1, rfl, _⟩ := h
    rfl
  · obtain ⟨a, b, A1, B1, rfl, ⟨dx, e, h1, h2⟩, ⟨dy, e', k1, k2⟩, q⟩ := h
    refine ⟨_, (pss_one (ps_ret (pe_and (pe_callB call_isi (by rfl) T.z_isinstance boot_isinstance (pa_cons (pv 1) (pa_cons (pe_glob (v := .ref O.C) rfl O.gC rfl) pa_nil))) (pe_and (pe_cmpR (op_eqDT (hu_of hr)) (pe_fld (pv 0) rfl) (pe_fld (pv 1) rfl) (nomark _)) (pe_one (pe_cmpR op_eq (pe_fld (pv 0) rfl) (pe_fld (pv 1) rfl) (nomark _))))))), ?_⟩
    refine ⟨_, rfl, _, _, _, _, true, rfl, .own _, O.ty H b dy _ k1, O.kit, true, rfl, iteT ?_⟩
    refine ⟨_, rfl, a, O.C, dx, _, _, rfl, h1, O.cl, O.nE, rfl, _, rfl, b, O.C, dy, _, _, rfl, k1, O.cl, O.nE, rfl, e, e', kI A1.1, kI B1.1, rfl, rfl, h2, k2, _, rfl, ?_⟩
    show (if id (eqI (kI A1.1) (kI B1.1)) = true then _ else _)
    cases c : eqI (kI A1.1) (kI B1.1) with
    | false =>
      rw [c, Bool.false_and] at q
      exact iteF q
    | true =>
      rw [c, Bool.true_and] at q
      refine iteT ⟨_, rfl, a, O.C, dx, _, _, rfl, h1, O.cl, O.nB, rfl, _, rfl, b, O.C, dy, _, _, rfl, k1, O.cl, O.nB, rfl, rfl, ?_⟩
      rw [show decide (V.int A1.2 = V.int B1.2) = decide (A1.2 = B1.2) from decide_eq_decide.mpr ⟨V.int.inj, fun z => by rw [z]⟩]
      exact q
end
end K60

namespace W14
open PySem PySem.Spec PyProof.Rows L2
/-! ### max(xs, default=d) of a list of ints -/
theorem fold_most : ∀ (ns : List Int) (n : Int), (ns.foldl max n ∈ n :: ns) ∧ n ≤ ns.foldl max n ∧ ∀ y ∈ ns, y ≤ ns.foldl max n
  | [], n => ⟨List.mem_cons_self, Int.le_refl n, fun _ h => nomatch h⟩
  | a :: r, n => by
    obtain ⟨h1, h2, h3⟩ := fold_most r (max n a)
    have e : (a :: r).foldl max n = r.foldl max (max n a) := rfl
    rw [e]
    refine ⟨?_, by omega, fun y hy => ?_⟩
    · rcases List.mem_cons.mp h1 with h | h
      · rw [h]
        rcases Int.le_total n a with z | z
        · rw [Int.max_eq_right z]
          simp
        · rw [Int.max_eq_left z]
          simp
      · exact List.mem_cons_of_mem _ (List.mem_cons_of_mem _ h)
    · rcases List.mem_cons.mp hy with rfl | hy
      · omega
      · exact h3 y hy
theorem reads_are {h : Heap} : ∀ {us : List Value} {ns : List Int}, IntsAre us ns → ∃ as, ReadsAll h us (ns.map PyData.int) as
  | _, _, .nil => ⟨_, .nil⟩
  | _, _, .cons n t r => by
    obtain ⟨as, q⟩ := reads_are (h := h) r
    exact ⟨_, .cons (.int n t) q⟩
theorem flat_ints : ∀ ns : List Int, PyData.depthAll (ns.map PyData.int) = 0
  | [] => by simp [PyData.depthAll]
  | n :: ns => by simp [PyData.depthAll, PyData.depth, flat_ints ns]
theorem alike_ints (ns : List Int) : PySem.W.AlikeAll (ns.map PyData.int) := by
  refine ⟨fun x hx y hy => ?_, fun x hx e => ?_⟩
  · obtain ⟨a, _, rfl⟩ := List.mem_map.mp hx
    obtain ⟨b, _, rfl⟩ := List.mem_map.mp hy
    first | rfl | simp [PySem.W.alike] | decide
  · obtain ⟨a, _, rfl⟩ := List.mem_map.mp hx
    cases e
def rMaxDef (K : PySem.W.Frag) : List V → List V → Hp → VK → Prop := fun vs zs H Q => ∃ (a : Addr) (ns : List Int) (d : Int), vs = [V.ref a] ∧ zs = [V.int d] ∧ SqL K H a (ns.map V.int) ∧ ∀ m, (ns = [] → m = d) → (ns ≠ [] → m ∈ ns ∧ ∀ y ∈ ns, y ≤ m) → Q (.int m) H
theorem cr_maxDef {X : Cx} (hc : X.calm = true) (hu : X.A.units + 64 < cLine) : CallRK X (.builtin "max") [Str.ofString "default"] (rMaxDef X.K) := by
  intro pins s σ H vs zs us ws Q I r rz h
  obtain ⟨a, ns, d, rfl, rfl, hs, q⟩ := h
  obtain rfl := Vals.ref1 r
  obtain ⟨w1, rfl, e1⟩ := vals1 rz
  obtain ⟨t, rfl⟩ := e1
  obtain ⟨its, rv, hl, _⟩ := I.list hs
  obtain ⟨as, hr⟩ := reads_are (h := s.heap) rv.ints
  refine PySem.W.max_list_default (I.ok.hd hc) hl.isList (by simpa using hr) (alike_ints ns) (by rw [flat_ints]; omega) (fun e h' tk k => ?_) (fun y ys i v h' tk bs e hv hm k => ?_)
  · have e0 : ns = [] := List.map_eq_nil_iff.mp e
    exact ⟨.int d, H, I.kept k, ⟨_, rfl⟩, q d (fun _ => rfl) (fun n => absurd e0 n)⟩
  · cases ns with
    | nil => cases e
    | cons n ns =>
      rw [List.map_cons] at e
      injection e with e1 e2
      subst e1
      subst e2
      rw [PySem.W.maxD_ints] at hm
      obtain ⟨f1, f2, f3⟩ := fold_most ns n
      generalize ns.foldl max n = M at hm f1 f2 f3
      cases hm with
      | int _ t2 =>
        refine ⟨.int M, H, I.kept k, ⟨_, rfl⟩, q M (fun z => nomatch z) fun _ => ⟨f1, fun y hy => ?_⟩⟩
        rcases List.mem_cons.mp hy with rfl | hy
        · exact f2
        · exact f3 y hy
end W14

/-! bool(d), d a dict whose keys are tuples -/
namespace DT
open PySem PySem.W PySem.Spec PyProof.Rows PySem.Calls
section
variable {prog : Program} {w : World} {A : Around} {E : Value → Shared → Prop} {s : Shared} {d : Addr} {es : Array DictEntry} {ep : Nat}
theorem len_here {Q : Value → Shared → Prop} (nm : (d == sysModules) = false) (raw : s.heap.DictRaw d es ep) (fit : (es.size : Int) < 2 ^ 63) (h : ∀ tk, Q (.int es.size s.toks) { s with toks := tk } ∧ ∀ t, Q (.int es.size t) { s with toks := tk }) :
    wpAny (model prog w) A (Builtin.«len» ⟨[.ref d], []⟩) (fun fin s' => ∃ r, fin = .done (.ret r) ∧ Q r s') E s := by
  have ty : s.TypeIs (.ref d) "dict" := let ⟨o, ho, hc, _⟩ := raw; ⟨o, ho, hc.1⟩
  unfold Builtin.«len»
  refine wpAny_bind (m := oneArg "len" _) (wpAny_pure (wpAny_bind (m := callSpecial? (.ref d) (Str.ofString "__len__")) (wpAny_callSpecial?_slot (name := Str.ofString "__len__") ty PySem.F.slot_dict_len (call_len_raw nm raw ?_))))
  show wpAny _ _ _ _ _ { s with toks := s.toks + 1 }
  refine wpAny_bind (wpAny_holding (wpAny_pure (wpAny_bind (wpAny_letGo ?_))))
  show wpAny _ _ (if ((es.size : Nat) : Int) < 0 then _ else _) _ _ _
  rw [if_neg (by omega)]
  show wpAny _ _ (if ((es.size : Nat) : Int) ≥ 2 ^ 63 then _ else _) _ _ _
  rw [if_neg (by omega)]
  exact wpAny_bind (wpAny_mkInt (wpAny_pure ⟨_, rfl, (h _).2 _⟩))
theorem truth_here {Q : Bool → Shared → Prop} (nm : (d == sysModules) = false) (raw : s.heap.DictRaw d es ep) (fit : (es.size : Int) < 2 ^ 63) (h : ∀ tk, Q (!es.isEmpty) { s with toks := tk }) : wpAny (model prog w) A (truthy (.ref d)) Q E s := by
  have ty : s.TypeIs (.ref d) "dict" := let ⟨o, ho, hc, _⟩ := raw; ⟨o, ho, hc.1⟩
  have ne : ((es.size : Int) != 0) = !es.isEmpty := by
    rw [Array.isEmpty]
    rw [Bool.eq_iff_iff, bne_iff_ne, Bool.not_eq_true', decide_eq_false_iff_not]
    omega
  have key : wpAny (model prog w) A (runValue (.builtin "len" ⟨[.ref d], []⟩)) (fun r s' => ∃ t, r = .int es.size t ∧ Q (!es.isEmpty) s') E s := by
    refine wpAny_runValue (codeAny_builtin entry_len ?_)
    rw [Around.under_plainId plain_len _]
    refine wpAny_mono (len_here (Q := fun r s' => ∃ t, r = .int es.size t ∧ Q (!es.isEmpty) s') nm raw fit fun tk => ⟨⟨_, rfl, h tk⟩, fun t => ⟨t, rfl, h tk⟩⟩) (fun fin s' z => ?_) fun _ _ e => e
    obtain ⟨r, rfl, hq⟩ := z
    exact hq
  have fin : wpAny (model prog w) A (runValue (.builtin "len" ⟨[.ref d], []⟩) >>= fun n => pure (match n with | .int k _ => k != 0 | _ => false)) Q E s := by
    refine wpAny_bind (wpAny_mono key (fun r s' z => ?_) fun _ _ e => e)
    obtain ⟨t, rfl, hq⟩ := z
    refine wpAny_pure ?_
    show Q ((es.size : Int) != 0) s'
    rw [ne]
    exact hq
  unfold truthy
  first
    | refine wpAny_bind (wpAny_callSpecial?_none (name := Str.ofString "__bool__") ty noBool_dict ?_)
    | refine wpAny_bind (wpAny_pure (wpAny_bind (wpAny_callSpecial?_none (name := Str.ofString "__bool__") ty noBool_dict ?_)))
  first
    | refine wpAny_bind (wpAny_specialOf (name := Str.ofString "__len__") ty PySem.F.slot_dict_len.lookup ?_)
    | refine wpAny_bind (wpAny_pure (wpAny_bind (wpAny_specialOf (name := Str.ofString "__len__") ty PySem.F.slot_dict_len.lookup ?_)))
  have step : ∀ r s', (∃ t, r = Value.int es.size t ∧ Q (!es.isEmpty) s') → ∃ t, r = Value.int es.size t ∧ Q ((es.size : Int) != 0) s' := fun r s' ⟨t, e, hq⟩ => ⟨t, e, ne ▸ hq⟩
  first
    | exact wpAny_bind (wpAny_mono key (fun r s' z => by obtain ⟨t, rfl, hq⟩ := step r s' z; exact wpAny_pure hq) fun _ _ e => e)
    | exact wpAny_bind (wpAny_pure (wpAny_bind (wpAny_mono key (fun r s' z => by obtain ⟨t, rfl, hq⟩ := step r s' z; exact wpAny_pure hq) fun _ _ e => e)))
end
abbrev NewBD (d : Addr) (es : Array DictEntry) (ep : Nat) (R : Result → Shared → Prop) (s : Shared) : Prop := s.heap.DictRaw d es ep ∧ ∀ tk, R (.ok (.ret (.bool (!es.isEmpty)))) { s with toks := tk }
theorem boolD_new (d : Addr) (es : Array DictEntry) (ep : Nat) (nm : (d == sysModules) = false) (fit : (es.size : Int) < 2 ^ 63) : Meets (Builtin.«bool.__new__» ⟨[.type "bool", .ref d], []⟩) (fun _ R s => NewBD d es ep R s) :=
  Meets.of_wp fun prog w A R s z => by
    rcases z with ⟨raw, fin⟩
    rcases s with ⟨hp, g, dr, tk, os⟩
    have sub1 := PySem.F.conv_sub_bool
    repeat (any_goals (first | assumption | (with_reducible refine truth_here nm raw fit fun tk' => ?_) | wp_step))
    all_goals first | exact ⟨_, rfl, fin _⟩ | exact fin _ | skip
section
open L2
variable {X : Cx}
/-- bool(a dict with tuples as keys) -/
theorem cr_boolDT : CallR X (.type "bool") (fun xs H Q => ∃ (a : Addr) (kvs : List (List Key × V)), xs = [.ref a] ∧ H a = some (.dT kvs) ∧ Q (.bl (!kvs.isEmpty)) H) := by
  intro pins s σ H xs us Q I r h
  obtain ⟨a, kvs, rfl, ha, q⟩ := h
  rw [Vals.ref1 r]
  obtain ⟨z, nm, ks, pr, o, es, ep, ho, hx, hdt, hen, hn⟩ := (show ObjOk X.prog X.w H s.heap a (.dT kvs) from I.hok a _ ha)
  have l1 : es.size = ks.length := size_of_entries hen
  have l2 : kvs.length = ks.length := Paired.length pr
  have hl := line63
  refine call_bool_1 (boolD_new a es ep nm (by omega)) ⟨⟨o, ho, hx, hdt⟩, fun tk => ?_⟩
  have e : es.isEmpty = kvs.isEmpty := by
    rw [Array.isEmpty, l1, ← l2]
    cases kvs <;> simp
  refine ⟨rfl, .bl (!kvs.isEmpty), H, I.tok _, ?_, q⟩
  show Value.bool (!es.isEmpty) = Value.bool (!kvs.isEmpty)
  rw [e]
end
end DT

namespace K60
open PySem PySem.Spec PyProof.Rows L2 RZ L5 XX LK M24 DT M38
def stp (L : Ent) : List Int := L.map fun p => ((p.1.getD 0 0 : Nat) : Int)
def IsEnd (L : Ent) (m : Int) : Prop := (L = [] → m = -1) ∧ (L ≠ [] → m ∈ stp L ∧ ∀ y ∈ stp L, y ≤ m)
section
variable {P : Program} {w : World} {K : PySem.W.Frag} {mg : Str → Option Value} {base : Heap}
def atT (T : Ent × Int) (t : List Nat) : Int × Int := (ev T.1 t / ((Nat.gcd (ev T.1 t).natAbs T.2.natAbs : Nat) : Int), T.2 / ((Nat.gcd (ev T.1 t).natAbs T.2.natAbs : Nat) : Int))
def sp_at (K : PySem.W.Frag) (C : Addr) : Sp := fun vs H Q _ => ∃ (a : Addr) (T : Ent × Int) (s d : Nat), vs = [.ref a, .int ((s : Nat) : Int), .int ((d : Nat) : Int)] ∧ TabAt K C H a T ∧ 0 < T.2 ∧ T.2.natAbs < 2 ^ 4000 ∧ s ≤ 8 ∧ d ≤ 480 ∧ ∀ H' z, Same H H' → H' z = some (.tup [.int (atT T [s, d]).1, .int (atT T [s, d]).2]) → Q (.ref z) H'
theorem ok_at (T : Txt K mg) (O : TabT K mg) : FnOk P w K mg base CX0 4 O.fA O.dA ["self", "step", "degree"] (sp_at K O.C) := by
  refine O.FA.ok sc_at (fun vs H Q E h => ?_) (fun cdv A outer s H vs Q E hr h => ?_)
  · obtain ⟨a, A1, st, dg, rfl, _⟩ := h
    rfl
  · obtain ⟨a, A1, st, dg, rfl, ⟨dx, e, h1, h2⟩, b0, bl, l1, l2, q⟩ := h
    refine ⟨_, (pss_cons (ps_expr (pe_call  (ok_checkw T) (hr.mono (by decide)) (by rfl) T.m_check_within T.F_check_within.kp T.b_check_within .nil pass0 (pa_cons (pv 1) (pa_cons pe_int (pa_cons (pe_glob (v := .int 8) rfl T.c_MAX_STEP_tables ⟨_, rfl⟩) pa_nil)))))
      (pss_cons (ps_expr (pe_call  (ok_checkw T) (hr.mono (by decide)) (by rfl) T.m_check_within T.F_check_within.kp T.b_check_within .nil pass0 (pa_cons (pv 2) (pa_cons pe_int (pa_cons (pe_glob (v := .int 480) rfl T.c_MAX_PLACE_tables ⟨_, rfl⟩) pa_nil)))))
      (pss_one (ps_ret (pe_call  (ok_lpair T) (hr.mono (by decide)) (by rfl) T.m_lowest_pair T.F_lowest_pair.kp T.b_lowest_pair .nil pass0 (pa_cons (pe_dget2 (hu_of hr) (pe_fld (pv 0) rfl) (pe_tup (pa_cons (pv 1) (pa_cons (pv 2) pa_nil))) pe_int ⟨rfl, rfl, rfl, rfl⟩) (pa_cons (pe_fld (pv 0) rfl) pa_nil))))))), ?_⟩
    refine ⟨_, rfl, _, _, _, rfl, by omega, by omega, ?_⟩
    refine ⟨_, rfl, _, _, _, rfl, by omega, by omega, ?_⟩
    refine ⟨_, rfl, a, O.C, dx, _, _, rfl, h1, O.cl, O.nE, rfl, e, rfl, .inr ⟨_, .inl h2⟩, _, rfl, _, rfl, by show 2 ≤ sizeLine; decide, fun k hk => ?_⟩
    have sk := same_new hk (.tup (nv [st, dg]))
    refine ⟨_, get_iTd (t := [st, dg]) (.inl (sk _ _ h2)) upd_same, ?_⟩
    rw [getD_iT]
    exact ⟨_, rfl, a, O.C, dx, _, _, rfl, sk _ _ h1, O.cl, O.nB, rfl, _, A1.2, rfl, b0, bl, fun H' z s' hz => q H' z (sk.trans s') hz⟩
def sp_boolt (K : PySem.W.Frag) (C : Addr) : Sp := fun vs H Q _ => ∃ a T, vs = [.ref a] ∧ TabAt K C H a T ∧ Q (.bl (!T.1.isEmpty)) H
theorem ok_boolt (T : Txt K mg) (O : TabT K mg) : FnOk P w K mg base CX0 1 O.fB O.dB ["self"] (sp_boolt K O.C) := by
  refine O.FB.ok sc_bool (fun vs H Q E h => ?_) (fun cdv A outer s H vs Q E hr h => ?_)
  · obtain ⟨a, A1, rfl, _⟩ := h
    rfl
  · obtain ⟨a, A1, rfl, ⟨dx, e, h1, h2⟩, q⟩ := h
    refine ⟨_, (pss_one (ps_ret (pe_callTy cr_boolDT (by rfl) T.z_bool boot_bool (pa_cons (pe_fld (pv 0) rfl) pa_nil)))), ?_⟩
    refine ⟨_, rfl, a, O.C, dx, _, _, rfl, h1, O.cl, O.nE, rfl, e, _, rfl, h2, ?_⟩
    have ee : (iT A1.1).isEmpty = A1.1.isEmpty := by
      cases A1.1 <;> rfl
    rw [ee]
    exact q
end
end K60

namespace K60
open PySem PySem.Spec PyProof.Rows L2 RZ L5 XX LK M24 DT M38
/-! ### == of the dicts of tables -/
theorem all_kI (L M : Ent) : ((kI L).all fun p => decide (valV (iD (kI M)) p.1 = some (V.int p.2))) = true ↔ ∀ q ∈ L, q.1 ∈ keys M ∧ ev M q.1 = q.2 := by
  unfold kI
  rw [List.all_map, List.all_eq_true]
  refine forall_congr' fun q => forall_congr' fun hq => ?_
  show decide (valV (iT M) (tK q.1) = some (V.int q.2)) = true ↔ _
  rw [decide_eq_true_iff, val_iT]
  by_cases h : q.1 ∈ keys M
  · rw [if_pos h]
    exact ⟨fun z => ⟨h, V.int.inj (Option.some.inj z)⟩, fun z => by rw [z.2]⟩
  · rw [if_neg h]
    exact ⟨fun z => (nomatch z), fun z => absurd z.1 h⟩
theorem len_kI (L : Ent) : (kI L).length = L.length := by
  unfold kI
  rw [List.length_map]
theorem eqI_self {L : Ent} (nd : (keys L).Nodup) : eqI (kI L) (kI L) = true := by
  unfold eqI
  rw [(all_kI L L).mpr fun q hq => ⟨List.mem_map_of_mem hq, ev_mem nd hq⟩]
  simp
theorem eqI_lw {T U : Ent × Int} (h : Lw T) (k : Lw U) : eqI (kI T.1) (kI U.1) = decide (T.1 = U.1) := by
  rw [Bool.eq_iff_iff, decide_eq_true_iff]
  constructor
  · intro e
    unfold eqI at e
    rw [Bool.and_eq_true, beq_iff_eq, len_kI, len_kI, all_kI] at e
    obtain ⟨e1, e2⟩ := e
    have sub : ∀ t, t ∈ keys T.1 → t ∈ keys U.1 := fun t ht => by
      obtain ⟨q, hq, rfl⟩ := List.mem_map.mp ht
      exact (e2 q hq).1
    have lk : (keys U.1).length ≤ (keys T.1).length := by
      unfold keys
      rw [List.length_map, List.length_map, e1]
      exact Nat.le_refl _
    have sup : ∀ t, t ∈ keys U.1 → t ∈ keys T.1 := fun t ht => by
      by_cases z : t ∈ keys T.1
      · exact z
      · exfalso
        have nd : (t :: keys T.1).Nodup := List.nodup_cons.mpr ⟨z, h.nd⟩
        have := M38.len_le nd (m := keys U.1) fun x hx => by
          rcases List.mem_cons.mp hx with e | hx
          · rw [e]; exact ht
          · exact sub x hx
        rw [List.length_cons] at this
        omega
    have ek : keys T.1 = keys U.1 := asc_same h.nd k.nd h.asc k.asc fun t => ⟨sub t, sup t⟩
    have self : ∀ {V : Ent × Int}, Lw V → V.1 = (keys V.1).map fun t => (t, ev V.1 t) := fun {V} hv => by
      unfold keys
      rw [List.map_map]
      refine ((List.map_congr_left fun p hp => ?_).trans (List.map_id _)).symm
      show (p.1, ev V.1 p.1) = p
      rw [ev_mem hv.nd hp]
    rw [self h, self k, ek]
    refine List.map_congr_left fun t ht => ?_
    obtain ⟨q, hq, rfl⟩ := List.mem_map.mp (ek ▸ ht : t ∈ keys T.1)
    rw [(e2 q hq).2, ev_mem h.nd hq]
  · intro e
    rw [e]
    exact eqI_self k.nd
/-- two tables in lowest terms are equal just where they are the same -/
theorem tab_eq {T U : Ent × Int} (h : Lw T) (k : Lw U) : (eqI (kI T.1) (kI U.1) && decide (T.2 = U.2)) = decide (T = U) := by
  rw [eqI_lw h k, ← Bool.decide_and]
  exact decide_eq_decide.mpr ⟨fun z => Prod.ext z.1 z.2, fun z => by rw [z]; exact ⟨rfl, rfl⟩⟩
end K60

namespace K60
open PySem PySem.Spec PyProof.Rows L2 RZ L5 XX LK M24 DT M38
theorem mul_b {x y : Int} {a b : Nat} (hx : x.natAbs < 2 ^ a) (hy : y.natAbs < 2 ^ b) : (x * y).natAbs < 2 ^ (a + b) := by
  rw [Int.natAbs_mul, Nat.pow_add]
  exact Nat.mul_lt_mul_of_lt_of_lt hx hy
theorem up4 {n a : Nat} (h : n < 2 ^ a) (ha : a ≤ 4000) : n < 2 ^ 4000 := Nat.lt_of_lt_of_le h (Nat.pow_le_pow_right (by decide) ha)end K60

namespace K60
open PySem PySem.Spec PyProof.Rows L2 RZ L5 XX LK M24 DT M38
section
variable {P : Program} {w : World} {K : PySem.W.Frag} {mg : Str → Option Value} {base : Heap}
def Sm19 (L : Ent) : Prop := ∀ u, (ev L u).natAbs < 2 ^ 1900
end
end K60

namespace K60
open PySem PySem.Spec PyProof.Rows L2 RZ L5 XX LK M24 DT M38
/-! ### tables by raw fractions, and their bounds -/
theorem ev_scl (L : Ent) (n : Int) (u : List Nat) : ev (scl L n) u = ev L u * n := by
  induction L with
  | nil => show (0 : Int) = 0 * n; rw [Int.zero_mul]
  | cons p L ih =>
    show (if p.1 = u then p.2 * n else ev (scl L n) u) = (if p.1 = u then p.2 else ev L u) * n
    split
    · rfl
    · exact ih
structure Raw (T : Ent × Int) (n : List Nat → Int) (d : Int) : Prop where
  lw : Lw T
  nd : d ≠ 0
  eq : ∀ u, ev T.1 u * d = n u * T.2
theorem low_cross {L : Ent} {b : Int} (nd : (keys L).Nodup) (u : List Nat) : ev (low L b).1 u * b = ev L u * (low L b).2 := by
  rw [ev_low]
  show ev L u / sg L b * b = ev L u * (b / sg L b)
  have d := sg_dvd (b := b) nd
  have e1 := exact_mul d.1
  have e2 := exact_mul (d.2 u)
  generalize ev L u / sg L b = x at e2 ⊢
  generalize b / sg L b = y at e1 ⊢
  rw [← e1, ← e2, Int.mul_assoc, Int.mul_comm y]
theorem Raw.self {T : Ent × Int} (h : Lw T) : Raw T (ev T.1) T.2 := ⟨h, by have := h.pos; omega, fun u => rfl⟩
theorem Raw.low {L : Ent} {b : Int} (nd : (keys L).Nodup) (hb : b ≠ 0) : Raw (M24.low L b) (ev L) b := ⟨low_lw nd hb, hb, low_cross nd⟩
theorem nd_sum {T U : Ent × Int} {s : Int} (h : (keys T.1).Nodup) : (keys (addE (scl T.1 U.2) U.1 (s * T.2))).Nodup := (keys_addE (by rw [keys_scl]; exact h)).1
theorem Raw.sum {T U : Ent × Int} {n m : List Nat → Int} {d e : Int} (s : Int) (h : Raw T n d) (k : Raw U m e) : Raw (sumT T U s) (fun u => n u * e + s * m u * d) (d * e) := by
  have p0 := h.lw.pos
  have q0 := k.lw.pos
  have hb : T.2 * U.2 ≠ 0 := Int.mul_ne_zero (by omega) (by omega)
  have nd := nd_sum (T := T) (U := U) (s := s) h.lw.nd
  refine ⟨low_lw nd hb, Int.mul_ne_zero h.nd k.nd, fun u => ?_⟩
  have c := low_cross (b := T.2 * U.2) nd u
  rw [ev_addE k.lw.nd, ev_scl] at c
  have c1 := h.eq u
  have c2 := k.eq u
  show ev (M24.low _ _).1 u * _ = _ * (M24.low _ _).2
  generalize ev (M24.low _ _).1 u = X at c ⊢
  generalize (M24.low _ _).2 = Y at c ⊢
  generalize ev T.1 u = t at c c1
  generalize ev U.1 u = r at c c2
  generalize T.2 = p at *
  generalize U.2 = q at *
  generalize n u = n at *
  generalize m u = m at *
  refine Int.eq_of_mul_eq_mul_right hb ?_
  grind
theorem Raw.times {T : Ent × Int} {n : List Nat → Int} {d a b : Int} (h : Raw T n d) (hb : b ≠ 0) : Raw (timesT T a b) (fun u => n u * a) (d * b) := by
  have p0 := h.lw.pos
  have hb' : T.2 * b ≠ 0 := Int.mul_ne_zero (by omega) hb
  have nd : (keys (scl T.1 a)).Nodup := by rw [keys_scl]; exact h.lw.nd
  refine ⟨low_lw nd hb', Int.mul_ne_zero h.nd hb, fun u => ?_⟩
  have c := low_cross (b := T.2 * b) nd u
  rw [ev_scl] at c
  have c1 := h.eq u
  show ev (M24.low _ _).1 u * _ = _ * (M24.low _ _).2
  generalize ev (M24.low _ _).1 u = X at c ⊢
  generalize (M24.low _ _).2 = Y at c ⊢
  generalize ev T.1 u = t at c c1
  generalize T.2 = p at *
  generalize n u = n at *
  refine Int.eq_of_mul_eq_mul_right (a := p) (by omega) ?_
  grind
theorem Raw.eq2 {T U : Ent × Int} {n m : List Nat → Int} {d e : Int} (h : Raw T n d) (k : Raw U m e) (g : ∀ u, n u * e = m u * d) : T = U := by
  refine h.lw.ext k.lw fun u => ?_
  have c1 := h.eq u
  have c2 := k.eq u
  have c3 := g u
  refine Int.eq_of_mul_eq_mul_right (a := d * e) (Int.mul_ne_zero h.nd k.nd) ?_
  generalize ev T.1 u = t at *
  generalize ev U.1 u = r at *
  generalize T.2 = p at *
  generalize U.2 = q at *
  generalize n u = n at *
  generalize m u = m at *
  grind
structure Bdd (T : Ent × Int) (k n : Nat) : Prop where
  ok : EntOk T.1
  sm : ∀ u, (ev T.1 u).natAbs < 2 ^ k
  bt : T.2.natAbs < 2 ^ k
  len : T.1.length ≤ n
theorem div_le {x s : Int} (h : s ∣ x) (hs : s ≠ 0) : (x / s).natAbs ≤ x.natAbs := by
  have e := exact_mul h
  have : x.natAbs = (x / s).natAbs * s.natAbs := by rw [← Int.natAbs_mul, e]
  rw [this]
  exact Nat.le_mul_of_pos_right _ (by omega)
theorem low_bdd {L : Ent} {b : Int} {k n : Nat} (nd : (keys L).Nodup) (plc : ∀ t ∈ keys L, Plc t) (hn : n ≤ 4400) (len : L.length ≤ n) (sm : ∀ u, (ev L u).natAbs < 2 ^ k) (hb : b ≠ 0) (bt : b.natAbs < 2 ^ k) : Bdd (low L b) k n := by
  have d := sg_dvd (b := b) nd
  have hs := sg_ne (L := L) hb
  have lk : (low L b).1.length ≤ n := by
    show ((kept L).map _).length ≤ _
    rw [List.length_map]
    have h1 := List.length_filter_le (fun t => decide (ev L t ≠ 0)) (srt encT (keys L))
    have h2 := (srt_perm encT (keys L)).length_eq
    unfold keys at h1 h2
    rw [List.length_map] at h2
    show ((srt encT (keys L)).filter _).length ≤ _
    unfold keys
    omega
  refine ⟨⟨by rw [keys_low]; exact kept_nd nd, fun p hp => ?_, by omega⟩, fun u => ?_, ?_, lk⟩
  · have : p.1 ∈ keys (low L b).1 := List.mem_map_of_mem hp
    rw [keys_low] at this
    exact plc _ (mem_of_ev (mem_kept.mp this))
  · rw [ev_low]
    exact Nat.lt_of_le_of_lt (div_le (d.2 u) hs) (sm u)
  · exact Nat.lt_of_le_of_lt (div_le d.1 hs) bt
theorem Bdd.plcs {T : Ent × Int} {k n : Nat} (h : Bdd T k n) : ∀ t ∈ keys T.1, Plc t := fun t ht => by
  obtain ⟨p, hp, rfl⟩ := List.mem_map.mp ht
  exact h.ok.plc p hp
theorem Bdd.sum {T U : Ent × Int} {k j n m : Nat} {s : Int} (hs : s = 1 ∨ s = -1) (t0 : T.2 ≠ 0) (u0 : U.2 ≠ 0) (h : Bdd T k n) (g : Bdd U j m) (hn : n + m ≤ 4400) : Bdd (sumT T U s) (k + j + 1) (n + m) := by
  have ka := keys_addE (c := s * T.2) (L := U.1) (F := scl T.1 U.2) (by rw [keys_scl]; exact h.ok.nd)
  have p2 : 2 ^ (k + j) < 2 ^ (k + j + 1) := Nat.pow_lt_pow_right (by decide) (Nat.lt_succ_self _)
  refine low_bdd ka.1 (fun t ht => ?_) hn ?_ (fun u => ?_) (Int.mul_ne_zero t0 u0) ?_
  · rcases ka.2.1 t ht with k1 | k1
    · rw [keys_scl] at k1
      exact h.plcs t k1
    · exact g.plcs t k1
  · have := ka.2.2
    unfold scl at this ⊢
    rw [List.length_map] at this
    have := h.len
    have := g.len
    omega
  · rw [ev_addE g.ok.nd, ev_scl]
    have b1 := mul_b (h.sm u) g.bt
    have b2 := mul_b (h.bt) (g.sm u)
    have e2 : (ev U.1 u * (s * T.2)).natAbs = (T.2 * ev U.1 u).natAbs := by
      rcases hs with e | e <;> rw [e]
      · rw [Int.one_mul, Int.mul_comm]
      · rw [Int.neg_one_mul, Int.mul_neg, Int.natAbs_neg, Int.mul_comm]
    have := Int.natAbs_add_le (ev T.1 u * U.2) (ev U.1 u * (s * T.2))
    rw [Nat.pow_succ]
    omega
  · exact Nat.lt_trans (mul_b h.bt g.bt) p2
theorem Bdd.times {T : Ent × Int} {k n : Nat} {a b : Int} (t0 : T.2 ≠ 0) (b0 : b ≠ 0) (h : Bdd T k n) (ha : a.natAbs < 2 ^ 200) (hb : b.natAbs < 2 ^ 200) (hn : n ≤ 4400) : Bdd (timesT T a b) (k + 200) n := by
  refine low_bdd (by rw [keys_scl]; exact h.ok.nd) (by rw [keys_scl]; exact h.plcs) hn (by unfold scl; rw [List.length_map]; exact h.len) (fun u => ?_) (Int.mul_ne_zero t0 b0) (mul_b h.bt hb)
  rw [ev_scl]
  exact mul_b (h.sm u) ha
theorem Bdd.smA {T : Ent × Int} {k n : Nat} (h : Bdd T k n) (hk : k ≤ 1900) : Sm T.1 := fun p hp => by
  have := h.sm p.1
  rw [ev_mem h.ok.nd hp] at this
  exact Nat.lt_of_lt_of_le this (Nat.pow_le_pow_right (by decide) (by omega))
theorem Bdd.b19 {T : Ent × Int} {k n : Nat} (h : Bdd T k n) (hk : k ≤ 1900) : T.2.natAbs < 2 ^ 1900 := Nat.lt_of_lt_of_le h.bt (Nat.pow_le_pow_right (by decide) hk)
theorem Bdd.s19 {T : Ent × Int} {k n : Nat} (h : Bdd T k n) (hk : k ≤ 1900) : Sm19 T.1 := fun u => Nat.lt_of_lt_of_le (h.sm u) (Nat.pow_le_pow_right (by decide) hk)
theorem Bdd.b40 {T : Ent × Int} {k n : Nat} (h : Bdd T k n) (hk : k ≤ 1900) : T.2.natAbs < 2 ^ 4000 := Nat.lt_of_lt_of_le h.bt (Nat.pow_le_pow_right (by decide) (by omega))
theorem Bdd.two {T U : Ent × Int} {k j n m : Nat} (t0 : T.2 ≠ 0) (u0 : U.2 ≠ 0) (h : Bdd T k n) (g : Bdd U j m) (hk : k ≤ 1900) (hj : j ≤ 1900) (hn : n + m ≤ 4400) : Two T U :=
  ⟨h.ok.n, g.ok.n, by have := h.len; have := g.len; omega, h.smA hk, g.smA hj, t0, u0, h.b19 hk, g.b19 hj⟩
end K60

/-! fractions: pairs of integers in lowest terms are the rationals -/
namespace MR
theorem ind_num {a b : Int} (hb : 0 < b) : (Rat.divInt a b).num = a / ((Nat.gcd a.natAbs b.natAbs : Nat) : Int) := by
  rw [Rat.num_divInt, Int.sign_eq_one_of_pos hb, Int.one_mul]
  rw [show b.gcd a = Nat.gcd a.natAbs b.natAbs from Nat.gcd_comm _ _]
theorem ind_den {a b : Int} (hb : 0 < b) : ((Rat.divInt a b).den : Int) = b / ((Nat.gcd a.natAbs b.natAbs : Nat) : Int) := by
  rw [Rat.den_divInt, if_neg (by omega), show b.gcd a = Nat.gcd a.natAbs b.natAbs from Nat.gcd_comm _ _]
  rw [Int.natCast_ediv]
  rw [Int.natAbs_of_nonneg (Int.le_of_lt hb)]
theorem qd {a b : Int} : Rat.divInt a b = (a : Rat) / (b : Rat) := Rat.divInt_eq_div a b
theorem q_den (q : Rat) : (0 : Int) < (q.den : Int) := by
  have := q.den_pos
  omega
theorem q_self (q : Rat) : (q.num : Rat) / ((q.den : Int) : Rat) = q := by
  rw [← qd]
  exact Rat.num_divInt_den q
theorem q_add (p q : Rat) : Rat.divInt (p.num * (q.den : Int) + q.num * (p.den : Int)) ((p.den : Int) * (q.den : Int)) = p + q := by
  have h1 := q_den p
  have h2 := q_den q
  rw [← Rat.divInt_add_divInt _ _ (by omega) (by omega), Rat.num_divInt_den, Rat.num_divInt_den]
theorem q_mul (p q : Rat) : Rat.divInt (p.num * q.num) ((p.den : Int) * (q.den : Int)) = p * q := by
  rw [← Rat.divInt_mul_divInt, Rat.num_divInt_den, Rat.num_divInt_den]
theorem q_neg_num (q : Rat) : (-q).num = -q.num := rfl
theorem q_neg_den (q : Rat) : (-q).den = q.den := rfl
theorem c_ne {d : Int} (h : d ≠ 0) : (d : Rat) ≠ 0 := fun e => h (by exact_mod_cast e)
theorem c_inj {a b : Int} (h : (a : Rat) = (b : Rat)) : a = b := by exact_mod_cast h
/-- two fractions are the same just where the pairs are -/
theorem q_pair {p q : Rat} : (p.num = q.num ∧ (p.den : Int) = (q.den : Int)) ↔ p = q := ⟨fun h => Rat.ext h.1 (by have := h.2; omega), fun h => by rw [h]; exact ⟨rfl, rfl⟩⟩
end MR

/-! the sums of powers over products of differences -/
namespace MR
def P : List Rat → Rat → Rat
  | [], _ => 1
  | y :: ys, x => (if y = x then 1 else x - y) * P ys x
def S (f : Rat → Rat) : List Rat → Rat
  | [] => 0
  | x :: xs => f x + S f xs
def W (xs : List Rat) (e : Nat) : Rat := S (fun x => x ^ e / P xs x) xs
theorem P_ne : ∀ (xs : List Rat) (x : Rat), P xs x ≠ 0
  | [], x => by simp [P]
  | y :: ys, x => by
    have h := P_ne ys x
    unfold P
    split
    · grind
    · rename_i c
      have : x - y ≠ 0 := fun e => c (by grind)
      grind
theorem S_congr {f g : Rat → Rat} : ∀ {xs : List Rat}, (∀ x ∈ xs, f x = g x) → S f xs = S g xs
  | [], _ => rfl
  | x :: xs, h => by
    unfold S
    rw [h x List.mem_cons_self, S_congr (xs := xs) fun y hy => h y (List.mem_cons_of_mem _ hy)]
theorem S_lin {f g : Rat → Rat} {c : Rat} : ∀ {xs : List Rat}, S (fun x => f x + c * g x) xs = S f xs + c * S g xs
  | [] => by show (0 : Rat) = 0 + c * 0; grind
  | x :: xs => by
    unfold S
    rw [S_lin (xs := xs)]
    grind
theorem W_step {a : Rat} {ys : List Rat} (e : Nat) (h : a ∉ ys) : W (a :: ys) (e + 1) = W ys e + a * W (a :: ys) e := by
  unfold W
  show a ^ (e + 1) / P (a :: ys) a + S (fun x => x ^ (e + 1) / P (a :: ys) x) ys = _ + a * (a ^ e / P (a :: ys) a + S (fun x => x ^ e / P (a :: ys) x) ys)
  have k : S (fun x => x ^ (e + 1) / P (a :: ys) x) ys = S (fun x => x ^ e / P ys x + a * (x ^ e / P (a :: ys) x)) ys := S_congr fun x hx => by
    have ne : a ≠ x := fun z => h (z ▸ hx)
    have pn := P_ne ys x
    show x ^ (e + 1) / ((if a = x then 1 else x - a) * P ys x) = x ^ e / P ys x + a * (x ^ e / ((if a = x then 1 else x - a) * P ys x))
    rw [if_neg ne]
    have d : x - a ≠ 0 := fun z => ne (by grind)
    rw [Rat.pow_succ]
    generalize x ^ e = t
    generalize P ys x = p at pn ⊢
    grind
  rw [k, S_lin, Rat.pow_succ]
  generalize S (fun x => x ^ e / P (a :: ys) x) ys = s
  generalize S (fun x => x ^ e / P ys x) ys = t
  generalize a ^ e = u
  generalize P (a :: ys) a = p
  rw [Rat.div_def, Rat.div_def]
  grind
theorem P_swap (a b : Rat) (zs : List Rat) (x : Rat) : P (a :: b :: zs) x = P (b :: a :: zs) x := by
  unfold P P
  grind
theorem W_swap (a b : Rat) (zs : List Rat) (e : Nat) : W (a :: b :: zs) e = W (b :: a :: zs) e := by
  unfold W
  rw [S_congr fun x _ => by rw [P_swap]]
  unfold S S
  grind
theorem W_0 : ∀ (n : Nat) (xs : List Rat), xs.length = n + 2 → xs.Nodup → W xs 0 = 0
  | n, a :: b :: zs, hl, nd => by
    rw [List.nodup_cons, List.nodup_cons, List.mem_cons] at nd
    obtain ⟨na, nb, nz⟩ := nd
    have hab : a ≠ b := fun z => na (.inl z)
    have haz : a ∉ zs := fun z => na (.inr z)
    have h1 := W_step (a := a) (ys := b :: zs) 0 (by rw [List.mem_cons]; exact na)
    have h2 := W_step (a := b) (ys := a :: zs) 0 (by rw [List.mem_cons]; exact fun z => z.elim (fun z => hab z.symm) nb)
    rw [W_swap b a] at h2
    rw [W_swap b a zs 0] at h2
    have e : W (b :: zs) 0 = W (a :: zs) 0 := by
      cases n with
      | zero =>
        have : zs = [] := List.length_eq_zero_iff.mp (by simpa using hl)
        subst this
        simp [W, S, P]
      | succ n =>
        rw [W_0 n (b :: zs) (by simpa using hl) (List.nodup_cons.mpr ⟨nb, nz⟩), W_0 n (a :: zs) (by simpa using hl) (List.nodup_cons.mpr ⟨haz, nz⟩)]
    have d : a - b ≠ 0 := fun z => hab (by grind)
    have : (a - b) * W (a :: b :: zs) 0 = 0 := by grind
    grind
theorem W_zero : ∀ (e : Nat) (xs : List Rat), e + 2 ≤ xs.length → xs.Nodup → W xs e = 0
  | 0, xs, hl, nd => W_0 (xs.length - 2) xs (by omega) nd
  | e + 1, a :: ys, hl, nd => by
    have nd' := List.nodup_cons.mp nd
    rw [List.length_cons] at hl
    rw [W_step e nd'.1, W_zero e ys (by omega) nd'.2, W_zero e (a :: ys) (by rw [List.length_cons]; omega) nd]
    grind
end MR

/-! {(a, b): v, ..}: a written dict whose keys are tuples -/
namespace DT
open PySem PySem.Spec PyProof.Rows L2
section
variable {X : Cx}
/-- the pairs of a display: a tuple's address with its key, and a value -/
def tDispT (trs : List (TE × TE)) : TE := fun σ H Q => ∀ p, H p = none → tPairs trs σ (upd H p (.dT [])) fun ps H2 => H2 p = some (.dT []) ∧ ∃ (bs : List Addr) (ks : List (List Key × V)), Paired (fun (b : Addr) (k : List Key × V) => H2 b = some (.tup (k.1.map kV))) bs ks ∧ ps = (bs.zip ks).map (fun z => (V.ref z.1, z.2.2)) ∧ ks.length ≤ 15 ∧ Q (.ref p) (upd H2 p (.dT (putAll [] ks)))
theorem carried {pins : List (Addr × Obj)} {σ : L2.St} {H : Hp} {s : Shared} (I : Inv X pins σ H s) : ∀ {bs : List Addr} {ks : List (List Key × V)} {ws : List (Value × Value)}, Paired (fun (b : Addr) (k : List Key × V) => H b = some (.tup (k.1.map kV))) bs ks → VV ((bs.zip ks).map fun z => (V.ref z.1, z.2.2)) ws →
    ∃ xs, CarriesH (tupleKind (mixKind X.prog X.w)) s.heap ws xs ∧ KT H ks xs
  | _, _, [], .nil, .nil => ⟨[], True.intro, .nil⟩
  | b :: bs, k :: ks, (u, y) :: ws, .cons h t, r => by
    cases r with
    | cons a r =>
      obtain ⟨xs, c1, c2⟩ := carried I t r
      obtain ⟨a1, a2⟩ := a
      exact ⟨(k.1, b, y) :: xs, ⟨a1, rfl, key_of I.hok h, c1⟩, .cons ⟨rfl, h, a2⟩ c2⟩
theorem pe_dispT {pos : Pos} {keys : List (Option Expr)} {values : List Expr} {trs : List (TE × TE)} (hu : X.A.units + 2 < cLine) (h : PPs X pos keys values trs) (hall : keys.all (·.isSome) = true) (hl : keys.length = values.length) (h0 : keys ≠ []) (h15 : keys.length ≤ 15) : PE X (.Dict keys values pos) (tDispT trs) := by
  refine ⟨fun pins s σ H Q I q => ?_⟩
  have hn := I.hok.fresh (Nat.le_refl s.heap.objs.size)
  have I1 := I.laid (a := s.heap.objs.size) (o := .dT []) (h' := s.heap.push newD) (t' := s.toks) (fun _ _ q => Heap.get?_push_of_some _ q) (Nat.le_refl _) (dt_empty s.heap I.big)
  have ln := pairTrees_length keys values X.env pos hall hl
  have ne : pairTrees keys values X.env pos ≠ [] := fun e => by
    rw [e] at ln
    exact h0 (List.length_eq_zero_iff.mp ln.symm)
  rw [arm_eval_Dict, zip_pairTrees keys values X.env pos hall hl, dictDisplay_pairs (pairTrees keys values X.env pos) ne (by omega)]
  refine wpAny_bind (wpAny_standAt (wpAny_bind (wpAny_subDictH (knd := tupleKind (mixKind X.prog X.w)) (Q := fun d s' => wpAny (model X.prog X.w) X.A (pure (Value.ref d)) (EP X pins σ Q) X.xe s') (show X.A.units < cLine by omega) (by rw [ln]; exact h15) (thn (h.run pins _ σ _ _ I1 (q _ hn)) fun ws s2 ⟨ps, H2, I2, rel, e, bs, ks, pr, ep, few, q2⟩ => ?_))))
  subst ep
  obtain ⟨xs, c, kt⟩ := carried I2 pr rel
  obtain ⟨z, nm, x0, r0, dd⟩ := dt_of I2.hok e
  cases r0
  refine ⟨xs, c, dd, fun h' tk dd' hs => wpAny_pure ⟨.ref s.heap.objs.size, _, ?_, rfl, q2⟩⟩
  have lp : (putAll [] ks).length ≤ sizeLine := by
    have := putAll_len ks []
    rw [List.length_nil] at this
    rw [sizeLine_eq]
    omega
  obtain ⟨ob, es, ep, h1, h2, h3, h4, _, h5⟩ := dd'
  refine d_write I2 (by rw [e]; exact True.intro) hs ⟨ob, h1⟩ ⟨lp, nm, _, (kt_putAll kt .nil).keeps fun c ys ec => ?_, ob, es, ep, h1, h2, h3, h4, h5⟩
  have nc : c ≠ s.heap.objs.size := fun k => by
    rw [k, e] at ec
    cases ec
  rw [upd_ne nc]
  exact ec
end
end DT

/-! == and != of values told by what they hold: flat ones, tuples, lists, dicts whose keys are tuples -/
namespace DT
open PySem PySem.W PySem.Spec PyProof.Rows PySem.Calls PySem.SeqAt
open AutoSeq1 (wpAny_loadPart')
section
variable {prog : Program} {w : World}
/-- what the comparisons of pairs tell -/
abbrev Each (prog : Program) (w : World) (A : Around) (s : Shared) : List (Value × Value) → List Bool → Prop := Paired fun z b => EqP prog w A s z.1 z.2 b
theorem tuple_eqP (l b : Addr) (xs ys : Array Value) (n m : Nat) (da db : Option Addr) (sa sb : Array (Option Value)) :
    MeetsIn prog w (Builtin.«tuple.__eq__» ⟨[.ref l, .ref b], []⟩)
      (fun A R s => s.heap.get? l = some { cls := .type "tuple", dict := da, data := .seq xs n, slots := sa } ∧ s.heap.get? b = some { cls := .type "tuple", dict := db, data := .seq ys m, slots := sb } ∧
        ∃ bs, Each prog w A.in1 s (xs.toList.zip ys.toList) bs ∧ R (.ok (.ret (.bool (bs.all id && xs.size == ys.size)))) s) := by
  intro A R s h
  obtain ⟨hp, g, d, tk, os⟩ := s
  obtain ⟨hl, hb, bs0, e0, r0⟩ := h
  have f2 := AutoSeq1.sub_tuple_tuple
  wp_walk using wpAny_loadPart' hl, wpAny_loadPart' hb, wpAny_forIn_list _ (fun rest q s' => q.1 = none ∧ s' = ⟨hp, g, d, tk, os⟩ ∧ ∃ bs, Each prog w A.in1 ⟨hp, g, d, tk, os⟩ rest bs ∧ R (.ok (.ret (.bool (bs.all id && xs.size == ys.size)))) ⟨hp, g, d, tk, os⟩) _
  case turn =>
    rintro ⟨y, x⟩ rest q s' ⟨_, rfl, bs, eb, r⟩
    cases eb with
    | @cons _ c _ cs hc hs =>
      refine wpAny_bind (hc _ _ ?_)
      cases c with
      | true =>
        wp_walk
        exact ⟨rfl, rfl, cs, hs, r⟩
      | false =>
        wp_walk
        exact r
  case fin =>
    rintro ⟨q1, q2⟩ s' ⟨hq, rfl, bs, eb, r⟩
    simp only at hq
    subst hq
    cases eb
    wp_walk
    simpa [Builtin.Tuple.tupleCompareSizes] using r
  case h =>
    exact ⟨rfl, rfl, bs0, e0, r0⟩
theorem tuple_neP (l b : Addr) (xs ys : Array Value) (n m : Nat) (da db : Option Addr) (sa sb : Array (Option Value)) :
    MeetsIn prog w (Builtin.«tuple.__ne__» ⟨[.ref l, .ref b], []⟩)
      (fun A R s => s.heap.get? l = some { cls := .type "tuple", dict := da, data := .seq xs n, slots := sa } ∧ s.heap.get? b = some { cls := .type "tuple", dict := db, data := .seq ys m, slots := sb } ∧
        ∃ bs, Each prog w A.in1 s (xs.toList.zip ys.toList) bs ∧ R (.ok (.ret (.bool (!(bs.all id && xs.size == ys.size))))) s) := by
  intro A R s h
  obtain ⟨hp, g, d, tk, os⟩ := s
  obtain ⟨hl, hb, bs0, e0, r0⟩ := h
  have f2 := AutoSeq1.sub_tuple_tuple
  wp_walk using wpAny_loadPart' hl, wpAny_loadPart' hb, wpAny_forIn_list _ (fun rest q s' => q.1 = none ∧ s' = ⟨hp, g, d, tk, os⟩ ∧ ∃ bs, Each prog w A.in1 ⟨hp, g, d, tk, os⟩ rest bs ∧ R (.ok (.ret (.bool (!(bs.all id && xs.size == ys.size))))) ⟨hp, g, d, tk, os⟩) _
  case turn =>
    rintro ⟨y, x⟩ rest q s' ⟨_, rfl, bs, eb, r⟩
    cases eb with
    | @cons _ c _ cs hc hs =>
      refine wpAny_bind (hc _ _ ?_)
      cases c with
      | true =>
        wp_walk
        exact ⟨rfl, rfl, cs, hs, r⟩
      | false =>
        wp_walk
        exact r
  case fin =>
    rintro ⟨q1, q2⟩ s' ⟨hq, rfl, bs, eb, r⟩
    simp only at hq
    subst hq
    cases eb
    wp_walk
    simpa [Builtin.Tuple.tupleCompareSizes, bne] using r
  case h =>
    exact ⟨rfl, rfl, bs0, e0, r0⟩
section
variable {A : Around} {s : Shared} {l b : Addr} {xs ys : Array Value} {bs : List Bool}
theorem rc_tup (hl : s.heap.IsTuple l xs) (hb : s.heap.IsTuple b ys) (hu : A.units < cLine) (he : Each prog w A.in1 s (xs.toList.zip ys.toList) bs) (E Q : Value → Shared → Prop) (h : Q (.bool (bs.all id && xs.size == ys.size)) s) :
    wpAny (model prog w) A (richCompare .Eq (.ref l) (.ref b)) Q E s := by
  obtain ⟨⟨c1, d1, t1, s1⟩, ho, hc, n, hd⟩ := id hl
  obtain ⟨⟨c2, d2, t2, s2⟩, ho2, hc2, m, hd2⟩ := id hb
  simp only at hc hd hc2 hd2
  subst hc hd hc2 hd2
  have ta : s.TypeIs (.ref l) "tuple" := ⟨_, ho, rfl⟩
  have tb : s.TypeIs (.ref b) "tuple" := ⟨_, ho2, rfl⟩
  exact wpAny_richCompare_same_room (op := .Eq) ta tb F.slot_tuple_eq (call_meetsIn F.slot_tuple_eq ta F.entry_tuple_eq (F.args_tuple_eq_2 _ _) (tuple_eqP l b xs ys n m d1 d2 s1 s2) ⟨ho, ho2, bs, he, (fun x => nomatch x), h⟩) hu
theorem rc_tupNe (hl : s.heap.IsTuple l xs) (hb : s.heap.IsTuple b ys) (hu : A.units < cLine) (he : Each prog w A.in1 s (xs.toList.zip ys.toList) bs) (E Q : Value → Shared → Prop) (h : Q (.bool (!(bs.all id && xs.size == ys.size))) s) :
    wpAny (model prog w) A (richCompare .NotEq (.ref l) (.ref b)) Q E s := by
  obtain ⟨⟨c1, d1, t1, s1⟩, ho, hc, n, hd⟩ := id hl
  obtain ⟨⟨c2, d2, t2, s2⟩, ho2, hc2, m, hd2⟩ := id hb
  simp only at hc hd hc2 hd2
  subst hc hd hc2 hd2
  have ta : s.TypeIs (.ref l) "tuple" := ⟨_, ho, rfl⟩
  have tb : s.TypeIs (.ref b) "tuple" := ⟨_, ho2, rfl⟩
  exact wpAny_richCompare_same_room (op := .NotEq) ta tb F.slot_tuple_ne (call_meetsIn F.slot_tuple_ne ta F.entry_tuple_ne (F.args_tuple_ne_2 _ _) (tuple_neP l b xs ys n m d1 d2 s1 s2) ⟨ho, ho2, bs, he, (fun x => nomatch x), h⟩) hu
end
end
end DT

namespace DT
open PySem PySem.Spec PyProof.Rows L2 PySem.SeqAt
/-- == of two flat values -/
def eqF : V → V → Option Bool
  | .non, .non => some true
  | .non, .bl _ => some false
  | .non, .int _ => some false
  | .non, .str _ => some false
  | .bl _, .non => some false
  | .bl a, .bl b => some (a == b)
  | .bl a, .int b => some ((if a then 1 else 0) == b)
  | .bl _, .str _ => some false
  | .int _, .non => some false
  | .int a, .bl b => some (a == (if b then 1 else 0))
  | .int a, .int b => some (a == b)
  | .int _, .str _ => some false
  | .str _, .non => some false
  | .str _, .bl _ => some false
  | .str _, .int _ => some false
  | .str a, .str b => some (a == b)
  | _, _ => none
theorem eqF_run {A : Around} {s : Shared} : ∀ {x y : V} {b : Bool} {v u : Value}, eqF x y = some b → L2.RelV x v → L2.RelV y u → EqAt A s v u b
  | .non, .non, _, _, _, h, rx, ry => by
    obtain rfl := Option.some.inj h
    cases (show _ = Value.none from rx)
    cases (show _ = Value.none from ry)
    exact EqAt.same _
  | .non, .bl c, _, _, _, h, rx, ry => by
    obtain rfl := Option.some.inj h
    cases (show _ = Value.none from rx)
    cases (show _ = Value.bool c from ry)
    exact EqAt.none_bool  c
  | .non, .int c, _, _, _, h, rx, ry => by
    obtain rfl := Option.some.inj h
    cases (show _ = Value.none from rx)
    obtain ⟨t2, rfl⟩ := (show ∃ t, _ = Value.int c t from ry)
    exact EqAt.none_int  c t2
  | .non, .str c, _, _, _, h, rx, ry => by
    obtain rfl := Option.some.inj h
    cases (show _ = Value.none from rx)
    obtain ⟨t2, rfl⟩ := (show ∃ t, _ = Value.str c t from ry)
    exact EqAt.none_str  c t2
  | .bl a, .non, _, _, _, h, rx, ry => by
    obtain rfl := Option.some.inj h
    cases (show _ = Value.bool a from rx)
    cases (show _ = Value.none from ry)
    exact EqAt.bool_none a 
  | .bl a, .bl c, _, _, _, h, rx, ry => by
    obtain rfl := Option.some.inj h
    cases (show _ = Value.bool a from rx)
    cases (show _ = Value.bool c from ry)
    exact EqAt.bool_bool a c
  | .bl a, .int c, _, _, _, h, rx, ry => by
    obtain rfl := Option.some.inj h
    cases (show _ = Value.bool a from rx)
    obtain ⟨t2, rfl⟩ := (show ∃ t, _ = Value.int c t from ry)
    exact EqAt.bool_int a c t2
  | .bl a, .str c, _, _, _, h, rx, ry => by
    obtain rfl := Option.some.inj h
    cases (show _ = Value.bool a from rx)
    obtain ⟨t2, rfl⟩ := (show ∃ t, _ = Value.str c t from ry)
    exact EqAt.bool_str a c t2
  | .int a, .non, _, _, _, h, rx, ry => by
    obtain rfl := Option.some.inj h
    obtain ⟨t, rfl⟩ := (show ∃ t, _ = Value.int a t from rx)
    cases (show _ = Value.none from ry)
    exact EqAt.int_none a t 
  | .int a, .bl c, _, _, _, h, rx, ry => by
    obtain rfl := Option.some.inj h
    obtain ⟨t, rfl⟩ := (show ∃ t, _ = Value.int a t from rx)
    cases (show _ = Value.bool c from ry)
    exact EqAt.int_bool a t c
  | .int a, .int c, _, _, _, h, rx, ry => by
    obtain rfl := Option.some.inj h
    obtain ⟨t, rfl⟩ := (show ∃ t, _ = Value.int a t from rx)
    obtain ⟨t2, rfl⟩ := (show ∃ t, _ = Value.int c t from ry)
    exact EqAt.int_int a t c t2
  | .int a, .str c, _, _, _, h, rx, ry => by
    obtain rfl := Option.some.inj h
    obtain ⟨t, rfl⟩ := (show ∃ t, _ = Value.int a t from rx)
    obtain ⟨t2, rfl⟩ := (show ∃ t, _ = Value.str c t from ry)
    exact EqAt.int_str a t c t2
  | .str a, .non, _, _, _, h, rx, ry => by
    obtain rfl := Option.some.inj h
    obtain ⟨t, rfl⟩ := (show ∃ t, _ = Value.str a t from rx)
    cases (show _ = Value.none from ry)
    exact EqAt.str_none a t 
  | .str a, .bl c, _, _, _, h, rx, ry => by
    obtain rfl := Option.some.inj h
    obtain ⟨t, rfl⟩ := (show ∃ t, _ = Value.str a t from rx)
    cases (show _ = Value.bool c from ry)
    exact EqAt.str_bool a t c
  | .str a, .int c, _, _, _, h, rx, ry => by
    obtain rfl := Option.some.inj h
    obtain ⟨t, rfl⟩ := (show ∃ t, _ = Value.str a t from rx)
    obtain ⟨t2, rfl⟩ := (show ∃ t, _ = Value.int c t from ry)
    exact EqAt.str_int a t c t2
  | .str a, .str c, _, _, _, h, rx, ry => by
    obtain rfl := Option.some.inj h
    obtain ⟨t, rfl⟩ := (show ∃ t, _ = Value.str a t from rx)
    obtain ⟨t2, rfl⟩ := (show ∃ t, _ = Value.str c t from ry)
    exact EqAt.str_str a t c t2
  | .byt _, _, _, _, _, h, _, _ => nomatch h
  | .flt _, _, _, _, _, h, _, _ => nomatch h
  | .ref _, _, _, _, _, h, _, _ => nomatch h
  | .ty _, _, _, _, _, h, _, _ => nomatch h
  | .non, .byt _, _, _, _, h, _, _ => nomatch h
  | .non, .flt _, _, _, _, h, _, _ => nomatch h
  | .non, .ref _, _, _, _, h, _, _ => nomatch h
  | .non, .ty _, _, _, _, h, _, _ => nomatch h
  | .bl _, .byt _, _, _, _, h, _, _ => nomatch h
  | .bl _, .flt _, _, _, _, h, _, _ => nomatch h
  | .bl _, .ref _, _, _, _, h, _, _ => nomatch h
  | .bl _, .ty _, _, _, _, h, _, _ => nomatch h
  | .int _, .byt _, _, _, _, h, _, _ => nomatch h
  | .int _, .flt _, _, _, _, h, _, _ => nomatch h
  | .int _, .ref _, _, _, _, h, _, _ => nomatch h
  | .int _, .ty _, _, _, _, h, _, _ => nomatch h
  | .str _, .byt _, _, _, _, h, _, _ => nomatch h
  | .str _, .flt _, _, _, _, h, _, _ => nomatch h
  | .str _, .ref _, _, _, _, h, _, _ => nomatch h
  | .str _, .ty _, _, _, _, h, _, _ => nomatch h
/-- two tuples; two dicts whose keys are tuples -/
inductive EqRn (K : PySem.W.Frag) (H : Hp) (E : V → V → Bool → Prop) : V → V → Bool → Prop
  | tup {a c : Addr} {xs ys : List V} {bs : List Bool} : SqT K H a xs → SqT K H c ys → Paired (fun z b => E z.1 z.2 b) (xs.zip ys) bs → EqRn K H E (.ref a) (.ref c) (bs.all id && xs.length == ys.length)
  | dT {a c : Addr} {L M : List (List Key × V)} {f : List Key × V → Bool} : H a = some (.dT L) → H c = some (.dT M) → (L.length = M.length → ∀ p ∈ L, (valV M p.1 = none ∧ f p = false) ∨ ∃ u, valV M p.1 = some u ∧ E p.2 u (f p)) → EqRn K H E (.ref a) (.ref c) (L.length == M.length && L.all f)
/-- these, two lists, unlike ones -/
inductive EqRr (K : PySem.W.Frag) (H : Hp) (E : V → V → Bool → Prop) : V → V → Bool → Prop
  | of {x y : V} {b : Bool} : EqRn K H E x y b → EqRr K H E x y b
  | lst {a c : Addr} {xs ys : List V} {bs : List Bool} : SqL K H a xs → SqL K H c ys → (xs.length = ys.length → Paired (fun z b => E z.1 z.2 b) (xs.zip ys) bs) → EqRr K H E (.ref a) (.ref c) (xs.length == ys.length && bs.all id)
  | lt {a c : Addr} {xs ys : List V} : SqL K H a xs → SqT K H c ys → EqRr K H E (.ref a) (.ref c) false
  | tl {a c : Addr} {xs ys : List V} : SqT K H a xs → SqL K H c ys → EqRr K H E (.ref a) (.ref c) false
def EqB (K : PySem.W.Frag) (H : Hp) : Nat → V → V → Bool → Prop
  | 0 => fun _ _ _ => False
  | n + 1 => fun x y b => eqF x y = some b ∨ (∃ a, x = .ref a ∧ y = .ref a ∧ b = true) ∨ EqRr K H (EqB K H n) x y b
theorem EqB.flat {K : PySem.W.Frag} {H : Hp} {n : Nat} {x y : V} {b : Bool} (h : eqF x y = some b) : EqB K H (n + 1) x y b := .inl h
theorem EqB.deep {K : PySem.W.Frag} {H : Hp} {n : Nat} {x y : V} {b : Bool} (h : EqRr K H (EqB K H n) x y b) : EqB K H (n + 1) x y b := .inr (.inr h)
theorem EqB.int {K : PySem.W.Frag} {H : Hp} {n : Nat} {i j : Int} : EqB K H (n + 1) (.int i) (.int j) (i == j) := .inl rfl
section
variable {P : Program} {w : World} {A : Around} {s : Shared} {E : V → V → Bool → Prop}
theorem each_of (ih : ∀ x y b v u, E x y b → RelV x v → RelV y u → EqP P w A s v u b) : ∀ {xs ys : List V} {us ws : List Value} {bs : List Bool}, Vals xs us → Vals ys ws → Paired (fun z b => E z.1 z.2 b) (xs.zip ys) bs → Each P w A s (us.zip ws) bs
  | [], _, _, _, _, .nil, _, .nil => .nil
  | _ :: _, [], _, _, _, .cons _ _, .nil, .nil => .nil
  | _ :: _, _ :: _, _, _, _, .cons r1 t1, .cons r2 t2, .cons h t => .cons (ih _ _ _ _ _ h r1 r2) (each_of ih t1 t2 t)
end
/-- what is asked of an entry as it lies there -/
def fL (L : List (List Key × V)) (f : List Key × V → Bool) (x : List Key × Addr × Value) : Bool := L.any fun p => decide (p.1 = x.1) && f p
theorem kt_keys {H : Hp} : ∀ {L : List (List Key × V)} {xs : List (List Key × Addr × Value)}, KT H L xs → L.map (·.1) = xs.map (·.1)
  | [], [], .nil => rfl
  | _ :: _, _ :: _, .cons h t => by rw [List.map_cons, List.map_cons, kt_keys t, h.1]
theorem any_one : ∀ {L : List (List Key × V)} {f : List Key × V → Bool} {p : List Key × V}, (L.map (·.1)).Nodup → p ∈ L → (L.any fun q => decide (q.1 = p.1) && f q) = f p
  | q :: L, f, p, nd, h => by
    rw [List.map_cons, List.nodup_cons] at nd
    rw [List.any_cons]
    have no : ∀ {k : List Key}, k ∉ L.map (·.1) → (L.any fun r => decide (r.1 = k) && f r) = false := fun {k} hk => by
      rw [List.any_eq_false]
      intro r hr e
      rw [Bool.and_eq_true, decide_eq_true_iff] at e
      exact hk (e.1 ▸ List.mem_map_of_mem hr)
    rcases List.mem_cons.mp h with rfl | h
    · rw [decide_eq_true rfl, Bool.true_and, no nd.1, Bool.or_false]
    · have ne : ¬ q.1 = p.1 := fun e => nd.1 (e ▸ List.mem_map_of_mem h)
      rw [decide_eq_false ne, Bool.false_and, Bool.false_or]
      exact any_one nd.2 h
theorem all_fL {H : Hp} {L0 : List (List Key × V)} {f : List Key × V → Bool} (nd : (L0.map (·.1)).Nodup) : ∀ {L : List (List Key × V)} {xs : List (List Key × Addr × Value)}, (∀ p ∈ L, p ∈ L0) → KT H L xs → xs.all (fL L0 f) = L.all f
  | [], [], _, .nil => rfl
  | l :: L, x :: xs, sub, .cons h t => by
    rw [List.all_cons, List.all_cons, all_fL nd (fun p hp => sub p (List.mem_cons_of_mem _ hp)) t]
    have e : fL L0 f x = f l := by
      unfold fL
      rw [← h.1]
      exact any_one nd (sub l List.mem_cons_self)
    rw [e]
theorem kt_get {H : Hp} : ∀ {L : List (List Key × V)} {xs : List (List Key × Addr × Value)}, KT H L xs → ∀ x ∈ xs, ∃ p ∈ L, p.1 = x.1 ∧ RelV p.2 x.2.2
  | [], [], .nil, _, h => nomatch h
  | l :: L, y :: xs, .cons h t, x, hx => by
    rcases List.mem_cons.mp hx with rfl | hx
    · exact ⟨l, List.mem_cons_self, h.1, h.2.2⟩
    · obtain ⟨p, hp, r⟩ := kt_get t x hx
      exact ⟨p, List.mem_cons_of_mem _ hp, r⟩
section
variable {X : Cx} {ps : List (Addr × Obj)} {σ : L2.St} {H : Hp} {s : Shared} {A : Around} {E : V → V → Bool → Prop}
theorem told_fL {L M : List (List Key × V)} {xs ys : List (List Key × Addr × Value)} {f : List Key × V → Bool} (ih : ∀ x y b v u, E x y b → RelV x v → RelV y u → EqP X.prog X.w A s v u b) (nd : (L.map (·.1)).Nodup) (ra : KT H L xs) (rb : KT H M ys)
    (h : ∀ p ∈ L, (valV M p.1 = none ∧ f p = false) ∨ ∃ u, valV M p.1 = some u ∧ E p.2 u (f p)) : ∀ x ∈ xs, Told X.prog X.w A s ys (fL L f) x := fun x hx => by
  obtain ⟨p, hp, e1, e2⟩ := kt_get ra x hx
  have ef : fL L f x = f p := by
    unfold fL
    rw [← e1]
    exact any_one nd hp
  have rv := rb.val x.1
  rcases h p hp with ⟨n1, n2⟩ | ⟨u, n1, n2⟩
  · rw [e1] at n1
    rw [n1] at rv
    refine .inl ⟨?_, ef.trans n2⟩
    cases e : atKey ys x.1 with
    | none => rfl
    | some q =>
      have := rv.none_of
      rw [e] at this
      cases this
  · rw [e1] at n1
    rw [n1] at rv
    obtain ⟨z, hz, rz⟩ := rv.some_of
    cases e : atKey ys x.1 with
    | none => rw [e] at hz; cases hz
    | some q =>
      rw [e] at hz
      have hz' : q.2 = z := Option.some.inj hz
      refine .inr ⟨q, e, ?_⟩
      rw [ef, hz']
      exact ih _ _ _ _ _ n2 e2 rz
theorem rn_run (I : Inv X ps σ H s) (hu : A.units + 1 < cLine) (ih : ∀ x y b v u, E x y b → RelV x v → RelV y u → EqP X.prog X.w A.in1 s v u b) {x y : V} {v u : Value} {b : Bool} (h : EqRn X.K H E x y b) (rx : RelV x v) (ry : RelV y u) (E' : Value → Shared → Prop) :
    (∀ Q : Value → Shared → Prop, Q (.bool b) s → wpAny (model X.prog X.w) A (richCompare .Eq v u) Q E' s) ∧ (∀ Q : Value → Shared → Prop, Q (.bool (!b)) s → wpAny (model X.prog X.w) A (richCompare .NotEq v u) Q E' s) := by
  have hu0 : A.units < cLine := by omega
  cases h with
  | @tup a c xs ys bs ha hc hp =>
    cases (show v = Value.ref a from rx)
    cases (show u = Value.ref c from ry)
    obtain ⟨us, r1, ⟨o1, g1, c1, n1, d1⟩, _⟩ := I.tuple ha
    obtain ⟨ws, r2, ⟨o2, g2, c2, n2, d2⟩, _⟩ := I.tuple hc
    have each : Each X.prog X.w A.in1 s (us.toArray.toList.zip ws.toArray.toList) bs := each_of ih r1 r2 hp
    have ez : (us.toArray.size == ws.toArray.size) = (xs.length == ys.length) := by
      rw [List.size_toArray, List.size_toArray, ← r1.length, ← r2.length]
    have ia : s.heap.IsTuple a us.toArray := ⟨o1, g1, c1, n1, d1⟩
    have ib : s.heap.IsTuple c ws.toArray := ⟨o2, g2, c2, n2, d2⟩
    exact ⟨fun Q q => rc_tup ia ib hu0 each E' Q (ez ▸ q), fun Q q => rc_tupNe ia ib hu0 each E' Q (ez ▸ q)⟩
  | @dT a c L M f ha hc hp =>
    cases (show v = Value.ref a from rx)
    cases (show u = Value.ref c from ry)
    obtain ⟨_, na, xs, ra, da⟩ := dt_of I.hok ha
    obtain ⟨_, nc, ys, rc, dc⟩ := dt_of I.hok hc
    have nd : (L.map (·.1)).Nodup := by
      rw [kt_keys ra]
      obtain ⟨_, _, _, _, _, _, _, _, h⟩ := da
      exact h
    have l1 : xs.length = L.length := (Paired.length ra).symm
    have l2 : ys.length = M.length := (Paired.length rc).symm
    have each : xs.length = ys.length → ∀ x ∈ xs, Told X.prog X.w A.in1 s ys (fL L f) x := fun e => told_fL (A := A.in1) ih nd ra rc (hp (by omega))
    have ev : (xs.length == ys.length && xs.all (fL L f)) = (L.length == M.length && L.all f) := by
      rw [l1, l2, all_fL nd (fun _ h => h) ra]
    have room : (tupleKind (mixKind X.prog X.w)).room A.in1 := hu
    exact ⟨fun Q q => cmp_eq na nc hu0 room da dc each (ev ▸ q), fun Q q => cmp_ne na nc hu0 room da dc each (ev ▸ q)⟩
theorem rr_run (I : Inv X ps σ H s) (hu : A.units + 1 < cLine) (ih : ∀ x y b v u, E x y b → RelV x v → RelV y u → EqP X.prog X.w A.in1 s v u b) {x y : V} {v u : Value} {b : Bool} (h : EqRr X.K H E x y b) (rx : RelV x v) (ry : RelV y u) (E' Q : Value → Shared → Prop) (q : Q (.bool b) s) :
    wpAny (model X.prog X.w) A (richCompare .Eq v u) Q E' s := by
  have hu0 : A.units < cLine := by omega
  cases h with
  | of h => exact (rn_run I hu ih h rx ry E').1 Q q
  | @lst a c xs ys bs ha hc hp =>
    cases (show v = Value.ref a from rx)
    cases (show u = Value.ref c from ry)
    obtain ⟨us, r1, p1, _⟩ := I.list ha
    obtain ⟨ws, r2, p2, _⟩ := I.list hc
    have e1 : us.toArray.size = xs.length := by rw [List.size_toArray, ← r1.length]
    have e2 : ws.toArray.size = ys.length := by rw [List.size_toArray, ← r2.length]
    by_cases hl : xs.length = ys.length
    · have each := each_of ih r1 r2 (hp hl)
      have lb : bs.length = xs.length := by
        have := Paired.length (hp hl)
        rw [List.length_zip] at this
        omega
      refine rcP_lists (e := fun j => bs.getD j true) p1.isList p2.isList (by omega) hu0 (fun j h1 h2 => ?_) E' Q ?_
      · have hj : j < (us.zip ws).length := by
          rw [List.length_zip]
          simp at h1 h2
          omega
        have pg : ∀ {zs : List (Value × Value)} {cs : List Bool} {j : Nat} (h : j < zs.length), Each X.prog X.w A.in1 s zs cs → EqP X.prog X.w A.in1 s zs[j].1 zs[j].2 (cs.getD j true) := by
          intro zs cs j h e
          induction e generalizing j with
          | nil => exact absurd h (Nat.not_lt_zero _)
          | cons a _ k =>
            cases j with
            | zero => exact a
            | succ j => exact k (Nat.lt_of_succ_lt_succ h)
        have := pg hj each
        simpa using this
      · have ea : ((List.range us.toArray.size).all fun j => bs.getD j true) = bs.all id := by
          rw [e1, ← lb]
          rw [Bool.eq_iff_iff, List.all_eq_true, List.all_eq_true]
          constructor
          · intro h b hb
            obtain ⟨j, hj, rfl⟩ := List.getElem_of_mem hb
            have := h j (List.mem_range.mpr hj)
            simpa [List.getD_eq_getElem?_getD, List.getElem?_eq_getElem hj] using this
          · intro h j hj
            have hj' := List.mem_range.mp hj
            have := h bs[j] (List.getElem_mem hj')
            simpa [List.getD_eq_getElem?_getD, List.getElem?_eq_getElem hj'] using this
        rw [ea]
        have : (xs.length == ys.length) = true := beq_iff_eq.mpr hl
        rw [this, Bool.true_and] at q
        exact q
    · have : (xs.length == ys.length) = false := beq_eq_false_iff_ne.mpr hl
      rw [this, Bool.false_and] at q
      refine RcAt.lists_lengths p1.isList p2.isList ?_ hu0 _ _ _ _ q
      rw [e1, e2]
      simpa using hl
  | @lt a c xs ys ha hc =>
    cases (show v = Value.ref a from rx)
    cases (show u = Value.ref c from ry)
    obtain ⟨us, r1, p1, _⟩ := I.list ha
    obtain ⟨ws, r2, ⟨o2, g2, c2, n2, d2⟩, _⟩ := I.tuple hc
    exact RcAt.list_tuple p1.isList ⟨o2, g2, c2, n2, d2⟩ hu0 _ _ _ _ q
  | @tl a c xs ys ha hc =>
    cases (show v = Value.ref a from rx)
    cases (show u = Value.ref c from ry)
    obtain ⟨ws, r2, ⟨o2, g2, c2, n2, d2⟩, _⟩ := I.tuple ha
    obtain ⟨us, r1, p1, _⟩ := I.list hc
    exact RcAt.tuple_list ⟨o2, g2, c2, n2, d2⟩ p1.isList hu0 _ _ _ _ q
theorem val_mem : ∀ {L : List (List Key × V)} {p : List Key × V}, (L.map (·.1)).Nodup → p ∈ L → valV L p.1 = some p.2
  | q :: L, p, nd, h => by
    rw [List.map_cons, List.nodup_cons] at nd
    rcases List.mem_cons.mp h with rfl | h
    · exact valV_pos rfl
    · have ne : ¬ q.1 = p.1 := fun e => nd.1 (e ▸ List.mem_map_of_mem h)
      rw [valV_neg ne]
      exact val_mem nd.2 h
theorem pair_self {F : V → V → Bool → Prop} (ih : ∀ x b, F x x b → b = true) : ∀ {xs : List V} {bs : List Bool}, Paired (fun z b => F z.1 z.2 b) (xs.zip xs) bs → bs.all id = true
  | [], _, .nil => rfl
  | x :: xs, _, .cons h t => by
    rw [List.all_cons, pair_self ih t, ih x _ h]
    rfl
theorem rr_self (I : Inv X ps σ H s) (ih : ∀ x b, E x x b → b = true) {x y : V} {b : Bool} (h : EqRr X.K H E x y b) (e : x = y) : b = true := by
  cases h with
  | of h =>
    cases h with
    | tup ha hc hp =>
      cases e
      cases I.tuple_inj ha hc
      rw [pair_self ih hp]
      simp
    | @dT a c L M f ha hc hp =>
      cases e
      cases ha.symm.trans hc
      obtain ⟨_, na, xs, ra, da⟩ := dt_of I.hok ha
      have nd : (L.map (·.1)).Nodup := by
        rw [kt_keys ra]
        obtain ⟨_, _, _, _, _, _, _, _, h⟩ := da
        exact h
      rw [Bool.and_eq_true]
      refine ⟨by simp, List.all_eq_true.mpr fun p hp' => ?_⟩
      rcases hp rfl p hp' with ⟨n1, _⟩ | ⟨u, n1, n2⟩
      · rw [val_mem nd hp'] at n1
        cases n1
      · rw [val_mem nd hp'] at n1
        cases n1
        exact ih _ _ n2
  | lst ha hc hp =>
    cases e
    cases I.list_inj ha hc
    rw [pair_self ih (hp rfl)]
    simp
  | lt ha hc =>
    cases e
    obtain ⟨us, r1, p1, _⟩ := I.list ha
    obtain ⟨ws, r2, ⟨o2, g2, c2, n2, d2⟩, _⟩ := I.tuple hc
    exact absurd rfl (ne_of_list_tuple p1.isList ⟨o2, g2, c2, n2, d2⟩)
  | tl ha hc =>
    cases e
    obtain ⟨ws, r2, ⟨o2, g2, c2, n2, d2⟩, _⟩ := I.tuple ha
    obtain ⟨us, r1, p1, _⟩ := I.list hc
    exact absurd rfl (ne_of_list_tuple p1.isList ⟨o2, g2, c2, n2, d2⟩)
theorem eqF_self {x : V} {b : Bool} (h : eqF x x = some b) : b = true := by
  cases x <;> first | (cases h; done) | (obtain rfl := Option.some.inj h; simp)
theorem eqB_self (I : Inv X ps σ H s) : ∀ (n : Nat) (x : V) (b : Bool), EqB X.K H n x x b → b = true
  | 0, _, _, h => (show False from h).elim
  | n + 1, x, b, h => by
    rcases h with h | ⟨a, _, _, rfl⟩ | h
    · exact eqF_self h
    · rfl
    · exact rr_self I (eqB_self I n) h rfl
theorem eqB_run (I : Inv X ps σ H s) : ∀ (n : Nat) (A : Around), A.units + n + 1 < cLine → ∀ (x y : V) (b : Bool) (v u : Value), EqB X.K H n x y b → RelV x v → RelV y u → EqP X.prog X.w A s v u b
  | 0, _, _, _, _, _, _, _, h, _, _ => (show False from h).elim
  | n + 1, A, hu, x, y, b, v, u, h, rx, ry => by
    rcases h with h | ⟨a, rfl, rfl, rfl⟩ | h
    · exact (eqF_run h rx ry).eqP
    · cases (show v = Value.ref a from rx)
      cases (show u = Value.ref a from ry)
      exact (SeqAt.EqAt.same _).eqP
    · have step := rr_run I (A := A) (by omega) (eqB_run I n A.in1 (by show A.units + 1 + n + 1 < cLine; omega)) h rx ry
      obtain ⟨a, c, rfl, rfl⟩ : ∃ a c, x = .ref a ∧ y = .ref c := by
        cases h with
        | of h => cases h <;> exact ⟨_, _, rfl, rfl⟩
        | lst _ _ _ => exact ⟨_, _, rfl, rfl⟩
        | lt _ _ => exact ⟨_, _, rfl, rfl⟩
        | tl _ _ => exact ⟨_, _, rfl, rfl⟩
      cases (show v = Value.ref a from rx)
      cases (show u = Value.ref c from ry)
      by_cases e : a = c
      · subst e
        rw [rr_self I (eqB_self I n) h rfl]
        exact (SeqAt.EqAt.same _).eqP
      · exact SeqAt.eqP_refs e step
end
section
variable {X : Cx}
/-- x == y, two tuples, lists or dicts -/
def rEqB (K : PySem.W.Frag) : R2 := fun x y H Q => ∃ n b, n ≤ 60 ∧ EqRr K H (EqB K H n) x y b ∧ Q (.bl b) H
theorem op_eqB (hu : X.A.units + 64 < cLine) : OpR X (compareOp .Eq) (rEqB X.K) := by
  intro pins s σ H x y v u Q I rx ry h
  obtain ⟨n, b, hn, h, q⟩ := h
  exact rr_run I (A := X.A) (by omega) (eqB_run I n X.A.in1 (by show X.A.units + 1 + n + 1 < cLine; omega)) h rx ry _ _ ⟨.bl b, H, I, rfl, q⟩
/-- x != y, two tuples or dicts -/
def rNeB (K : PySem.W.Frag) : R2 := fun x y H Q => ∃ n b, n ≤ 60 ∧ EqRn K H (EqB K H n) x y b ∧ Q (.bl (!b)) H
theorem op_neB (hu : X.A.units + 64 < cLine) : OpR X (compareOp .NotEq) (rNeB X.K) := by
  intro pins s σ H x y v u Q I rx ry h
  obtain ⟨n, b, hn, h, q⟩ := h
  exact (rn_run I (A := X.A) (by omega) (eqB_run I n X.A.in1 (by show X.A.units + 1 + n + 1 < cLine; omega)) h rx ry _).2 _ ⟨.bl (!b), H, I, rfl, q⟩
end
/-! ### dicts with ints -/
theorem all_iD {L : List (List Key × Int)} {f : List Key × V → Bool} : (iD L).all f = L.all fun p => f (p.1, V.int p.2) := by
  unfold iD
  rw [List.all_map]
  rfl
theorem EqRn.iD {K : PySem.W.Frag} {H : Hp} {a c : Addr} {L M : List (List Key × Int)} {n : Nat} (ha : H a = some (.dT (iD L))) (hc : H c = some (.dT (iD M))) : EqRn K H (EqB K H (n + 1)) (.ref a) (.ref c) (eqI L M) := by
  have e : eqI L M = ((DT.iD L).length == (DT.iD M).length && (DT.iD L).all fun p => decide (valV (DT.iD M) p.1 = some p.2)) := by
    unfold eqI
    rw [all_iD]
    unfold DT.iD
    rw [List.length_map, List.length_map]
  rw [e]
  refine .dT ha hc fun _ p hp => ?_
  obtain ⟨q, hq, rfl⟩ := List.mem_map.mp hp
  cases hv : valV (DT.iD M) q.1 with
  | none => exact .inl ⟨rfl, decide_eq_false (fun z => by cases z)⟩
  | some v =>
    obtain ⟨j, rfl⟩ := val_iD hv
    refine .inr ⟨_, rfl, .inl ?_⟩
    show some (q.2 == j) = some (decide (some (V.int j) = some (V.int q.2)))
    congr 1
    rw [Bool.eq_iff_iff, decide_eq_true_iff, beq_iff_eq]
    exact ⟨fun z => by rw [z], fun z => by cases z; rfl⟩
end DT

namespace K60
open PySem PySem.Spec PyProof.Rows L2 RZ L5 XX LK M24 DT M38
open MR (c_inj c_ne q_self q_den q_add q_mul ind_num ind_den qd q_pair)
/-! ### dicts of fractions -/
abbrev Fra := List (List Nat × Rat)
def keysF {α : Type} (F : List (List Nat × α)) : List (List Nat) := F.map (·.1)
def evF : Fra → List Nat → Rat
  | [], _ => 0
  | p :: F, t => if p.1 = t then p.2 else evF F t
/-- the fraction at an address -/
abbrev qv (q : Rat) : List V := [.int q.num, .int (q.den : Int)]
def QAt (H : Hp) (r : Addr) (q : Rat) : Prop := H r = some (.tup (qv q))
theorem QAt.same {H H' : Hp} {r : Addr} {q : Rat} (s : Same H H') (h : QAt H r q) : QAt H' r q := s _ _ h
def fT (L : List (List Nat × Addr)) : List (List Key × V) := L.map fun p => (tK p.1, V.ref p.2)
def Hold (H : Hp) : List (List Nat × Addr) → Fra → Prop := Paired fun l p => l.1 = p.1 ∧ QAt H l.2 p.2
theorem Hold.same {H H' : Hp} {L : List (List Nat × Addr)} {F : Fra} (s : Same H H') (h : Hold H L F) : Hold H' L F := Paired.mapP h fun a b k => ⟨k.1, k.2.same s⟩
theorem Hold.keys {H : Hp} : ∀ {L : List (List Nat × Addr)} {F : Fra}, Hold H L F → keysF L = keysF F
  | [], [], .nil => rfl
  | _ :: _, _ :: _, .cons h t => by
    exact congr (congrArg List.cons h.1) (Hold.keys t)
theorem Hold.length {H : Hp} {L : List (List Nat × Addr)} {F : Fra} (h : Hold H L F) : L.length = F.length := Paired.length h
def FracAt (H : Hp) (d : Addr) (F : Fra) : Prop := ∃ L, H d = some (.dT (fT L)) ∧ Hold H L F
theorem FracAt.same {H H' : Hp} {d : Addr} {F : Fra} (s : Same H H') : FracAt H d F → FracAt H' d F := fun ⟨L, h1, h2⟩ => ⟨L, s _ _ h1, h2.same s⟩
theorem len_fT (L : List (List Nat × Addr)) : (fT L).length = L.length := by
  unfold fT
  rw [List.length_map]
theorem keys_fT (L : List (List Nat × Addr)) : KeysL (fT L) (keysF L) := by
  unfold KeysL fT keysF
  rw [List.map_map, List.map_map]
  rfl
theorem evF_mem : ∀ {F : Fra} {p : List Nat × Rat}, (keysF F).Nodup → p ∈ F → evF F p.1 = p.2
  | q :: F, p, nd, h => by
    have nd' := List.nodup_cons.mp (show (q.1 :: keysF F).Nodup from nd)
    rcases List.mem_cons.mp h with e | h
    · subst e
      exact if_pos rfl
    · have ne : ¬ q.1 = p.1 := fun e => nd'.1 (e ▸ List.mem_map_of_mem h)
      rw [evF, if_neg ne]
      exact evF_mem nd'.2 h
theorem evF_none : ∀ {F : Fra} {t : List Nat}, t ∉ keysF F → evF F t = 0
  | [], _, _ => rfl
  | p :: F, t, h => by
    have ne : ¬ p.1 = t := fun e => h (by show t ∈ p.1 :: keysF F; rw [e]; exact List.mem_cons_self)
    rw [evF, if_neg ne]
    exact evF_none fun k => h (List.mem_cons_of_mem _ k)
theorem at_stepF {L : List (List Nat × Addr)} {i : Nat} {k : List Key} {v : V} (h : (fT L)[i]? = some (k, v)) : ∃ p, L[i]? = some p ∧ k = tK p.1 ∧ v = V.ref p.2 := by
  unfold fT at h
  rw [List.getElem?_map] at h
  cases e : L[i]? with
  | none => rw [e] at h; cases h
  | some p =>
    rw [e] at h
    cases h
    exact ⟨p, rfl, rfl, rfl⟩
theorem Hold.get {H : Hp} {L : List (List Nat × Addr)} {F : Fra} (h : Hold H L F) : ∀ {i : Nat} {p : List Nat × Addr}, L[i]? = some p → ∃ q, F[i]? = some q ∧ p.1 = q.1 ∧ QAt H p.2 q.2 := by
  induction h with
  | nil => intro i p e; simp at e
  | cons a _ k =>
    intro i p e
    cases i with
    | zero => exact ⟨_, rfl, by cases e; exact a.1, by cases e; exact a.2⟩
    | succ i => exact k (by simpa using e)
/-- what is read at a key -/
theorem get_fT {H : Hp} {a b : Addr} {L : List (List Nat × Addr)} {t : List Nat} {r : Addr} (nd : (keysF L).Nodup) (h : Rd H a (.dT (fT L))) (hb : H b = some (.tup (nv t))) (ht : (t, r) ∈ L) : DGet H a (.ref b) (some (V.ref r)) := by
  have e : valV (fT L) (tK t) = some (V.ref r) := by
    have nd' : ((fT L).map (·.1)).Nodup := by
      have e : (fT L).map (·.1) = (keysF L).map tK := by
        unfold fT keysF
        rw [List.map_map, List.map_map]
        rfl
      rw [e]
      exact List.pairwise_map.mpr (nd.imp fun {a b} n h => n (tK_inj h))
    exact val_mem (p := (tK t, V.ref r)) nd' (List.mem_map.mpr ⟨(t, r), ht, rfl⟩)
  exact .inr ⟨_, tK t, b, h, rfl, nv_key hb, e.symm⟩
theorem val_fT_none {L : List (List Nat × Addr)} {t : List Nat} (ht : t ∉ keysF L) : valV (fT L) (tK t) = none := by
  induction L with
  | nil => rfl
  | cons p L ih =>
    have h : ¬ t = p.1 ∧ t ∉ keysF L := ⟨fun e => ht (by rw [e]; exact List.mem_cons_self), fun e => ht (List.mem_cons_of_mem _ e)⟩
    have ne : ¬ tK p.1 = tK t := fun e => h.1 (tK_inj e).symm
    show valV ((tK p.1, V.ref p.2) :: fT L) (tK t) = none
    rw [valV_neg ne]
    exact ih h.2
/-- what is read at a place with something else for none -/
theorem get_fTd {H : Hp} {a b : Addr} {L : List (List Nat × Addr)} {F : Fra} {t : List Nat} (hd : Hold H L F) (nd : (keysF L).Nodup) (h : Rd H a (.dT (fT L))) (hb : H b = some (.tup (nv t))) :
    (t ∉ keysF F ∧ DGet H a (.ref b) none) ∨ ∃ r, t ∈ keysF F ∧ DGet H a (.ref b) (some (V.ref r)) ∧ QAt H r (evF F t) := by
  by_cases c : t ∈ keysF L
  · obtain ⟨p, hp, rfl⟩ := List.mem_map.mp c
    obtain ⟨i, hi⟩ := List.mem_iff_getElem?.mp hp
    obtain ⟨q, h1, h2, h3⟩ := hd.get hi
    have ek := hd.keys
    refine .inr ⟨p.2, ek ▸ c, get_fT nd h hb hp, ?_⟩
    rw [h2, evF_mem (ek ▸ nd) (List.mem_of_getElem? h1)]
    exact h3
  · exact .inl ⟨hd.keys ▸ c, .inr ⟨_, tK t, b, h, rfl, nv_key hb, (val_fT_none c).symm⟩⟩
/-- a place written -/
def up {α : Type} (F : List (List Nat × α)) (t : List Nat) (v : α) : List (List Nat × α) := if t ∈ keysF F then F.map fun p => if p.1 = t then (p.1, v) else p else F ++ [(t, v)]
theorem keys_up {α : Type} {F : List (List Nat × α)} {t : List Nat} {v : α} : keysF (up F t v) = if t ∈ keysF F then keysF F else keysF F ++ [t] := by
  unfold up
  split
  · unfold keysF
    rw [List.map_map]
    refine List.map_congr_left fun p _ => ?_
    show (if p.1 = t then (p.1, v) else p).1 = p.1
    split <;> rfl
  · unfold keysF
    rw [List.map_append]
    rfl
theorem nd_up {α : Type} {F : List (List Nat × α)} {t : List Nat} {v : α} (h : (keysF F).Nodup) : (keysF (up F t v)).Nodup := by
  rw [keys_up]
  split
  · exact h
  · rename_i k
    rw [List.nodup_append]
    exact ⟨h, by simp, fun x hx y hy e => k (by rw [List.mem_singleton.mp hy] at e; exact e ▸ hx)⟩
theorem evF_app : ∀ {F : Fra} {t u : List Nat} {v : Rat}, t ∉ keysF F → evF (F ++ [(t, v)]) u = if u = t then v else evF F u
  | [], t, u, v, _ => by
    show (if t = u then v else 0) = if u = t then v else 0
    by_cases e : t = u
    · rw [if_pos e, if_pos e.symm]
    · rw [if_neg e, if_neg fun z => e z.symm]
  | p :: F, t, u, v, h => by
    have h' : ¬ t = p.1 ∧ t ∉ keysF F := ⟨fun e => h (by rw [e]; exact List.mem_cons_self), fun e => h (List.mem_cons_of_mem _ e)⟩
    show (if p.1 = u then p.2 else evF (F ++ [(t, v)]) u) = if u = t then v else (if p.1 = u then p.2 else evF F u)
    rw [evF_app h'.2]
    by_cases e : p.1 = u
    · rw [if_pos e, if_pos e, if_neg fun z => h'.1 (by rw [← z, e])]
    · rw [if_neg e, if_neg e]
theorem evF_rep {t u : List Nat} {v : Rat} : ∀ {F : Fra}, evF (F.map fun p => if p.1 = t then (p.1, v) else p) u = if u = t ∧ t ∈ keysF F then v else evF F u
  | [] => by simp [evF, keysF]
  | p :: F => by
    rw [List.map_cons]
    show (if (if p.1 = t then (p.1, v) else p).1 = u then (if p.1 = t then (p.1, v) else p).2 else evF (F.map _) u) = _
    rw [evF_rep (F := F)]
    show _ = if u = t ∧ t ∈ p.1 :: keysF F then v else if p.1 = u then p.2 else evF F u
    by_cases c : p.1 = t
    · rw [if_pos c]
      by_cases e : p.1 = u
      · have : u = t := e.symm.trans c
        rw [if_pos e, if_pos ⟨this, by rw [c]; exact List.mem_cons_self⟩]
      · have : ¬ u = t := fun z => e (c.trans z.symm)
        rw [if_neg e, if_neg fun z => this z.1, if_neg fun z => this z.1, if_neg e]
    · rw [if_neg c]
      have m : t ∈ p.1 :: keysF F ↔ t ∈ keysF F := ⟨fun z => (List.mem_cons.mp z).resolve_left fun y => c y.symm, List.mem_cons_of_mem _⟩
      by_cases e : p.1 = u
      · rw [if_pos e, if_neg fun z => c (e.trans z.1), if_pos e]
      · rw [if_neg e, if_neg e]
        by_cases k : u = t ∧ t ∈ keysF F
        · rw [if_pos k, if_pos ⟨k.1, m.mpr k.2⟩]
        · rw [if_neg k, if_neg fun z => k ⟨z.1, m.mp z.2⟩]
theorem evF_up {F : Fra} {t u : List Nat} {v : Rat} : evF (up F t v) u = if u = t then v else evF F u := by
  unfold up
  split
  · rename_i k
    rw [evF_rep]
    by_cases e : u = t
    · rw [if_pos ⟨e, k⟩, if_pos e]
    · rw [if_neg fun z => e z.1, if_neg e]
  · rename_i k
    exact evF_app k
theorem put_fT (L : List (List Nat × Addr)) (t : List Nat) (r : Addr) : putK (fT L) (tK t) (V.ref r) = fT (up L t r) := by
  have hv : valV (fT L) (tK t) = none ↔ t ∉ keysF L := ⟨fun h c => by
    obtain ⟨p, hp, rfl⟩ := List.mem_map.mp c
    have : ∀ {M : List (List Nat × Addr)}, p ∈ M → valV (fT M) (tK p.1) ≠ none := by
      intro M
      induction M with
      | nil => intro h; cases h
      | cons q M ih =>
        intro h e
        by_cases z : tK q.1 = tK p.1
        · rw [show fT (q :: M) = (tK q.1, V.ref q.2) :: fT M from rfl, valV_pos z] at e
          cases e
        · rw [show fT (q :: M) = (tK q.1, V.ref q.2) :: fT M from rfl, valV_neg z] at e
          rcases List.mem_cons.mp h with h | h
          · exact z (by rw [h])
          · exact ih h e
    exact this hp h, val_fT_none⟩
  unfold putK
  rw [valV_any]
  by_cases c : t ∈ keysF L
  · have : (valV (fT L) (tK t)).isSome = true := by
      cases e : valV (fT L) (tK t) with
      | none => exact absurd c (hv.mp e)
      | some _ => rfl
    rw [this, if_pos rfl]
    unfold up
    rw [if_pos c]
    unfold fT
    rw [List.map_map, List.map_map]
    refine List.map_congr_left fun p _ => ?_
    show (if tK p.1 = tK t then (tK p.1, V.ref r) else (tK p.1, V.ref p.2)) = (tK (if p.1 = t then (p.1, r) else p).1, V.ref (if p.1 = t then (p.1, r) else p).2)
    by_cases e : p.1 = t
    · rw [if_pos e, if_pos (by rw [e])]
    · rw [if_neg e, if_neg fun z => e (tK_inj z)]
  · rw [hv.mpr c, if_neg (by simp)]
    unfold up
    rw [if_neg c]
    unfold fT
    rw [List.map_append]
    rfl
theorem Hold.up {H : Hp} {L : List (List Nat × Addr)} {F : Fra} {t : List Nat} {r : Addr} {q : Rat} (h : Hold H L F) (hq : QAt H r q) : Hold H (K60.up L t r) (K60.up F t q) := by
  have ek := h.keys
  unfold K60.up
  rw [ek]
  split
  · have go : ∀ {L : List (List Nat × Addr)} {F : Fra}, Hold H L F → Hold H (L.map fun p => if p.1 = t then (p.1, r) else p) (F.map fun p => if p.1 = t then (p.1, q) else p) := by
      intro L F k
      induction k with
      | nil => exact .nil
      | cons a _ ih =>
        refine .cons ?_ ih
        dsimp only
        rw [a.1]
        split
        · exact ⟨rfl, hq⟩
        · exact a
    exact go h
  · exact Paired.snoc h ⟨rfl, hq⟩
theorem put_new {L : List (List Nat × Addr)} {t : List Nat} {r : Addr} (h : t ∉ keysF L) : putK (fT L) (tK t) (V.ref r) = fT (L ++ [(t, r)]) := by
  rw [put_fT]
  unfold up
  rw [if_neg h]
end K60

/-! sorted of a list of tuples of ints, of unlike lengths, none of them empty -/
namespace TM
open PySem PyProof.Rows TS
/-- the place of a tuple of up to m ints in [0, B) in the order of tuples -/
def cod (B : Int) : Nat → List Int → Int
  | 0, _ => 0
  | _ + 1, [] => 0
  | m + 1, d :: r => (d + 1) * (B + 1) ^ m + cod B m r
theorem cod_bd {B : Int} (hB : 0 ≤ B) : ∀ (m : Nat) (ns : List Int), Bd B ns → 0 ≤ cod B m ns ∧ cod B m ns < (B + 1) ^ m
  | 0, ns, _ => by
    constructor
    · show (0 : Int) ≤ 0; exact Int.le_refl _
    · show (0 : Int) < (B + 1) ^ 0
      rw [Int.pow_zero]; decide
  | m + 1, [], _ => by
    constructor
    · show (0 : Int) ≤ 0; exact Int.le_refl _
    · show (0 : Int) < (B + 1) ^ (m + 1)
      exact Int.pow_pos (by omega)
  | m + 1, d :: r, h => by
    obtain ⟨c0, c1⟩ := cod_bd hB m r h.tail
    obtain ⟨d0, d1⟩ := h.head
    show 0 ≤ (d + 1) * (B + 1) ^ m + cod B m r ∧ (d + 1) * (B + 1) ^ m + cod B m r < (B + 1) ^ (m + 1)
    rw [Int.pow_succ]
    exact num1 c0 c1 (by omega) (by omega)
theorem cod_nil {B : Int} (hB : 0 ≤ B) (m : Nat) {d : Int} {r : List Int} (h : Bd B (d :: r)) : cod B (m + 1) [] < cod B (m + 1) (d :: r) := by
  obtain ⟨c0, _⟩ := cod_bd hB m r h.tail
  obtain ⟨d0, d1⟩ := h.head
  show (0 : Int) < (d + 1) * (B + 1) ^ m + cod B m r
  have p : 0 < (d + 1) * (B + 1) ^ m := Int.mul_pos (by omega) (Int.pow_pos (by omega))
  omega
theorem cod_lt {B : Int} (hB : 0 ≤ B) (m : Nat) {d e : Int} {r q : List Int} (hr : Bd B r) (hq : Bd B q) (h : d < e) : cod B (m + 1) (d :: r) < cod B (m + 1) (e :: q) := by
  obtain ⟨c0, c1⟩ := cod_bd hB m r hr
  obtain ⟨g0, g1⟩ := cod_bd hB m q hq
  show (d + 1) * (B + 1) ^ m + cod B m r < (e + 1) * (B + 1) ^ m + cod B m q
  exact num2 c0 c1 g0 (by omega)
theorem cod_same {B : Int} (m : Nat) {d : Int} {r q : List Int} : cod B (m + 1) (d :: r) < cod B (m + 1) (d :: q) ↔ cod B m r < cod B m q := by
  show (d + 1) * (B + 1) ^ m + cod B m r < (d + 1) * (B + 1) ^ m + cod B m q ↔ _
  generalize (d + 1) * (B + 1) ^ m = X
  constructor <;> intro z <;> omega
/-- unlike tuples have unlike places -/
theorem cod_inj {B : Int} (hB : 0 ≤ B) : ∀ (m : Nat) {ns ms : List Int}, Bd B ns → Bd B ms → ns.length ≤ m → ms.length ≤ m → cod B m ns = cod B m ms → ns = ms
  | 0, [], [], _, _, _, _, _ => rfl
  | 0, _ :: _, _, _, _, h, _, _ => by simp at h
  | 0, [], _ :: _, _, _, _, h, _ => by simp at h
  | m + 1, [], [], _, _, _, _, _ => rfl
  | m + 1, [], e :: q, _, h2, _, _, h => by
    have := cod_nil hB m h2
    omega
  | m + 1, d :: r, [], h1, _, _, _, h => by
    have := cod_nil hB m h1
    omega
  | m + 1, d :: r, e :: q, h1, h2, l1, l2, h => by
    rcases Int.lt_trichotomy d e with z | z | z
    · have := cod_lt hB m h1.tail h2.tail z
      omega
    · subst z
      have hc : cod B m r = cod B m q := by
        have h' : (d + 1) * (B + 1) ^ m + cod B m r = (d + 1) * (B + 1) ^ m + cod B m q := h
        omega
      rw [cod_inj hB m h1.tail h2.tail (by simpa using l1) (by simpa using l2) hc]
    · have := cod_lt hB m h2.tail h1.tail z
      omega
section
variable {prog : Program} {w : World} {A : Around} {E : Value → Shared → Prop} {s : Shared} {Q : Bool → Shared → Prop}
theorem lex_mixed {B : Int} (hB : 0 ≤ B) {b fin : Bool} {xs ys : List Value} {ns ms : List Int} (m i : Nat) (hx : IntsAre xs ns) (hy : IntsAre ys ms) (h1 : Bd B ns) (h2 : Bd B ms) (l1 : ns.length ≤ m) (l2 : ms.length ≤ m)
    (hf : fin = decide (ns.length < ms.length)) (h : Q (decide (cod B m ns < cod B m ms)) s) : PySem.W.KatLex prog w A b fin Q (xs.zip ys) i s := by
  induction hx generalizing ys ms i m with
  | nil =>
    cases hy with
    | nil =>
      have e : decide (cod B m [] < cod B m []) = fin := by rw [hf, decide_eq_false (Int.lt_irrefl _)]; rfl
      rw [e] at h
      exact PySem.W.kat_nil h
    | @cons q u ys ms hy =>
      obtain ⟨k, rfl⟩ : ∃ k, m = k + 1 := ⟨m - 1, by simp at l2; omega⟩
      have e : decide (cod B (k + 1) [] < cod B (k + 1) (q :: ms)) = fin := by
        rw [hf, decide_eq_true (cod_nil hB k h2)]
        exact (decide_eq_true (by simp)).symm
      rw [e] at h
      exact PySem.W.kat_nil h
  | @cons p t xs ns hx ih =>
    obtain ⟨k, rfl⟩ : ∃ k, m = k + 1 := ⟨m - 1, by simp at l1; omega⟩
    cases hy with
    | nil =>
      have e : decide (cod B (k + 1) (p :: ns) < cod B (k + 1) []) = fin := by
        have := cod_nil hB k h1
        rw [hf, decide_eq_false (by omega)]
        exact (decide_eq_false (by simp)).symm
      rw [e] at h
      exact PySem.W.kat_nil h
    | @cons q u ys ms hy =>
      show PySem.W.KatLex prog w A b fin Q ((Value.int p t, Value.int q u) :: xs.zip ys) i s
      refine PySem.W.kat_cons (wpAny_eqBool_int ?_)
      by_cases e : p = q
      · subst e
        rw [beq_self_eq_true]
        have d : decide (cod B (k + 1) (p :: ns) < cod B (k + 1) (p :: ms)) = decide (cod B k ns < cod B k ms) := decide_eq_decide.mpr (cod_same k)
        rw [d] at h
        refine PySem.W.kat_yes ?_
        exact ih k (i + 1) hy h1.tail h2.tail (by simpa using l1) (by simpa using l2) (by rw [hf]; exact decide_eq_decide.mpr (by simp)) h
      · rw [show (p == q) = false from beq_eq_false_iff_ne.mpr e]
        refine PySem.W.kat_no (oneLt_ints _ ?_)
        have d : decide (cod B (k + 1) (p :: ns) < cod B (k + 1) (q :: ms)) = decide (p < q) := by
          refine decide_eq_decide.mpr ⟨fun x => ?_, fun x => cod_lt hB k h1.tail h2.tail x⟩
          rcases Int.lt_trichotomy p q with y | y | y
          · exact y
          · exact absurd y e
          · have := cod_lt hB k h2.tail h1.tail y
            omega
        rw [d] at h
        exact h
end
/-- what is sorted: tuples of 1 to m ints each in [0, B) -/
def TupsM (h : Heap) (m : Nat) (B : Int) (vs : List Value) : Prop := ∀ v, v ∈ vs → ∃ ns, TupInts h v ns ∧ 1 ≤ ns.length ∧ ns.length ≤ m ∧ Bd B ns
theorem TupsM.keeps {h h' : Heap} {m : Nat} {B : Int} {vs : List Value} (x : TupsM h m B vs) (k : ∀ b o, h.get? b = some o → o.cls = .type "tuple" → h'.get? b = some o) : TupsM h' m B vs := fun v hv =>
  let ⟨ns, t, r⟩ := x v hv; ⟨ns, t.keeps k, r⟩
theorem firsts_mixed {h : Heap} {m : Nat} {B : Int} : ∀ vs : List Value, TupsM h m B vs → ∃ fs, PySem.W.KatTups h vs fs ∧ fs.length = vs.length ∧ ∀ f, f ∈ fs → ∃ n t, f = Value.int n t
  | [], _ => ⟨[], PySem.W.KatTups.nil, rfl, fun f hf => by simp at hf⟩
  | v :: vs, x => by
    obtain ⟨fs, k, hl, hi⟩ := firsts_mixed vs fun u hu => x u (List.mem_cons_of_mem _ hu)
    obtain ⟨ns, ⟨a, xs, rfl, ⟨o, ho, hc, n, hdt⟩, i⟩, hn, _⟩ := x v (List.mem_cons_self ..)
    obtain ⟨y, ys, e⟩ : ∃ y ys, xs.toList = y :: ys := by
      cases q : xs.toList with
      | nil =>
        rw [q] at i
        have l := i.length
        rw [List.length_nil] at l
        omega
      | cons y ys => exact ⟨y, ys, rfl⟩
    obtain ⟨m, t, hy⟩ := i.all y (by rw [e]; exact List.mem_cons_self ..)
    refine ⟨y :: fs, PySem.W.KatTups.cons ho hc hdt ?_ k, by simp [hl], ?_⟩
    · have z := congrArg (fun l : List Value => l[0]?) e
      simpa using z
    · intro f hf
      rcases List.mem_cons.mp hf with rfl | hf
      · exact ⟨m, t, hy⟩
      · exact hi f hf
section
variable {prog : Program} {w : World} {A : Around} {E : Value → Shared → Prop} {s : Shared}
theorem kind_mixed {m : Nat} {B : Int} {vs : List Value} (hB : 0 ≤ B) (h2 : 2 ≤ vs.length) (x : TupsM s.heap m B vs) (r : Value → Int) (hr : ∀ v, v ∈ vs → ∀ ns, TupInts s.heap v ns → r v = cod B m ns) (Q : SortKind → Shared → Prop)
    (h : ∀ κ, Cmp prog w A s κ (pairsOf vs) r → Q κ s) : wpAny (model prog w) A (keyKind' vs.toArray) Q E s := by
  obtain ⟨fs, k, hl, hi⟩ := firsts_mixed vs x
  refine PySem.W.kat_kind (T := Value.type "int") k (by omega) (fun f hf => ?_) rfl (h _ ?_)
  · obtain ⟨n, t, rfl⟩ := hi f hf
    exact PySem.W.Looks.of_pure rfl
  · intro p q hp hq Q' E' hQ
    rw [pairsOf_toList] at hp hq
    obtain ⟨ns, tp, _, lp, bp⟩ := x _ (mem_zip_self hp).2
    obtain ⟨ms, tq, _, lq, bq⟩ := x _ (mem_zip_self hq).2
    have ep := hr _ (mem_zip_self hp).2 _ tp
    have eq2 := hr _ (mem_zip_self hq).2 _ tq
    have hQ' : Q' (decide (cod B m ns < cod B m ms)) s := by
      have z : decide (r p.1 < r q.1) = decide (cod B m ns < cod B m ms) := by rw [ep, eq2]
      rw [← z]; exact hQ
    obtain ⟨a, xs, e1, ⟨o, ho, hc, n, hdt⟩, i⟩ := tp
    obtain ⟨a', ys, e2, ⟨o', ho', hc', n', hdt'⟩, i'⟩ := tq
    rw [e1, e2]
    refine PySem.W.kat_lt ho hdt ho' hdt' ?_
    have l1 := i.length
    have l2 := i'.length
    rw [Array.length_toList] at l1 l2
    exact lex_mixed hB m 0 i i' bp bq lp lq (by rw [l1, l2]) hQ'
theorem sort_mixed {a : Addr} {vs : List Value} {n m : Nat} {B : Int} {P : PySem.Fin → Shared → Prop} (ho : s.heap.get? a = some (seqObj "list" vs.toArray n)) (h64 : vs.length < 64) (hB : 0 ≤ B) (x : TupsM s.heap m B vs)
    (r : Value → Int) (hr : ∀ v, v ∈ vs → ∀ ns, TupInts s.heap v ns → r v = cod B m ns)
    (h : ∀ out : Array Value, out.toList.Perm vs → out.toList.Pairwise (fun u v => r u ≤ r v) → P (.done (.ret .none)) { s with heap := sortedHeap s.heap a vs out }) :
    wpAny (model prog w) A (Builtin.«list.sort» ⟨[.ref a], []⟩) P E s := by
  have keep : ∀ b o, s.heap.get? b = some o → o.cls = .type "tuple" → (midHeap s.heap a vs).get? b = some o := fun b o e hc => by
    refine midHeap_old ?_ e
    rintro rfl
    rw [ho] at e
    have e' : seqObj "list" vs.toArray n = o := Option.some.inj e
    rw [← e'] at hc
    have c' : Value.type "list" = Value.type "tuple" := hc
    injection c' with c''
    exact absurd c'' (by decide)
  refine SK.plain_sort (r := r) ho h64 (fun h2 Q hQ => ?_) fun ps out h1 h2 h3 => ?_
  · refine kind_mixed (s := { s with heap := midHeap s.heap a vs }) hB h2 (x.keeps keep) r (fun v hv ns t => ?_) Q hQ
    obtain ⟨ns0, t0, _⟩ := x v hv
    have e : ns = ns0 := t.ints.symm.trans (t0.keeps keep).ints
    rw [e]
    exact hr v hv ns0 t0
  · obtain ⟨p, o⟩ := out_rank h1 h2 h3
    exact h out p o
theorem sorted_mixed {l : Addr} {vs : List Value} {m : Nat} {B : Int} {Q : Value → Shared → Prop} (hl : s.heap.IsList l vs.toArray) (h64 : vs.length < 64) (hB : 0 ≤ B) (x : TupsM s.heap m B vs)
    (h : ∀ out : Array Value, out.toList.Perm vs → out.toList.Pairwise (fun u v => cod B m (intsOf s.heap u) ≤ cod B m (intsOf s.heap v)) → Q (.ref (s.heap.objs.size + 1)) { s with heap := sortedAll s.heap vs out }) :
    wpAny (model prog w) A (call (.builtin "sorted") [.ref l]) Q E s := by
  refine Calls.call_function_entry kind_sorted plain_sorted entry_sorted (args_sorted1 _) ?_
  unfold Builtin.«sorted»
  refine wpAny_bind (m := checkCount "sorted" 1 1 _) (wpAny_pure ?_)
  refine wpAny_bind (collect_list hl ?_ (by rw [sizeLine_eq]; omega))
  refine wpAny_bind (wpAny_newList ?_ (by rw [sizeLine_eq]; omega))
  have hsz : ((s.heap.push (seqObj "list" #[] 0)).update s.heap.objs.size (Obj.mapSeq (· ++ vs.toArray))).objs.size = s.heap.objs.size + 1 := by
    rw [Heap.size_update, size_push']
  have hoL : (((s.heap.push (seqObj "list" #[] 0)).update s.heap.objs.size (Obj.mapSeq (· ++ vs.toArray))).push (seqObj "list" vs.toArray 0)).get? (s.heap.objs.size + 1) = some (seqObj "list" vs.toArray 0) := by
    rw [← hsz]; exact Heap.get?_push_size _ rfl
  have keep : ∀ b o, s.heap.get? b = some o → o.cls = .type "tuple" → (((s.heap.push (seqObj "list" #[] 0)).update s.heap.objs.size (Obj.mapSeq (· ++ vs.toArray))).push (seqObj "list" vs.toArray 0)).get? b = some o := fun b o q _ => by
    have hlt : b < s.heap.objs.size := Heap.lt_size q
    rw [Heap.get?_push_ne _ _ _ (by rw [hsz]; exact Nat.ne_of_lt (Nat.lt_succ_of_lt hlt)), Heap.get?_update_ne _ _ _ _ (Nat.ne_of_lt hlt), Heap.get?_push_ne _ _ _ (Nat.ne_of_lt hlt)]
    exact q
  show wpAny _ _ _ _ _ { s with heap := ((s.heap.push (seqObj "list" #[] 0)).update s.heap.objs.size (Obj.mapSeq (· ++ vs.toArray))).push (seqObj "list" vs.toArray 0) }
  rw [hsz]
  refine wpAny_bind (wpAny_holding (wpAny_call_entry slot_list_sort ⟨_, hoL, rfl⟩ entry_list_sort (sort_mixed hoL h64 hB (x.keeps keep) (fun v => cod B m (intsOf s.heap v)) (fun v hv ns t => ?_) fun out a1 a2 => ⟨_, rfl, ?_⟩) (args_list_sort _)))
  · obtain ⟨ns0, t0, _⟩ := x v hv
    have e : ns = ns0 := t.ints.symm.trans (t0.keeps keep).ints
    rw [e]
    show cod B m (intsOf s.heap v) = cod B m ns0
    rw [t0.ints]
  · exact wpAny_pure ⟨_, rfl, h out a1 a2⟩
end
end TM
namespace L2
open PySem PySem.Spec PyProof.Rows
section
variable {X : Cx}
def rSortM (K : PySem.W.Frag) (m : Nat) (B : Int) : List V → Hp → VK → Prop := fun vs H Q => ∃ (a : Addr) (xs : List V), vs = [V.ref a] ∧ SqL K H a xs ∧ xs.length < 64 ∧ (∀ x ∈ xs, ∃ ns, TupI K H x ns ∧ 1 ≤ ns.length ∧ ns.length ≤ m ∧ TS.Bd B ns) ∧
  ∀ (ys : List V) (p : Addr), ys.Perm xs → ys.Pairwise (fun x y => ∀ n k, TupI K H x n → TupI K H y k → TM.cod B m n ≤ TM.cod B m k) → H p = none → Q (.ref p) (upd H p (.lst ys))
theorem cr_sortM {m : Nat} {B : Int} (hB : 0 ≤ B) : CallR X (.builtin "sorted") (rSortM X.K m B) := by
  intro pins s σ H vs us Q I r h
  obtain ⟨a, xs, rfl, hs, h64, hx, q⟩ := h
  obtain ⟨its, rv, hl, hz⟩ := I.list hs
  rw [Vals.ref1 r]
  obtain ⟨e1, e2⟩ := bkV_refs rv fun x m => by
    obtain ⟨ns, ⟨t, e, _⟩, _⟩ := hx x m
    exact ⟨t, e⟩
  refine TM.sorted_mixed (m := m) (B := B) hl.isList (by rw [← rv.length]; exact h64) hB (fun v hv => ?_) fun out h1 h2 => ?_
  · obtain ⟨t, rfl⟩ := e2 v hv
    have hm : V.ref t ∈ xs := by
      rw [e1]
      exact List.mem_map.mpr ⟨_, hv, rfl⟩
    obtain ⟨ns, ⟨t', e, ht⟩, hn, hb⟩ := hx _ hm
    cases e
    exact ⟨ns, tupI_raw I ht, hn, hb⟩
  · obtain ⟨ep, he'⟩ := PyProof.Rows.sortedAll_at s.heap its out
    have h3 : ∀ u ∈ out.toList, ∃ a, u = Value.ref a := fun u hu => e2 u (h1.mem_iff.mp hu)
    have hp : (out.toList.map bkV).Perm xs := by
      rw [e1]
      exact h1.map bkV
    have hlen : (out.toList.map bkV).length ≤ sizeLine := by
      rw [hp.length_eq]
      exact hz
    refine ⟨.ref _, upd H (s.heap.objs.size + 1) (.lst (out.toList.map bkV)), I.laid (t' := s.toks) (fun _ _ => PyProof.Rows.sortedAll_old) (Nat.le_succ _) ⟨hlen, out.toList, ep, bkV_vals h3, he'⟩, rfl, q _ _ hp ?_ (I.hok.fresh (Nat.le_succ _))⟩
    rw [List.pairwise_map]
    refine List.Pairwise.imp (fun {u v} huv n m hn hm => ?_) h2
    obtain ⟨t, et, ht⟩ := hn
    obtain ⟨t', et', ht'⟩ := hm
    have eu := bkV_ref et
    have ev := bkV_ref et'
    have i1 : TS.intsOf s.heap u = n := by
      rw [eu]
      exact (tupI_raw I ht).ints
    have i2 : TS.intsOf s.heap v = m := by
      rw [ev]
      exact (tupI_raw I ht').ints
    rw [← i1, ← i2]
    exact huv
end
end L2

/-! general words: values of any kind, zips, bars, comparisons -/
namespace Gv
open PySem PySem.Spec PyProof.Rows L2 RZ L5
section
variable {K : PySem.W.Frag} {H H' : Hp}
inductive El (K : PySem.W.Frag) (H : Hp) : V → Option Int → Prop
  | int (i : Int) : El K H (.int i) (some i)
  | bl (b : Bool) : El K H (.bl b) none
  | non : El K H .non none
  | str (x : Str) (h : PyData.strOk x = true) : El K H (.str x) none
  | tup {a : Addr} {t : List Int} (h : SqT K H a (t.map V.int)) : El K H (.ref a) none
theorem El.same (s : Same H H') {v : V} {o : Option Int} (h : El K H v o) : El K H' v o := by
  cases h with
  | int i => exact .int i
  | bl b => exact .bl b
  | non => exact .non
  | str x h => exact .str x h
  | tup h => exact .tup (same_sqt s h)
theorem El.isi {v : V} {o : Option Int} (h : El K H v o) : ∃ t bi bb, TyX K H v t ∧ PySem.W.kitOne K t (.type "int") = some bi ∧ PySem.W.kitOne K t (.type "bool") = some bb ∧ o.isSome = (bi && !bb) ∧ ∀ i, o = some i → v = .int i := by
  cases h with
  | int i => exact ⟨_, true, false, .base (.int i), kit_ty (by decide +kernel), kit_ty (by decide +kernel), rfl, fun j e => by cases e; rfl⟩
  | bl b => exact ⟨_, true, true, .base (.bl b), kit_ty (by decide +kernel), kit_ty (by decide +kernel), rfl, fun j e => by cases e⟩
  | non => exact ⟨_, false, false, .base .non, kit_ty (by decide +kernel), kit_ty (by decide +kernel), rfl, fun j e => by cases e⟩
  | str x _ => exact ⟨_, false, false, .base (.str x), kit_ty (by decide +kernel), kit_ty (by decide +kernel), rfl, fun j e => by cases e⟩
  | tup h => exact ⟨_, false, false, sqt_ty h, kit_ty (by decide +kernel), kit_ty (by decide +kernel), rfl, fun j e => by cases e⟩
abbrev Els (K : PySem.W.Frag) (H : Hp) : List V → List (Option Int) → Prop := Paired (El K H)
theorem Els.same (s : Same H H') : ∀ {vs : List V} {os : List (Option Int)}, Els K H vs os → Els K H' vs os
  | _, _, .nil => .nil
  | _, _, .cons h t => .cons (h.same s) (Els.same s t)
theorem Els.length : ∀ {vs : List V} {os : List (Option Int)}, Els K H vs os → vs.length = os.length
  | _, _, .nil => rfl
  | _, _, .cons _ t => congrArg (· + 1) (Els.length t)
theorem Els.get : ∀ {vs : List V} {os : List (Option Int)} {i : Nat} {v : V}, Els K H vs os → vs[i]? = some v → ∃ o, os[i]? = some o ∧ El K H v o
  | _, _, _, _, .nil, e => by simp at e
  | _, _, 0, _, .cons h _, e => by simp at e; subst e; exact ⟨_, rfl, h⟩
  | _, _, i + 1, v, .cons _ t, e => by
    obtain ⟨u, h1, h2⟩ := Els.get (i := i) (v := v) t (by simpa using e)
    exact ⟨u, by simpa using h1, h2⟩
theorem Els.app : ∀ {vs us : List V} {os ps : List (Option Int)}, Els K H vs os → Els K H us ps → Els K H (vs ++ us) (os ++ ps)
  | _, _, _, _, .nil, s => s
  | _, _, _, _, .cons r t, s => .cons r (Els.app t s)
theorem els_nv : ∀ t : List Nat, Els K H (nv t) (t.map fun n => some ((n : Nat) : Int))
  | [] => .nil
  | n :: t => .cons (.int _) (els_nv t)
inductive Va (K : PySem.W.Frag) (H : Hp) : V → Option (List (Option Int)) → Prop
  | tup {a : Addr} {vs : List V} {os : List (Option Int)} (h : SqT K H a vs) (e : Els K H vs os) (hl : vs.length ≤ 1000) : Va K H (.ref a) (some os)
  | lst {a : Addr} {xs : List V} (h : SqL K H a xs) : Va K H (.ref a) none
  | dic {a : Addr} (h : H a = some (.dK [])) : Va K H (.ref a) none
  | non : Va K H .non none
  | int (i : Int) : Va K H (.int i) none
  | str (x : Str) : Va K H (.str x) none
  | own {a C dx : Addr} {fs : List (Str × V)} (h : H a = some (.ins C dx fs)) (t : ∀ H' : Hp, H' a = some (.ins C dx fs) → TyX K H' (.ref a) (.ref C)) (k : PySem.W.kitOne K (.ref C) (.type "tuple") = some false) : Va K H (.ref a) none
theorem same_sql {a : Addr} {xs : List V} (e : Same H H') (h : SqL K H a xs) : SqL K H' a xs := by
  rcases h with (h | ⟨o, h⟩) | h
  · exact .inl (.inl (e _ _ h))
  · exact .inl (.inr ⟨o, e _ _ h⟩)
  · exact .inr h
theorem sql_ty {a : Addr} {xs : List V} (h : SqL K H a xs) : TyX K H (.ref a) (.type "list") := by
  rcases h with (h | ⟨o, h⟩) | ⟨o, its, n, e, c, _⟩
  · exact .base (.lst h)
  · exact .base (.frz h)
  · exact .kList e c
theorem Va.same (s : Same H H') {v : V} {d : Option (List (Option Int))} (h : Va K H v d) : Va K H' v d := by
  cases h with
  | tup h e hl => exact .tup (same_sqt s h) (e.same s) hl
  | lst h => exact .lst (same_sql s h)
  | dic h => exact .dic (s _ _ h)
  | non => exact .non
  | int i => exact .int i
  | str x => exact .str x
  | own h t k => exact .own (s _ _ h) t k
theorem Va.isi {v : V} {d : Option (List (Option Int))} (h : Va K H v d) : ∃ t, TyX K H v t ∧ PySem.W.kitOne K t (.type "tuple") = some d.isSome := by
  cases h with
  | tup h e hl => exact ⟨_, sqt_ty h, kit_ty (show kitB "tuple" "tuple" = some true by decide +kernel)⟩
  | lst h => exact ⟨_, sql_ty h, kit_ty (by decide +kernel)⟩
  | dic h => exact ⟨_, .base (.dK h), kit_ty (by decide +kernel)⟩
  | non => exact ⟨_, .base .non, kit_ty (by decide +kernel)⟩
  | int i => exact ⟨_, .base (.int i), kit_ty (by decide +kernel)⟩
  | str x => exact ⟨_, .base (.str x), kit_ty (by decide +kernel)⟩
  | own h t k => exact ⟨_, t _ h, k⟩
theorem Va.get {v : V} {os : List (Option Int)} (h : Va K H v (some os)) : ∃ a vs, v = .ref a ∧ SqT K H a vs ∧ Els K H vs os ∧ vs.length ≤ 1000 := by
  cases h with
  | tup h e hl => exact ⟨_, _, rfl, h, e, hl⟩
def inB (o : Option Int) (a b : Int) : Bool := match o with
  | some i => decide (a ≤ i) && decide (i ≤ b)
  | none => false
theorem va_prod {a : Addr} {t : List Nat} (h : SqT K H a (nv t)) (hl : t.length ≤ 1000) : Va K H (.ref a) (some (t.map fun n => some ((n : Nat) : Int))) := .tup h (els_nv t) (by rw [nv_len]; exact hl)
theorem take_more {α : Type} {l : List α} {i : Nat} {x : α} (h : l[i]? = some x) : l.take (i + 1) = l.take i ++ [x] := by
  rw [List.take_add_one, h]
  rfl
abbrev lcTurn (D : Addr) (g : TG) (tt : TT) (te : TE) (vs : List Nat) (σ : L2.St) (Nx : Hp → Prop) (v : V) (H : Hp) : Prop := g v (wipe σ vs) H fun σ2 H2 => wipe σ2 vs = wipe σ vs ∧ tt σ2 H2 fun b H3 =>
  if b = true then te σ2 H3 fun y H4 => ∃ acc, H4 D = some (.lst acc) ∧ acc.length < sizeLine ∧ Nx (upd H4 D (.lst (acc ++ [y]))) else Nx H3
theorem lc_zipT {a b : Addr} {xs ys : List V} {g : TG} {tt : TT} {te : TE} {vs : List Nat} {σ : L2.St} {H1 : Hp} {D : Addr} {Qd : Hp → Prop} (hl : xs.length = ys.length) (Pv : Nat → Hp → Prop) (h0 : Pv 0 (upd H1 D (.lst []))) (hq : ∀ i H, Pv i H → SqT K H a xs ∧ SqT K H b ys)
    (hs : ∀ (i : Nat) (x y : V) (T : Addr) (H : Hp), xs[i]? = some x → ys[i]? = some y → Pv i H → H T = none → lcTurn D g tt te vs σ (Pv (i + 1)) (.ref T) (upd H T (.tup [x, y]))) (hd : ∀ H, Pv xs.length H → Qd H) :
    ∃ W : Nat → Nat → Hp → Prop, (∃ m, W 0 m (upd H1 D (.lst []))) ∧ ∀ i m H0, W i m H0 →
      ((ItzT K a b).stop i H0 ∧ Qd H0) ∨ ((ItzT K a b).go i H0 ∧ ∃ Nx : Hp → Prop, (∀ H', Nx H' → ∃ m', m' < m ∧ W (i + 1) m' H') ∧ ∀ v H', (ItzT K a b).yld i H0 v H' → lcTurn D g tt te vs σ Nx v H') := by
  refine ⟨fun i m H => i + m = xs.length ∧ Pv i H, ⟨xs.length, Nat.zero_add _, h0⟩, fun i m H0 hw => ?_⟩
  obtain ⟨em, pi⟩ := hw
  obtain ⟨ta, tb⟩ := hq i H0 pi
  cases m with
  | zero =>
    have ei : i = xs.length := em
    subst ei
    exact .inl ⟨⟨xs, ys, ta, tb, Or.inl (Nat.le_refl _)⟩, hd H0 pi⟩
  | succ m =>
    have i1 : i < xs.length := by omega
    have i2 : i < ys.length := hl ▸ i1
    refine .inr ⟨⟨xs, ys, _, _, ta, tb, List.getElem?_eq_getElem i1, List.getElem?_eq_getElem i2⟩, Pv (i + 1), fun H' p => ⟨m, Nat.lt_succ_self m, by omega, p⟩, fun v H' out => ?_⟩
    obtain ⟨T, _, _, rfl, free, rfl, fx, fy⟩ := out
    exact hs i _ _ T H0 (fx xs ta) (fy ys tb) pi free
theorem getD_at {t : List Nat} {i : Nat} (h : i < t.length) : t[i]? = some (t.getD i 0) := by
  rw [List.getD_eq_getElem?_getD, List.getElem?_eq_getElem h]
  rfl
theorem nv_take (t : List Nat) (k : Nat) : nv (t.take k) = (nv t).take k := List.map_take
theorem cut_to (xs : List V) (k : Nat) (h : k ≤ xs.length) : cutV xs none (some (k : Int)) = xs.take k := by
  unfold cutV
  rw [show HT.sIx xs.length xs.length (some (k : Int)) = min k xs.length from HT.sIx_nat xs.length xs.length k, HT.sIx_none, Nat.min_eq_left h]
  rfl
def rCatB (K : PySem.W.Frag) : R2 := fun x y H Q => ∃ a b xs ys, x = .ref a ∧ y = .ref b ∧ SqT K H a xs ∧ SqT K H b ys ∧ xs.length + ys.length ≤ sizeLine ∧ ∀ H' z, Same H H' → SqT K H' z (xs ++ ys) → Q (.ref z) H'
theorem op_catB {X : Cx} : OpR X (binaryOp .Add) (rCatB X.K) := by
  intro pins s σ H x y v u Q I rx ry h
  obtain ⟨a, b, xs, ys, rfl, rfl, hx, hy, hz, q⟩ := h
  refine op_catA pins s σ H _ _ v u Q I rx ry ⟨a, b, xs, ys, rfl, rfl, hx, hy, hz, fun e => ?_, fun _ e => ?_, fun _ _ p hp => q _ p (same_new hp _) (SqT.of upd_same)⟩
  · subst e
    exact q H b (Same.refl H) hy
  · subst e
    rw [List.append_nil] at q
    exact q H a (Same.refl H) hx
def rSlB (K : PySem.W.Frag) : V → Option Int → Option Int → Hp → VK → Prop := fun x lo hi H Q => ∃ a xs, x = .ref a ∧ SqT K H a xs ∧ ∀ H' z, Same H H' → SqT K H' z (cutV xs lo hi) → Q (.ref z) H'
theorem sl_tupB {X : Cx} : SlR X (rSlB X.K) := by
  intro pins s σ H x v vl vu lo hi sl Q I rx hs pl pu h
  obtain ⟨a, xs, rfl, hx, q⟩ := h
  refine sl_tupA pins s σ H _ v vl vu lo hi sl Q I rx hs pl pu ⟨a, xs, rfl, hx, fun e => ?_, fun _ p hp => q _ p (same_new hp _) (SqT.of upd_same)⟩
  have e2 : cutV xs lo hi = xs := by
    unfold cutV
    rw [e.1, e.2]
    exact List.take_length
  rw [e2] at q
  exact q H a (Same.refl H) hx
def Bar (p : Addr) (H H' : Hp) : Prop := ∀ b o, b ≠ p → H b = some o → H' b = some o
theorem Bar.trans {p : Addr} {A B C : Hp} (a : Bar p A B) (b : Bar p B C) : Bar p A C := fun c o n h => b c o n (a c o n h)
theorem Bar.same {p : Addr} {A B : Hp} (a : Same A B) : Bar p A B := fun c o _ h => a c o h
theorem Bar.upd {p : Addr} {A : Hp} {o : HO} : Bar p A (upd A p o) := fun c u n h => by
  rw [upd_ne n]
  exact h
theorem passG {X : Cx} : Passes (CX X.prog X.w) X E0 := fun _ _ _ _ _ _ _ c => by
  obtain ⟨_, _, _, _, _, _, _, _, _, _, _, _, no⟩ := c
  exact no.elim
theorem nostop : NoStop K E0 := fun _ _ _ no => no.elim
theorem ref_get {rs : List Addr} {i : Nat} {x : V} (h : (rs.map V.ref)[i]? = some x) : ∃ a, rs[i]? = some a ∧ x = .ref a := by
  rw [List.getElem?_map] at h
  cases e : rs[i]? with
  | none =>
    rw [e] at h
    cases h
  | some n =>
    rw [e] at h
    exact ⟨n, rfl, (Option.some.inj h).symm⟩
theorem mpos {j : Int} (h : (0 : Int) < j) : (0 : Int) < j := h
theorem same_back {H H' : Hp} (s : Same H H') {r : Addr} (h : H' r = none) : H r = none := s.free h
theorem PE.weak {X : Cx} {e : Expr} {t t' : TE} (h : PE X e t) (i : ∀ σ H Q, t' σ H Q → t σ H Q) : PE X e t' := ⟨fun pins s σ H Q I h' => h.run pins s σ H Q I (i σ H Q h')⟩
theorem PT.weak' {X : Cx} {e : Expr} {t t' : TT} (h : PT X e t) (i : ∀ σ H Q, t' σ H Q → t σ H Q) : PT X e t' := ⟨fun pins s σ H Q I h' => h.run pins s σ H Q I (i σ H Q h')⟩
theorem PS.weak' {X : Cx} {st : Stmt} {t t' : TS} (h : PS X st t) (i : ∀ D σ H, t' D σ H → t D σ H) : PS X st t' := ⟨fun pins s σ H D I h' => h.run pins s σ H D I (i D σ H h')⟩
theorem PS.ex {X : Cx} {st : Stmt} {α : Type} {t : α → TS} (h : ∀ x, PS X st (t x)) : PS X st (fun D σ H => ∃ x, t x D σ H) := ⟨fun pins s σ H D I ⟨x, h'⟩ => (h x).run pins s σ H D I h'⟩
theorem shaped_bool (b : Bool) : SeqAt.shaped (.bool b) = true := by cases b <;> decide +kernel
theorem eqv_bool (b : Bool) : PyData.eqv (.bool b) (.bool b) = true := by cases b <;> decide +kernel
theorem dp_ints {K : PySem.W.Frag} {H : Hp} : ∀ l : List Int, DpAll K H (l.map V.int) (l.map PyData.int)
  | [] => .nil
  | i :: l => .cons (.int i) (dp_ints l)
theorem can_ints : ∀ l : List Int, PyData.canLayAll0 (l.map PyData.int) = true ∧ PyData.depthAll (l.map PyData.int) = 0
  | [] => by simp [PyData.canLayAll0, PyData.depthAll]
  | i :: l => by
    obtain ⟨h1, h2⟩ := can_ints l
    constructor
    · rw [List.map_cons, PyData.canLayAll0, h1]
      simp [PyData.canLay0]
    · rw [List.map_cons, PyData.depthAll, h2]
      simp [PyData.depth]
theorem shaped_intsT (l : List Int) : SeqAt.shaped (.tuple (l.map PyData.int)) = true := by
  obtain ⟨h1, h2⟩ := can_ints l
  simp [SeqAt.shaped, PyData.canLay0, PyData.depth, h1, h2]
theorem eqv_intsT (l : List Int) : PyData.eqv (.tuple (l.map PyData.int)) (.tuple (l.map PyData.int)) = true := SeqAt.eqv_refl _ (by
  simp only [PyData.canLay0]
  exact (can_ints l).1)
theorem eqvAll_nats : ∀ t u : List Nat, PyData.eqvAll (t.map fun n => PyData.int ((n : Nat) : Int)) (u.map fun n => PyData.int ((n : Nat) : Int)) = decide (t = u)
  | [], [] => by simp [PyData.eqvAll]
  | [], _ :: _ => by simp [PyData.eqvAll]
  | _ :: _, [] => by simp [PyData.eqvAll]
  | a :: t, b :: u => by
    simp only [List.map_cons, PyData.eqvAll, PyData.eqv, eqvAll_nats t u]
    rw [show (((a : Nat) : Int) == ((b : Nat) : Int)) = decide (a = b) by
      rw [Bool.eq_iff_iff, beq_iff_eq, decide_eq_true_iff]
      omega, ← Bool.decide_and]
    exact decide_eq_decide.mpr (by simp)
theorem eqv_tupE (t u : List Nat) : PyData.eqv (encT t) (encT u) = decide (t = u) := by
  simp only [encT, PyData.eqv]
  exact eqvAll_nats t u
theorem tups_get {H : Hp} {rs : List Addr} {L : List (List Nat)} {i : Nat} {x : V} (hT : Tups K H rs L) (h : (rs.map V.ref)[i]? = some x) : ∃ a t, x = .ref a ∧ rs[i]? = some a ∧ L[i]? = some t ∧ SqT K H a (nv t) := by
  obtain ⟨a, ha, rfl⟩ := ref_get h
  obtain ⟨t, ht, hs⟩ := hT.get ha
  exact ⟨a, t, rfl, ha, ht, hs⟩
theorem any_take_step {l : List Bool} {i : Nat} {b : Bool} (h : l[i]? = some b) : (l.take (i + 1)).any id = ((l.take i).any id || b) := by
  rw [take_more h, List.any_append]
  simp
theorem any_drop {l : List Bool} {i : Nat} (h : (l.take i).any id = true) : l.any id = true := by
  rw [← List.take_append_drop i l, List.any_append, h, Bool.true_or]
theorem eqvAll_tups : ∀ L M : List (List Nat), PyData.eqvAll (L.map encT) (M.map encT) = decide (L = M)
  | [], [] => by simp [PyData.eqvAll]
  | [], _ :: _ => by simp [PyData.eqvAll]
  | _ :: _, [] => by simp [PyData.eqvAll]
  | t :: L, u :: M => by
    rw [List.map_cons, List.map_cons, PyData.eqvAll, eqv_tupE, eqvAll_tups L M, ← Bool.decide_and]
    exact decide_eq_decide.mpr (by simp)
theorem shaped_tupsT (L : List (List Nat)) : SeqAt.shaped (.tuple (L.map encT)) = true := by
  have h := can_tups L
  unfold SeqAt.shaped
  simp only [PyData.canLay0, PyData.depth, h.1, Bool.true_and]
  exact decide_eq_true (by omega)
theorem eqv_tupsSame (L : List (List Nat)) : PyData.eqv (.tuple (L.map encT)) (.tuple (L.map encT)) = true := SeqAt.eqv_refl _ (by
  simp only [PyData.canLay0]
  exact (can_tups L).1)
theorem shaped_natsL (t : List Nat) : SeqAt.shaped (.list (t.map fun n => PyData.int ((n : Nat) : Int))) = true := by
  have g := can_nats t
  unfold SeqAt.shaped
  simp only [PyData.canLay0, PyData.depth, g.1, g.2, Bool.true_and]
  exact decide_eq_true (by omega)
theorem eqv_nilL (l : List PyData) : PyData.eqv (.list l) (.list []) = decide (l = []) := by
  cases l with
  | nil => decide +kernel
  | cons a b =>
    rw [decide_eq_false (List.cons_ne_nil a b)]
    rfl
theorem sorted_one : ∀ {a b : List Int}, a.Perm b → a.Pairwise (· ≤ ·) → b.Pairwise (· ≤ ·) → a = b
  | [], b, p, _, _ => (List.nil_perm.mp p).symm
  | x :: a, [], p, _, _ => absurd p.length_eq (by simp)
  | x :: a, y :: b, p, ha, hb => by
    obtain ⟨a1, a2⟩ := List.pairwise_cons.mp ha
    obtain ⟨b1, b2⟩ := List.pairwise_cons.mp hb
    have e : x = y := by
      have h1 : x ∈ y :: b := p.mem_iff.mp List.mem_cons_self
      have h2 : y ∈ x :: a := p.mem_iff.mpr List.mem_cons_self
      rcases List.mem_cons.mp h1 with h1 | h1
      · exact h1
      · rcases List.mem_cons.mp h2 with h2 | h2
        · exact h2.symm
        · have := b1 x h1
          have := a1 y h2
          omega
    subst e
    rw [sorted_one (List.perm_cons x |>.mp p) a2 b2]
theorem bar_updL {p D : Addr} {o : HO} {H H' : Hp} (b : Bar p H H') (hD : H D = none) : Bar p H (upd H' D o) := fun c u n h => by
  rw [upd_ne (ne_of_none h hD)]
  exact b c u n h
theorem nat_of {i : Int} (h0 : 0 ≤ i) : ∃ n : Nat, i = ((n : Nat) : Int) := ⟨i.toNat, by omega⟩
theorem sqt_but {H H' : Hp} {z a : Addr} {xs ys : List V} (hz : H z = some (.lst ys)) (st : ∀ b o, b ≠ z → H b = some o → H' b = some o) (h : SqT K H a xs) : SqT K H' a xs := by
  have ne : ∀ {o : HO}, H a = some o → o ≠ .lst ys → a ≠ z := fun {o} e n k => by
    rw [k, hz] at e
    exact n (Option.some.inj e).symm
  rcases h with (h | ⟨o, h⟩) | h
  · exact .inl (.inl (st _ _ (ne h fun k => nomatch k) h))
  · exact .inl (.inr ⟨o, st _ _ (ne h fun k => nomatch k) h⟩)
  · exact .inr h
theorem tups_but {H H' : Hp} {z : Addr} {ys : List V} (hz : H z = some (.lst ys)) (st : ∀ b o, b ≠ z → H b = some o → H' b = some o) : ∀ {rs : List Addr} {L : List (List Nat)}, Tups K H rs L → Tups K H' rs L
  | _, _, .nil => .nil
  | _, _, .cons h t => .cons (sqt_but hz st h) (tups_but hz st t)
theorem all_take_step {l : List Bool} {i : Nat} {b : Bool} (h : l[i]? = some b) : (l.take (i + 1)).all id = ((l.take i).all id && b) := by
  rw [take_more h, List.all_append]
  show _ = _
  simp
end
end Gv

/-! tuples of ints, zips of unlike lengths -/
namespace Gv
open PySem PySem.Spec PyProof.Rows L2 RZ L5
section
variable {K : PySem.W.Frag} {H H' : Hp}
abbrev iv (t : List Int) : List V := t.map V.int
theorem iv_len (t : List Int) : (iv t).length = t.length := List.length_map _
theorem iv_app (t u : List Int) : iv (t ++ u) = iv t ++ iv u := List.map_append
theorem iv_get {t : List Int} {i : Nat} {x : V} (h : (iv t)[i]? = some x) : ∃ n, t[i]? = some n ∧ x = .int n := by
  rw [List.getElem?_map] at h
  cases e : t[i]? with
  | none => rw [e] at h; cases h
  | some n => rw [e] at h; exact ⟨n, rfl, (Option.some.inj h).symm⟩
theorem iv_at {t : List Int} {i : Nat} {n : Int} (h : t[i]? = some n) : atI (iv t) (i : Int) = some (.int n) := atI_nat (by rw [List.getElem?_map, h] <;> rfl)
theorem els_iv : ∀ t : List Int, Els K H (iv t) (t.map some)
  | [] => .nil
  | n :: t => .cons (.int n) (els_iv t)
theorem va_iv {a : Addr} {t : List Int} (h : SqT K H a (iv t)) (hl : t.length ≤ 1000) : Va K H (.ref a) (some (t.map some)) := .tup h (els_iv t) (by rw [iv_len]; exact hl)
def intsO (os : List (Option Int)) : List Int := os.map fun o => o.getD 0
theorem ints_back (t : List Int) : intsO (t.map some) = t := by
  unfold intsO
  rw [List.map_map]
  exact (List.map_congr_left fun n _ => rfl).trans (List.map_id _)
theorem els_all {f : Option Int → Bool} (hf : f none = false) : ∀ {vs : List V} {os : List (Option Int)}, Els K H vs os → os.all f = true → vs = iv (intsO os) ∧ os = (intsO os).map some
  | _, _, .nil, _ => ⟨rfl, rfl⟩
  | _, _, .cons (b := o) h t, ha => by
    rw [List.all_cons, Bool.and_eq_true] at ha
    obtain ⟨e1, e2⟩ := els_all hf t ha.2
    cases o with
    | none => rw [hf] at ha; exact absurd ha.1 Bool.false_ne_true
    | some i =>
      obtain ⟨_, _, _, _, _, _, _, e⟩ := h.isi
      obtain rfl := e i rfl
      refine ⟨?_, ?_⟩
      · show _ = V.int i :: iv (intsO _)
        rw [← e1]
      · show _ = some i :: (intsO _).map some
        rw [← e2]
/-! ### many tuples -/
def TupsI (K : PySem.W.Frag) (H : Hp) : List Addr → List (List Int) → Prop := Paired fun a t => SqT K H a (iv t)
theorem TupsI.same (e : Same H H') : ∀ {rs : List Addr} {L : List (List Int)}, TupsI K H rs L → TupsI K H' rs L
  | _, _, .nil => .nil
  | _, _, .cons h t => .cons (same_sqt e h) (TupsI.same e t)
theorem TupsI.updL {p : Addr} {ys : List V} {o : HO} (hp : H p = some (.lst ys)) : ∀ {rs : List Addr} {L : List (List Int)}, TupsI K H rs L → TupsI K (upd H p o) rs L
  | _, _, .nil => .nil
  | _, _, .cons h t => .cons (sqt_updL hp h) (TupsI.updL hp t)
theorem TupsI.length : ∀ {rs : List Addr} {L : List (List Int)}, TupsI K H rs L → rs.length = L.length
  | _, _, .nil => rfl
  | _, _, .cons _ t => congrArg (· + 1) (TupsI.length t)
theorem TupsI.app : ∀ {rs qs : List Addr} {L M : List (List Int)}, TupsI K H rs L → TupsI K H qs M → TupsI K H (rs ++ qs) (L ++ M)
  | _, _, _, _, .nil, s => s
  | _, _, _, _, .cons r t, s => .cons r (TupsI.app t s)
theorem tupsI_get {rs : List Addr} {L : List (List Int)} {i : Nat} {x : V} (hT : TupsI K H rs L) (h : (rs.map V.ref)[i]? = some x) : ∃ a t, x = .ref a ∧ rs[i]? = some a ∧ L[i]? = some t ∧ SqT K H a (iv t) := by
  obtain ⟨a, ha, rfl⟩ := ref_get h
  refine ⟨a, ?_⟩
  have key : ∀ {rs : List Addr} {L : List (List Int)} {i : Nat}, TupsI K H rs L → rs[i]? = some a → ∃ t, L[i]? = some t ∧ SqT K H a (iv t) := fun {rs L} => by
    induction rs generalizing L with
    | nil => intro i _ e; simp at e
    | cons r rs ih =>
      intro i hT e
      cases hT with
      | cons hh tt =>
        cases i with
        | zero =>
          have e2 : r = a := by simpa using e
          subst e2
          exact ⟨_, rfl, hh⟩
        | succ i =>
          obtain ⟨u, h1, h2⟩ := ih (i := i) tt (by simpa using e)
          exact ⟨u, by simpa using h1, h2⟩
  obtain ⟨t, h1, h2⟩ := key hT ha
  exact ⟨t, rfl, ha, h1, h2⟩
abbrev encI (t : List Int) : PyData := .tuple (t.map PyData.int)
theorem dp_tupI {a : Addr} {t : List Int} (h : SqT K H a (iv t)) : Dp K H (.ref a) (encI t) := .tup h (dp_ints t)
theorem dp_tupsI : ∀ {rs : List Addr} {L : List (List Int)}, TupsI K H rs L → DpAll K H (rs.map V.ref) (L.map encI)
  | _, _, .nil => .nil
  | _, _, .cons h t => .cons (dp_tupI h) (dp_tupsI t)
end
theorem can_tupsI : ∀ L : List (List Int), PyData.canLayAll0 (L.map encI) = true ∧ PyData.depthAll (L.map encI) ≤ 1
  | [] => by simp [PyData.canLayAll0, PyData.depthAll]
  | t :: L => by
    obtain ⟨h1, h2⟩ := can_tupsI L
    obtain ⟨h3, h4⟩ := can_ints t
    constructor
    · rw [List.map_cons, PyData.canLayAll0, h1, PyData.canLay0, h3]
      rfl
    · rw [List.map_cons, PyData.depthAll, PyData.depth, h4]
      omega
theorem shaped_tupsIT (L : List (List Int)) : SeqAt.shaped (.tuple (L.map encI)) = true := by
  obtain ⟨h1, h2⟩ := can_tupsI L
  simp [SeqAt.shaped, PyData.canLay0, PyData.depth, h1]
  omega
theorem shaped_tupsIL (L : List (List Int)) : SeqAt.shaped (.list (L.map encI)) = true := by
  obtain ⟨h1, h2⟩ := can_tupsI L
  simp [SeqAt.shaped, PyData.canLay0, PyData.depth, h1]
  omega
theorem eqvAll_ints : ∀ t u : List Int, PyData.eqvAll (t.map PyData.int) (u.map PyData.int) = decide (t = u)
  | [], [] => by simp [PyData.eqvAll]
  | [], _ :: _ => by simp [PyData.eqvAll]
  | _ :: _, [] => by simp [PyData.eqvAll]
  | a :: t, b :: u => by
    rw [List.map_cons, List.map_cons, PyData.eqvAll, eqvAll_ints t u]
    have e : PyData.eqv (.int a) (.int b) = decide (a = b) := by
      simp only [PyData.eqv]
      rfl
    rw [e, ← Bool.decide_and]
    exact decide_eq_decide.mpr ⟨fun h => by rw [h.1, h.2], fun h => by cases h; exact ⟨rfl, rfl⟩⟩
theorem eqv_tupIE (t u : List Int) : PyData.eqv (encI t) (encI u) = decide (t = u) := by
  simp only [PyData.eqv]
  exact eqvAll_ints t u
theorem eqv_tupsIT (L : List (List Int)) : PyData.eqv (.tuple (L.map encI)) (.tuple (L.map encI)) = true := SeqAt.eqv_refl _ (by
  simp only [PyData.canLay0]
  exact (can_tupsI L).1)
section
variable {K : PySem.W.Frag} {H H' : Hp}
/-! ### a comprehension over zip of two tuples -/
theorem lc_zipM {a b : Addr} {xs ys : List V} {g : TG} {tt : TT} {te : TE} {vs : List Nat} {σ : L2.St} {H1 : Hp} {D : Addr} {Qd : Hp → Prop} (n : Nat) (hn : n = min xs.length ys.length) (Pv : Nat → Hp → Prop) (h0 : Pv 0 (upd H1 D (.lst []))) (hq : ∀ i H, Pv i H → SqT K H a xs ∧ SqT K H b ys)
    (hs : ∀ (i : Nat) (x y : V) (T : Addr) (H : Hp), xs[i]? = some x → ys[i]? = some y → Pv i H → H T = none → lcTurn D g tt te vs σ (Pv (i + 1)) (.ref T) (upd H T (.tup [x, y]))) (hd : ∀ H, Pv n H → Qd H) :
    ∃ W : Nat → Nat → Hp → Prop, (∃ m, W 0 m (upd H1 D (.lst []))) ∧ ∀ i m H0, W i m H0 →
      ((ItzT K a b).stop i H0 ∧ Qd H0) ∨ ((ItzT K a b).go i H0 ∧ ∃ Nx : Hp → Prop, (∀ H', Nx H' → ∃ m', m' < m ∧ W (i + 1) m' H') ∧ ∀ v H', (ItzT K a b).yld i H0 v H' → lcTurn D g tt te vs σ Nx v H') := by
  refine ⟨fun i m H => i + m = n ∧ Pv i H, ⟨n, Nat.zero_add _, h0⟩, fun i m H0 hw => ?_⟩
  obtain ⟨em, pi⟩ := hw
  obtain ⟨ta, tb⟩ := hq i H0 pi
  cases m with
  | zero =>
    have ei : i = n := em
    subst ei
    exact .inl ⟨⟨xs, ys, ta, tb, by omega⟩, hd H0 pi⟩
  | succ m =>
    have i1 : i < xs.length := by omega
    have i2 : i < ys.length := by omega
    refine .inr ⟨⟨xs, ys, _, _, ta, tb, List.getElem?_eq_getElem i1, List.getElem?_eq_getElem i2⟩, Pv (i + 1), fun H' p => ⟨m, Nat.lt_succ_self m, by omega, p⟩, fun v H' out => ?_⟩
    obtain ⟨T, _, _, rfl, free, rfl, fx, fy⟩ := out
    exact hs i _ _ T H0 (fx xs ta) (fy ys tb) pi free
/-! ### pairs of ints -/
abbrev zbI (f : Int → Int → Bool) (t u : List Int) : List Bool := List.zipWith f t u
theorem zbI_get {f : Int → Int → Bool} {t u : List Int} {i : Nat} {n m : Int} (h1 : t[i]? = some n) (h2 : u[i]? = some m) : (zbI f t u)[i]? = some (f n m) := by
  rw [List.getElem?_zipWith, h1, h2]
theorem zbI_len {f : Int → Int → Bool} {t u : List Int} : (zbI f t u).length = min t.length u.length := List.length_zipWith
theorem cut_tailI (u : List Int) : cutV (iv u) (some 1) none = iv (u.drop 1) := by
  unfold cutV
  rw [show HT.sIx (iv u).length 0 (some 1) = min 1 (iv u).length from HT.sIx_nat _ _ 1, HT.sIx_none]
  cases u with
  | nil => rfl
  | cons a r =>
    show List.take _ (List.drop (min 1 (r.length.succ)) _) = _
    rw [iv_len]
    show List.take (r.length + 1 - min 1 (r.length + 1)) (List.drop (min 1 (r.length + 1)) (V.int _ :: iv r)) = iv r
    rw [show min 1 (r.length + 1) = 1 by omega]
    show List.take r.length (iv r) = iv r
    exact List.take_of_length_le (by rw [iv_len]; exact Nat.le_refl _)
theorem cut_toI (u : List Int) (k : Nat) (h : k ≤ u.length) : cutV (iv u) none (some (k : Int)) = iv (u.take k) := by
  rw [cut_to _ _ (by rw [iv_len]; exact h)]
  exact List.map_take.symm
theorem cut_fromI (u : List Int) (k : Nat) : cutV (iv u) (some (k : Int)) none = iv (u.drop k) := by
  unfold cutV
  rw [show HT.sIx (iv u).length 0 (some (k : Int)) = min k (iv u).length from HT.sIx_nat _ _ k, HT.sIx_none]
  by_cases h : k ≤ u.length
  · rw [iv_len, Nat.min_eq_left h, List.take_of_length_le (by rw [List.length_drop, iv_len]; exact Nat.le_refl _)]
    exact List.map_drop.symm
  · rw [iv_len, Nat.min_eq_right (by omega), Nat.sub_self, List.take_zero, List.drop_of_length_le (show u.length ≤ k by omega)]
    rfl
theorem cut_initI (u : List Int) : cutV (iv u) none (some (-1)) = iv (u.take (u.length - 1)) := by
  unfold cutV
  rw [HT.sIx_none, List.drop_zero, iv_len]
  show List.take _ _ = List.map _ _
  rw [List.map_take]
  congr 1
  show (if (-1 : Int) < 0 then ((-1 : Int) + ((u.length : Nat) : Int)).toNat else min (-1 : Int).toNat u.length) - 0 = _
  rw [if_pos (by decide)]
  omega
end
end Gv

namespace K60
open PySem PySem.Spec PyProof.Rows L2 RZ L5 XX LK M24 DT M38
section
variable {K : PySem.W.Frag} {H H' : Hp}
theorem ext_sqt {a : Addr} {xs : List V} (e : LamX.ExtN H H') (h : SqT K H a xs) : SqT K H' a xs := by
  rcases h with (h | ⟨o, h⟩) | h
  · exact .inl (.inl (e _ _ h fun _ z => nomatch z))
  · exact .inl (.inr ⟨o, e _ _ h fun _ z => nomatch z⟩)
  · exact .inr h
theorem ext_sql {a : Addr} {xs : List V} (e : LamX.ExtN H H') (h : SqL K H a xs) : SqL K H' a xs := by
  rcases h with (h | ⟨o, h⟩) | h
  · exact .inl (.inl (e _ _ h fun _ z => nomatch z))
  · exact .inl (.inr ⟨o, e _ _ h fun _ z => nomatch z⟩)
  · exact .inr h
theorem ext_of (s : Same H H') : LamX.ExtN H H' := .of s
end
/-! ### is_set, of any value -/
def ltO : Option Int → Option Int → Bool
  | some a, some b => decide (a < b)
  | _, _ => false
def zipO (os : List (Option Int)) : List Bool := List.zipWith ltO os (os.drop 1)
def setB (d : Option (List (Option Int))) (n : Int) : Bool := match d with
  | some os => (os.all fun o => inB o 0 (n - 1)) && (zipO os).all id
  | none => false
abbrev som (t : List Nat) : List (Option Int) := t.map fun n => some ((n : Nat) : Int)
theorem els_natM {K : PySem.W.Frag} {H : Hp} {m : Int} : ∀ {vs : List V} {os : List (Option Int)}, Els K H vs os → (os.all fun o => inB o 0 m) = true → ∃ u : List Nat, vs = nv u ∧ os = som u ∧ ∀ e ∈ u, ((e : Nat) : Int) ≤ m
  | _, _, .nil, _ => ⟨[], rfl, rfl, fun _ h => nomatch h⟩
  | _, _, .cons h t, ha => by
    rw [List.all_cons, Bool.and_eq_true] at ha
    obtain ⟨u, rfl, rfl, hu⟩ := els_natM t ha.2
    cases h with
    | int i =>
      have h1 : (decide ((0 : Int) ≤ i) && decide (i ≤ m)) = true := ha.1
      rw [Bool.and_eq_true] at h1
      have h2 := of_decide_eq_true h1.1
      have h3 := of_decide_eq_true h1.2
      refine ⟨i.toNat :: u, ?_, ?_, fun e he => ?_⟩
      · show _ = V.int _ :: nv u
        rw [show ((i.toNat : Nat) : Int) = i by omega]
      · show _ = some _ :: _
        rw [show ((i.toNat : Nat) : Int) = i by omega]
      · rcases List.mem_cons.mp he with rfl | he
        · omega
        · exact hu e he
    | bl b => cases ha.1
    | non => cases ha.1
    | str x => cases ha.1
    | tup h => cases ha.1
theorem zipO_asc : ∀ {t : List Nat}, (zipO (som t)).all id = true ↔ Asc t
  | [] => by simp [zipO, som]
  | [a] => by simp [zipO, som]
  | a :: b :: t => by
    have ih := zipO_asc (t := b :: t)
    have e : (zipO (som (a :: b :: t))) = decide (((a : Nat) : Int) < ((b : Nat) : Int)) :: zipO (som (b :: t)) := rfl
    rw [e, List.all_cons, Bool.and_eq_true, ih]
    show decide _ = true ∧ _ ↔ _
    rw [decide_eq_true_iff]
    constructor
    · rintro ⟨h1, h2⟩
      rw [Asc, List.pairwise_cons]
      refine ⟨fun x hx => ?_, h2⟩
      rcases List.mem_cons.mp hx with rfl | hx
      · omega
      · have := (List.pairwise_cons.mp h2).1 x hx
        omega
    · intro h
      rw [Asc, List.pairwise_cons] at h
      exact ⟨by have := h.1 b List.mem_cons_self; omega, h.2⟩
theorem setB_on {n : Nat} {t : List Nat} : setB (some (som t)) ((n : Nat) : Int) = true ↔ On n t := by
  show ((som t).all _ && (zipO (som t)).all id) = true ↔ _
  rw [Bool.and_eq_true, zipO_asc, List.all_eq_true]
  constructor
  · rintro ⟨h1, h2⟩
    refine ⟨h2, fun x hx => ?_⟩
    have h3 : (decide ((0 : Int) ≤ ((x : Nat) : Int)) && decide (((x : Nat) : Int) ≤ ((n : Nat) : Int) - 1)) = true := h1 _ (List.mem_map.mpr ⟨x, hx, rfl⟩)
    rw [Bool.and_eq_true] at h3
    have := of_decide_eq_true h3.2
    omega
  · intro h
    refine ⟨fun o ho => ?_, h.1⟩
    obtain ⟨x, hx, rfl⟩ := List.mem_map.mp ho
    have := h.2 x hx
    show (decide ((0 : Int) ≤ ((x : Nat) : Int)) && decide (((x : Nat) : Int) ≤ ((n : Nat) : Int) - 1)) = true
    rw [decide_eq_true (show (0 : Int) ≤ ((x : Nat) : Int) by omega), decide_eq_true (show ((x : Nat) : Int) ≤ ((n : Nat) : Int) - 1 by omega)]
    rfl
theorem zipN_get {t : List Nat} {i : Nat} {x y : Nat} (h1 : t[i]? = some x) (h2 : (t.drop 1)[i]? = some y) : (zipO (som t))[i]? = some (decide (((x : Nat) : Int) < ((y : Nat) : Int))) := by
  unfold zipO som
  rw [List.getElem?_zipWith, List.getElem?_map, h1, ← List.map_drop, List.getElem?_map, h2]
  rfl
section
variable {P : Program} {w : World} {K : PySem.W.Frag} {mg : Str → Option Value} {base : Heap}
def sp_isset (K : PySem.W.Frag) : Sp := fun vs H Q _ => ∃ v d, ∃ n : Int, vs = [v, .int n] ∧ Va K H v d ∧ ∀ H', Same H H' → Q (.bl (setB d n)) H'
theorem ok_isset (T : Txt K mg) : FnOk P w K mg base CX0 3 T.a_is_set T.d_is_set ["value", "many"] (sp_isset K) := by
  refine T.F_is_set.ok sc_is_set (fun vs H Q E h => ?_) (fun cdv A outer s H vs Q E hr h => ?_)
  · obtain ⟨v, d, n, rfl, _⟩ := h
    rfl
  · obtain ⟨v, d, n, rfl, hv, q⟩ := h
    refine ⟨_, (pss_cons (ps_if (PW.pt (pw_or (pt_not (pt_val (pe_callB call_isi (by rfl) T.z_isinstance boot_isinstance (pa_cons (pv 0) (pa_cons (pe_bltn (v := .ty "tuple") (by rfl) T.z_tuple boot_tuple rfl) pa_nil))))) (pw_or1 (pt_not (pt_val (pe_callB (cr_all rfl) (by rfl) T.z_all (by decide +kernel) (pa_cons (pe_lc (own := [("corner", 2)]) (g := gName 2) (tt := tYes) rfl sc_is_set.nd (pi_tup (pv 0)) (blkOk_by (own := [("corner", 2)]) (N := N_is_set) (sc := defScope s_is_set) (by decide +kernel)) (fun _ _ _ _ _ => (pg_name (i := 2) sc_is_set.nd rfl (Or.inl rfl))) (fun _ _ _ _ _ => pts_nil) (fun _ _ _ _ _ => (pe_call  (ok_within T) (hr.mono (by decide)) (by rfl) T.m_is_within T.F_is_within.kp T.b_is_within .nil pass0 (pa_cons (pv 2) (pa_cons pe_int (pa_cons (pe_op op_sub (pv 1) pe_int) pa_nil)))))) pa_nil))))))) (pss_one (ps_ret pe_bl)) pss_nil)
      (pss_one (ps_ret (pe_callB (cr_all rfl) (by rfl) T.z_all (by decide +kernel) (pa_cons (pe_lc (own := [("low", 3), ("high", 4)]) (g := gTup K 2 (gCons (gName 3) (gCons (gName 4) gNil))) (tt := tYes) rfl sc_is_set.nd (pi_zipA (by rfl) T.z_zip (pa_cons (pv 0) (pa_cons (pe_slice sl_tupB (pv 0) (po_some pe_int) po_none) pa_nil))) (blkOk_by (own := [("low", 3), ("high", 4)]) (N := N_is_set) (sc := defScope s_is_set) (by decide +kernel)) (fun _ _ _ _ _ => (pg_tup (by rfl) (pgs_cons (pg_name (i := 3) sc_is_set.nd rfl (Or.inl rfl)) (pgs_cons (pg_name (i := 4) sc_is_set.nd rfl (Or.inl rfl)) pgs_nil)))) (fun _ _ _ _ _ => pts_nil) (fun _ _ _ _ _ => (pe_cmpR op_lt (pv 3) (pv 4) (nomark _)))) pa_nil))))), ?_⟩
    obtain ⟨t, ty, et⟩ := hv.isi
    refine ⟨_, rfl, _, _, _, _, _, rfl, .ty _, ty, et, _, rfl, ?_⟩
    cases d with
    | none => exact iteT (q H (Same.refl H))
    | some os =>
      obtain ⟨p, xs, rfl, hT, hE, hz⟩ := hv.get
      have hlen := hE.length
      refine iteF ⟨_, rfl, p, rfl, ⟨_, hT⟩, fun D hD => ?_⟩
      have s1 : Same H (upd H D (.lst [])) := same_new hD _
      refine lc_tup (K := K) (a := p) (xs := xs) (fun i H' => Same H H' ∧ H' D = some (.lst (((os.take i).map fun o => inB o 0 (n - 1)).map V.bl))) ⟨s1, upd_same⟩ (fun i H' _ h => same_sqt h.1 hT) (fun i x H' hi h => ?_) (fun H' h => ?_)
      · obtain ⟨sm, eD⟩ := h
        obtain ⟨o, ho, hx⟩ := hE.get hi
        have hlt : i < xs.length := (List.getElem?_eq_some_iff.mp hi).1
        refine ⟨rfl, _, rfl, _, rfl, _, _, rfl, rfl, x, o, _, _, rfl, hx.same sm, ?_⟩
        refine ⟨_, eD, by rw [List.length_map, List.length_map, List.length_take]; exact sizeK (by omega), same_updL sm hD, ?_⟩
        rw [upd_same, take_more ho, List.map_append, List.map_append]
        rfl
      · obtain ⟨sm, eD⟩ := h
        rw [hlen, List.take_length] at eD
        refine ⟨D, _, rfl, SqL.of eD, ?_⟩
        cases ha : (os.map fun o => inB o 0 (n - 1)).all id with
        | false =>
          have e1 : setB (some os) n = false := by
            show (_ && _) = _
            rw [List.all_map] at ha
            rw [show (os.all fun o => inB o 0 (n - 1)) = false from ha]
            rfl
          rw [e1] at q
          exact ⟨_, rfl, iteT (q H' sm)⟩
        | true =>
          rw [List.all_map] at ha
          obtain ⟨u, rfl, rfl, hu⟩ := els_natM hE ha
          have e1 : setB (some (som u)) n = (zipO (som u)).all id := by
            show (_ && _) = _
            rw [show ((som u).all fun o => inB o 0 (n - 1)) = true from ha]
            rfl
          rw [e1] at q
          have hT' := same_sqt sm hT
          refine ⟨_, rfl, iteF ⟨_, rfl, _, rfl, _, rfl, p, _, rfl, hT', fun H2 z s2 hz2 => ?_⟩⟩
          have ec : cutV (nv u) (some 1) none = nv (u.drop 1) := by
            have := Gv.cut_fromI (u.map fun n => ((n : Nat) : Int)) 1
            have e2 : ∀ t : List Nat, Gv.iv (t.map fun n => ((n : Nat) : Int)) = nv t := fun t => by
              show (t.map _).map V.int = _
              rw [List.map_map]
              rfl
            rw [← List.map_drop, e2, e2] at this
            exact this
          rw [ec] at hz2
          refine ⟨p, z, nv u, nv (u.drop 1), rfl, .inr ⟨same_sqt s2 hT', hz2, fun D2 hD2 => ?_⟩⟩
          rw [nv_len] at hz hlen
          have s3 := same_new hD2 (.lst [])
          have zl : (zipO (som u)).length = min u.length (u.length - 1) := by
            unfold zipO som
            rw [List.length_zipWith, List.length_map, List.length_drop, List.length_map]
          refine Gv.lc_zipM (zipO (som u)).length (by rw [nv_len, nv_len, List.length_drop]; exact zl) (fun i H' => Same H2 H' ∧ H' D2 = some (.lst (((zipO (som u)).take i).map V.bl))) ⟨s3, upd_same⟩ (fun i H' hh => ⟨same_sqt (s2.trans hh.1) hT', same_sqt hh.1 hz2⟩) (fun i x y T' H4 hx hy hh hT4 => ?_) (fun H4 hh => ?_)
          · obtain ⟨s4, eD4⟩ := hh
            obtain ⟨a, ha', rfl⟩ := nv_get hx
            obtain ⟨b, hb', rfl⟩ := nv_get hy
            have s5 := same_new hT4 (.tup [V.int ((a : Nat) : Int), V.int ((b : Nat) : Int)])
            have st := zipN_get ha' hb'
            have hil : i < (zipO (som u)).length := (List.getElem?_eq_some_iff.mp st).1
            refine ⟨T', _, rfl, SqT.of upd_same, rfl, _, _, rfl, _, _, rfl, rfl, ?_⟩
            refine ⟨rfl, _, rfl, _, rfl, _, _, rfl, rfl, ?_⟩
            refine ⟨_, s5 _ _ eD4, by rw [List.length_map, List.length_take]; exact sizeK (by omega), same_updL (s4.trans s5) hD2, ?_⟩
            rw [upd_same, take_more st, List.map_append]
            rfl
          · obtain ⟨s4, eD4⟩ := hh
            rw [List.take_length] at eD4
            exact ⟨D2, _, rfl, SqL.of eD4, q _ (sm.trans (s2.trans s4))⟩
end
end K60

/-! enumerate of a tuple -/
namespace PySem
open Sem (wp)
open AutoSeq1 (wpAny_loadPart')
theorem meets_enumerate_newT (l : Addr) (items : Array Value) :
    Meets (Builtin.«enumerate.__new__» ⟨[.type "enumerate", .ref l], []⟩) (fun _ R s => s.heap.IsTuple l items ∧
      R (.ok (.ret (.ref (s.heap.push { cls := .type "tuple_iterator", data := .fields #[.ref l, .int 0 0] }).objs.size)))
        { s with heap := (s.heap.push { cls := .type "tuple_iterator", data := .fields #[.ref l, .int 0 0] }).push { cls := .type "enumerate", data := .fields #[.none, .bool false, .ref s.heap.objs.size, rawInt 0, .none, .none] } }) :=
  .of_wp fun prog w A R s h => by
    obtain ⟨hp, g, d, tk, os⟩ := s; obtain ⟨hl, h⟩ := h
    have hsub := sub_enumerate
    have q1 : ∀ {A' : Around} {E : Value → Shared → Prop} {Q : Value → Shared → Prop}, Q (.ref hp.objs.size) ⟨(hp.push { cls := .type "tuple_iterator", data := .fields #[.ref l, .int 0 0] }), g, d, tk, os⟩ → wpAny (model prog w) A' (pyIter (.ref l)) Q E ⟨hp, g, d, tk, os⟩ :=
      fun q => wpAny_pyIter_tuple hl q
    wp_walk using q1
    refine wpAny_stack_any fun st => wpAny_pure ?_
    split
    · rename_i c _ _ _ _ _
      cases (c == Value.type "enumerate")
      · wp_walk using q1
        exact ⟨_, rfl, h⟩
      · wp_walk using q1
        exact ⟨_, rfl, h⟩
    · wp_walk using q1
      exact ⟨_, rfl, h⟩
section
variable {prog : Program} {w : World} {A : Around} {E : Value → Shared → Prop} {s : Shared}
theorem call_enumerate_tuple {l : Addr} {items : Array Value} {Q : Value → Shared → Prop} (hL : s.heap.IsTuple l items)
    (h : ∀ h', IsEnum h' (s.heap.objs.size + 1) s.heap.objs.size 0 .none → h'.IsTupleIter s.heap.objs.size l 0 → h'.objs.size = s.heap.objs.size + 2 →
      (∀ b o, s.heap.get? b = some o → h'.get? b = some o) → Q (.ref (s.heap.objs.size + 1)) { s with heap := h' }) :
    wpAny (model prog w) A (call (.type "enumerate") [.ref l]) Q E s := by
  refine callType_new F.called_enumerate (by decide) (F.typeCall_enumerate_1 _) (F.newCall_enumerate_1 _) (fun obj => F.args_object_init_2 obj _) F.entry_enumerate_new
    (meets_enumerate_newT l items) ⟨hL, ?_⟩
  have hz : (s.heap.push { cls := .type "tuple_iterator", data := .fields #[.ref l, .int 0 0] }).objs.size = s.heap.objs.size + 1 := Heap.size_push ..
  show _ ∧ _
  rw [hz]
  have he : IsEnum ((s.heap.push { cls := .type "tuple_iterator", data := .fields #[.ref l, .int 0 0] }).push
      { cls := .type "enumerate", data := .fields #[.none, .bool false, .ref s.heap.objs.size, rawInt 0, .none, .none] }) (s.heap.objs.size + 1) s.heap.objs.size 0 .none := by
    have := Heap.get?_push_size (s.heap.push { cls := .type "tuple_iterator", data := .fields #[.ref l, .int 0 0] })
      (o := { cls := .type "enumerate", data := .fields #[.none, .bool false, .ref s.heap.objs.size, rawInt 0, .none, .none] }) rfl
    rw [hz] at this; exact this
  refine ⟨⟨_, he, rfl⟩, h _ he ⟨_, Heap.get?_push_of_some _ (Heap.get?_push_size _ rfl), rfl, rfl⟩ (by rw [Heap.size_push, hz]) fun b o x => Heap.get?_push_of_some _ (Heap.get?_push_of_some _ x)⟩
end
end PySem
namespace L2
open PySem PySem.Spec PyProof.Rows
/-- the tuple at a, each item in a new pair -/
def IteT (K : PySem.W.Frag) (a : Addr) : It :=
  ⟨fun i H => ∃ (xs : List V) (x : V), SqT K H a xs ∧ xs[i]? = some x, fun i H v H' => ∃ T x, v = .ref T ∧ H T = none ∧ H' = upd H T (.tup [.int (i : Nat), x]) ∧ ∀ xs, SqT K H a xs → xs[i]? = some x, fun i H => ∃ xs : List V, SqT K H a xs ∧ xs.length ≤ i⟩
theorem turn_enumT {P : Program} {w : World} {K : PySem.W.Frag} {elts : List Expr} {kk : Nat} {tpos : Pos} (a e it : Addr) :
    Turn P w K (.Tuple elts kk tpos) (IteT K a) [e, it] e (fun i h => (∃ old, IsEnum h e it ((i : Nat) : Int) old) ∧ h.IsTupleIter it a i ∧ e ≠ it ∧ a < it) where
  mem := by simp
  obj := fun i h st b hb => by
    obtain ⟨⟨old, he⟩, ⟨o, ho, hc, hd⟩, _⟩ := st
    have e' : b = e ∨ b = it := by simpa using hb
    rcases e' with z | z
    · rw [z]; exact ⟨_, he, fun v q => nomatch q⟩
    · rw [z]; exact ⟨o, ho, fun v q => by rw [hd] at q; cases q⟩
  keep := fun i h h' st k => let ⟨⟨old, he⟩, hi, hne⟩ := st; ⟨⟨old, k e (by simp) _ he⟩, hi.at fun o q => k it (by simp) o q, hne⟩
  item := by
    intro X hP hw hK hc i pins s σ H E I hf st hg
    subst hP hw hK
    obtain ⟨⟨old, he⟩, hit, hne, hlt⟩ := st
    obtain ⟨xs, x, hq, hx⟩ := hg
    obtain ⟨its, rv, p, hz⟩ := I.tuple hq
    obtain ⟨u, hu, ru⟩ := rv.get hx
    have hel : e < s.heap.objs.size := Heap.lt_size he
    have hil : it < s.heap.objs.size := by obtain ⟨_, q, _⟩ := hit; exact Heap.lt_size q
    have hai : a ≠ it := Nat.ne_of_lt hlt
    have hae : a ≠ e := fun z => by
      obtain ⟨o, ho, hc', _⟩ := p
      rw [z, he] at ho
      rw [← Option.some.inj ho] at hc'
      injection hc' with q
      exact absurd q (by decide)
    have hi : i < its.toArray.size := by
      rcases Nat.lt_or_ge i its.toArray.size with z | z
      · exact z
      · rw [List.getElem?_eq_none (by simpa using z)] at hu
        cases hu
    refine wpAny_pyNext_enum_itemD (Draws.tuple (show X.A.in1.handled = none from I.ok.hd hc) it a hai its.toArray) he ⟨hit, p⟩ hi hne (by simp [hne, Ne.symm hae]) fun x' h' tk hx' ho hst hT hsz hk => ?_
    have ex : x' = u := by
      have : its.toArray[i]? = some u := by simpa using hu
      rw [this] at hx'
      exact (Option.some.inj hx').symm
    subst ex
    refine ⟨_, rfl, wpAny_letOwnedTupleGo_enum (s := { s with heap := h', toks := tk + 1 }) ho fun h'' he' sb => ?_⟩
    have hT2 : h''.get? s.heap.objs.size = some { cls := .type "tuple", data := .seq #[.int i tk, x'] } := (sb.2 _ (Nat.ne_of_gt hel)).trans hT
    have new : ObjOk X.prog X.w (upd H s.heap.objs.size (.tup [.int (i : Nat), x])) h'' s.heap.objs.size (.tup [.int (i : Nat), x]) :=
      ⟨by show 2 ≤ sizeLine; decide, [.int i tk, x'], .cons ⟨_, rfl⟩ (.cons ru .nil), ⟨_, hT2, rfl, _, rfl⟩⟩
    have I1 : Inv X pins σ (upd H s.heap.objs.size (.tup [.int (i : Nat), x])) { s with heap := h'', toks := tk + 1 } :=
      I.turnedNew (ch := [e, it]) (fun b ob hb q => (sb.2 b (fun z => hb (by simp [z]))).trans (hk b ob (fun z => hb (by simp [z])) (fun z => hb (by simp [z])) q)) hf (Nat.le_refl _) new
    refine ⟨.ref s.heap.objs.size, _, I1, rfl, ⟨_, x, rfl, I.hok.fresh (Nat.le_refl _), rfl, fun ys hy => by rw [I.tuple_inj hy hq]; exact hx⟩, ⟨⟨x', ?_⟩, hst.1.at fun o q => (sb.2 it (Ne.symm hne)).trans q, hne, hlt⟩, fun b hb => ?_⟩
    · have e1 : ((i + 1 : Nat) : Int) = (i : Int) + 1 := by omega
      rw [e1]; exact he'
    · have hb' : b < s.heap.objs.size := by
        have e' : b = e ∨ b = it := by simpa using hb
        rcases e' with z | z
        · rw [z]; exact hel
        · rw [z]; exact hil
      rw [upd_ne (Nat.ne_of_lt hb')]
      exact (hf b hb).1
  done := by
    intro X hP hw hK hc i pins s σ H E I hf st hg
    subst hP hw hK
    obtain ⟨⟨old, he⟩, hit, hne, hlt⟩ := st
    obtain ⟨xs, hq, hx⟩ := hg
    obtain ⟨its, rv, p, hz⟩ := I.tuple hq
    obtain ⟨f0, f1, f2, f3, f4, f5⟩ := hf it (by simp)
    have hl := rv.length
    have hd : X.A.handled = none := I.ok.hd hc
    have hx' : its.toArray[i]? = none := by simp; omega
    have hT : s.TypeIs (.ref e) "enumerate" := ⟨_, he, rfl⟩
    unfold pyNext
    refine wpAny_bind (wpAny_attempt (wpAny_callSpecial?_slot (name := Str.ofString "__next__") hT F.slot_enumerate_next
      (wpAny_call_entry F.slot_enumerate_next hT F.entry_enumerate_next ?_ (F.args_enumerate_next_1 _))))
    show wpAny _ _ (field (.ref e) 2 >>= _) _ _ _
    refine wpAny_bind (wpAny_field he rfl (x := .ref it) rfl ?_)
    refine wpAny_bind (wpAny_nextOf_tuple_end hd hit p hx' fun h' x he' hx2 => ?_)
    obtain ⟨o, ho, hc2⟩ := hx2
    refine wpAny_bind (wpAny_isInstance (T := "StopIteration") (b := true) ⟨o, ho, hc2⟩ isSubtype_stop ?_)
    exact wpAny_pure ⟨rfl, I.turned (t' := s.toks) (fun b o hb q => he' b o hb q) f0 f1 f3 f4 f5⟩
  self := fun A i s Q E st h => let ⟨⟨_, he⟩, _⟩ := st; wpAny_pyIter_enum he h
def iEnumT (K : PySem.W.Frag) (ta : TA) : TI := fun σ H R => ta σ H fun vs H1 => ∃ a xs, vs = [.ref a] ∧ SqT K H1 a xs ∧ R (IteT K a) H1
theorem pi_enumT {X : Cx} {e : Expr} {ta : TA} {p pos tpos : Pos} {elts : List Expr} {kk : Nat} (hg : Gl X "enumerate") (hm : X.mg "enumerate" = none) (ha : PA X [e] ta) (hs : starEach [e] X.env = [(false, eval e X.env)] := by rfl) :
    PI X (.Tuple elts kk tpos) (.Call (.Name "enumerate" p) [e] [] pos) (iEnumT X.K ta) := by
  refine ⟨fun pins s σ H R I h => ?_⟩
  refine Call_ (ld_blt I hg hm boot_enumerate (PyProof.Rows.callWith_type1 (thn (ha.run pos pins s σ H _ I h) fun us s1 ⟨vs, H1, I1, r1, q1⟩ => ?_) hs rfl))
  obtain ⟨a, xs, ex, hq, q⟩ := q1
  subst ex
  cases r1 with
  | cons r rr =>
    cases rr
    cases r
    obtain ⟨its, rv, p', hz⟩ := I1.tuple hq
    have hlt : a < s1.heap.objs.size := by obtain ⟨o, ho, _⟩ := id p'; exact Heap.lt_size ho
    refine call_enumerate_tuple p' fun h' he hit hsz hk => wpAny_pyIter_enum he ?_
    have I2 : Inv X pins σ H1 { s1 with heap := h' } := I1.kept (t' := s1.toks) hk
    refine ⟨s1.heap.objs.size + 1, [s1.heap.objs.size + 1, s1.heap.objs.size], _, _, H1, rfl, I2, turn_enumT a (s1.heap.objs.size + 1) s1.heap.objs.size, ⟨⟨.none, he⟩, hit, Nat.succ_ne_self _, hlt⟩, fun b hb => ?_, q⟩
    have e' : b = s1.heap.objs.size + 1 ∨ b = s1.heap.objs.size := by simpa using hb
    have hle : s1.heap.objs.size ≤ b := by
      rcases e' with z | z
      · rw [z]; exact Nat.le_add_right _ _
      · rw [z]; exact Nat.le_refl _
    exact I1.fpOk hle (I1.hok.fresh hle)
end L2

/-! list(enumerate(t)), t a tuple -/
namespace LE
open PySem PySem.W PySem.Spec PyProof.Rows PySem.Calls L2
/-- the enumerate at e: its own pair was handed out, or there is none -/
def ES (h : Heap) (e it : Addr) (i : Int) : Prop := ∃ f0 f1 old, h.get? e = some { cls := .type "enumerate", dict := none, data := .fields #[f0, f1, .ref it, rawInt i, .none, old], slots := #[] } ∧ (f0 = .none ∨ ∃ (a : Addr) (ob : Obj), f0 = rawInt a ∧ h.get? a = some ob ∧ a ≠ e ∧ a ≠ it)
theorem ES.ty {s : Shared} {e it : Addr} {i : Int} (h : ES s.heap e it i) : s.TypeIs (.ref e) "enumerate" := by
  obtain ⟨f0, f1, old, he, _⟩ := h
  exact ⟨_, he, rfl⟩
theorem ES.new {h : Heap} {e it : Addr} (he : IsEnum h e it 0 .none) : ES h e it 0 := ⟨_, _, _, he, .inl rfl⟩
theorem ES.kept {h h' : Heap} {e it : Addr} {i : Int} (k : ∀ b o, h.get? b = some o → h'.get? b = some o) : ES h e it i → ES h' e it i := fun ⟨f0, f1, old, he, c⟩ => by
  refine ⟨f0, f1, old, k _ _ he, ?_⟩
  rcases c with c | ⟨a, ob, c1, c2, c3⟩
  · exact .inl c
  · exact .inr ⟨a, ob, c1, k _ _ c2, c3⟩
theorem ES.but {S : Addr} {h h' : Heap} {e it : Addr} {i : Int} (nS : e ≠ S) (hS : ∃ ob, h'.get? S = some ob) (k : ∀ b o, b ≠ S → h.get? b = some o → h'.get? b = some o) : ES h e it i → ES h' e it i := fun ⟨f0, f1, old, he, c⟩ => by
  refine ⟨f0, f1, old, k _ _ nS he, ?_⟩
  rcases c with c | ⟨a, ob, c1, c2, c3⟩
  · exact .inl c
  · by_cases z : a = S
    · obtain ⟨o2, h2⟩ := hS
      exact .inr ⟨a, o2, c1, by rw [z]; exact h2, c3⟩
    · exact .inr ⟨a, ob, c1, k _ _ z c2, c3⟩
theorem no_len : typeLookup (.type "enumerate") "__len__" = pure none := by
  rw [typeLookup_type, builtinLookup_eq_fast]
  kernel_rfl
theorem no_hint : typeLookup (.type "enumerate") "__length_hint__" = pure none := by
  rw [typeLookup_type, builtinLookup_eq_fast]
  kernel_rfl
section
variable {prog : Program} {w : World} {A : Around} {E : Value → Shared → Prop} {s : Shared}
theorem next_es {e it l : Addr} {i : Nat} {items : Array Value} {x : Value} {Q : Option Value → Shared → Prop} (hh : A.in1.handled = none) (lit : l ≠ it) (hes : ES s.heap e it ((i : Nat) : Int)) (hit : s.heap.IsTupleIter it l i) (hl : s.heap.IsTuple l items) (hx : items[i]? = some x) (nei : e ≠ it) (lie : l ≠ e)
    (hQ : ∀ h' tk, ES h' e it (((i + 1 : Nat)) : Int) → h'.IsTupleIter it l (i + 1) → h'.get? s.heap.objs.size = some { cls := .type "tuple", data := .seq #[.int i tk, x] } → h'.objs.size = s.heap.objs.size + 1 →
      (∀ b o, b ≠ e → b ≠ it → s.heap.get? b = some o → h'.get? b = some o) → Q (some (.ref s.heap.objs.size)) { s with heap := h', toks := tk + 1 }) : wpAny (model prog w) A (pyNext (.ref e)) Q E s := by
  have ty := hes.ty
  unfold pyNext
  refine wpAny_bind (wpAny_attempt (wpAny_callSpecial?_slot (name := Str.ofString "__next__") ty F.slot_enumerate_next (wpAny_call_entry F.slot_enumerate_next ty F.entry_enumerate_next ?_ (F.args_enumerate_next_1 _))))
  obtain ⟨f0, f1, old, he, cf⟩ := hes
  obtain ⟨h0, gs, dr, tk0, os⟩ := s
  have D := Draws.tuple (prog := prog) (w := w) hh it l lit items
  have lt : i < items.size := (Array.getElem?_eq_some_iff.mp hx).1
  show wpAny _ _ (field (.ref e) 2 >>= _) _ _ ⟨h0, gs, dr, tk0, os⟩
  refine wpAny_bind (wpAny_field he rfl (x := .ref it) rfl ?_)
  refine wpAny_bind (D.item i _ _ _ lt ⟨hit, hl⟩ fun y h1 tk hy st1 sb1 => ?_)
  have ey : y = x := Option.some.inj (hy.symm.trans hx)
  subst ey
  have sb1' : Heap.SameBut it h0 h1 := sb1
  have he1 := (sb1'.2 e nei).trans he
  show wpAny _ _ (field (.ref e) 3 >>= _) _ _ ⟨h1, gs, dr, tk, os⟩
  refine wpAny_bind (wpAny_field he1 rfl (x := rawInt i) rfl ?_)
  show wpAny _ _ (field (.ref e) 4 >>= _) _ _ ⟨h1, gs, dr, tk, os⟩
  refine wpAny_bind (wpAny_field he1 rfl (x := .none) rfl ?_)
  show wpAny _ _ (mkInt i >>= _) _ _ ⟨h1, gs, dr, tk, os⟩
  refine wpAny_bind (wpAny_mkInt ?_)
  show wpAny _ _ (setField (.ref e) 3 (rawInt (((i : Nat) : Int) + 1)) >>= _) _ _ ⟨h1, gs, dr, tk + 1, os⟩
  refine wpAny_bind (wpAny_setField_rec he1 (by simp) fun h2 he2 sb2 => ?_)
  have sb2' : Heap.SameBut e h1 h2 := sb2
  show wpAny _ _ (setField (.ref e) 4 .none >>= _) _ _ ⟨h2, gs, dr, tk + 1, os⟩
  refine wpAny_bind (wpAny_setField_rec he2 (by simp) fun h3 he3 sb3 => ?_)
  have sb3' : Heap.SameBut e h2 h3 := sb3
  have he3' : h3.get? e = some { cls := .type "enumerate", dict := none, data := .fields #[f0, f1, .ref it, rawInt (((i : Nat) : Int) + 1), .none, old], slots := #[] } := he3
  show wpAny _ _ (newTuple [.int i tk, y] >>= _) _ _ ⟨h3, gs, dr, tk + 1, os⟩
  refine wpAny_bind (wpAny_newTuple ?_)
  have z3 : h3.objs.size = h0.objs.size := by rw [sb3'.1, sb2'.1, sb1'.1]
  have le : e < h0.objs.size := Heap.lt_size he
  generalize e4 : h3.push { cls := .type "tuple", data := .seq #[.int i tk, y] } = h4
  have he4 : h4.get? e = some { cls := .type "enumerate", dict := none, data := .fields #[f0, f1, .ref it, rawInt (((i : Nat) : Int) + 1), .none, old], slots := #[] } := by rw [← e4]; exact Heap.get?_push_of_some _ he3'
  have t4 : h4.get? h0.objs.size = some { cls := .type "tuple", data := .seq #[.int i tk, y] } := by rw [← e4, ← z3]; exact Heap.get?_push_size _ rfl
  have z4 : h4.objs.size = h0.objs.size + 1 := by rw [← e4, Heap.size_push, z3]
  have st1' : h1.IsTupleIter it l (i + 1) := st1.1
  have up : ∀ b o, b ≠ e → h1.get? b = some o → h4.get? b = some o := fun b o nb hb => by
    rw [← e4]
    exact Heap.get?_push_of_some _ (sb3'.extBut b o nb (sb2'.extBut b o nb hb))
  have k4 : ∀ b o, b ≠ e → b ≠ it → h0.get? b = some o → h4.get? b = some o := fun b o n1 n2 hb => up b o n1 (sb1'.extBut b o n2 hb)
  have it4 : h4.IsTupleIter it l (i + 1) := st1'.at fun o q => up it o (Ne.symm nei) q
  have e1 : (((i + 1 : Nat)) : Int) = ((i : Nat) : Int) + 1 := by omega
  show wpAny _ _ (Builtin.SmallTypes.ownedTupleIsFree (.ref e) >>= _) _ _ ⟨h4, gs, dr, tk + 1, os⟩
  rw [z3]
  have nt : h0.objs.size ≠ e := Nat.ne_of_gt le
  have nti : h0.objs.size ≠ it := by
    obtain ⟨o, ho, _⟩ := hit
    exact Nat.ne_of_gt (Heap.lt_size ho)
  refine wpAny_bind ?_
  unfold Builtin.SmallTypes.ownedTupleIsFree
  rcases cf with rfl | ⟨a, ob, rfl, ha, nae, nai⟩
  · refine wpAny_bind (wpAny_field he4 rfl (x := .none) rfl (wpAny_pure ?_))
    simp only [if_true]
    refine wpAny_bind (wpAny_rule ?_)
    refine wpAny_bind (wpAny_field he4 rfl (x := old) rfl ?_)
    refine wpAny_bind (wpAny_setField_rec he4 (by simp) fun h5 he5 sb5 => ?_)
    have sb5' : Heap.SameBut e h4 h5 := sb5
    show wpAny _ _ (Builtin.SmallTypes.ownedTupleHandOut (.ref e) (.ref h0.objs.size) >>= _) _ _ ⟨h5, gs, dr, tk + 1, os⟩
    refine wpAny_bind ?_
    unfold Builtin.SmallTypes.ownedTupleHandOut
    refine wpAny_bind (wpAny_setField_rec he5 (by simp) fun h6 he6 sb6 => ?_)
    have sb6' : Heap.SameBut e h5 h6 := sb6
    refine wpAny_setField_rec he6 (by simp) fun h7 he7 sb7 => ?_
    have sb7' : Heap.SameBut e h6 h7 := sb7
    have u7 : ∀ b o, b ≠ e → h4.get? b = some o → h7.get? b = some o := fun b o nb hb => sb7'.extBut b o nb (sb6'.extBut b o nb (sb5'.extBut b o nb hb))
    have t7 := u7 _ _ nt t4
    refine wpAny_bind (wpAny_letGo (wpAny_pure ⟨_, rfl, wpAny_pure (hQ h7 tk ?_ (it4.at fun o q => u7 it o (Ne.symm nei) q) t7 ?_ fun b o n1 n2 hb => u7 b o n1 (k4 b o n1 n2 hb))⟩))
    · rw [e1]
      exact ⟨_, _, _, he7, .inr ⟨h0.objs.size, _, rfl, t7, nt, nti⟩⟩
    · show h7.objs.size = _
      rw [sb7'.1, sb6'.1, sb5'.1, z4]
  · refine wpAny_bind (wpAny_field he4 rfl (x := rawInt a) rfl ?_)
    show wpAny _ _ (loadIfAlive ((a : Int).toNat) >>= _) _ _ _
    rw [Int.toNat_natCast]
    have ha4 := k4 a ob nae nai ha
    refine wpAny_bind (kdx_alive ha4 ?_)
    simp only [Option.isNone_some, Bool.false_eq_true, if_false]
    refine wpAny_bind (wpAny_field he4 rfl (x := f1) rfl ?_)
    by_cases c : (f1 != Value.bool true) = true
    · rw [if_pos c]
      refine wpAny_bind (wpAny_setField_rec he4 (by simp) fun h5 he5 sb5 => ?_)
      have sb5' : Heap.SameBut e h4 h5 := sb5
      have u5 : ∀ b o, b ≠ e → h4.get? b = some o → h5.get? b = some o := fun b o nb hb => sb5'.extBut b o nb hb
      refine wpAny_pure ?_
      simp only [Bool.false_eq_true, if_false]
      refine wpAny_pure ⟨_, rfl, wpAny_pure (hQ h5 tk ?_ (it4.at fun o q => u5 it o (Ne.symm nei) q) (u5 _ _ nt t4) ?_ fun b o n1 n2 hb => u5 b o n1 (k4 b o n1 n2 hb))⟩
      · rw [e1]
        exact ⟨_, _, _, he5, .inr ⟨a, ob, rfl, u5 _ _ nae ha4, nae, nai⟩⟩
      · show h5.objs.size = _
        rw [sb5'.1, z4]
    · rw [if_neg c]
      refine wpAny_pure ?_
      simp only [Bool.false_eq_true, if_false]
      refine wpAny_pure ⟨_, rfl, wpAny_pure (hQ h4 tk ?_ it4 t4 z4 k4)⟩
      rw [e1]
      exact ⟨_, _, _, he4, .inr ⟨a, ob, rfl, ha4, nae, nai⟩⟩
/-- the pairs that were taken -/
def Pairs (h : Heap) (items : Array Value) (S e it : Addr) (acc : Array Value) (i : Nat) : Prop := acc.size = i ∧ ∀ j, j < i → ∃ (t : Addr) (tk : Nat) (x : Value), acc[j]? = some (.ref t) ∧ items[j]? = some x ∧ h.get? t = some { cls := .type "tuple", data := .seq #[.int ((j : Nat) : Int) tk, x] } ∧ S < t ∧ t ≠ e ∧ t ≠ it
theorem Pairs.keep {h h' : Heap} {items : Array Value} {S e it : Addr} {acc : Array Value} {i : Nat} (k : ∀ b o, b ≠ S → b ≠ e → b ≠ it → h.get? b = some o → h'.get? b = some o) : Pairs h items S e it acc i → Pairs h' items S e it acc i := fun ⟨z, p⟩ => ⟨z, fun j hj => by
  obtain ⟨t, tk, x, a, b, c, d, f, g⟩ := p j hj
  exact ⟨t, tk, x, a, b, k t _ (Nat.ne_of_gt d) f g c, d, f, g⟩⟩
theorem end_es {e it l : Addr} {items : Array Value} {Q : Option Value → Shared → Prop} (hh : A.in1.handled = none) (lit : l ≠ it) (hes : ES s.heap e it ((items.size : Nat) : Int)) (hit : s.heap.IsTupleIter it l items.size) (hl : s.heap.IsTuple l items)
    (hQ : ∀ h', (∀ b o, b ≠ it → s.heap.get? b = some o → h'.get? b = some o) → Q none { s with heap := h' }) : wpAny (model prog w) A (pyNext (.ref e)) Q E s := by
  have ty := hes.ty
  unfold pyNext
  refine wpAny_bind (wpAny_attempt (wpAny_callSpecial?_slot (name := Str.ofString "__next__") ty F.slot_enumerate_next (wpAny_call_entry F.slot_enumerate_next ty F.entry_enumerate_next ?_ (F.args_enumerate_next_1 _))))
  obtain ⟨f0, f1, old, he, cf⟩ := hes
  have D := Draws.tuple (prog := prog) (w := w) hh it l lit items
  show wpAny _ _ (field (.ref e) 2 >>= _) _ _ s
  refine wpAny_bind (wpAny_field he rfl (x := .ref it) rfl ?_)
  refine wpAny_bind (D.done _ _ _ ⟨hit, hl⟩ fun h' x he' hx' => ?_)
  obtain ⟨o, ho, hc⟩ := hx'
  refine wpAny_bind (wpAny_isInstance (T := "StopIteration") (b := true) ⟨o, ho, hc⟩ isSubtype_stop ?_)
  exact wpAny_pure (hQ h' he')
theorem loop_es {R : Result → Shared → Prop} {S e it l : Addr} {items : Array Value} {g : Array GenState} {d : Drawn} {os : OsState} (res : Value) (hh : A.in1.in1.handled = none) (lit : l ≠ it) (lie : l ≠ e) (nei : e ≠ it) (nS : S ≠ e ∧ S ≠ it ∧ S ≠ l) (hn : items.size ≤ sizeLine) :
    ∀ (k i : Nat) (h : Heap) (tk : Nat) (acc : Array Value) (c : Nat), items.size - i = k → i ≤ items.size → ES h e it ((i : Nat) : Int) → h.IsTupleIter it l i → h.IsTuple l items → h.get? S = some { cls := .type "list", dict := none, data := .seq acc c, slots := #[] } → Pairs h items S e it acc i →
    (∀ h' tk' acc' c', (∀ b o, b ≠ S → b ≠ e → b ≠ it → h.get? b = some o → h'.get? b = some o) → h'.get? S = some { cls := .type "list", dict := none, data := .seq acc' c', slots := #[] } → Pairs h' items S e it acc' items.size → R (.ok (.ret res)) ⟨h', g, d, tk', os⟩) →
    codeAny (model prog w) A (.builtin "list.extend.loop" ⟨[.ref S, .ref e, res], []⟩) R ⟨h, g, d, tk, os⟩ := by
  intro k
  induction k with
  | zero =>
    intro i h tk acc c hk hi hes hit hl hS hp hR
    obtain rfl : i = items.size := by omega
    refine codeAny_builtin F.entry_extend_loop ?_
    rw [Around.under_plainId F.plain_extend_loop _]
    show wpAny _ A.in1 (pyNext (.ref e) >>= _) _ _ _
    refine wpAny_bind (end_es (A := A.in1) hh lit hes hit hl fun h' hk' => ?_)
    exact wpAny_pure (hR h' tk acc c (fun b o _ _ n q => hk' b o n q) (hk' S _ nS.2.1 hS) (hp.keep fun b o _ _ n q => hk' b o n q))
  | succ k ih =>
    intro i h tk acc c hk hi hes hit hl hS hp hR
    have lt : i < items.size := by omega
    have hx : items[i]? = some items[i] := Array.getElem?_eq_getElem lt
    refine codeAny_builtin F.entry_extend_loop ?_
    rw [Around.under_plainId F.plain_extend_loop _]
    show wpAny _ A.in1 (pyNext (.ref e) >>= _) _ _ _
    refine wpAny_bind (next_es (A := A.in1) hh lit hes hit hl hx nei lie fun h1 tk1 hes1 hit1 t1 z1 k1 => ?_)
    have t1' : h1.get? h.objs.size = some { cls := .type "tuple", data := .seq #[.int ((i : Nat) : Int) tk1, items[i]] } := t1
    have hS1 := k1 S _ nS.1 nS.2.1 hS
    have lS := Heap.lt_size hS
    have le : e < h.objs.size := by
      obtain ⟨_, _, _, q, _⟩ := hes
      exact Heap.lt_size q
    have li : it < h.objs.size := by
      obtain ⟨_, q, _⟩ := hit
      exact Heap.lt_size q
    show wpAny _ A.in1 (updateSeq S (·.push (.ref h.objs.size)) >>= _) _ _ _
    have hz := hp.1
    refine wpAny_bind (wpAny_updateSeq hS1 rfl (wpAny_pure ⟨plainId_quiet F.plain_extend_loop _, ?_⟩) (by rw [hz]; omega) (by show (acc.push (.ref h.objs.size)).size ≤ sizeLine + 1; rw [Array.size_push, hz]; omega))
    have hS2 := Heap.get?_update_self (Obj.mapSeq (·.push (.ref h.objs.size))) hS1 rfl
    have oth : ∀ b o, b ≠ S → h1.get? b = some o → (h1.update S (Obj.mapSeq (·.push (.ref h.objs.size)))).get? b = some o := fun b o nb q => (Heap.get?_update_other _ _ (Ne.symm nb)).trans q
    have hS2' : (h1.update S (Obj.mapSeq (·.push (.ref h.objs.size)))).get? S = some { cls := .type "list", dict := none, data := .seq (acc.push (.ref h.objs.size)) _, slots := #[] } := hS2
    have nT : h.objs.size ≠ S ∧ h.objs.size ≠ e ∧ h.objs.size ≠ it := ⟨Nat.ne_of_gt lS, Nat.ne_of_gt le, Nat.ne_of_gt li⟩
    refine ih (i + 1) _ _ (acc.push (.ref h.objs.size)) _ (by omega) lt (ES.but nS.1.symm ⟨_, hS2⟩ oth hes1) (hit1.at fun o q => oth it o (Ne.symm nS.2.1) q) ?_ hS2' ⟨by rw [Array.size_push, hz], fun j hj => ?_⟩ fun h' tk' acc' c' k' hS' hp' => ?_
    · obtain ⟨o, q1, q2⟩ := hl
      exact ⟨o, oth l o (Ne.symm nS.2.2) (k1 l o lie lit q1), q2⟩
    · rcases Nat.lt_or_ge j i with lj | gj
      · obtain ⟨t, tk2, x, a, b, q, n1, n2, n3⟩ := hp.2 j lj
        refine ⟨t, tk2, x, ?_, b, oth t _ (Nat.ne_of_gt n1) (k1 t _ n2 n3 q), n1, n2, n3⟩
        rw [Array.getElem?_push_lt (by omega)]
        rw [Array.getElem?_eq_getElem (by omega)] at a
        exact a
      · obtain rfl : j = i := by omega
        refine ⟨h.objs.size, tk1, items[j], ?_, hx, oth _ _ nT.1 t1', lS, nT.2⟩
        rw [← hz]
        exact Array.getElem?_push_size
    · exact hR h' tk' acc' c' (fun b o n1 n2 n3 q => k' b o n1 n2 n3 (oth b o n1 (k1 b o n2 n3 q))) hS' hp'
/-- list of the enumerate at e -/
theorem list_es {Q : Value → Shared → Prop} {e it l : Addr} {items : Array Value} (hh : A.in1.in1.in1.handled = none) (lit : l ≠ it) (lie : l ≠ e) (nei : e ≠ it) (hes : IsEnum s.heap e it 0 .none) (hit : s.heap.IsTupleIter it l 0) (hl : s.heap.IsTuple l items) (hn : items.size ≤ sizeLine)
    (hQ : ∀ h' tk acc c S, S = s.heap.objs.size → (∀ b o, b ≠ e → b ≠ it → s.heap.get? b = some o → h'.get? b = some o) → h'.get? S = some { cls := .type "list", dict := none, data := .seq acc c, slots := #[] } → Pairs h' items S e it acc items.size → Q (.ref S) { s with heap := h', toks := tk }) :
    wpAny (model prog w) A (call (.type "list") [.ref e]) Q E s := by
  obtain ⟨h, g, d, tk, os⟩ := s
  refine callType_codes (Q₁ := fun obj s₁ => obj = .ref h.objs.size ∧ s₁ = ⟨h.push { cls := .type "list", data := .seq #[] }, g, d, tk, os⟩) PySem.F.called_list (PySem.F.typeCall_list_1 _) PySem.F.entry_list_init (code_list_new _ ⟨rfl, rfl⟩) fun obj s₁ h₁ => ?_
  obtain ⟨rfl, rfl⟩ := h₁
  have hS : (h.push { cls := .type "list", data := .seq #[] }).get? h.objs.size = some { cls := .type "list", data := .seq #[] } := Heap.get?_push_size _ rfl
  have up : ∀ b o, h.get? b = some o → (h.push { cls := .type "list", data := .seq #[] }).get? b = some o := fun b o q => Heap.get?_push_of_some _ q
  refine ⟨⟨_, hS, rfl⟩, PySem.F.args_list_init_2 _ _, ?_⟩
  have le : e < h.objs.size := Heap.lt_size hes
  have li : it < h.objs.size := by
    obtain ⟨_, q, _⟩ := hit
    exact Heap.lt_size q
  have ll : l < h.objs.size := by
    obtain ⟨_, q, _⟩ := hl
    exact Heap.lt_size q
  have nS : h.objs.size ≠ e ∧ h.objs.size ≠ it ∧ h.objs.size ≠ l := ⟨Nat.ne_of_gt le, Nat.ne_of_gt li, Nat.ne_of_gt ll⟩
  generalize h.push { cls := .type "list", data := .seq #[] } = h1 at hS up ⊢
  have he1 := up _ _ hes
  have hit1 : h1.IsTupleIter it l 0 := hit.at fun o q => up it o q
  have hl1 : h1.IsTuple l items := by
    obtain ⟨o, q1, q2⟩ := hl
    exact ⟨o, up l o q1, q2⟩
  generalize hS0 : h.objs.size = S at hS nS hQ ⊢
  show wpAny _ _ (do let old ← Builtin.List.listItems (.ref S); Builtin.List.listUpdate (.ref S) (fun _ => #[]); letGo old.toList.reverse; Builtin.List.listExtendWith (.ref S) (.ref e) .none) _ _ ⟨h1, g, d, tk, os⟩
  refine wpAny_bind ?_
  unfold Builtin.List.listItems
  refine wpAny_bind (wpAny_seqItems hS rfl (wpAny_pure ?_))
  show wpAny _ _ (updateSeq S (fun _ => #[]) >>= fun _ => letGo (#[] : Array Value).toList.reverse >>= fun _ => Builtin.List.listExtendWith (.ref S) (.ref e) .none) _ _ ⟨h1, g, d, tk, os⟩
  refine wpAny_bind (wpAny_updateSeq hS rfl ?_)
  have hS2 := Heap.get?_update_self (Obj.mapSeq (fun _ => (#[] : Array Value))) hS rfl
  have o2 : ∀ b o, b ≠ S → h1.get? b = some o → (h1.update S (Obj.mapSeq (fun _ => (#[] : Array Value)))).get? b = some o := fun b o nb q => (Heap.get?_update_other _ _ (Ne.symm nb)).trans q
  generalize h1.update S (Obj.mapSeq (fun _ => (#[] : Array Value))) = h2 at hS2 o2 ⊢
  refine wpAny_bind (wpAny_letGo ?_)
  unfold Builtin.List.listExtendWith
  have he2 := o2 _ _ nS.1.symm he1
  refine wpAny_bind (wpAny_typeOf (T := "enumerate") ⟨_, he2, rfl⟩ ?_)
  have q1 : Builtin.List.listSameRef (.ref S) (.ref e) = false := by simp [Builtin.List.listSameRef, nS.1]
  have q2 : (Value.type "enumerate" == Value.type "list") = false := by decide
  have q3 : (Value.type "enumerate" == Value.type "tuple") = false := by decide
  simp only [q1, q2, q3, Bool.or_false, Bool.false_eq_true, if_false]
  refine wpAny_bind (wpAny_pyIter_enum (s := ⟨h2, g, d, tk, os⟩) he2 ?_)
  refine wpAny_bind (wpAny_holding ?_)
  unfold Builtin.List.listLengthHint
  refine wpAny_bind (wpAny_specialOf (T := "enumerate") (s := ⟨h2, g, d, tk, os⟩) ⟨_, he2, rfl⟩ no_len ?_)
  show wpAny _ _ (specialOf (Value.ref e) (Str.ofString "__length_hint__") >>= _) _ _ _
  refine wpAny_bind (wpAny_specialOf (T := "enumerate") (s := ⟨h2, g, d, tk, os⟩) ⟨_, he2, rfl⟩ no_hint ?_)
  refine wpAny_pure ?_
  show wpAny _ _ (rule "list.extend.makes-room" >>= fun _ => Builtin.List.listTouch (.ref S) >>= fun _ => again (.builtin "list.extend.loop" ⟨[.ref S, .ref e, .none], []⟩)) _ _ ⟨h2, g, d, tk, os⟩
  refine wpAny_bind (wpAny_rule ?_)
  refine wpAny_bind ?_
  show wpAny _ _ (updateSeq S (·.push .none) >>= fun _ => updateSeq S (·.pop)) _ _ ⟨h2, g, d, tk, os⟩
  refine wpAny_bind (wpAny_updateSeq hS2 rfl ?_)
  have hS3 := Heap.get?_update_self (Obj.mapSeq (·.push Value.none)) hS2 rfl
  refine wpAny_updateSeq (hz := by seq_fits) hS3 rfl ?_
  have hS4 := Heap.get?_update_self (Obj.mapSeq (·.pop)) hS3 rfl
  have o4 : ∀ b o, b ≠ S → h1.get? b = some o → ((h2.update S (Obj.mapSeq (·.push Value.none))).update S (Obj.mapSeq (·.pop))).get? b = some o := fun b o nb q => (Heap.get?_update_other _ _ (Ne.symm nb)).trans ((Heap.get?_update_other _ _ (Ne.symm nb)).trans (o2 b o nb q))
  generalize (h2.update S (Obj.mapSeq (·.push Value.none))).update S (Obj.mapSeq (·.pop)) = h4 at hS4 o4 ⊢
  refine wpAny_pure ⟨plainId_quiet F.plain_extend_loop _, loop_es .none hh lit lie nei nS hn items.size 0 h4 tk #[] _ (by omega) (Nat.zero_le _) (ES.new (o4 _ _ nS.1.symm he1)) (hit1.at fun o q => o4 it o nS.2.1.symm q) ?_ hS4 ⟨rfl, fun j hj => absurd hj (Nat.not_lt_zero _)⟩ fun h' tk' acc' c' k' hS' hp' => ?_⟩
  · obtain ⟨o, q1, q2⟩ := hl1
    exact ⟨o, o4 l o nS.2.2.symm q1, q2⟩
  · exact ⟨rfl, hQ h' tk' acc' c' S rfl (fun b o n1 n2 q => by
      have nb : b ≠ S := fun z => by
        have : b < h.objs.size := Heap.lt_size q
        rw [hS0, z] at this
        exact absurd this (Nat.lt_irrefl _)
      exact k' b o nb n1 n2 (o4 b o nb (up b o q))) hS' hp'⟩
end
section
variable {X : Cx}
/-- the pairs' addresses hold the numbers and the items -/
def EnumL (H : Hp) (ts : List Addr) (xs : List V) : Prop := ts.length = xs.length ∧ ∀ (i : Nat) (t : Addr) (x : V), ts[i]? = some t → xs[i]? = some x → H t = some (.tup [.int ((i : Nat) : Int), x])
def tListEnum (K : PySem.W.Frag) (te : TE) : TE := fun σ H Q => te σ H fun v H1 => ∃ a xs, v = .ref a ∧ SqT K H1 a xs ∧ ∀ H2 p ts, (∀ b o, H1 b = some o → H2 b = some o) → H1 p = none → H2 p = some (.lst (ts.map V.ref)) → EnumL H2 ts xs → Q (.ref p) H2
/-- new pairs, tracked one after the other -/
theorem track {P : Program} {w : World} {h : Heap} {H : Hp} {items : Array Value} {S e it : Addr} {acc : Array Value} {xs : List V} (z : Nat) (rv : Vals xs items.toList) (hp : Pairs h items S e it acc items.size) (x : HOk P w H h) (hz : ∀ (i : Nat) (t : Addr), acc[i]? = some (Value.ref t) → H t = none ∧ z ≤ t) :
    ∀ (n : Nat), n ≤ items.size → ∃ (H2 : Hp) (ts : List Addr), HOk P w H2 h ∧ (∀ b o, H b = some o → H2 b = some o) ∧ (∀ b, b < z → H2 b = H b) ∧ ts.length = n ∧ (∀ (i : Nat) (t : Addr), ts[i]? = some t → acc[i]? = some (Value.ref t) ∧ S < t) ∧
      (∀ (i : Nat) (t : Addr) (v : V), ts[i]? = some t → xs[i]? = some v → H2 t = some (.tup [.int ((i : Nat) : Int), v])) ∧ ∀ b : Addr, (∀ i : Nat, ts[i]? ≠ some b) → H2 b = H b
  | 0, _ => ⟨H, [], x, fun _ _ q => q, fun _ _ => rfl, rfl, fun i t q => (nomatch q), fun i t v q => (nomatch q), fun _ _ => rfl⟩
  | n + 1, hn => by
    obtain ⟨H2, ts, x2, e2, l2, len, ac, tp, ot⟩ := track z rv hp x hz n (by omega)
    obtain ⟨t, tk, v, q1, q2, q3, n1, n2, n3⟩ := hp.2 n (by omega)
    have new : ∀ i, ts[i]? ≠ some t := fun i q => by
      have li : i < n := by
        have := (List.getElem?_eq_some_iff.mp q).1
        omega
      obtain ⟨t', tk', v', r1, r2, r3, _⟩ := hp.2 i (by omega)
      rw [(ac i t q).1] at r1
      obtain rfl : t = t' := by injection r1 with r1; injection r1
      rw [q3] at r3
      have := Option.some.inj r3
      injection this with _ _ r3
      injection r3 with r3
      have := congrArg (fun (ar : Array Value) => ar[0]?) r3
      have e0 : (some (Value.int ((n : Nat) : Int) tk) : Option Value) = some (Value.int ((i : Nat) : Int) tk') := this
      injection e0 with e0
      injection e0 with e0
      omega
    have hn2 : H2 t = none := by
      rw [ot t new]
      exact (hz n t q1).1
    obtain ⟨vv, hv, rvv⟩ : ∃ vv, xs[n]? = some vv ∧ RelV vv v := by
      have lx : xs.length = items.size := by rw [rv.length, Array.length_toList]
      have hx : xs[n]? = some (xs[n]'(by omega)) := List.getElem?_eq_getElem (by omega)
      obtain ⟨u, hu, ru⟩ := rv.get hx
      have hu' : items[n]? = some u := by rw [← Array.getElem?_toList]; exact hu
      rw [q2] at hu'
      obtain rfl := Option.some.inj hu'
      exact ⟨_, hx, ru⟩
    refine ⟨upd H2 t (.tup [.int ((n : Nat) : Int), vv]), ts ++ [t], HOk.laidN x2 (fun _ _ q => q) hn2 ⟨by show 2 ≤ sizeLine; decide, [.int ((n : Nat) : Int) tk, v], .cons ⟨_, rfl⟩ (.cons rvv .nil), ⟨_, q3, rfl, _, rfl⟩⟩, fun b o q => ?_, fun b hb => ?_, by rw [List.length_append, len]; rfl, fun i t' q => ?_, fun i t' v' q r => ?_, fun b hb => ?_⟩
    · rw [upd_ne (ne_of_none (e2 b o q) hn2)]
      exact e2 b o q
    · have := (hz n t q1).2
      rw [upd_ne (fun k => by rw [k] at hb; omega)]
      exact l2 b hb
    · rcases Nat.lt_or_ge i ts.length with li | gi
      · rw [List.getElem?_append_left li] at q
        exact ac i t' q
      · rw [List.getElem?_append_right gi] at q
        have : i - ts.length = 0 := by
          have := (List.getElem?_eq_some_iff.mp q).1
          simp at this
          omega
        rw [this] at q
        obtain rfl : t = t' := Option.some.inj q
        obtain rfl : i = n := by omega
        exact ⟨q1, n1⟩
    · rcases Nat.lt_or_ge i ts.length with li | gi
      · rw [List.getElem?_append_left li] at q
        rw [upd_ne (fun k => new i (by rw [← k]; exact q))]
        exact tp i t' v' q r
      · rw [List.getElem?_append_right gi] at q
        have : i - ts.length = 0 := by
          have := (List.getElem?_eq_some_iff.mp q).1
          simp at this
          omega
        rw [this] at q
        obtain rfl : t = t' := Option.some.inj q
        obtain rfl : i = n := by omega
        rw [hv] at r
        obtain rfl := Option.some.inj r
        rw [upd_same]
    · have nb : b ≠ t := fun z => hb n (by rw [z, List.getElem?_append_right (by omega), len, Nat.sub_self]; rfl)
      rw [upd_ne nb]
      refine ot b fun i q => hb i ?_
      rw [List.getElem?_append_left (List.getElem?_eq_some_iff.mp q).1]
      exact q
theorem pe_listEnum {e : Expr} {te : TE} {p1 p2 pos1 pos2 : Pos} (hc : X.calm = true) (hg1 : Gl X "list") (hm1 : X.mg "list" = none) (hg2 : Gl X "enumerate") (hm2 : X.mg "enumerate" = none) (h : PE X e te)
    (na : starEach [e] X.env = (false, eval e X.env) :: starEach [] X.env := by rfl) (nb : starEach [.Call (.Name "enumerate" p2) [e] [] pos2] X.env = (false, eval (.Call (.Name "enumerate" p2) [e] [] pos2) X.env) :: starEach [] X.env := by rfl) :
    PE X (.Call (.Name "list" p1) [.Call (.Name "enumerate" p2) [e] [] pos2] [] pos1) (tListEnum X.K te) := by
  refine ⟨fun pins s σ H Q I q => ?_⟩
  refine Call_ (ld_blt I hg1 hm1 boot_list (PyProof.Rows.callWith_type1 (args_cons (Call_ (ld_blt I hg2 hm2 boot_enumerate (PyProof.Rows.callWith_type1 (args_cons (thn (h.run pins s σ H _ I q) fun u s1 ⟨v, H1, I1, r1, q1⟩ => args_nil ?_) na) na))) nb) nb))
  obtain ⟨a, xs, ev, hq, q1⟩ := q1
  subst ev
  cases (show u = Value.ref a from r1)
  obtain ⟨its, rv, ⟨ot, g1, c1, nn, d1⟩, lz⟩ := I1.tuple hq
  have hT : s1.heap.IsTuple a its.toArray := ⟨ot, g1, c1, nn, d1⟩
  have la : a < s1.heap.objs.size := Heap.lt_size g1
  refine call_enumerate_tuple hT fun h' hen hit hsz hk => args_nil ?_
  have I2 : Inv X pins σ H1 { s1 with heap := h' } := I1.kept hk
  have hT2 : h'.IsTuple a its.toArray := ⟨ot, hk a ot g1, c1, nn, d1⟩
  have lits : its.length = xs.length := rv.length.symm
  refine list_es (s := { s1 with heap := h' }) (I1.ok.hd hc) (Nat.ne_of_lt la) (Nat.ne_of_lt (Nat.lt_succ_of_lt la)) (Nat.succ_ne_self _) hen hit hT2 (by rw [List.size_toArray]; omega) fun h3 tk acc c S eS k3 hS hp => ?_
  have eS' : S = s1.heap.objs.size + 2 := eS.trans hsz
  have kk : ∀ b o, s1.heap.get? b = some o → h3.get? b = some o := fun b o q => by
    have lb : b < s1.heap.objs.size := Heap.lt_size q
    exact k3 b o (Nat.ne_of_lt (Nat.lt_succ_of_lt lb)) (Nat.ne_of_lt lb) (hk b o q)
  have I3 : Inv X pins σ H1 { s1 with heap := h3, toks := tk } := I1.kept kk
  have rv' : Vals xs its.toArray.toList := rv
  have fresh : ∀ b, s1.heap.objs.size ≤ b → H1 b = none := fun b q => I1.hok.fresh q
  obtain ⟨H2, ts, ok2, e2, l2, len, ac, tp, ot2⟩ := track (P := X.prog) (w := X.w) s1.heap.objs.size rv' hp I3.hok (fun i t q => by
    have : i < its.toArray.size := by
      have := (Array.getElem?_eq_some_iff.mp q).1
      rw [hp.1] at this
      exact this
    obtain ⟨t', tk', v', r1, _, _, r4, _⟩ := hp.2 i this
    rw [q] at r1
    obtain rfl : t = t' := by injection r1 with r1; injection r1
    have : s1.heap.objs.size ≤ t := Nat.le_of_lt (Nat.lt_of_le_of_lt (show s1.heap.objs.size ≤ S by rw [eS']; exact Nat.le_add_right _ _) r4)
    exact ⟨fresh t this, this⟩) its.toArray.size (Nat.le_refl _)
  have nS : H1 S = none := fresh S (by rw [eS']; exact Nat.le_add_right _ _)
  have nS2 : H2 S = none := by
    rw [ot2 S fun i q => absurd (ac i S q).2 (Nat.lt_irrefl _)]
    exact nS
  have accl : Vals (ts.map V.ref) acc.toList := by
    refine vals_of_at ?_ fun j x u q r => ?_
    · rw [List.length_map, len, Array.length_toList, hp.1]
    · rw [List.getElem?_map] at q
      cases ht : ts[j]? with
      | none => rw [ht] at q; cases q
      | some t =>
        rw [ht] at q
        obtain rfl := Option.some.inj q
        have := (ac j t ht).1
        rw [← Array.getElem?_toList, r] at this
        exact Option.some.inj this
  have lts : ts.length = xs.length := by rw [len, List.size_toArray, lits]
  have ok3 : HOk X.prog X.w (upd H2 S (.lst (ts.map V.ref))) h3 := HOk.laidN ok2 (fun _ _ q => q) nS2 ⟨by rw [List.length_map, lts]; exact lz, acc.toList, c, accl, by rw [Array.toArray_toList]; exact hS⟩
  have ext : ∀ b o, H1 b = some o → upd H2 S (.lst (ts.map V.ref)) b = some o := fun b o q => by
    rw [upd_ne (ne_of_none q nS)]
    exact e2 b o q
  refine ⟨.ref S, upd H2 S (.lst (ts.map V.ref)), ?_, rfl, q1 _ S ts ext nS upd_same ⟨lts, fun i t x h1 h2 => ?_⟩⟩
  · refine I1.un (t' := tk) ⟨fun b u q _ _ _ => kk b u q, fun b u q _ _ _ => ⟨u.slots, kk b u q⟩, fun b u q n _ => ?_, fun b u q _ => ⟨u, kk b u q⟩, fun b ys q => ext b _ q, fun b u ys q => ext b _ q, fun b ps q => ⟨#[], by rw [ext b _ q]; simp⟩⟩ ok3
    have lb := Heap.lt_size q
    rw [upd_ne (fun z => by rw [z, eS'] at lb; exact absurd lb (Nat.not_lt.mpr (Nat.le_add_right _ _))), l2 b lb]
    exact n
  · rw [upd_ne (Nat.ne_of_gt (ac i t h1).2)]
    exact tp i t x h1 h2
end
end LE

namespace K60
open PySem PySem.Spec PyProof.Rows L2 RZ L5 XX LK M24 DT M38
/-! ### pure degrees, their distances and places -/
structure PureN (ds : List Nat) : Prop where
  asc : Asc ds
  lt : ∀ x ∈ ds, x ≤ 480
  one : 1 ≤ ds.length
  nine : ds.length ≤ 9
theorem PureN.nd {ds : List Nat} (h : PureN ds) : ds.Nodup := h.asc.imp fun {a b} (k : a < b) => Nat.ne_of_lt k
theorem PureN.on {ds : List Nat} (h : PureN ds) : On 481 ds := ⟨h.asc, fun x hx => by have := h.lt x hx; omega⟩
def dist (x y : Nat) : Nat := (x - y) + (y - x)
theorem dist_le {x y : Nat} (hx : x ≤ 480) (hy : y ≤ 480) : dist x y ≤ 480 := by unfold dist; omega
theorem dist_pos {x y : Nat} (h : ¬ y = x) : 0 < dist x y := by unfold dist; omega
/-- the product of the distances from all others -/
def far (ds : List Nat) (x : Nat) : Nat := ds.foldl (fun p y => if y = x then p else p * dist x y) 1
theorem far_snoc {ds : List Nat} {x y : Nat} : far (ds ++ [y]) x = if y = x then far ds x else far ds x * dist x y := by
  unfold far
  rw [List.foldl_append]
  rfl
theorem far_take {ds : List Nat} {j x y : Nat} (h : ds[j]? = some y) : far (ds.take (j + 1)) x = if y = x then far (ds.take j) x else far (ds.take j) x * dist x y := by
  rw [take_more h, far_snoc]
theorem far_bd {x : Nat} (hx : x ≤ 480) : ∀ (n : Nat) (ds : List Nat), ds.length = n → (∀ y ∈ ds, y ≤ 480) → 0 < far ds x ∧ far ds x ≤ 480 ^ n
  | 0, ds, hl, _ => by
    rw [List.length_eq_zero_iff.mp hl]
    exact ⟨Nat.one_pos, Nat.le_refl _⟩
  | n + 1, ds, hl, hd => by
    have ne : ds ≠ [] := fun e => by rw [e] at hl; cases hl
    obtain ⟨r, t, rfl⟩ : ∃ r t, ds = r ++ [t] := ⟨ds.dropLast, ds.getLast ne, (List.dropLast_concat_getLast ne).symm⟩
    have h := far_bd hx n r (by simpa using hl) fun y hy => hd y (List.mem_append_left _ hy)
    have ht := hd t (List.mem_append_right _ (List.mem_singleton.mpr rfl))
    rw [far_snoc]
    split
    · exact ⟨h.1, Nat.le_trans h.2 (Nat.pow_le_pow_right (by decide) (Nat.le_succ n))⟩
    · rename_i c
      refine ⟨Nat.mul_pos h.1 (dist_pos c), ?_⟩
      rw [Nat.pow_succ]
      exact Nat.mul_le_mul h.2 (dist_le hx ht)
theorem far_lt {ds : List Nat} {x : Nat} (hl : ds.length ≤ 9) (hx : x ≤ 480) (hd : ∀ y ∈ ds, y ≤ 480) : far ds x < 2 ^ 100 := by
  have h := (far_bd hx ds.length ds rfl hd).2
  have : (480 : Nat) ^ ds.length ≤ 480 ^ 9 := Nat.pow_le_pow_right (by decide) hl
  have : (480 : Nat) ^ 9 < 2 ^ 100 := by decide
  omega
abbrev fv (ds : List Nat) : List V := ds.map fun x => V.int ((far ds x : Nat) : Int)
/-- the places of degrees -/
def plcs (ds : List Nat) : List (List Nat) := (List.range ds.length).map fun i => [i, ds.getD i 0]
theorem len_plcs (ds : List Nat) : (plcs ds).length = ds.length := by
  unfold plcs
  rw [List.length_map, List.length_range]
theorem get_plcs {ds : List Nat} {i x : Nat} (h : ds[i]? = some x) : (plcs ds)[i]? = some [i, x] := by
  have hi := (List.getElem?_eq_some_iff.mp h).1
  unfold plcs
  rw [List.getElem?_map, List.getElem?_range hi]
  show some [i, ds.getD i 0] = _
  rw [List.getD_eq_getElem?_getD, h]
  rfl
theorem nd_plcs (ds : List Nat) : (plcs ds).Nodup := by
  unfold plcs
  refine List.pairwise_map.mpr (List.nodup_range.imp fun {a b} n h => n ?_)
  injection h
theorem plc_plcs {ds : List Nat} (h : PureN ds) : ∀ t ∈ plcs ds, Plc t := fun t ht => by
  obtain ⟨i, hi, rfl⟩ := List.mem_map.mp ht
  have hi' := List.mem_range.mp hi
  have := h.nine
  refine ⟨i, ds.getD i 0, rfl, by omega, ?_⟩
  rw [List.getD_eq_getElem?_getD, List.getElem?_eq_getElem hi']
  exact h.lt _ (List.getElem_mem hi')
theorem tupsU_of {H : Hp} : ∀ {rs : List Addr} {L : List (List Nat)}, rs.length = L.length → (∀ (i : Nat) (r : Addr) (t : List Nat), rs[i]? = some r → L[i]? = some t → H r = some (.tup (nv t))) → TupsU H rs L
  | [], [], _, _ => .nil
  | r :: rs, t :: L, e, h => .cons (h 0 r t rfl rfl) (tupsU_of (by simpa using e) fun i r t h1 h2 => h (i + 1) r t (by simpa using h1) (by simpa using h2))
theorem enum_tups {H : Hp} {ts : List Addr} {ds : List Nat} (h : LE.EnumL H ts (nv ds)) : TupsU H ts (plcs ds) := by
  have l1 : ts.length = ds.length := by rw [h.1, nv_len]
  refine tupsU_of (by rw [len_plcs, l1]) fun i r t h1 h2 => ?_
  have hi : i < ds.length := by
    have := (List.getElem?_eq_some_iff.mp h1).1
    omega
  have hx : ds[i]? = some ds[i] := List.getElem?_eq_getElem hi
  rw [get_plcs hx] at h2
  obtain rfl := Option.some.inj h2
  exact h.2 i r _ h1 (by show (ds.map fun n => V.int ((n : Nat) : Int))[i]? = _; rw [List.getElem?_map, hx]; rfl)
section
variable {P : Program} {w : World} {K : PySem.W.Frag} {mg : Str → Option Value} {base : Heap}
theorem va_pure {H : Hp} {a : Addr} {ds : List Nat} (h : SqT K H a (nv ds)) (hp : PureN ds) : Va K H (.ref a) (some (som ds)) := .tup h (els_nv ds) (by rw [nv_len]; have := hp.nine; omega)
theorem ok_pure (T : Txt K mg) : FnOk P w K mg base CX0 4 T.a_is_pure T.d_is_pure ["value"] (fun vs H Q _ => ∃ (a : Addr) (ds : List Nat), vs = [.ref a] ∧ SqT K H a (nv ds) ∧ PureN ds ∧ ∀ H', Same H H' → Q (.bl true) H') := by
  refine T.F_is_pure.ok sc_is_pure (fun vs H Q E h => ?_) (fun cdv A outer s H vs Q E hr h => ?_)
  · obtain ⟨a, ds, rfl, _⟩ := h
    rfl
  · obtain ⟨a, ds, rfl, hT, hp, q⟩ := h
    refine ⟨_, (pss_one (ps_ret (pe_and (pe_call  (ok_isset T) (hr.mono (by decide)) (by rfl) T.m_is_set T.F_is_set.kp T.b_is_set .nil pass0 (pa_cons (pv 0) (pa_cons (pe_op op_add (pe_glob (v := .int 480) rfl T.c_MAX_PLACE_degrees ⟨_, rfl⟩) pe_int) pa_nil))) (pe_one (pe_chain op_le op_le pe_int (pe_callB call_len_seq (by rfl) T.z_len boot_len (pa_cons (pv 0) pa_nil)) (pe_op op_add (pe_glob (v := .int 8) rfl T.c_MAX_STEP_degrees ⟨_, rfl⟩) pe_int)))))), ?_⟩
    refine ⟨_, rfl, _, _, rfl, rfl, .ref a, some (som ds), 481, rfl, va_pure hT hp, fun H1 s1 => ⟨_, rfl, ?_⟩⟩
    have e : setB (some (som ds)) 481 = true := setB_on.mpr hp.on
    rw [e]
    refine iteT ⟨_, rfl, a, _, rfl, .inr (same_sqt s1 hT), _, _, rfl, rfl, _, rfl, ?_⟩
    have := hp.one
    have := hp.nine
    rw [nv_len, decide_eq_true (show (1 : Int) ≤ ((ds.length : Nat) : Int) by omega)]
    refine iteT ⟨_, _, rfl, rfl, _, _, rfl, rfl, ?_⟩
    show Q (.bl (decide (((ds.length : Nat) : Int) ≤ 8 + 1))) H1
    rw [decide_eq_true (show ((ds.length : Nat) : Int) ≤ 8 + 1 by omega)]
    exact q H1 s1
theorem ok_chd (T : Txt K mg) : FnOk P w K mg base CX0 5 T.a_check_degrees T.d_check_degrees ["value"] (fun vs H Q _ => ∃ (a : Addr) (ds : List Nat), vs = [.ref a] ∧ SqT K H a (nv ds) ∧ PureN ds ∧ ∀ H', Same H H' → Q .non H') := by
  refine T.F_check_degrees.ok sc_check_degrees (fun vs H Q E h => ?_) (fun cdv A outer s H vs Q E hr h => ?_)
  · obtain ⟨a, ds, rfl, _⟩ := h
    rfl
  · obtain ⟨a, ds, rfl, hT, hp, q⟩ := h
    refine ⟨_, (pss_one (ps_if (pt_not (pt_val (pe_call  (ok_pure T) (hr.mono (by decide)) (by rfl) T.m_is_pure T.F_is_pure.kp T.b_is_pure .nil pass0 (pa_cons (pv 0) pa_nil)))) (pss_one ps_never) pss_nil)), ?_⟩
    exact ⟨_, rfl, a, ds, rfl, hT, hp, fun H1 s1 => ⟨_, rfl, iteF (q H1 s1)⟩⟩
def sp_dist (K : PySem.W.Frag) : Sp := fun vs H Q _ => ∃ (a : Addr) (ds : List Nat), vs = [.ref a] ∧ SqT K H a (nv ds) ∧ PureN ds ∧ ∀ H' l, Same H H' → H l = none → H' l = some (.lst (fv ds)) → Q (.ref l) H'
theorem ok_dist (T : Txt K mg) : FnOk P w K mg base CX0 1 T.a_distances T.d_distances ["degrees"] (sp_dist K) := by
  refine T.F_distances.ok sc_distances (fun vs H Q E h => ?_) (fun cdv A outer s H vs Q E hr h => ?_)
  · obtain ⟨a, ds, rfl, _⟩ := h
    rfl
  · obtain ⟨a, ds, rfl, hT, hp, q⟩ := h
    refine ⟨_, (pss_cons (ps_set (i := 1) sc_distances.nd rfl (Or.inl rfl) (pe_lst pa_nil))
      (pss_cons (ps_for PassesOwn.never rfl (pi_tup (pv 0)) (pg_name (i := 2) sc_distances.nd rfl (Or.inl rfl))
      (pss_cons (ps_set (i := 3) sc_distances.nd rfl (Or.inl rfl) pe_int)
      (pss_cons (ps_for PassesOwn.never rfl (pi_tup (pv 0)) (pg_name (i := 4) sc_distances.nd rfl (Or.inl rfl))
      (pss_one (ps_if (pt_cmpR op_ne (pv 4) (pv 2) (nomark _)) (pss_one (ps_set (i := 3) sc_distances.nd rfl (Or.inl rfl) (pe_op op_mulW (pv 3) (pe_callB call_abs (by rfl) T.z_abs boot_abs (pa_cons (pe_op op_sub (pv 2) (pv 4)) pa_nil))))) pss_nil)))
      (pss_one (ps_expr (pe_bm PySem.F.plainAttrs_list PySem.F.slot_list_append PySem.F.type_list_append mt_append (pv 1) (pa_cons (pv 3) pa_nil)))))))
      (pss_one (ps_ret (pv 1))))), ?_⟩
    refine ⟨Nat.zero_le _, fun l hl => ?_⟩
    have sl := same_new hl (.lst [])
    refine ⟨_, rfl, a, rfl, ⟨_, same_sqt sl hT⟩, ?_⟩
    have nine := hp.nine
    refine for_tup (K := K) (a := a) (xs := nv ds) (fun i σ H' => ∃ v2 v3 v4 : Option V, σ = [some (.ref a), some (.ref l), v2, v3, v4] ∧ (∀ c o, c ≠ l → H c = some o → H' c = some o) ∧ H' l = some (.lst ((ds.take i).map fun x => V.int ((far ds x : Nat) : Int)))) ⟨none, none, none, rfl, fun c o n h => sl c o h, upd_same⟩ (fun i σ H' _ ⟨_, _, _, _, k, _⟩ => same_sqt (fun c o h => k c o (ne_of_none h hl) h) hT) (fun i x σ H1 hi hh => ?_) (fun σ H1 hh => ?_)
    · obtain ⟨v2, v3, v4, rfl, k1, e1⟩ := hh
      obtain ⟨x, hx, rfl⟩ := nv_get hi
      have xm := hp.lt x (List.mem_of_getElem? hx)
      have hT1 : SqT K H1 a (nv ds) := same_sqt (fun c o h => k1 c o (ne_of_none h hl) h) hT
      refine ⟨_, rfl, a, rfl, ⟨_, hT1⟩, ?_⟩
      refine for_tup (K := K) (a := a) (xs := nv ds) (fun j σ H' => ∃ v4 : Option V, σ = [some (.ref a), some (.ref l), some (.int ((x : Nat) : Int)), some (.int ((far (ds.take j) x : Nat) : Int)), v4] ∧ H' = H1) ⟨v4, rfl, rfl⟩ (fun j σ H' _ ⟨_, _, z⟩ => z ▸ hT1) (fun j y σ H2 hj hh => ?_) (fun σ H2 hh => ?_)
      · obtain ⟨v4, rfl, rfl⟩ := hh
        obtain ⟨y, hy, rfl⟩ := nv_get hj
        have ym := hp.lt y (List.mem_of_getElem? hy)
        refine ⟨_, rfl, _, rfl, rfl, ?_⟩
        have eb : decide (V.int ((y : Nat) : Int) = V.int ((x : Nat) : Int)) = decide (y = x) := decide_eq_decide.mpr ⟨fun z => by have := V.int.inj z; omega, fun z => by rw [z]⟩
        rw [eb]
        refine ⟨_, rfl, ?_⟩
        by_cases c : y = x
        · rw [decide_eq_true c]
          refine iteF ⟨some (.int ((y : Nat) : Int)), ?_, rfl⟩
          rw [far_take hy, if_pos c]
          rfl
        · rw [decide_eq_false c]
          have fl : far (ds.take j) x < 2 ^ 100 := far_lt (by rw [List.length_take]; omega) xm fun z hz => hp.lt z (List.mem_of_mem_take hz)
          have ed : (if ((x : Nat) : Int) - ((y : Nat) : Int) < 0 then -(((x : Nat) : Int) - ((y : Nat) : Int)) else ((x : Nat) : Int) - ((y : Nat) : Int)) = ((dist x y : Nat) : Int) := by
            unfold dist
            split <;> omega
          refine iteT ⟨_, rfl, _, rfl, _, rfl, _, _, rfl, rfl, _, rfl, ?_⟩
          rw [ed]
          refine ⟨_, _, rfl, rfl, mulW (up4 (a := 100) (by rw [Int.natAbs_natCast]; exact fl) (by decide)) (up4 (a := 100) (by rw [Int.natAbs_natCast]; exact Nat.lt_of_le_of_lt (dist_le xm ym) (by decide)) (by decide)), some (.int ((y : Nat) : Int)), ?_, rfl⟩
          rw [far_take hy, if_neg c, Int.natCast_mul]
          rfl
      · obtain ⟨v4, rfl, rfl⟩ := hh
        rw [nv_len, List.take_length]
        refine ⟨_, rfl, .inl ⟨rfl, _, SqL.of e1⟩, _, rfl, l, _, _, rfl, rfl, e1, by rw [List.length_map, List.length_take]; exact sizeK (by omega), ?_⟩
        refine ⟨_, _, _, rfl, fun c o n h => by rw [upd_ne n]; exact k1 c o n h, ?_⟩
        rw [upd_same, take_more hx, List.map_append]
        rfl
    · obtain ⟨v2, v3, v4, rfl, k1, e1⟩ := hh
      rw [nv_len, List.take_length] at e1
      exact ⟨_, rfl, q H1 l (fun c o h => k1 c o (ne_of_none h hl) h) hl e1⟩
def sp_plcs (K : PySem.W.Frag) : Sp := fun vs H Q _ => ∃ (a : Addr) (ds : List Nat), vs = [.ref a] ∧ SqT K H a (nv ds) ∧ ∀ H' p ts, Same H H' → H p = none → H' p = some (.lst (ts.map V.ref)) → TupsU H' ts (plcs ds) → Q (.ref p) H'
theorem ok_plcs (T : Txt K mg) : FnOk P w K mg base CX0 1 T.a_places_of T.d_places_of ["degrees"] (sp_plcs K) := by
  refine T.F_places_of.ok sc_places_of (fun vs H Q E h => ?_) (fun cdv A outer s H vs Q E hr h => ?_)
  · obtain ⟨a, ds, rfl, _⟩ := h
    rfl
  · obtain ⟨a, ds, rfl, hT, q⟩ := h
    refine ⟨_, (pss_one (ps_ret (LE.pe_listEnum rfl (by rfl) T.z_list (by rfl) T.z_enumerate (pv 0)))), ?_⟩
    exact ⟨_, rfl, a, nv ds, rfl, hT, fun H2 p ts s2 np hp he => q H2 p ts s2 np hp (enum_tups he)⟩
end
end K60

namespace K60
open PySem PySem.Spec PyProof.Rows L2 RZ L5 XX LK M24 DT M38
open MR (c_inj c_ne q_self q_den q_add q_mul ind_num ind_den qd q_pair)
/-! ### the table of a dict of fractions -/
def lcmF (F : Fra) : Nat := F.foldl (fun b p => Nat.lcm b p.2.den) 1
theorem lcmF_take {F : Fra} {i : Nat} {p : List Nat × Rat} (h : F[i]? = some p) : lcmF (F.take (i + 1)) = Nat.lcm (lcmF (F.take i)) p.2.den := by
  unfold lcmF
  rw [take_more h, List.foldl_append]
  rfl
theorem lcm_fold {n : Nat} : ∀ {F : Fra} {b : Nat}, F.foldl (fun b p => Nat.lcm b p.2.den) b ∣ n ↔ b ∣ n ∧ ∀ p ∈ F, p.2.den ∣ n
  | [], b => by simp
  | p :: F, b => by
    rw [List.foldl_cons, lcm_fold, Nat.lcm_dvd_iff]
    simp only [List.mem_cons, forall_eq_or_imp]
    exact and_assoc
theorem lcmF_dvd {F : Fra} {n : Nat} : lcmF F ∣ n ↔ ∀ p ∈ F, p.2.den ∣ n := by
  unfold lcmF
  rw [lcm_fold]
  exact ⟨fun h => h.2, fun h => ⟨Nat.one_dvd n, h⟩⟩
theorem dvd_lcmF {F : Fra} {p : List Nat × Rat} (h : p ∈ F) : p.2.den ∣ lcmF F := (lcmF_dvd (F := F)).mp (Nat.dvd_refl _) p h
theorem lcmF_pos (F : Fra) : 0 < lcmF F := by
  have : ∀ (F : Fra) (b : Nat), 0 < b → 0 < F.foldl (fun b p => Nat.lcm b p.2.den) b := by
    intro F
    induction F with
    | nil => exact fun b h => h
    | cons p F ih => exact fun b h => ih _ (Nat.lcm_pos h p.2.den_pos)
  exact this F 1 Nat.one_pos
theorem lcmF_take_le (F : Fra) (i : Nat) : lcmF (F.take i) ≤ lcmF F := Nat.le_of_dvd (lcmF_pos F) (lcmF_dvd.mpr fun p hp => dvd_lcmF (List.mem_of_mem_take hp))
def keptF (F : Fra) : List (List Nat) := (srt encT (keysF F)).filter fun t => decide (evF F t ≠ 0)
theorem mem_evF {F : Fra} {t : List Nat} (h : evF F t ≠ 0) : t ∈ keysF F := by
  by_cases e : t ∈ keysF F
  · exact e
  · exact absurd (evF_none e) h
theorem mem_keptF {F : Fra} {t : List Nat} : t ∈ keptF F ↔ evF F t ≠ 0 := by
  unfold keptF
  rw [List.mem_filter, decide_eq_true_iff, (srt_perm encT (keysF F)).mem_iff]
  exact ⟨fun h => h.2, fun h => ⟨mem_evF h, h⟩⟩
theorem nd_keptF {F : Fra} (nd : (keysF F).Nodup) : (keptF F).Nodup := ((srt_perm encT (keysF F)).nodup_iff.mpr nd).sublist List.filter_sublist
theorem asc_keptF (F : Fra) : (keptF F).Pairwise fun p q => PySem.W.dataLe false encT p q = true := (srt_asc encT (keysF F)).sublist List.filter_sublist
def intF (F : Fra) (t : List Nat) : Int := (evF F t).num * ((lcmF F / (evF F t).den : Nat) : Int)
def tabQ (F : Fra) : Ent × Int := ((keptF F).map fun t => (t, intF F t), ((lcmF F : Nat) : Int))
theorem den_evF {F : Fra} (nd : (keysF F).Nodup) (t : List Nat) : (evF F t).den ∣ lcmF F := by
  by_cases c : t ∈ keysF F
  · obtain ⟨p, hp, rfl⟩ := List.mem_map.mp c
    rw [evF_mem nd hp]
    exact dvd_lcmF hp
  · rw [evF_none c]
    exact Nat.one_dvd _
theorem ev_tabQ {F : Fra} (t : List Nat) : ev (tabQ F).1 t = intF F t := by
  show ev ((keptF F).map _) t = _
  rw [ev_map (f := fun t => intF F t)]
  by_cases h : t ∈ keptF F
  · rw [if_pos h]
  · rw [if_neg h]
    have : evF F t = 0 := by
      by_cases e : evF F t = 0
      · exact e
      · exact absurd (mem_keptF.mpr e) h
    unfold intF
    rw [this]
    simp
theorem keys_tabQ {F : Fra} : keys (tabQ F).1 = keptF F := by
  show ((keptF F).map _).map _ = _
  rw [List.map_map]
  exact List.map_id' (keptF F)
/-- a table whose fractions are told -/
structure RV (T : Ent × Int) (f : List Nat → Rat) : Prop where
  lw : Lw T
  eq : ∀ u, ((ev T.1 u : Int) : Rat) = f u * (T.2 : Rat)
theorem RV.same {T U : Ent × Int} {f g : List Nat → Rat} (h : RV T f) (k : RV U g) (e : ∀ u, f u = g u) : T = U := by
  refine h.lw.ext k.lw fun u => ?_
  refine c_inj ?_
  have h1 := h.eq u
  have h2 := k.eq u
  rw [← e u] at h2
  rw [Rat.intCast_mul, Rat.intCast_mul, h1, h2]
  grind
theorem RV.of {F : Fra} (nd : (keysF F).Nodup) : RV (tabQ F) (evF F) := by
  have B0 := lcmF_pos F
  have dv := den_evF nd
  refine ⟨⟨keys_tabQ ▸ nd_keptF nd, keys_tabQ ▸ asc_keptF F, fun p hp => ?_, ?_, ?_⟩, fun u => ?_⟩
  · obtain ⟨t, ht, rfl⟩ := List.mem_map.mp hp
    have h1 : (evF F t).num ≠ 0 := fun e => mem_keptF.mp ht (Rat.num_eq_zero.mp e)
    have h2 : 0 < lcmF F / (evF F t).den := Nat.div_pos (Nat.le_of_dvd B0 (dv t)) (evF F t).den_pos
    exact Int.mul_ne_zero h1 (by omega)
  · show (0 : Int) < ((lcmF F : Nat) : Int)
    omega
  · show gN (((lcmF F : Nat) : Int)).natAbs (tabQ F).1 = 1
    rw [Int.natAbs_natCast]
    have nk : (keys (tabQ F).1).Nodup := keys_tabQ ▸ nd_keptF nd
    have k := (dvd_gN' (L := (tabQ F).1) (g := lcmF F) nk).mp (Nat.dvd_refl _)
    generalize hg : gN (lcmF F) (tabQ F).1 = g at k
    obtain ⟨c, hc⟩ := k.1
    have g0 : 0 < g := Nat.pos_of_ne_zero fun z => by rw [z, Nat.zero_mul] at hc; omega
    have all : lcmF F ∣ c := lcmF_dvd.mpr fun p hp => by
      have e := evF_mem nd hp
      have h1 := k.2 p.1
      rw [ev_tabQ] at h1
      unfold intF at h1
      rw [e, Int.natAbs_mul, Int.natAbs_natCast] at h1
      have d1 : p.2.den ∣ lcmF F := dvd_lcmF hp
      obtain ⟨m, hm⟩ := d1
      have em : lcmF F / p.2.den = m := by rw [hm, Nat.mul_div_cancel_left _ p.2.den_pos]
      rw [em] at h1
      have cop : Nat.gcd p.2.num.natAbs p.2.den = 1 := p.2.reduced
      have h2 : g ∣ p.2.den * m := hm ▸ k.1
      have h3 : g ∣ m := by
        have := Nat.dvd_gcd h1 h2
        rw [Nat.gcd_mul_right, cop, Nat.one_mul] at this
        exact this
      obtain ⟨r, hr⟩ := h3
      refine ⟨r, ?_⟩
      have : g * c = g * (p.2.den * r) := by
        rw [← hc, hm, hr]
        rw [← Nat.mul_assoc, ← Nat.mul_assoc, Nat.mul_comm p.2.den g]
      exact Nat.eq_of_mul_eq_mul_left g0 this
    have c0 : 0 < c := Nat.pos_of_ne_zero fun z => by rw [z, Nat.mul_zero] at hc; omega
    have := Nat.le_of_dvd c0 all
    have h4 : g * c ≤ 1 * c := by omega
    have := Nat.le_of_mul_le_mul_right h4 c0
    omega
  · rw [ev_tabQ]
    unfold intF
    show _ = _ * ((((lcmF F : Nat) : Int)) : Rat)
    obtain ⟨m, hm⟩ := dv u
    have em : lcmF F / (evF F u).den = m := by rw [hm, Nat.mul_div_cancel_left _ (evF F u).den_pos]
    rw [em, Rat.intCast_mul]
    rw [show ((lcmF F : Nat) : Int) = ((evF F u).den : Int) * ((m : Nat) : Int) by rw [hm, Int.natCast_mul]]
    rw [Rat.intCast_mul]
    have hq := q_self (evF F u)
    have hd : (((evF F u).den : Int) : Rat) ≠ 0 := c_ne (by have := q_den (evF F u); omega)
    generalize (((evF F u).den : Int) : Rat) = d at *
    generalize (((evF F u).num : Int) : Rat) = n at *
    generalize ((((m : Nat) : Int)) : Rat) = m at *
    rw [← hq]
    grind
end K60

/-! math.lcm of wide integers -/
namespace LC
open PySem PySem.Spec PyProof.Rows PySem.Calls L2
section
variable {X : Cx}
def rLcm : List V → Hp → VK → Prop := fun vs H Q => ∃ a b : Int, vs = [.int a, .int b] ∧ a.natAbs < 2 ^ 4000 ∧ b.natAbs < 2 ^ 4000 ∧ Q (.int ((Nat.lcm a.natAbs b.natAbs : Nat) : Int)) H
theorem lg {n : Nat} (h : n < 2 ^ 8001) : n.log2 < 8001 := by
  by_cases e : n = 0
  · subst e
    decide
  · exact (Nat.log2_lt e).mpr h
theorem cr_lcm : CallR X (.builtin "math.lcm") rLcm := by
  intro pins s σ H vs us Q I r h
  obtain ⟨a, b, rfl, ha, hb, q⟩ := h
  obtain ⟨t, u, rfl⟩ := Vals.int2 r
  have e1 : (Nat.lcm 1 a.natAbs).lcm b.natAbs = Nat.lcm a.natAbs b.natAbs := by rw [Nat.lcm_one_left]
  have p8 : (2 : Nat) ^ 4000 ≤ 2 ^ 8001 := Nat.pow_le_pow_right (by decide) (by decide)
  have lm : (max 1 a.natAbs).log2 < 8001 := lg (by
    have : (1 : Nat) < 2 ^ 8001 := Nat.one_lt_two_pow (by decide)
    omega)
  have ln : (max a.natAbs b.natAbs).log2 < 8001 := lg (by omega)
  have ll : (Nat.lcm a.natAbs b.natAbs).log2 < 8001 := lg (by
    have h1 : Nat.lcm a.natAbs b.natAbs ≤ a.natAbs * b.natAbs := by
      unfold Nat.lcm
      exact Nat.div_le_self _ _
    have h2 : a.natAbs * b.natAbs < 2 ^ 4000 * 2 ^ 4000 := Nat.mul_lt_mul_of_lt_of_lt ha hb
    rw [← Nat.pow_add] at h2
    have h3 : (2 : Nat) ^ (4000 + 4000) ≤ 2 ^ 8001 := Nat.pow_le_pow_right (by decide) (by decide)
    omega)
  refine call_function_meets PySem.W.MGF.kind_lcm PySem.W.MGF.plain_lcm PySem.W.MGF.entry_lcm (PySem.W.MGF.args_lcm _ _) (PySem.W.mg_run_lcm a t b u (by omega) (by omega) ?_).meets ?_
  · rw [e1, Int.natAbs_natCast]
    have : (8001 : Nat) < PySem.bitsLine := by decide
    omega
  · rw [e1]
    exact ⟨.int _, H, I.tok _, ⟨_, rfl⟩, q⟩
end
end LC

namespace K60
open PySem PySem.Spec PyProof.Rows L2 RZ L5 XX LK M24 DT M38
open MR (q_den)
/-- what a dict of fractions must be to be a table -/
structure FOk (F : Fra) : Prop where
  nd : (keysF F).Nodup
  ne : ∀ t ∈ keysF F, t ≠ []
  few : F.length ≤ 4400
  num : ∀ p ∈ F, p.2.num.natAbs < 2 ^ 1500
  lcm : lcmF F < 2 ^ 1500
theorem FOk.den {F : Fra} (h : FOk F) {p : List Nat × Rat} (hp : p ∈ F) : p.2.den < 2 ^ 1500 := Nat.lt_of_le_of_lt (Nat.le_of_dvd (lcmF_pos F) (dvd_lcmF hp)) h.lcm
theorem up15 {n : Nat} (h : n < 2 ^ 1500) : n < 2 ^ 4000 := Nat.lt_of_lt_of_le h (Nat.pow_le_pow_right (by decide) (by decide))
theorem len_keysF {α : Type} (F : List (List Nat × α)) : (keysF F).length = F.length := by
  unfold keysF
  rw [List.length_map]
theorem keptF_few {F : Fra} : (keptF F).length ≤ F.length := by
  have h1 := List.length_filter_le (fun t => decide (evF F t ≠ 0)) (srt encT (keysF F))
  have h2 := (srt_perm encT (keysF F)).length_eq
  rw [len_keysF] at h2
  show ((srt encT (keysF F)).filter _).length ≤ _
  omega
section
variable {P : Program} {w : World} {K : PySem.W.Frag} {mg : Str → Option Value} {base : Heap}
theorem ok_tent (T : Txt K mg) : FnOk P w K mg base CX0 1 T.a_told_entry T.d_told_entry ["pair", "bottom"] (fun vs H Q _ => ∃ (r : Addr) (q : Rat) (b : Int), vs = [.ref r, .int b] ∧ QAt H r q ∧ q.num.natAbs < 2 ^ 1500 ∧ q.den < 2 ^ 1500 ∧ b.natAbs < 2 ^ 1500 ∧ Q (.int (q.num * b.fdiv (q.den : Int))) H) := by
  refine T.F_told_entry.ok sc_told_entry (fun vs H Q E h => ?_) (fun cdv A outer s H vs Q E hr h => ?_)
  · obtain ⟨r, q, b, rfl, _⟩ := h
    rfl
  · obtain ⟨r, p, b, rfl, hr1, n1, n2, n3, q⟩ := h
    refine ⟨_, (pss_one (ps_ret (pe_op op_mulW (pe_ix ix_tup (pv 0) pe_int (fun _ _ => rfl)) (pe_op op_fdivNW (pv 1) (pe_ix ix_tup (pv 0) pe_int (fun _ _ => rfl)))))), ?_⟩
    have d0 := q_den p
    have nl : ((p.den : Int)).natAbs.log2 < 9000 := by rw [Int.natAbs_natCast]; exact log_of (up15 n2)
    have fb : (b.fdiv (p.den : Int)).natAbs < 2 ^ 4000 := by
      rw [Int.fdiv_eq_ediv_of_nonneg _ (by omega)]
      refine Nat.lt_of_le_of_lt ?_ (up15 n3)
      exact Int.natAbs_ediv_le_natAbs b (p.den : Int)
    exact ⟨_, rfl, r, _, _, .int p.num, rfl, rfl, SqT.of hr1, rfl, _, rfl, _, rfl, r, _, _, .int (p.den : Int), rfl, rfl, SqT.of hr1, rfl, _, _, rfl, rfl, ⟨by omega, nl⟩, _, _, rfl, rfl, mulW (up15 n1) fb, q⟩
def sp_tof (K : PySem.W.Frag) (C : Addr) : Sp := fun vs H Q _ => ∃ (d : Addr) (F : Fra), vs = [.ref d] ∧ FracAt H d F ∧ FOk F ∧ ∀ H' x, Same H H' → TabAt K C H' x (tabQ F) → H x = none → Q (.ref x) H'
theorem ok_tof (T : Txt K mg) (O : TabT K mg) : FnOk P w K mg base CX0 8 T.a_table_of_fractions T.d_table_of_fractions ["fractions"] (sp_tof K O.C) := by
  refine T.F_table_of_fractions.ok sc_table_of_fractions (fun vs H Q E h => ?_) (fun cdv A outer s H vs Q E hr h => ?_)
  · obtain ⟨d, F, rfl, _⟩ := h
    rfl
  · obtain ⟨d, F, rfl, ⟨L, hd, hL⟩, ok, q⟩ := h
    refine ⟨_, (pss_cons (ps_set (i := 1) sc_table_of_fractions.nd rfl (Or.inr rfl) pe_int)
      (pss_cons (ps_lock (ps_for PassesOwn.never rfl (pi_keys (pv 0)) (pg_name (i := 2) sc_table_of_fractions.nd rfl (Or.inl rfl))
      (pss_one (ps_set (i := 1) sc_table_of_fractions.nd rfl (Or.inr rfl) (pe_callBfun LC.cr_lcm (by rfl) T.z_lcm (pa_cons (pv 1) (pa_cons (pe_ix ix_tup (pe_dget (hu_of hr) (pv 0) (pv 2) (fun _ _ => rfl)) pe_int (fun _ _ => rfl)) pa_nil)))))))
      (pss_cons (ps_setLc (i := 3) (own := [("place", 2)]) (g := gName 2) rfl sc_table_of_fractions.nd rfl rfl (sw_true rfl rfl rfl (by decide +kernel)) (pi_list (pe_callB (cr_sortDT rfl hr.units) (by rfl) T.z_sorted boot_sorted (pa_cons (pv 0) pa_nil))) (blkOk_by (own := [("place", 2)]) (N := N_table_of_fractions) (sc := defScope s_table_of_fractions) (by decide +kernel)) (fun _ _ _ _ _ => (pg_name (i := 2) sc_table_of_fractions.nd rfl (Or.inl rfl))) (fun _ _ _ _ _ => pts_one (pt_cmpR op_ne (pe_ix (show IxR _ (rIxT K) from ix_tup) (pe_dget (hu_of hr) (pv 0) (pv 2) (fun _ _ => rfl)) pe_int (fun _ _ => rfl)) pe_int (nomark _))) (fun _ _ _ _ _ => (pv 2)))
      (pss_cons (ps_set (i := 4) sc_table_of_fractions.nd rfl (Or.inl rfl) (pe_make O.M (ok_init T O) (hr.mono (by decide)) rfl O.gC O.eI v1 pass0 (pa_cons pe_dnewT pa_nil)))
      (pss_cons (ps_fld (pv 4) (pe_dcT (own := [("place", 2)]) (g := gName 2) (tt := tYes) rfl hr.units0 sc_table_of_fractions.nd (pi_list (pv 3)) (blkOk_by (own := [("place", 2)]) (N := N_table_of_fractions) (sc := defScope s_table_of_fractions) (by decide +kernel)) (fun _ _ _ _ _ => (pg_name (i := 2) sc_table_of_fractions.nd rfl (Or.inl rfl))) (fun _ _ _ _ _ => pts_nil) (fun _ _ _ _ _ => (pv 2)) (fun _ _ _ _ _ => (pe_call  (ok_tent T) (hr.mono (by decide)) (by rfl) T.m_told_entry T.F_told_entry.kp T.b_told_entry .nil pass0 (pa_cons (pe_dget (hu_of hr) (pv 0) (pv 2) (fun _ _ => rfl)) (pa_cons (pv 1) pa_nil))))) rfl)
      (pss_cons (ps_fld (pv 4) (pv 1) rfl)
      (pss_one (ps_ret (pv 4))))))))), ?_⟩
    have ek := hL.keys
    have ndL : (keysF L).Nodup := ek ▸ ok.nd
    refine ⟨d, _, hd, trivial, fun od => ?_⟩
    have hfz : (upd H d (.frz od (.dT (fT L)))) d = some (.frz od (.dT (fT L))) := upd_same
    have back : ∀ H', Same (upd H d (.frz od (.dT (fT L)))) H' → Same H (upd H' d (.dT (fT L))) := fun H' s => unlock hd s
    have hold1 : Hold (upd H d (.frz od (.dT (fT L)))) L F := Paired.mapP hL fun a b k => ⟨k.1, by
      unfold QAt
      rw [upd_ne (fun z => by have := k.2; unfold QAt at this; rw [z, hd] at this; cases this)]
      exact k.2⟩
    generalize (upd H d (.frz od (.dT (fT L)))) = H1 at hfz back hold1 ⊢
    refine ⟨_, rfl, d, od, rfl, .inr ⟨_, hfz, ?_⟩⟩
    refine for_it (walk_keysT (d := d) (o := od) (kvs := fT L)) (fun i σ H' => ∃ v2, σ = [some (.ref d), some (.int ((lcmF (F.take i) : Nat) : Int)), v2, none, none] ∧ H' = H1) ⟨none, rfl, rfl⟩ (fun i σ H' _ ⟨_, _, e⟩ => e ▸ hfz) ?_ ?_
    · rintro i x σ G G' hi ⟨v3, rfl, rfl⟩ ⟨e4, k, v, r, hx, rfl, hq⟩
      subst e4
      obtain ⟨p, hp, rfl, rfl⟩ := at_stepF hx
      obtain ⟨q', hq1, hq2, hq3⟩ := hold1.get hp
      have hq' := key_nv hq
      have mF := List.mem_of_getElem? hq1
      have lb : lcmF (F.take i) < 2 ^ 4000 := up15 (Nat.lt_of_le_of_lt (lcmF_take_le F i) ok.lcm)
      refine ⟨_, rfl, _, rfl, _, rfl, d, _, rfl, get_fT ndL (.inr ⟨od, hfz⟩) hq' (List.mem_of_getElem? hp), p.2, _, _, .int (q'.2.den : Int), rfl, rfl, SqT.of hq3, rfl, ?_⟩
      refine ⟨_, _, rfl, by rw [Int.natAbs_natCast]; exact lb, by rw [Int.natAbs_natCast]; exact up15 (ok.den mF), ?_⟩
      rw [Int.natAbs_natCast, Int.natAbs_natCast]
      refine ⟨some (V.ref r), ?_, rfl⟩
      rw [lcmF_take hq1]
      rfl
    · rintro σ G ⟨v3, rfl, rfl⟩
      rw [len_fT, hL.length, List.take_length]
      refine ⟨hfz, ?_⟩
      have S1 := back G (Same.refl G)
      generalize (upd G d (.dT (fT L))) = H2 at S1 ⊢
      have hd2 := S1 _ _ hd
      have hL2 := hL.same S1
      refine ⟨_, rfl, d, _, _, rfl, .inl hd2, keys_fT L, fun t ht => ok.ne t (ek ▸ ht), fun p5 qs n5 hq => ?_⟩
      have s5 := same_new n5 (.lst (qs.map V.ref))
      have e5 : (upd H2 p5 (.lst (qs.map V.ref))) p5 = some (.lst (qs.map V.ref)) := upd_same
      have hq5 := hq.same s5
      generalize (upd H2 p5 (.lst (qs.map V.ref))) = H5 at s5 e5 hq5 ⊢
      have hd5 := s5 _ _ hd2
      have hL5 := hL2.same s5
      rw [ek] at hq5
      have few := ok.few
      have lsr : (srt encT (keysF F)).length ≤ 4400 := by
        rw [(srt_perm encT (keysF F)).length_eq, len_keysF]
        exact few
      refine ⟨p5, rfl, ⟨_, SqL.of e5⟩, fun D hD => ?_⟩
      have sD := same_new hD (.lst [])
      refine lc_list (K := K) (a := p5) (xs := qs.map V.ref) (fun i H' => Same H5 H' ∧ ∃ rs : List Addr, H' D = some (.lst (rs.map V.ref)) ∧ TupsU H' rs (((srt encT (keysF F)).take i).filter fun t => decide (evF F t ≠ 0))) ⟨sD, [], upd_same, .nil⟩ (fun i H' _ hh => SqL.of (hh.1 _ _ e5)) (fun i x H6 hx hh => ?_) (fun H6 hh => ?_)
      · obtain ⟨s6, rs, eD, hR⟩ := hh
        obtain ⟨r, t, rfl, _, ht, hr1⟩ := (hq5.same s6).get hx
        have hrl := hR.length
        have hfl := List.length_filter_le (fun t => decide (evF F t ≠ 0)) ((srt encT (keysF F)).take i)
        rw [List.length_take] at hfl
        have mt : t ∈ keysF F := (srt_perm encT (keysF F)).mem_iff.mp (List.mem_of_getElem? ht)
        rcases get_fTd (hL5.same s6) ndL (.inl (s6 _ _ hd5)) hr1 with ⟨nm, _⟩ | ⟨rr, _, dg, hqa⟩
        · exact absurd mt nm
        refine ⟨rfl, _, rfl, _, rfl, d, _, rfl, dg, rr, _, _, .int (evF F t).num, rfl, rfl, SqT.of hqa, rfl, rfl, _, rfl, ?_⟩
        by_cases z : evF F t = 0
        · have ez : decide (V.int (evF F t).num = V.int 0) = true := by rw [z]; rfl
          rw [ez]
          refine iteF ⟨s6, rs, eD, ?_⟩
          rw [take_more ht, List.filter_append, List.filter_cons, if_neg (by rw [z]; decide), List.filter_nil, List.append_nil]
          exact hR
        · have ez : decide (V.int (evF F t).num = V.int 0) = false := decide_eq_false fun k => z (Rat.num_eq_zero.mp (V.int.inj k))
          rw [ez]
          refine iteT ⟨_, rfl, _, eD, by rw [List.length_map]; exact sizeK (by omega), same_updL s6 hD, rs ++ [r], by rw [upd_same, List.map_append]; rfl, ?_⟩
          rw [take_more ht, List.filter_append, List.filter_cons, if_pos (decide_eq_true z), List.filter_nil]
          have := snocU (t := t) s6 eD hR hr1
          rw [List.map_append] at this
          exact this
      · obtain ⟨s6, rs, eD, hR⟩ := hh
        rw [List.length_map, hq5.length, List.take_length] at hR
        have hR' : TupsU H6 rs (keptF F) := hR
        refine fun f hf => ?_
        have sf := same_new hf (.dT [])
        dsimp only [tNil, List.cons_append, List.nil_append]
        refine mk_tab (K := K) (C := O.C) (L := []) (b := 1) rfl upd_same entOk_nil (fun _ h => (nomatch h)) (by decide) (by decide) (by decide) fun H7 x s7 hx nx => ?_
        obtain ⟨dx, e0, x1, x2⟩ := hx
        have S7 := sf.trans s7
        have eD7 := S7 _ _ eD
        have hR7 := hR'.same S7
        have hd7 := S7 _ _ (s6 _ _ hd5)
        have hL7 := (hL5.same s6).same S7
        have rl := hR'.length
        have kf := keptF_few (F := F)
        have kn := nd_keptF ok.nd
        have hx0 : H x = none := (S1.trans (s5.trans (s6.trans sf))).free nx
        refine ⟨_, rfl, D, rfl, ⟨_, SqL.of eD7⟩, fun z hz => ?_⟩
        have sz := same_new hz (.dT [])
        refine goes_it (walk_list (K := K) (a := D) (xs := rs.map V.ref)) (fun i H' => Same H7 H' ∧ H' z = some (.dT (iT (((keptF F).take i).map fun t => (t, intF F t))))) ⟨sz, upd_same⟩ (fun i H' _ hh => SqL.of (hh.1 _ _ eD7)) ?_ ?_
        · rintro i y G G' hi ⟨s8, ez⟩ ⟨e4, hy⟩
          subst e4
          obtain ⟨r, t, rfl, _, ht, hr1⟩ := (hR7.same s8).get hy
          have mk : t ∈ keptF F := List.mem_of_getElem? ht
          have mt : t ∈ keysF F := mem_evF (mem_keptF.mp mk)
          have il := (List.getElem?_eq_some_iff.mp ht).1
          obtain ⟨pm, hpm, em⟩ := List.mem_map.mp mt
          have ep : evF F t = pm.2 := by rw [← em]; exact evF_mem ok.nd hpm
          rcases get_fTd (hL7.same s8) ndL (.inl (s8 _ _ hd7)) hr1 with ⟨nm, _⟩ | ⟨rr, _, dg, hqa⟩
          · exact absurd mt nm
          refine ⟨rfl, _, rfl, _, rfl, _, rfl, d, _, rfl, dg, _, rfl, rr, evF F t, _, rfl, hqa, by rw [ep]; exact ok.num pm hpm, by rw [ep]; exact ok.den hpm, by rw [Int.natAbs_natCast]; exact ok.lcm, _, tK t, r, rfl, nv_key hr1, ez, by rw [len_iT, List.length_map, List.length_take]; exact sizeK (by omega), same_updL s8 hz, ?_⟩
          have nb : t ∉ keys (((keptF F).take i).map fun t => (t, intF F t)) := by
            rw [keys_part]
            exact not_before kn ht
          rw [upd_same, put_iT _ nb, take_more ht, List.map_append]
          have ei : (evF F t).num * (((lcmF F : Nat) : Int)).fdiv ((evF F t).den : Int) = intF F t := by
            unfold intF
            rw [Int.fdiv_eq_ediv_of_nonneg _ (by omega), Int.natCast_ediv]
          rw [ei]
          rfl
        · rintro G ⟨s8, ez⟩
          rw [List.length_map, rl, List.take_length] at ez
          have x3 := s8 _ _ x1
          have nzx : z ≠ x := fun k => by
            rw [k, x3] at ez
            cases ez
          refine ⟨_, rfl, x, O.C, dx, _, rfl, x3, O.cl, O.nE, by show 2 < 1000; decide, ?_⟩
          refine ⟨_, rfl, _, rfl, x, O.C, dx, _, rfl, upd_same, O.cl, O.nB, by show 2 < 1000; decide, ?_⟩
          refine ⟨_, rfl, q _ x (fun c o h => ?_) ⟨dx, z, ?_, ?_⟩ hx0⟩
          · have k := ne_of_none h hx0
            rw [upd_ne k, upd_ne k]
            exact (S1.trans (s5.trans (s6.trans (S7.trans s8)))) c o h
          · rw [upd_same]
            rfl
          · rw [upd_ne nzx, upd_ne nzx]
            exact ez
end
end K60

namespace K60
open PySem PySem.Spec PyProof.Rows L2 RZ L5 XX LK M24 DT M38
open MR (ind_num ind_den q_den)
def frq (n : Nat) : Rat := Rat.divInt 1 ((n : Nat) : Int)
theorem frq_num {n : Nat} (h : 0 < n) : (frq n).num = 1 := by
  unfold frq
  rw [ind_num (by omega)]
  show (1 : Int) / ((Nat.gcd 1 _ : Nat) : Int) = 1
  rw [Nat.gcd_one_left]
  rfl
theorem frq_den {n : Nat} (h : 0 < n) : (frq n).den = n := by
  have : ((frq n).den : Int) = ((n : Nat) : Int) := by
    unfold frq
    rw [ind_den (by omega)]
    show ((n : Nat) : Int) / ((Nat.gcd 1 _ : Nat) : Int) = _
    rw [Nat.gcd_one_left]
    exact Int.ediv_one _
  omega
def pureF (ds : List Nat) : Fra := (List.range ds.length).map fun i => ([i, ds.getD i 0], frq (far ds (ds.getD i 0)))
theorem len_pureF (ds : List Nat) : (pureF ds).length = ds.length := by
  unfold pureF
  rw [List.length_map, List.length_range]
theorem keys_pureF (ds : List Nat) : keysF (pureF ds) = plcs ds := by
  unfold keysF pureF plcs
  rw [List.map_map]
  rfl
theorem get_pureF {ds : List Nat} {i x : Nat} (h : ds[i]? = some x) : (pureF ds)[i]? = some ([i, x], frq (far ds x)) := by
  have hi := (List.getElem?_eq_some_iff.mp h).1
  unfold pureF
  rw [List.getElem?_map, List.getElem?_range hi]
  show some ([i, ds.getD i 0], frq (far ds (ds.getD i 0))) = _
  rw [List.getD_eq_getElem?_getD, h]
  rfl
theorem mem_pureF {ds : List Nat} {p : List Nat × Rat} (h : p ∈ pureF ds) : ∃ i x, ds[i]? = some x ∧ p = ([i, x], frq (far ds x)) := by
  obtain ⟨i, hi, rfl⟩ := List.mem_map.mp h
  have hi' := List.mem_range.mp hi
  refine ⟨i, ds[i], List.getElem?_eq_getElem hi', ?_⟩
  rw [List.getD_eq_getElem?_getD, List.getElem?_eq_getElem hi']
  rfl
theorem far_ok {ds : List Nat} (h : PureN ds) {i x : Nat} (hx : ds[i]? = some x) : 0 < far ds x ∧ far ds x < 2 ^ 100 := by
  have xm := h.lt x (List.mem_of_getElem? hx)
  exact ⟨(far_bd xm ds.length ds rfl h.lt).1, far_lt h.nine xm h.lt⟩
theorem lcmF_bd {b : Nat} : ∀ (n : Nat) (F : Fra), F.length = n → (∀ p ∈ F, p.2.den < 2 ^ b) → lcmF F ≤ 2 ^ (b * n)
  | 0, F, hl, _ => by
    rw [List.length_eq_zero_iff.mp hl]
    exact Nat.le_refl _
  | n + 1, F, hl, hb => by
    have ne : F ≠ [] := fun e => by rw [e] at hl; cases hl
    obtain ⟨r, t, rfl⟩ : ∃ r t, F = r ++ [t] := ⟨F.dropLast, F.getLast ne, (List.dropLast_concat_getLast ne).symm⟩
    have ih := lcmF_bd n r (by simpa using hl) fun y hy => hb y (List.mem_append_left _ hy)
    have ht := hb t (List.mem_append_right _ (List.mem_singleton.mpr rfl))
    have e : lcmF (r ++ [t]) = Nat.lcm (lcmF r) t.2.den := by
      unfold lcmF
      rw [List.foldl_append]
      rfl
    rw [e, Nat.mul_succ, Nat.pow_add]
    refine Nat.le_trans ?_ (Nat.mul_le_mul ih (Nat.le_of_lt ht))
    unfold Nat.lcm
    exact Nat.div_le_self _ _
theorem pureF_lcm {ds : List Nat} (h : PureN ds) : lcmF (pureF ds) < 2 ^ 1000 := by
  have := lcmF_bd (b := 100) ds.length (pureF ds) (len_pureF ds) fun p hp => by
    obtain ⟨i, x, hx, rfl⟩ := mem_pureF hp
    have := far_ok h hx
    show (frq (far ds x)).den < _
    rw [frq_den this.1]
    exact this.2
  have h9 := h.nine
  have : 2 ^ (100 * ds.length) ≤ 2 ^ 900 := Nat.pow_le_pow_right (by decide) (by omega)
  have : (2 : Nat) ^ 900 < 2 ^ 1000 := Nat.pow_lt_pow_right (by decide) (by decide)
  omega
theorem pureF_ok {ds : List Nat} (h : PureN ds) : FOk (pureF ds) := by
  have h9 := h.nine
  refine ⟨keys_pureF ds ▸ nd_plcs ds, fun t ht => ?_, by rw [len_pureF]; omega, fun p hp => ?_, Nat.lt_trans (pureF_lcm h) (Nat.pow_lt_pow_right (by decide) (by decide))⟩
  · rw [keys_pureF] at ht
    obtain ⟨s, d, e, _⟩ := plc_plcs h t ht
    rw [e]
    simp
  · obtain ⟨i, x, hx, rfl⟩ := mem_pureF hp
    show (frq (far ds x)).num.natAbs < _
    rw [frq_num (far_ok h hx).1]
    exact Nat.one_lt_two_pow (by decide)
def wholeE (ds : List Nat) : Ent := (List.range ds.length).map fun i => ([i, ds.getD i 0], ((lcmF (pureF ds) / far ds (ds.getD i 0) : Nat) : Int))
theorem len_wholeE (ds : List Nat) : (wholeE ds).length = ds.length := by
  unfold wholeE
  rw [List.length_map, List.length_range]
theorem keys_wholeE (ds : List Nat) : keys (wholeE ds) = plcs ds := by
  unfold keys wholeE plcs
  rw [List.map_map]
  rfl
theorem get_wholeE {ds : List Nat} {i x : Nat} (h : ds[i]? = some x) : (wholeE ds)[i]? = some ([i, x], ((lcmF (pureF ds) / far ds x : Nat) : Int)) := by
  have hi := (List.getElem?_eq_some_iff.mp h).1
  unfold wholeE
  rw [List.getElem?_map, List.getElem?_range hi]
  show some ([i, ds.getD i 0], ((lcmF (pureF ds) / far ds (ds.getD i 0) : Nat) : Int)) = _
  rw [List.getD_eq_getElem?_getD, h]
  rfl
def wholeF (ds : List Nat) : Fra := (wholeE ds).map fun p => (p.1, ((p.2 : Int) : Rat))
theorem lz_of {ds : List Nat} {ts : List Addr} (h : ts.length = ds.length) : ds.length = min (ts.map V.ref).length (fv ds).length := by
  rw [List.length_map, List.length_map, h, Nat.min_self]
section
variable {P : Program} {w : World} {K : PySem.W.Frag} {mg : Str → Option Value} {base : Heap}
theorem fv_get {ds : List Nat} {i : Nat} {v : V} (h : (fv ds)[i]? = some v) : ∃ x, ds[i]? = some x ∧ v = V.int ((far ds x : Nat) : Int) := by
  rw [List.getElem?_map] at h
  cases e : ds[i]? with
  | none => rw [e] at h; cases h
  | some x =>
    rw [e] at h
    exact ⟨x, rfl, (Option.some.inj h).symm⟩
def sp_ptab (K : PySem.W.Frag) (C : Addr) : Sp := fun vs H Q _ => ∃ (a : Addr) (ds : List Nat), vs = [.ref a] ∧ SqT K H a (nv ds) ∧ PureN ds ∧ ∀ H' x, Same H H' → TabAt K C H' x (tabQ (pureF ds)) → H x = none → Q (.ref x) H'
theorem ok_ptab (T : Txt K mg) (O : TabT K mg) : FnOk P w K mg base CX0 9 T.a_pure_table T.d_pure_table ["degrees"] (sp_ptab K O.C) := by
  refine T.F_pure_table.ok sc_pure_table (fun vs H Q E h => ?_) (fun cdv A outer s H vs Q E hr h => ?_)
  · obtain ⟨a, ds, rfl, _⟩ := h
    rfl
  · obtain ⟨a, ds, rfl, hT, hp, q⟩ := h
    refine ⟨_, (pss_cons (ps_expr (pe_call  (ok_chd T) (hr.mono (by decide)) (by rfl) T.m_check_degrees T.F_check_degrees.kp T.b_check_degrees .nil pass0 (pa_cons (pv 0) pa_nil)))
      (pss_one (ps_ret (pe_call  (ok_tof T O) (hr.mono (by decide)) (by rfl) T.m_table_of_fractions T.F_table_of_fractions.kp T.b_table_of_fractions .nil pass0 (pa_cons (pe_dcT (own := [("place", 1), ("far", 2)]) (g := gTup K 2 (gCons (gName 1) (gCons (gName 2) gNil))) (tt := tYes) rfl hr.units0 sc_pure_table.nd (pi_zipA (by rfl) T.z_zip (pa_cons (pe_call  (ok_plcs T) (hr.mono (by decide)) (by rfl) T.m_places_of T.F_places_of.kp T.b_places_of .nil pass0 (pa_cons (pv 0) pa_nil)) (pa_cons (pe_call  (ok_dist T) (hr.mono (by decide)) (by rfl) T.m_distances T.F_distances.kp T.b_distances .nil pass0 (pa_cons (pv 0) pa_nil)) pa_nil))) (blkOk_by (own := [("place", 1), ("far", 2)]) (N := N_pure_table) (sc := defScope s_pure_table) (by decide +kernel)) (fun _ _ _ _ _ => (pg_tup (by rfl) (pgs_cons (pg_name (i := 1) sc_pure_table.nd rfl (Or.inl rfl)) (pgs_cons (pg_name (i := 2) sc_pure_table.nd rfl (Or.inl rfl)) pgs_nil)))) (fun _ _ _ _ _ => pts_nil) (fun _ _ _ _ _ => (pv 1)) (fun _ _ _ _ _ => (pe_tup (pa_cons pe_int (pa_cons (pv 2) pa_nil))))) pa_nil))))), ?_⟩
    refine ⟨_, rfl, a, ds, rfl, hT, hp, fun H1 s1 => ?_⟩
    refine ⟨_, rfl, a, ds, rfl, same_sqt s1 hT, fun H2 p2 ts s2 n2 e2 ht => ?_⟩
    refine ⟨_, rfl, a, ds, rfl, same_sqt (s1.trans s2) hT, hp, fun H3 l3 s3 n3 e3 => ?_⟩
    have lts : ts.length = ds.length := by rw [ht.length, len_plcs]
    have h9 := hp.nine
    have e23 := s3 _ _ e2
    have ht3 := ht.same s3
    refine ⟨p2, l3, _, _, rfl, .inl ⟨SqL.of e23, SqL.of e3, fun z hz => ?_⟩⟩
    have sz := same_new hz (.dT [])
    refine goes_it (walk_zip (K := K) (lz_of lts)) (fun i H' => Same H3 H' ∧ ∃ L, H' z = some (.dT (fT L)) ∧ Hold H' L ((pureF ds).take i)) ⟨sz, [], upd_same, .nil⟩ (fun i H' _ hh => ⟨SqL.of (hh.1 _ _ e23), SqL.of (hh.1 _ _ e3)⟩) ?_ ?_
    · rintro i x G G' hi ⟨s4, L, ez, hL⟩ ⟨t5, u, v, rfl, n5, rfl, hu, hv⟩
      obtain ⟨xx, hxx, rfl⟩ := fv_get hv
      obtain ⟨r, t, rfl, _, htt, hr1⟩ := (ht3.same s4).get hu
      rw [get_plcs hxx] at htt
      obtain rfl := Option.some.inj htt
      have s5 := same_new n5 (.tup [.ref r, .int ((far ds xx : Nat) : Int)])
      refine ⟨t5, _, rfl, SqT.of upd_same, rfl, _, _, rfl, _, _, rfl, rfl, ?_⟩
      refine ⟨rfl, _, rfl, _, rfl, by show 2 ≤ sizeLine; decide, fun rq nq => ?_⟩
      have s6 := same_new nq (.tup [.int 1, .int ((far ds xx : Nat) : Int)])
      have S6 := s5.trans s6
      have hl := hL.length
      rw [List.length_take, len_pureF] at hl
      have nk : [i, xx] ∉ keysF L := by
        rw [hL.keys]
        unfold keysF
        rw [List.map_take]
        show [i, xx] ∉ (keysF (pureF ds)).take i
        rw [keys_pureF]
        exact not_before (nd_plcs ds) (get_plcs hxx)
      have fo := far_ok hp hxx
      have hq : QAt (upd (upd G t5 (.tup [.ref r, .int ((far ds xx : Nat) : Int)])) rq (.tup [.int 1, .int ((far ds xx : Nat) : Int)])) rq (frq (far ds xx)) := by
        unfold QAt qv
        rw [upd_same, frq_num fo.1, frq_den fo.1]
      have ez6 := S6 _ _ ez
      refine ⟨_, tK [i, xx], r, rfl, nv_key (S6 _ _ hr1), ez6, by rw [len_fT]; exact sizeK (by omega), same_updL (s4.trans S6) hz, ?_⟩
      have nL : ∀ {b : Addr} {q : Rat}, QAt (upd (upd G t5 (.tup [.ref r, .int ((far ds xx : Nat) : Int)])) rq (.tup [.int 1, .int ((far ds xx : Nat) : Int)])) b q → QAt (upd (upd (upd G t5 (.tup [.ref r, .int ((far ds xx : Nat) : Int)])) rq (.tup [.int 1, .int ((far ds xx : Nat) : Int)])) z (.dT (putK (fT L) (tK [i, xx]) (.ref rq)))) b q := fun {b q} h => by
        unfold QAt at h ⊢
        rw [upd_ne (fun k => by rw [k, ez6] at h; cases h)]
        exact h
      refine ⟨L ++ [([i, xx], rq)], by rw [upd_same, put_new nk], ?_⟩
      rw [take_more (get_pureF hxx)]
      exact Paired.snoc (Paired.mapP (hL.same S6) fun a b k => ⟨k.1, nL k.2⟩) ⟨rfl, nL hq⟩
    · rintro G ⟨s4, L, ez, hL⟩
      rw [← len_pureF ds, List.take_length] at hL
      refine ⟨z, pureF ds, rfl, ⟨L, ez, hL⟩, pureF_ok hp, fun H8 x s8 hx nx => ?_⟩
      have S3 := s1.trans (s2.trans (s3.trans s4))
      exact q H8 x (S3.trans s8) hx (S3.free nx)
theorem ok_fac (T : Txt K mg) : FnOk P w K mg base CX0 2 T.a_factor_of T.d_factor_of ["degrees"] (fun vs H Q _ => ∃ (a : Addr) (ds : List Nat), vs = [.ref a] ∧ SqT K H a (nv ds) ∧ PureN ds ∧ ∀ H', Same H H' → Q (.int ((lcmF (pureF ds) : Nat) : Int)) H') := by
  refine T.F_factor_of.ok sc_factor_of (fun vs H Q E h => ?_) (fun cdv A outer s H vs Q E hr h => ?_)
  · obtain ⟨a, ds, rfl, _⟩ := h
    rfl
  · obtain ⟨a, ds, rfl, hT, hp, q⟩ := h
    refine ⟨_, (pss_cons (ps_set (i := 1) sc_factor_of.nd rfl (Or.inl rfl) pe_int)
      (pss_cons (ps_for PassesOwn.never rfl (pi_list (pe_call  (ok_dist T) (hr.mono (by decide)) (by rfl) T.m_distances T.F_distances.kp T.b_distances .nil pass0 (pa_cons (pv 0) pa_nil))) (pg_name (i := 2) sc_factor_of.nd rfl (Or.inl rfl))
      (pss_one (ps_set (i := 1) sc_factor_of.nd rfl (Or.inl rfl) (pe_callBfun LC.cr_lcm (by rfl) T.z_lcm (pa_cons (pv 1) (pa_cons (pv 2) pa_nil))))))
      (pss_one (ps_ret (pv 1))))), ?_⟩
    refine ⟨_, rfl, a, ds, rfl, hT, hp, fun H1 l s1 n1 e1 => ?_⟩
    refine ⟨l, rfl, ⟨_, SqL.of e1⟩, ?_⟩
    refine for_list (K := K) (a := l) (xs := fv ds) (fun i σ H' => ∃ v2 : Option V, σ = [some (.ref a), some (.int ((lcmF ((pureF ds).take i) : Nat) : Int)), v2] ∧ H' = H1) ⟨none, rfl, rfl⟩ (fun i σ H' _ ⟨_, _, e⟩ => e ▸ SqL.of e1) (fun i x σ H2 hi hh => ?_) (fun σ H2 hh => ?_)
    · obtain ⟨v2, rfl, rfl⟩ := hh
      obtain ⟨x, hx, rfl⟩ := fv_get hi
      have fo := far_ok hp hx
      have lb : lcmF ((pureF ds).take i) < 2 ^ 4000 := Nat.lt_of_le_of_lt (lcmF_take_le _ i) (Nat.lt_trans (pureF_lcm hp) (Nat.pow_lt_pow_right (by decide) (by decide)))
      refine ⟨_, rfl, _, rfl, _, _, rfl, by rw [Int.natAbs_natCast]; exact lb, by rw [Int.natAbs_natCast]; exact Nat.lt_trans fo.2 (Nat.pow_lt_pow_right (by decide) (by decide)), ?_⟩
      rw [Int.natAbs_natCast, Int.natAbs_natCast]
      refine ⟨some (V.int ((far ds x : Nat) : Int)), ?_, rfl⟩
      have := lcmF_take (get_pureF hx)
      rw [show (([i, x], frq (far ds x)) : List Nat × Rat).2.den = far ds x from frq_den fo.1] at this
      rw [this]
      rfl
    · obtain ⟨v2, rfl, rfl⟩ := hh
      rw [List.length_map, ← len_pureF ds, List.take_length]
      exact ⟨_, rfl, q H2 s1⟩
def sp_wents (K : PySem.W.Frag) : Sp := fun vs H Q _ => ∃ (a : Addr) (ds : List Nat), vs = [.ref a] ∧ SqT K H a (nv ds) ∧ PureN ds ∧ ∀ H' z, Same H H' → H z = none → H' z = some (.dT (iT (wholeE ds))) → Q (.ref z) H'
theorem ok_wents (T : Txt K mg) : FnOk P w K mg base CX0 3 T.a_whole_entries T.d_whole_entries ["degrees"] (sp_wents K) := by
  refine T.F_whole_entries.ok sc_whole_entries (fun vs H Q E h => ?_) (fun cdv A outer s H vs Q E hr h => ?_)
  · obtain ⟨a, ds, rfl, _⟩ := h
    rfl
  · obtain ⟨a, ds, rfl, hT, hp, q⟩ := h
    refine ⟨_, (pss_cons (ps_set (i := 1) sc_whole_entries.nd rfl (Or.inr rfl) (pe_call  (ok_fac T) (hr.mono (by decide)) (by rfl) T.m_factor_of T.F_factor_of.kp T.b_factor_of .nil pass0 (pa_cons (pv 0) pa_nil)))
      (pss_one (ps_ret (pe_dcT (own := [("place", 2), ("far", 3)]) (g := gTup K 2 (gCons (gName 2) (gCons (gName 3) gNil))) (tt := tYes) rfl hr.units0 sc_whole_entries.nd (pi_zipA (by rfl) T.z_zip (pa_cons (pe_call  (ok_plcs T) (hr.mono (by decide)) (by rfl) T.m_places_of T.F_places_of.kp T.b_places_of .nil pass0 (pa_cons (pv 0) pa_nil)) (pa_cons (pe_call  (ok_dist T) (hr.mono (by decide)) (by rfl) T.m_distances T.F_distances.kp T.b_distances .nil pass0 (pa_cons (pv 0) pa_nil)) pa_nil))) (blkOk_by (own := [("place", 2), ("far", 3)]) (N := N_whole_entries) (sc := defScope s_whole_entries) (by decide +kernel)) (fun _ _ _ _ _ => (pg_tup (by rfl) (pgs_cons (pg_name (i := 2) sc_whole_entries.nd rfl (Or.inl rfl)) (pgs_cons (pg_name (i := 3) sc_whole_entries.nd rfl (Or.inl rfl)) pgs_nil)))) (fun _ _ _ _ _ => pts_nil) (fun _ _ _ _ _ => (pv 2)) (fun _ _ _ _ _ => (pe_op op_fdivNW (pv 1) (pv 3))))))), ?_⟩
    refine ⟨_, rfl, a, ds, rfl, hT, hp, fun H1 s1 => ?_⟩
    refine ⟨_, rfl, a, ds, rfl, same_sqt s1 hT, fun H2 p2 ts s2 n2 e2 ht => ?_⟩
    refine ⟨_, rfl, a, ds, rfl, same_sqt (s1.trans s2) hT, hp, fun H3 l3 s3 n3 e3 => ?_⟩
    have lts : ts.length = ds.length := by rw [ht.length, len_plcs]
    have h9 := hp.nine
    have e23 := s3 _ _ e2
    have ht3 := ht.same s3
    refine ⟨p2, l3, _, _, rfl, .inl ⟨SqL.of e23, SqL.of e3, fun z hz => ?_⟩⟩
    have sz := same_new hz (.dT [])
    refine goes_it (walk_zip (K := K) (lz_of lts)) (fun i H' => Same H3 H' ∧ H' z = some (.dT (iT ((wholeE ds).take i)))) ⟨sz, upd_same⟩ (fun i H' _ hh => ⟨SqL.of (hh.1 _ _ e23), SqL.of (hh.1 _ _ e3)⟩) ?_ ?_
    · rintro i x G G' hi ⟨s4, ez⟩ ⟨t5, u, v, rfl, n5, rfl, hu, hv⟩
      obtain ⟨xx, hxx, rfl⟩ := fv_get hv
      obtain ⟨r, t, rfl, _, htt, hr1⟩ := (ht3.same s4).get hu
      rw [get_plcs hxx] at htt
      obtain rfl := Option.some.inj htt
      have s5 := same_new n5 (.tup [.ref r, .int ((far ds xx : Nat) : Int)])
      have fo := far_ok hp hxx
      refine ⟨t5, _, rfl, SqT.of upd_same, rfl, _, _, rfl, _, _, rfl, rfl, ?_⟩
      refine ⟨rfl, _, rfl, _, rfl, _, rfl, _, _, rfl, rfl, ⟨by omega, by rw [Int.natAbs_natCast]; exact log_of (Nat.lt_trans fo.2 (Nat.pow_lt_pow_right (by decide) (by decide)))⟩, ?_⟩
      have nb : [i, xx] ∉ keys ((wholeE ds).take i) := by
        rw [keys_take, keys_wholeE]
        exact not_before (nd_plcs ds) (get_plcs hxx)
      refine ⟨_, tK [i, xx], r, rfl, nv_key (s5 _ _ hr1), s5 _ _ ez, by rw [len_iT, List.length_take, len_wholeE]; exact sizeK (by omega), same_updL (s4.trans s5) hz, ?_⟩
      rw [upd_same, put_iT _ nb, take_more (get_wholeE hxx)]
      rw [Int.fdiv_eq_ediv_of_nonneg _ (by omega), ← Int.natCast_ediv]
    · rintro G ⟨s4, ez⟩
      rw [← len_wholeE ds, List.take_length] at ez
      have S3 := s1.trans (s2.trans s3)
      exact q G z (S3.trans s4) (S3.free hz) ez
end
end K60

namespace K60
open PySem PySem.Spec PyProof.Rows L2 RZ L5 XX LK M24 DT M38
theorem num_int (n : Int) : ((n : Int) : Rat).num = n := Rat.num_intCast n
theorem den_int (n : Int) : ((n : Int) : Rat).den = 1 := Rat.den_intCast n
theorem keys_wholeF (ds : List Nat) : keysF (wholeF ds) = plcs ds := by
  unfold keysF wholeF
  rw [List.map_map]
  exact keys_wholeE ds
theorem len_wholeF (ds : List Nat) : (wholeF ds).length = ds.length := by
  unfold wholeF
  rw [List.length_map, len_wholeE]
theorem get_wholeF {ds : List Nat} {i : Nat} {p : List Nat × Int} (h : (wholeE ds)[i]? = some p) : (wholeF ds)[i]? = some (p.1, ((p.2 : Int) : Rat)) := by
  unfold wholeF
  rw [List.getElem?_map, h]
  rfl
theorem mem_wholeE {ds : List Nat} {p : List Nat × Int} (h : p ∈ wholeE ds) : ∃ i x, ds[i]? = some x ∧ p = ([i, x], ((lcmF (pureF ds) / far ds x : Nat) : Int)) := by
  obtain ⟨i, hi, rfl⟩ := List.mem_map.mp h
  have hi' := List.mem_range.mp hi
  refine ⟨i, ds[i], List.getElem?_eq_getElem hi', ?_⟩
  rw [List.getD_eq_getElem?_getD, List.getElem?_eq_getElem hi']
  rfl
theorem lcm_one : ∀ {F : Fra}, (∀ p ∈ F, p.2.den = 1) → lcmF F = 1 := fun {F} h => Nat.dvd_one.mp (lcmF_dvd.mpr fun p hp => by rw [h p hp]; exact Nat.dvd_refl 1)
theorem wholeF_lcm (ds : List Nat) : lcmF (wholeF ds) = 1 := lcm_one fun p hp => by
  obtain ⟨q, _, rfl⟩ := List.mem_map.mp hp
  exact den_int q.2
theorem whole_lt {ds : List Nat} (h : PureN ds) (x : Nat) : lcmF (pureF ds) / far ds x < 2 ^ 1000 := Nat.lt_of_le_of_lt (Nat.div_le_self _ _) (pureF_lcm h)
theorem wholeF_ok {ds : List Nat} (h : PureN ds) : FOk (wholeF ds) := by
  have h9 := h.nine
  refine ⟨keys_wholeF ds ▸ nd_plcs ds, fun t ht => ?_, by rw [len_wholeF]; omega, fun p hp => ?_, by rw [wholeF_lcm]; exact Nat.one_lt_two_pow (by decide)⟩
  · rw [keys_wholeF] at ht
    obtain ⟨s, d, e, _⟩ := plc_plcs h t ht
    rw [e]
    simp
  · obtain ⟨q, hq, rfl⟩ := List.mem_map.mp hp
    obtain ⟨i, x, hx, rfl⟩ := mem_wholeE hq
    show (((((lcmF (pureF ds) / far ds x : Nat) : Int)) : Int) : Rat).num.natAbs < _
    rw [num_int, Int.natAbs_natCast]
    exact Nat.lt_trans (whole_lt h x) (Nat.pow_lt_pow_right (by decide) (by decide))
section
variable {P : Program} {w : World} {K : PySem.W.Frag} {mg : Str → Option Value} {base : Heap}
def sp_wpure (K : PySem.W.Frag) (C : Addr) : Sp := fun vs H Q _ => ∃ (a : Addr) (ds : List Nat), vs = [.ref a] ∧ SqT K H a (nv ds) ∧ PureN ds ∧ ∀ H' z x y, Same H H' → H' z = some (.tup [.ref x, .ref y]) → TabAt K C H' x (tabQ (wholeF ds)) → H' y = some (.tup [.int ((lcmF (pureF ds) : Nat) : Int), .int 1]) → Q (.ref z) H'
theorem ok_wpure (T : Txt K mg) (O : TabT K mg) : FnOk P w K mg base CX0 9 T.a_whole_pure T.d_whole_pure ["degrees"] (sp_wpure K O.C) := by
  refine T.F_whole_pure.ok sc_whole_pure (fun vs H Q E h => ?_) (fun cdv A outer s H vs Q E hr h => ?_)
  · obtain ⟨a, ds, rfl, _⟩ := h
    rfl
  · obtain ⟨a, ds, rfl, hT, hp, q⟩ := h
    refine ⟨_, (pss_cons (ps_expr (pe_call  (ok_chd T) (hr.mono (by decide)) (by rfl) T.m_check_degrees T.F_check_degrees.kp T.b_check_degrees .nil pass0 (pa_cons (pv 0) pa_nil)))
      (pss_cons (ps_set (i := 1) sc_whole_pure.nd rfl (Or.inr rfl) (pe_call  (ok_wents T) (hr.mono (by decide)) (by rfl) T.m_whole_entries T.F_whole_entries.kp T.b_whole_entries .nil pass0 (pa_cons (pv 0) pa_nil)))
      (pss_one (ps_ret (pe_tup (pa_cons (pe_call  (ok_tof T O) (hr.mono (by decide)) (by rfl) T.m_table_of_fractions T.F_table_of_fractions.kp T.b_table_of_fractions .nil pass0 (pa_cons (pe_lock (pe_dcT (own := [("place", 2)]) (g := gName 2) (tt := tYes) rfl hr.units0 sc_whole_pure.nd (pi_keys (pv 1)) (blkOk_by (own := [("place", 2)]) (N := N_whole_pure) (sc := defScope s_whole_pure) (by decide +kernel)) (fun _ _ _ _ _ => (pg_name (i := 2) sc_whole_pure.nd rfl (Or.inl rfl))) (fun _ _ _ _ _ => pts_nil) (fun _ _ _ _ _ => (pv 2)) (fun _ _ _ _ _ => (pe_tup (pa_cons (pe_dget (hu_of hr) (pv 1) (pv 2) (fun _ _ => rfl)) (pa_cons pe_int pa_nil)))))) pa_nil)) (pa_cons (pe_tup (pa_cons (pe_call  (ok_fac T) (hr.mono (by decide)) (by rfl) T.m_factor_of T.F_factor_of.kp T.b_factor_of .nil pass0 (pa_cons (pv 0) pa_nil)) (pa_cons pe_int pa_nil))) pa_nil))))))), ?_⟩
    refine ⟨_, rfl, a, ds, rfl, hT, hp, fun H1 s1 => ?_⟩
    refine ⟨_, rfl, a, ds, rfl, same_sqt s1 hT, hp, fun H2 e s2 n2 he => ?_⟩
    have h9 := hp.nine
    refine ⟨e, _, he, trivial, fun od => ?_⟩
    have hfz : (upd H2 e (.frz od (.dT (iT (wholeE ds))))) e = some (.frz od (.dT (iT (wholeE ds)))) := upd_same
    have back : ∀ H', Same (upd H2 e (.frz od (.dT (iT (wholeE ds))))) H' → Same H2 (upd H' e (.dT (iT (wholeE ds)))) := fun H' s => unlock he s
    generalize (upd H2 e (.frz od (.dT (iT (wholeE ds))))) = H3 at hfz back ⊢
    refine ⟨_, rfl, e, od, rfl, .inr ⟨_, hfz, fun z hz => ?_⟩⟩
    have sz := same_new hz (.dT [])
    have nd : (keys (wholeE ds)).Nodup := by rw [keys_wholeE]; exact nd_plcs ds
    refine goes_it (walk_keysT (d := e) (o := od) (kvs := iT (wholeE ds))) (fun i H' => Same H3 H' ∧ ∃ L, H' z = some (.dT (fT L)) ∧ Hold H' L ((wholeF ds).take i)) ⟨sz, [], upd_same, .nil⟩ (fun i H' _ hh => hh.1 _ _ hfz) ?_ ?_
    · rintro i x G G' hi ⟨s4, L, ez, hL⟩ ⟨e4, k, v, r, hx, rfl, hq⟩
      subst e4
      obtain ⟨p, hpp, rfl, rfl⟩ := at_step hx
      have hq' := key_nv hq
      have il := (List.getElem?_eq_some_iff.mp hpp).1
      have mp := List.mem_of_getElem? hpp
      have ev' := ev_mem nd mp
      refine ⟨rfl, _, rfl, _, rfl, _, rfl, e, _, rfl, get_iT (.inr ⟨od, s4 _ _ hfz⟩) hq' (mem_keys hpp), by show 2 ≤ sizeLine; decide, fun rq nq => ?_⟩
      have s6 := same_new nq (.tup [.int (ev (wholeE ds) p.1), .int 1])
      have hl := hL.length
      rw [List.length_take, len_wholeF] at hl
      have nk : p.1 ∉ keysF L := by
        rw [hL.keys]
        unfold keysF
        rw [List.map_take]
        show p.1 ∉ (keysF (wholeF ds)).take i
        rw [keys_wholeF, ← keys_wholeE]
        exact not_before nd (get_keys hpp)
      have hq : QAt (upd G' rq (.tup [.int (ev (wholeE ds) p.1), .int 1])) rq ((p.2 : Int) : Rat) := by
        unfold QAt qv
        rw [upd_same, num_int, den_int, ev']
        rfl
      have ez6 := s6 _ _ ez
      refine ⟨_, tK p.1, r, rfl, nv_key (s6 _ _ hq'), ez6, by rw [len_fT]; exact sizeK (by omega), same_updL (s4.trans s6) hz, ?_⟩
      have nL : ∀ {b : Addr} {q : Rat}, QAt (upd G' rq (.tup [.int (ev (wholeE ds) p.1), .int 1])) b q → QAt (upd (upd G' rq (.tup [.int (ev (wholeE ds) p.1), .int 1])) z (.dT (putK (fT L) (tK p.1) (.ref rq)))) b q := fun {b q} h => by
        unfold QAt at h ⊢
        rw [upd_ne (fun k => by rw [k, ez6] at h; cases h)]
        exact h
      refine ⟨L ++ [(p.1, rq)], by rw [upd_same, put_new nk], ?_⟩
      rw [take_more (get_wholeF hpp)]
      exact Paired.snoc (Paired.mapP (hL.same s6) fun a b k => ⟨k.1, nL k.2⟩) ⟨rfl, nL hq⟩
    · rintro G ⟨s4, L, ez, hL⟩
      rw [len_iT, len_wholeE, ← len_wholeF ds, List.take_length] at hL
      refine ⟨s4 _ _ hfz, ?_⟩
      have B := back G s4
      have zne : z ≠ e := fun k => by
        rw [k, hfz] at hz
        cases hz
      have ez2 : (upd G e (.dT (iT (wholeE ds)))) z = some (.dT (fT L)) := by rw [upd_ne zne]; exact ez
      have hL2 : Hold (upd G e (.dT (iT (wholeE ds)))) L (wholeF ds) := Paired.mapP hL fun a b k => ⟨k.1, by
        have k2 := k.2
        unfold QAt at k2 ⊢
        rw [upd_ne (fun y => by rw [y, s4 _ _ hfz] at k2; cases k2)]
        exact k2⟩
      generalize (upd G e (.dT (iT (wholeE ds)))) = H5 at B ez2 hL2 ⊢
      refine ⟨z, wholeF ds, rfl, ⟨L, ez2, hL2⟩, wholeF_ok hp, fun H6 x s6 hx nx => ?_⟩
      have S6 := s1.trans (s2.trans (B.trans s6))
      refine ⟨_, rfl, a, ds, rfl, same_sqt S6 hT, hp, fun H7 s7 => ?_⟩
      refine ⟨by show 2 ≤ sizeLine; decide, fun y ny => ⟨by show 2 ≤ sizeLine; decide, fun zz nzz => ?_⟩⟩
      have s8 := same_new ny (.tup [.int ((lcmF (pureF ds) : Nat) : Int), .int 1])
      have s9 := same_new nzz (.tup [.ref x, .ref y])
      exact q _ zz x y (S6.trans (s7.trans (s8.trans s9))) upd_same (hx.same (s7.trans (s8.trans s9))) (s9 _ _ upd_same)
end
end K60

namespace K60
open PySem PySem.Spec PyProof.Rows L2 RZ L5 XX LK M24 DT M38
def Pail (p : Addr) (H : Hp) : Prop := ∃ g x c, H p = some (pailO g x c)
section
variable {K : PySem.W.Frag}
theorem do_any {Hb : Hp} {p l : Addr} (ns : List Int) {Q : VK} {E : XK} (hp : Pail p Hb) (hl : Hb l = none) (ne : ns ≠ []) (few : ns.length ≤ 1000) (q : ∀ H' k, k ∈ ns → Bar p Hb H' → Pail p H' → Q (.int k) H') : sp_some K [.ref p, .ref l] (upd Hb l (.lst (ns.map V.int))) Q E := by
  obtain ⟨g, x, c, hp⟩ := hp
  have sl := same_new hl (.lst (ns.map V.int))
  have nlp : l ≠ p := fun e => by
    rw [e, hp] at hl
    cases hl
  refine ⟨p, l, _, g, x, c, rfl, sl _ _ hp, nlp, SqL.of upd_same, fun e => ne (List.map_eq_nil_iff.mp e), by rw [List.length_map]; exact few, fun g1 x1 c1 v hv => ?_⟩
  obtain ⟨k, hk, rfl⟩ := List.mem_map.mp hv
  exact q _ k hk ((Bar.same sl).trans Bar.upd) ⟨g1, x1, c1, upd_same⟩
end
section
variable {P : Program} {w : World} {K : PySem.W.Frag} {mg : Str → Option Value} {base : Heap}
end
end K60

namespace K60
open PySem PySem.Spec PyProof.Rows L2 RZ L5 XX LK M24 DT M38
theorem bar_updL {p D : Addr} {o : HO} {H H' : Hp} (b : Bar p H H') (hD : H D = none) : Bar p H (upd H' D o) := fun c u n h => by
  rw [upd_ne (ne_of_none h hD)]
  exact b c u n h
theorem put_keys (kvs : List (Key × V)) (k : Key) (v : V) : (k ∈ kvs.map (·.1) → (putK kvs k v).map (·.1) = kvs.map (·.1)) ∧ (k ∉ kvs.map (·.1) → (putK kvs k v).map (·.1) = kvs.map (·.1) ++ [k]) := by
  unfold putK
  have e : (kvs.any fun kv => decide (kv.1 = k)) = true ↔ k ∈ kvs.map (·.1) := by
    rw [List.any_eq_true, List.mem_map]
    exact ⟨fun ⟨x, hx, h⟩ => ⟨x, hx, of_decide_eq_true h⟩, fun ⟨x, hx, h⟩ => ⟨x, hx, decide_eq_true h⟩⟩
  constructor
  · intro h
    rw [if_pos (e.mpr h), List.map_map]
    refine List.map_congr_left fun kv _ => ?_
    show (if kv.1 = k then (kv.1, v) else kv).1 = kv.1
    split <;> rfl
  · intro h
    rw [if_neg (fun z => h (e.mp z)), List.map_append]
    rfl
section
variable {P : Program} {w : World} {K : PySem.W.Frag} {mg : Str → Option Value} {base : Heap}
def sp_wdeg (K : PySem.W.Frag) : Sp := fun vs H Q _ => ∃ (p : Addr) (size most : Nat), vs = [.ref p, .int ((size : Nat) : Int), .int ((most : Nat) : Int)] ∧ Pail p H ∧ 1 ≤ size ∧ size ≤ 9 ∧ most ≤ 480 ∧
  ∀ H' z ds, Bar p H H' → Pail p H' → H' z = some (.tup (nv ds)) → PureN ds → Q (.ref z) H'
theorem ok_wdeg (T : Txt K mg) : FnOk P w K mg base CX0 2 T.a_w_degrees T.d_w_degrees ["_law_bowl_here", "_law_size", "_law_most"] (sp_wdeg K) := by
  refine T.F_w_degrees.ok sc_w_degrees (fun vs H Q E h => ?_) (fun cdv A outer s H vs Q E hr h => ?_)
  · obtain ⟨p, size, most, rfl, _⟩ := h
    rfl
  · obtain ⟨p, size, most, rfl, ⟨g, x, c, hp⟩, h1, h9, hm, q⟩ := h
    refine ⟨_, (pss_cons (ps_set (i := 3) sc_w_degrees.nd rfl (Or.inl rfl) pe_dnewK)
      (pss_cons (ps_for PassesOwn.never rfl (pi_range1 rfl T.z_range (pa_cons (pe_op op_add pe_int (pe_call  (ok_dip T) (hr.mono (by decide)) (by rfl) T.m_w_dip T.F_w_dip.kp T.b_w_dip .nil pass0 (pa_cons (pv 0) (pa_cons (pv 1) pa_nil)))) pa_nil)) (pg_name (i := 4) sc_w_degrees.nd rfl (Or.inl rfl))
      (pss_one (ps_dput (hu_of hr) (pv 3) (pe_call  (ok_dip T) (hr.mono (by decide)) (by rfl) T.m_w_dip T.F_w_dip.kp T.b_w_dip .nil pass0 (pa_cons (pv 0) (pa_cons (pe_op op_add (pv 2) pe_int) pa_nil))) pe_bl rfl)))
      (pss_one (ps_ret (pe_callTy call_tuple_of (by rfl) T.z_tuple boot_tuple (pa_cons (pe_callB (call_sortedDI rfl) (by rfl) T.z_sorted (by decide +kernel) (pa_cons (pv 3) pa_nil)) pa_nil)))))), ?_⟩
    intro d hd
    have hdp : d ≠ p := fun e => by rw [e, hp] at hd; cases hd
    have sd := same_new hd (.dK [])
    refine ⟨_, rfl, _, rfl, p, _, g, x, c, rfl, sd _ _ hp, by omega, log_le (by rw [Int.natAbs_natCast]; exact Nat.lt_of_le_of_lt h9 (by decide)), fun g1 x1 c1 r hr0 hr1 => ?_⟩
    obtain ⟨n, rfl⟩ : ∃ n : Nat, r = ((n : Nat) : Int) := ⟨r.toNat, by omega⟩
    have b0 : Bar p H (upd (upd H d (.dK [])) p (pailO g1 x1 c1)) := (Bar.same sd).trans Bar.upd
    have p0 : (upd (upd H d (.dK [])) p (pailO g1 x1 c1)) p = some (pailO g1 x1 c1) := upd_same
    have d0 : (upd (upd H d (.dK [])) p (pailO g1 x1 c1)) d = some (.dK []) := by rw [upd_ne hdp, upd_same]
    generalize (upd (upd H d (.dK [])) p (pailO g1 x1 c1)) = H0 at b0 p0 d0 ⊢
    refine ⟨_, _, rfl, rfl, _, rfl, by omega, by omega, ?_⟩
    refine for_range (lo := 0) (n := ((1 : Int) + ((n : Nat) : Int)).toNat) (fun i σ H' => ∃ (v4 : Option V) (kvs : List (Key × V)) (ks : List Int), σ = [some (.ref p), some (.int ((size : Nat) : Int)), some (.int ((most : Nat) : Int)), some (.ref d), v4] ∧ Bar p H H' ∧ Pail p H' ∧ H' d = some (.dK kvs) ∧ kvs.map (·.1) = ks.map Sum.inl ∧ ks.Nodup ∧ ks.length ≤ i ∧ (0 < i → ks ≠ []) ∧ ∀ k ∈ ks, 0 ≤ k ∧ k ≤ ((most : Nat) : Int))
      ⟨none, [], [], rfl, b0, ⟨_, _, _, p0⟩, d0, rfl, List.nodup_nil, Nat.le_refl _, fun h => absurd h (by decide), fun _ h => nomatch h⟩ ?_ ?_
    · rintro i σ H1 hi ⟨v4, kvs, ks, rfl, b1, ⟨g2, x2, c2, hp1⟩, hd1, hk, hnd, hkl, hne, hb⟩
      have hi9 : i < 1 + n := by
        have : i < ((1 : Int) + ((n : Nat) : Int)).toNat := hi
        omega
      refine ⟨_, rfl, _, rfl, _, rfl, _, _, rfl, rfl, p, _, g2, x2, c2, rfl, hp1, by omega, log_le (Nat.lt_of_le_of_lt (show (((most : Nat) : Int) + 1).natAbs ≤ 481 by omega) (by decide)), fun g3 x3 c3 r2 hr2 hr3 => ?_⟩
      have p2 : (upd H1 p (pailO g3 x3 c3)) p = some (pailO g3 x3 c3) := upd_same
      have d2 : (upd H1 p (pailO g3 x3 c3)) d = some (.dK kvs) := by rw [upd_ne hdp]; exact hd1
      have b2 : Bar p H (upd H1 p (pailO g3 x3 c3)) := b1.trans Bar.upd
      generalize (upd H1 p (pailO g3 x3 c3)) = H2 at p2 d2 b2 ⊢
      have hkl2 : kvs.length = ks.length := by
        have := congrArg List.length hk
        rwa [List.length_map, List.length_map] at this
      refine ⟨d, _, rfl, DPut.k (k := Sum.inl r2) d2 (sizeK (by omega)), ?_⟩
      have hp3 : (upd H2 d (.dK (putK kvs (Sum.inl r2) (.bl true)))) p = some (pailO g3 x3 c3) := by rw [upd_ne (Ne.symm hdp)]; exact p2
      have hmem : (Sum.inl r2 : Key) ∈ kvs.map (·.1) ↔ r2 ∈ ks := by
        rw [hk, List.mem_map]
        exact ⟨fun ⟨a, ha, e⟩ => by cases e; exact ha, fun h => ⟨r2, h, rfl⟩⟩
      have hpk := put_keys kvs (Sum.inl r2) (.bl true)
      by_cases hin : r2 ∈ ks
      · have hpk := hpk.1 (hmem.mpr hin)
        rw [hk] at hpk
        exact ⟨_, _, ks, rfl, bar_updL b2 hd, ⟨_, _, _, hp3⟩, upd_same, hpk, hnd, by omega, (fun _ e => by rw [e] at hin; cases hin), hb⟩
      · have hpk := hpk.2 (fun z => hin (hmem.mp z))
        rw [hk] at hpk
        refine ⟨_, _, ks ++ [r2], rfl, bar_updL b2 hd, ⟨_, _, _, hp3⟩, upd_same, by rw [hpk, List.map_append]; rfl, ?_, by rw [List.length_append]; show _ + 1 ≤ _; omega, fun _ e => by simp at e, fun k hk2 => ?_⟩
        · rw [List.nodup_append]
          refine ⟨hnd, by simp, fun a ha b hb2 => ?_⟩
          rw [List.mem_singleton.mp hb2]
          exact fun e => hin (by rw [← e]; exact ha)
        · rcases List.mem_append.mp hk2 with hk2 | hk2
          · exact hb k hk2
          · rw [List.mem_singleton.mp hk2]
            omega
    · rintro σ H1 ⟨v4, kvs, ks, rfl, b1, ⟨g2, x2, c2, hp1⟩, hd1, hk, hnd, hkl, hne, hb⟩
      have hkl' : ks.length ≤ 1 + n := by
        have : ks.length ≤ ((1 : Int) + ((n : Nat) : Int)).toNat := hkl
        omega
      have hne' : ks ≠ [] := hne (by show 0 < ((1 : Int) + ((n : Nat) : Int)).toNat; omega)
      refine ⟨_, rfl, d, kvs, ks, rfl, .inl hd1, hk, by omega, fun ys z pm pw hz => ?_⟩
      have s2 := same_new hz (.lst (ys.map V.int))
      refine ⟨z, _, rfl, .inl ⟨SqL.of upd_same, fun z2 hz2 => ?_⟩⟩
      have s3 := same_new hz2 (.tup (ys.map V.int))
      have S := s2.trans s3
      have lo : ∀ e ∈ ys, 0 ≤ e ∧ e ≤ 480 := fun e he => by
        have := hb e (pm.mem_iff.mp he)
        omega
      have ey : ys.map V.int = nv (ys.map Int.toNat) := by
        show _ = (ys.map Int.toNat).map _
        rw [List.map_map]
        refine List.map_congr_left fun e he => ?_
        show V.int e = V.int ((e.toNat : Nat) : Int)
        rw [Int.toNat_of_nonneg (lo e he).1]
      have ll := pm.length_eq
      refine q _ z2 (ys.map Int.toNat) (b1.trans (Bar.same S)) ⟨_, _, _, S _ _ hp1⟩ (by rw [upd_same, ey]) ⟨?_, fun x hx => ?_, ?_, ?_⟩
      · have nd : ys.Nodup := pm.nodup_iff.mpr hnd
        have both : ys.Pairwise fun a b => a ≤ b ∧ a ≠ b := by
          refine List.pairwise_iff_getElem.mpr fun i j hi hj lt => ⟨?_, (List.pairwise_iff_getElem.mp nd) i j hi hj lt⟩
          exact (List.pairwise_iff_getElem.mp pw) i j hi hj lt
        refine List.pairwise_map.mpr (both.imp_of_mem fun {a b} ha hb' k => ?_)
        have := lo a ha
        have := lo b hb'
        show a.toNat < b.toNat
        omega
      · obtain ⟨e, he, rfl⟩ := List.mem_map.mp hx
        have := lo e he
        omega
      · rw [List.length_map, ll]
        have := List.length_pos_iff.mpr hne'
        omega
      · rw [List.length_map, ll]
        omega
end
end K60

/-! the products of a degree: a mirror in plain Lean, and what is checked of it once for all -/
namespace L5
def foundN (d : Nat) : Nat → List (List Nat)
  | 0 => [[]]
  | n + 1 => (foundN d n).flatMap fun t => (List.range (d + 1 - t.sum)).map fun e => t ++ [e]
def asc (l d : Nat) : List (List Nat) := (foundN d (l - 1)).map fun t => t ++ [d - t.sum]
def listed (l d : Nat) : List (List Nat) := (asc l d).reverse
def lastPos (t : List Nat) : Nat → Option Nat
  | 0 => none
  | n + 1 => if t.getD n 0 = 0 then lastPos t n else some n
def nextAt (t : List Nat) (k : Nat) : List Nat := t.take k ++ [t.getD k 0 - 1, t.getD (t.length - 1) 0 + 1] ++ List.replicate (t.length - 1 - k - 1) 0
def next (t : List Nat) : Option (List Nat) := (lastPos t (t.length - 1)).map (nextAt t)
def chainB : List (List Nat) → Bool
  | [] => true
  | t :: r => (match r with
    | [] => (lastPos t (t.length - 1)).isNone
    | u :: _ => match lastPos t (t.length - 1) with
      | none => false
      | some k => nextAt t k == u) && chainB r
def sums : Nat → List Nat → List Nat
  | _, [] => []
  | a, x :: r => (a + x) :: sums (a + x) r
def rowN (d : Nat) : Nat → List Nat
  | 0 => 1 :: List.replicate d 0
  | n + 1 => sums 0 (rowN d n)
def choicesN (l d : Nat) : Nat := (rowN d l).getD d 0
def unitN (l k : Nat) : List Nat := (List.range l).map fun p => if p = k then 1 else 0
def lexB : List Nat → List Nat → Bool
  | [], _ => true
  | _ :: _, [] => false
  | x :: xs, y :: ys => if x < y then true else if x = y then lexB xs ys else false
def ascB : List (List Nat) → Bool
  | [] => true
  | t :: r => (match r with
    | [] => true
    | u :: _ => lexB t u) && ascB r
def prodB (l d : Nat) (t : List Nat) : Bool := t.length == l && t.sum == d && t.all (fun e => Nat.ble e 20)
def okB (l d : Nat) : Bool :=
  let L := listed l d
  let M := asc l (d + 1)
  (match L with | [] => false | t :: _ => t == d :: List.replicate (l - 1) 0) && chainB L && ascB (asc l d) && ascB M && L.length == choicesN l d && L.all (prodB l d) && M.all (prodB l (d + 1)) && Nat.ble M.length 400 &&
    (List.range l).all fun k => (L.map fun t => List.zipWith (· + ·) t (unitN l k)) == M.reverse.filter fun t => Nat.blt 0 (t.getD k 0)
def top (l : Nat) : Nat := if l < 4 then 13 else if l ≤ 6 then 5 else 4
def szB (l d : Nat) : Bool := (List.range l).all fun n => Nat.ble (foundN d n).length 400
theorem all_ok : (List.range 8).all (fun i => (List.range (top (i + 1))).all fun d => okB (i + 1) d && (szB (i + 1) d && szB (i + 1) (d + 1))) = true := by decide +kernel
theorem ok_of {l d : Nat} (h1 : 1 ≤ l) (h8 : l ≤ 8) (hd : d < top l) : okB l d = true ∧ szB l d = true ∧ szB l (d + 1) = true := by
  have h := List.all_eq_true.mp all_ok (l - 1) (List.mem_range.mpr (by omega))
  rw [show l - 1 + 1 = l by omega] at h
  have g := List.all_eq_true.mp h d (List.mem_range.mpr hd)
  rw [Bool.and_eq_true, Bool.and_eq_true] at g
  exact ⟨g.1, g.2.1, g.2.2⟩
theorem sz_of {l d n : Nat} (h : szB l d = true) (hn : n < l) : (foundN d n).length ≤ 400 := Nat.le_of_ble_eq_true (List.all_eq_true.mp h n (List.mem_range.mpr hn))
structure Ok (l d : Nat) : Prop where
  head : ∃ r, listed l d = (d :: List.replicate (l - 1) 0) :: r
  chain : chainB (listed l d) = true
  asc1 : ascB (asc l d) = true
  asc2 : ascB (asc l (d + 1)) = true
  len : (listed l d).length = choicesN l d
  prod1 : ∀ t ∈ listed l d, prodB l d t = true
  prod2 : ∀ t ∈ asc l (d + 1), prodB l (d + 1) t = true
  size : (asc l (d + 1)).length ≤ 400
  more : ∀ k, k < l → ((listed l d).map fun t => List.zipWith (· + ·) t (unitN l k)) = (listed l (d + 1)).filter fun t => Nat.blt 0 (t.getD k 0)
theorem okS {l d : Nat} (h : okB l d = true) : Ok l d := by
  unfold okB at h
  simp only [Bool.and_eq_true] at h
  obtain ⟨⟨⟨⟨⟨⟨⟨⟨h1, h2⟩, h3⟩, h4⟩, h5⟩, h6⟩, h7⟩, h8⟩, h9⟩ := h
  refine ⟨?_, h2, h3, h4, beq_iff_eq.mp h5, fun t ht => List.all_eq_true.mp h6 t ht, fun t ht => List.all_eq_true.mp h7 t ht, Nat.le_of_ble_eq_true h8, fun k hk => beq_iff_eq.mp (List.all_eq_true.mp h9 k (List.mem_range.mpr hk))⟩
  cases e : listed l d with
  | nil =>
    rw [e] at h1
    cases h1
  | cons t r =>
    rw [e] at h1
    rw [beq_iff_eq.mp h1]
    exact ⟨r, rfl⟩
theorem prod_of {l d : Nat} {t : List Nat} (h : prodB l d t = true) : t.length = l ∧ t.sum = d ∧ ∀ e ∈ t, e ≤ 20 := by
  unfold prodB at h
  rw [Bool.and_eq_true, Bool.and_eq_true] at h
  exact ⟨beq_iff_eq.mp h.1.1, beq_iff_eq.mp h.1.2, fun e he => Nat.le_of_ble_eq_true (List.all_eq_true.mp h.2 e he)⟩
theorem chain_last : ∀ {L : List (List Nat)} {i : Nat} {t : List Nat}, chainB L = true → L[i]? = some t → L[i + 1]? = none → lastPos t (t.length - 1) = none
  | [], _, _, _, h, _ => by simp at h
  | [u], 0, t, h, e, _ => by
    have e' : u = t := Option.some.inj e
    subst e'
    have h' : ((lastPos u (u.length - 1)).isNone && true) = true := h
    rw [Bool.and_true] at h'
    exact Option.isNone_iff_eq_none.mp h'
  | [_], i + 1, _, _, e, _ => by simp at e
  | u :: v :: r, 0, t, h, e, n => by simp at n
  | u :: v :: r, i + 1, t, h, e, n => by
    have h' : (_ && chainB (v :: r)) = true := h
    rw [Bool.and_eq_true] at h'
    exact chain_last h'.2 e n
theorem chain_next : ∀ {L : List (List Nat)} {i : Nat} {t u : List Nat}, chainB L = true → L[i]? = some t → L[i + 1]? = some u → ∃ k, lastPos t (t.length - 1) = some k ∧ nextAt t k = u
  | [], _, _, _, _, h, _ => by simp at h
  | [_], _, _, _, _, _, n => by simp at n
  | u :: v :: r, 0, t, w, h, e, n => by
    have e' : u = t := Option.some.inj e
    have n' : v = w := Option.some.inj n
    subst e' n'
    have h' : ((match lastPos u (u.length - 1) with | none => false | some k => nextAt u k == v) && chainB (v :: r)) = true := h
    rw [Bool.and_eq_true] at h'
    cases q : lastPos u (u.length - 1) with
    | none =>
      rw [q] at h'
      cases h'.1
    | some k =>
      rw [q] at h'
      exact ⟨k, rfl, beq_iff_eq.mp h'.1⟩
  | u :: v :: r, i + 1, t, w, h, e, n => by
    have h' : (_ && chainB (v :: r)) = true := h
    rw [Bool.and_eq_true] at h'
    exact chain_next (L := v :: r) h'.2 e n
theorem found_len (d : Nat) : ∀ n, ∀ t ∈ foundN d n, t.length = n
  | 0, t, h => by
    rw [List.mem_singleton.mp h]
    rfl
  | n + 1, t, h => by
    obtain ⟨u, hu, h2⟩ := List.mem_flatMap.mp h
    obtain ⟨e, _, rfl⟩ := List.mem_map.mp h2
    rw [List.length_append, found_len d n u hu]
    rfl
theorem found_sum (d : Nat) : ∀ n, ∀ t ∈ foundN d n, t.sum ≤ d
  | 0, t, h => by
    rw [List.mem_singleton.mp h]
    exact Nat.zero_le _
  | n + 1, t, h => by
    obtain ⟨u, hu, h2⟩ := List.mem_flatMap.mp h
    obtain ⟨e, he, rfl⟩ := List.mem_map.mp h2
    have h1 := found_sum d n u hu
    have h3 := List.mem_range.mp he
    rw [List.sum_append, List.sum_singleton]
    omega
theorem top_le (l : Nat) : top l ≤ 13 := by
  unfold top
  split
  · omega
  · split <;> omega
end L5

/-! places in the order of words: a mirror in plain Lean -/
namespace L6
def C : Nat → Nat → Nat
  | _, 0 => 1
  | 0, _ + 1 => 0
  | n + 1, k + 1 => C n k + C n (k + 1)
theorem C_zero (n : Nat) : C n 0 = 1 := by cases n <;> rfl
theorem C_succ (n k : Nat) : C (n + 1) (k + 1) = C n k + C n (k + 1) := rfl
theorem C_over : ∀ {n k : Nat}, n < k → C n k = 0
  | 0, _ + 1, _ => rfl
  | n + 1, k + 1, h => by rw [C_succ, C_over (show n < k by omega), C_over (show n < k + 1 by omega)]
theorem C_self : ∀ n : Nat, C n n = 1
  | 0 => rfl
  | n + 1 => by rw [C_succ, C_self n, C_over (Nat.lt_succ_self n)]
theorem C_next : ∀ n t : Nat, t ≤ n → (t + 1) * C n (t + 1) = (n - t) * C n t
  | 0, 0, _ => rfl
  | n + 1, 0, _ => by
    have h := C_next n 0 (Nat.zero_le _)
    rw [C_zero] at h
    rw [C_succ, C_zero, C_zero]
    omega
  | n + 1, s + 1, h => by
    have h1 := C_next n s (by omega)
    rw [C_succ, C_succ, Nat.mul_add, show n + 1 - (s + 1) = n - s by omega, Nat.mul_add, ← h1]
    by_cases c : s + 1 ≤ n
    · have h2 := C_next n (s + 1) c
      rw [h2, ← Nat.add_mul, ← Nat.add_mul]
      congr 1
      omega
    · have e : n = s := by omega
      subst e
      rw [C_over (show n < n + 1 by omega), C_over (show n < n + 1 + 1 by omega)]
      simp
theorem C_symm : ∀ n k : Nat, k ≤ n → C n (n - k) = C n k
  | n, 0, _ => by rw [C_zero, Nat.sub_zero, C_self]
  | n + 1, k + 1, h => by
    by_cases c : k + 1 ≤ n
    · have h1 := C_symm n (k + 1) c
      have h2 := C_symm n k (by omega)
      obtain ⟨j, hj⟩ : ∃ j, n - k = j + 1 := ⟨n - k - 1, by omega⟩
      rw [show n + 1 - (k + 1) = j + 1 by omega, C_succ, C_succ, ← h1, ← h2, hj, show n - (k + 1) = j by omega]
      omega
    · have e : k = n := by omega
      subst e
      rw [Nat.sub_self, C_zero, C_self]
theorem C_pos : ∀ {n k : Nat}, k ≤ n → 0 < C n k
  | n, 0, _ => by rw [C_zero]; exact Nat.one_pos
  | n + 1, k + 1, h => by
    have := C_pos (show k ≤ n by omega)
    rw [C_succ]
    omega
/-- so many products in k + 1 letters have a degree below m -/
def W : Nat → Nat → Nat
  | _, 0 => 0
  | k, m + 1 => C (m + k) k
theorem W_zero (k : Nat) : W k 0 = 0 := by cases k <;> rfl
theorem W_at (k m : Nat) : W k (m + 1) = C (m + k) k := by cases k <;> rfl
theorem W_one (m : Nat) : W 0 (m + 1) = 1 := by rw [W_at, C_zero]
theorem W_step (k m : Nat) : W (k + 1) (m + 1) = W (k + 1) m + W k (m + 1) := by
  rw [W_at, W_at]
  cases m with
  | zero =>
    simp only [W_zero, Nat.zero_add, C_self]
  | succ m =>
    rw [W_at, show m + 1 + (k + 1) = (m + 1 + k) + 1 by omega, C_succ, show m + (k + 1) = m + 1 + k by omega]
    omega
theorem W_mono (k : Nat) : ∀ {m n : Nat}, m ≤ n → W k m ≤ W k n := by
  intro m n h
  induction n with
  | zero =>
    rw [show m = 0 by omega]
    exact Nat.le_refl _
  | succ n ih =>
    by_cases c : m ≤ n
    · refine Nat.le_trans (ih c) ?_
      cases k with
      | zero =>
        rw [W_one]
        cases n with
        | zero => rw [W_zero]; exact Nat.zero_le _
        | succ n => rw [W_one]; exact Nat.le_refl _
      | succ k => rw [W_step]; omega
    · rw [show m = n + 1 by omega]
      exact Nat.le_refl _
def place : List Nat → Nat
  | [] => 0
  | _ :: r => W r.length r.sum + place r
theorem place_lt : ∀ (t : List Nat) (k : Nat), t.length = k + 1 → place t < W k (t.sum + 1)
  | [], _, h => by cases h
  | [e], k, h => by
    have : k = 0 := by simp at h; omega
    subst this
    rw [W_one]
    show W 0 0 + 0 < 1
    rw [W_zero]
    exact Nat.one_pos
  | e :: f :: r, k, h => by
    obtain ⟨j, rfl⟩ : ∃ j, k = j + 1 := ⟨k - 1, by simp at h; omega⟩
    have hl : (f :: r).length = j + 1 := by simpa using h
    have ih := place_lt (f :: r) j hl
    show W (f :: r).length (f :: r).sum + place (f :: r) < _
    rw [hl]
    have h1 : W (j + 1) ((f :: r).sum + 1) ≤ W (j + 1) ((e :: f :: r).sum + 1) := W_mono _ (by simp)
    rw [W_step] at h1
    omega
theorem place_ex : ∀ (k d q : Nat), q < W k (d + 1) → ∃ t : List Nat, t.length = k + 1 ∧ t.sum = d ∧ place t = q
  | 0, d, q, h => ⟨[d], rfl, by simp, by
      rw [W_one] at h
      show W 0 0 + 0 = q
      rw [W_zero]
      omega⟩
  | k + 1, d, q, h => by
    have key : ∀ d, q < W (k + 1) (d + 1) → ∃ j, j ≤ d ∧ W (k + 1) j ≤ q ∧ q < W (k + 1) (j + 1) := by
      intro d
      induction d with
      | zero => exact fun h => ⟨0, Nat.le_refl _, by rw [W_zero]; exact Nat.zero_le _, h⟩
      | succ d ih =>
        intro h
        by_cases c : q < W (k + 1) (d + 1)
        · obtain ⟨j, h1, h2⟩ := ih c
          exact ⟨j, by omega, h2⟩
        · exact ⟨d + 1, Nat.le_refl _, by omega, h⟩
    obtain ⟨j, hj, h1, h2⟩ := key d h
    rw [W_step] at h2
    obtain ⟨t, ht, hs, hp⟩ := place_ex k j (q - W (k + 1) j) (by omega)
    refine ⟨(d - j) :: t, by simp [ht], by simp [hs]; omega, ?_⟩
    show W t.length t.sum + place t = q
    rw [ht, hs, hp]
    omega
/-- u stands ahead of t: it is greater -/
def gtB : List Nat → List Nat → Bool
  | x :: xs, y :: ys => if x = y then gtB xs ys else decide (y < x)
  | _, _ => false
theorem place_gt : ∀ (t u : List Nat), t.length = u.length → t.sum = u.sum → gtB t u = true → place t < place u
  | [], _, _, _, h => by cases h
  | _ :: _, [], h, _, _ => by cases h
  | x :: xs, y :: ys, hl, hs, h => by
    have hl' : xs.length = ys.length := by simpa using hl
    have hs' : x + xs.sum = y + ys.sum := by simpa using hs
    show W xs.length xs.sum + place xs < W ys.length ys.sum + place ys
    unfold gtB at h
    by_cases c : x = y
    · rw [if_pos c] at h
      have := place_gt xs ys hl' (by omega) h
      rw [hl', show xs.sum = ys.sum by omega]
      omega
    · rw [if_neg c] at h
      have hx : y < x := of_decide_eq_true h
      cases xs with
      | nil =>
        have : ys = [] := List.eq_nil_of_length_eq_zero hl'.symm
        subst this
        simp at hs'
        omega
      | cons f r =>
        have h1 := place_lt (f :: r) r.length rfl
        have h2 : W ys.length ((f :: r).sum + 1) ≤ W ys.length ys.sum := W_mono _ (by omega)
        rw [← hl', show (f :: r).length = r.length + 1 from rfl, W_step] at h2
        rw [← hl', show (f :: r).length = r.length + 1 from rfl]
        omega
theorem gt_tri : ∀ (t u : List Nat), t.length = u.length → t = u ∨ gtB t u = true ∨ gtB u t = true
  | [], [], _ => .inl rfl
  | [], _ :: _, h => by cases h
  | _ :: _, [], h => by cases h
  | x :: xs, y :: ys, h => by
    have h' : xs.length = ys.length := by simpa using h
    unfold gtB
    by_cases c : x = y
    · subst c
      rw [if_pos rfl, if_pos rfl]
      rcases gt_tri xs ys h' with e | e
      · exact .inl (by rw [e])
      · exact .inr e
    · rw [if_neg c, if_neg (fun e => c e.symm)]
      by_cases d : y < x
      · exact .inr (.inl (decide_eq_true d))
      · exact .inr (.inr (decide_eq_true (by omega)))
theorem gt_iff {t u : List Nat} (hl : t.length = u.length) (hs : t.sum = u.sum) : gtB t u = decide (place t < place u) := by
  rcases gt_tri t u hl with e | e | e
  · subst e
    have : gtB t t = false := by
      cases h : gtB t t with
      | false => rfl
      | true => exact absurd (place_gt t t rfl rfl h) (Nat.lt_irrefl _)
    rw [this, decide_eq_false (Nat.lt_irrefl _)]
  · rw [e, decide_eq_true (place_gt t u hl hs e)]
  · have h := place_gt u t hl.symm hs.symm e
    rw [decide_eq_false (by omega)]
    cases g : gtB t u with
    | false => rfl
    | true =>
      have := place_gt t u hl hs g
      omega
theorem place_inj {t u : List Nat} (hl : t.length = u.length) (hs : t.sum = u.sum) (h : place t = place u) : t = u := by
  rcases gt_tri t u hl with e | e | e
  · exact e
  · have := place_gt t u hl hs e
    omega
  · have := place_gt u t hl.symm hs.symm e
    omega
/-- the ends -/
theorem sum_rep0 (n : Nat) : (List.replicate n 0).sum = 0 := by
  induction n with
  | zero => rfl
  | succ n ih => rw [List.replicate_succ, List.sum_cons, ih]
theorem place_first (d n : Nat) : place (d :: List.replicate n 0) = 0 := by
  show W _ _ + place _ = 0
  rw [sum_rep0, W_zero, Nat.zero_add]
  induction n with
  | zero => rfl
  | succ n ih =>
    rw [List.replicate_succ]
    show W _ _ + place _ = 0
    rw [sum_rep0, W_zero, ih]
theorem place_last (d : Nat) : ∀ n : Nat, place (List.replicate n 0 ++ [d]) + 1 = W n (d + 1)
  | 0 => by
    rw [W_one]
    show W 0 0 + 0 + 1 = 1
    rw [W_zero]
  | n + 1 => by
    have ih := place_last d n
    rw [List.replicate_succ, List.cons_append]
    show W (List.replicate n 0 ++ [d]).length (List.replicate n 0 ++ [d]).sum + place _ + 1 = _
    have e1 : (List.replicate n 0 ++ [d]).length = n + 1 := by simp
    have e2 : (List.replicate n 0 ++ [d]).sum = d := by rw [List.sum_append, sum_rep0]; simp
    rw [e1, e2, W_step]
    omega
end L6

/-! all products of a small degree: what is checked once for all -/
namespace L6
open L5
def pairsN (d : Nat) : Nat → List (List Nat × Nat)
  | 0 => [([], d)]
  | n + 1 => (pairsN d n).flatMap fun q => (List.range (q.2 + 1)).map fun e => (q.1 ++ [q.2 - e], e)
def rows (l d : Nat) : List (List Nat) := (pairsN d (l - 1)).map fun q => q.1 ++ [q.2]
def okB6 (l d : Nat) : Bool :=
  let L := rows l d
  (match L with | [] => false | t :: _ => t == d :: List.replicate (l - 1) 0) && chainB L && L.all (prodB l d) && (L.map place == List.range L.length) && L.length == W (l - 1) (d + 1) &&
    (List.range l).all fun n => Nat.ble (pairsN d n).length 400 && (pairsN d n).all fun q => Nat.ble q.2 d
theorem all_ok6 : (List.range 4).all (fun i => (List.range 7).all fun d => okB6 (i + 1) d) = true := by decide +kernel
structure Ok6 (l d : Nat) : Prop where
  head : ∃ r, rows l d = (d :: List.replicate (l - 1) 0) :: r
  chain : chainB (rows l d) = true
  prod : ∀ t ∈ rows l d, prodB l d t = true
  plc : (rows l d).map place = List.range (rows l d).length
  len : (rows l d).length = W (l - 1) (d + 1)
  size : ∀ n, n < l → (pairsN d n).length ≤ 400
  rest : ∀ n, n < l → ∀ q ∈ pairsN d n, q.2 ≤ d
theorem ok6 {l d : Nat} (h1 : 1 ≤ l) (h4 : l ≤ 4) (hd : d < 7) : Ok6 l d := by
  have h := List.all_eq_true.mp all_ok6 (l - 1) (List.mem_range.mpr (by omega))
  rw [show l - 1 + 1 = l by omega] at h
  have g := List.all_eq_true.mp h d (List.mem_range.mpr hd)
  unfold okB6 at g
  simp only [Bool.and_eq_true] at g
  obtain ⟨⟨⟨⟨⟨g1, g2⟩, g3⟩, g4⟩, g5⟩, g6⟩ := g
  have k6 : ∀ n, n < l → Nat.ble (pairsN d n).length 400 = true ∧ ∀ q ∈ pairsN d n, Nat.ble q.2 d = true := fun n hn => by
    have := List.all_eq_true.mp g6 n (List.mem_range.mpr hn)
    rw [Bool.and_eq_true] at this
    exact ⟨this.1, fun q hq => List.all_eq_true.mp this.2 q hq⟩
  refine ⟨?_, g2, fun t ht => List.all_eq_true.mp g3 t ht, beq_iff_eq.mp g4, beq_iff_eq.mp g5, fun n hn => Nat.le_of_ble_eq_true (k6 n hn).1, fun n hn q hq => Nat.le_of_ble_eq_true ((k6 n hn).2 q hq)⟩
  cases e : rows l d with
  | nil =>
    rw [e] at g1
    cases g1
  | cons t r =>
    rw [e] at g1
    rw [beq_iff_eq.mp g1]
    exact ⟨r, rfl⟩
theorem Ok6.at {l d i : Nat} {t : List Nat} (O : Ok6 l d) (h : (rows l d)[i]? = some t) : place t = i := by
  have h1 : ((rows l d).map place)[i]? = some (place t) := by rw [List.getElem?_map, h] <;> rfl
  rw [O.plc] at h1
  obtain ⟨hi, h2⟩ := List.getElem?_eq_some_iff.mp h1
  rw [List.getElem_range] at h2
  exact h2.symm
theorem W_le : ∀ l, l < 4 → ∀ d, d < 7 → W l (d + 1) ≤ 84 := by decide +kernel
end L6

namespace L6
open PySem PySem.W
theorem fp_up (n : Nat) : ∀ k : Nat, Builtin.Math.fallingProduct ((n : Int) + 1) (k + 1) = ((n : Int) + 1) * Builtin.Math.fallingProduct (n : Int) k
  | 0 => by rw [mc_fp_one, mc_fp_zero, Int.mul_one]
  | k + 1 => by
    rw [mc_fp_succ, fp_up n k, mc_fp_succ, Int.mul_assoc]
    congr 1
    congr 1
    omega
theorem fp_C (n : Nat) : ∀ k : Nat, k ≤ n → Builtin.Math.fallingProduct (n : Int) k = ((C n k : Nat) : Int) * Builtin.Math.fallingProduct (k : Int) k
  | 0, _ => by rw [mc_fp_zero, mc_fp_zero, C_zero]; rfl
  | k + 1, h => by
    have e := fp_up k k
    have e2 : ((k + 1 : Nat) : Int) = (k : Int) + 1 := by omega
    rw [mc_fp_succ, fp_C n k (by omega), e2, e]
    have h2 := C_next n k (by omega)
    have h3 : ((k : Int) + 1) * ((C n (k + 1) : Nat) : Int) = ((n : Int) - (k : Int)) * ((C n k : Nat) : Int) := by
      have h4 : (((k + 1) * C n (k + 1) : Nat) : Int) = (((n - k) * C n k : Nat) : Int) := by rw [h2]
      rw [Int.natCast_mul, Int.natCast_mul, e2, show ((n - k : Nat) : Int) = (n : Int) - (k : Int) by omega] at h4
      exact h4
    rw [← Int.mul_assoc, Int.mul_comm ((C n (k + 1) : Nat) : Int), h3, Int.mul_assoc, Int.mul_comm (Builtin.Math.fallingProduct (k : Int) k), ← Int.mul_assoc, Int.mul_comm ((C n k : Nat) : Int)]
theorem comb_C (n k : Nat) : mcComb (n : Int) (k : Int) = ((C n k : Nat) : Int) := by
  by_cases h : k ≤ n
  · have key : ∀ m : Nat, m ≤ n → C n m = C n k → Builtin.Math.fallingProduct (n : Int) m / Builtin.Math.fallingProduct (m : Int) m = ((C n k : Nat) : Int) := fun m hm e => by
      have hp := mc_fp_pos (n := (m : Int)) m (Int.le_refl _)
      rw [fp_C n m hm, e]
      exact Int.mul_ediv_cancel _ (by omega)
    by_cases c : k ≤ n - k
    · rw [mcComb_at (m := (k : Int)) (by omega) (by omega) (by omega)]
      exact key k h rfl
    · rw [mcComb_at (m := ((n - k : Nat) : Int)) (by omega) (by omega) (by omega)]
      exact key (n - k) (by omega) (C_symm n k h)
  · rw [mcComb_above (by omega), C_over (by omega)]
    rfl
end L6

/-! rules -/
namespace L6
open PySem PySem.Spec PyProof.Rows L2 L5 RZ
section
variable {K : PySem.W.Frag} {H H' : Hp}
theorem take_more {α : Type} {l : List α} {i : Nat} {x : α} (h : l[i]? = some x) : l.take (i + 1) = l.take i ++ [x] := by
  rw [List.take_add_one, h]
  rfl
theorem lastPos_some {t : List Nat} : ∀ {n k : Nat}, lastPos t n = some k → k < n ∧ t.getD k 0 ≠ 0
  | 0, _, h => by cases h
  | n + 1, k, h => by
    unfold lastPos at h
    by_cases c : t.getD n 0 = 0
    · rw [if_pos c] at h
      have := lastPos_some h
      exact ⟨by omega, this.2⟩
    · rw [if_neg c] at h
      cases h
      exact ⟨Nat.lt_succ_self _, c⟩
theorem getD_at {t : List Nat} {i : Nat} (h : i < t.length) : t[i]? = some (t.getD i 0) := by
  rw [List.getD_eq_getElem?_getD, List.getElem?_eq_getElem h]
  rfl
theorem nv_take (t : List Nat) (k : Nat) : nv (t.take k) = (nv t).take k := List.map_take
theorem cut_to (xs : List V) (k : Nat) (h : k ≤ xs.length) : cutV xs none (some (k : Int)) = xs.take k := by
  unfold cutV
  rw [show HT.sIx xs.length xs.length (some (k : Int)) = min k xs.length from HT.sIx_nat xs.length xs.length k, HT.sIx_none, Nat.min_eq_left h]
  rfl
theorem rep_nv (k : Nat) : (List.replicate k [V.int 0]).flatten = nv (List.replicate k 0) := by
  induction k with
  | zero => rfl
  | succ k ih =>
    rw [List.replicate_succ, List.flatten_cons, ih, List.replicate_succ]
    rfl
/-! ### tuple rules whose answer is told alike in all cases -/
def rCatB (K : PySem.W.Frag) : R2 := fun x y H Q => ∃ a b xs ys, x = .ref a ∧ y = .ref b ∧ SqT K H a xs ∧ SqT K H b ys ∧ xs.length + ys.length ≤ sizeLine ∧ ∀ H' z, Same H H' → SqT K H' z (xs ++ ys) → Q (.ref z) H'
theorem op_catB {X : Cx} : OpR X (binaryOp .Add) (rCatB X.K) := by
  intro pins s σ H x y v u Q I rx ry h
  obtain ⟨a, b, xs, ys, rfl, rfl, hx, hy, hz, q⟩ := h
  refine op_catA pins s σ H _ _ v u Q I rx ry ⟨a, b, xs, ys, rfl, rfl, hx, hy, hz, fun e => ?_, fun _ e => ?_, fun _ _ p hp => q _ p (same_new hp _) (SqT.of upd_same)⟩
  · subst e
    exact q H b (Same.refl H) hy
  · subst e
    rw [List.append_nil] at q
    exact q H a (Same.refl H) hx
def rSlB (K : PySem.W.Frag) : V → Option Int → Option Int → Hp → VK → Prop := fun x lo hi H Q => ∃ a xs, x = .ref a ∧ SqT K H a xs ∧ ∀ H' z, Same H H' → SqT K H' z (cutV xs lo hi) → Q (.ref z) H'
theorem sl_tupB {X : Cx} : SlR X (rSlB X.K) := by
  intro pins s σ H x v vl vu lo hi sl Q I rx hs pl pu h
  obtain ⟨a, xs, rfl, hx, q⟩ := h
  refine sl_tupA pins s σ H _ v vl vu lo hi sl Q I rx hs pl pu ⟨a, xs, rfl, hx, fun e => ?_, fun _ p hp => q _ p (same_new hp _) (SqT.of upd_same)⟩
  have e2 : cutV xs lo hi = xs := by
    unfold cutV
    rw [e.1, e.2]
    exact List.take_length
  rw [e2] at q
  exact q H a (Same.refl H) hx
def rRepB (K : PySem.W.Frag) : R2 := fun x y H Q => ∃ l k xs, x = .ref l ∧ y = .int k ∧ SqT K H l xs ∧ xs ≠ [] ∧ -1000 ≤ k ∧ k ≤ 1000 ∧ xs.length ≤ 1000 ∧ ∀ H' z, Same H H' → SqT K H' z (List.replicate k.toNat xs).flatten → Q (.ref z) H'
theorem op_repB {X : Cx} : OpR X (binaryOp .Mult) (rRepB X.K) := by
  intro pins s σ H x y v u Q I rx ry h
  obtain ⟨l, k, xs, rfl, rfl, hx, hne, h1, h2, hz, q⟩ := h
  refine op_repA pins s σ H _ _ v u Q I rx ry ⟨l, k, xs, rfl, rfl, hx, hne, h1, h2, hz, fun e => ?_, fun _ p hp => q _ p (same_new hp _) (SqT.of upd_same)⟩
  subst e
  refine q H l (Same.refl H) ?_
  have e2 : (List.replicate (1 : Int).toNat xs).flatten = xs := by
    show (List.replicate 1 xs).flatten = xs
    simp
  rw [e2]
  exact hx
def Bar (p : Addr) (H H' : Hp) : Prop := ∀ b o, b ≠ p → H b = some o → H' b = some o
theorem Bar.trans {p : Addr} {A B C : Hp} (a : Bar p A B) (b : Bar p B C) : Bar p A C := fun c o n h => b c o n (a c o n h)
theorem Bar.same {p : Addr} {A B : Hp} (a : Same A B) : Bar p A B := fun c o _ h => a c o h
theorem Bar.upd {p : Addr} {A : Hp} {o : HO} : Bar p A (upd A p o) := fun c u n h => by
  rw [upd_ne n]
  exact h
theorem passG {X : Cx} : Passes (CX X.prog X.w) X E0 := fun _ _ _ _ _ _ _ c => by
  obtain ⟨_, _, _, _, _, _, _, _, _, _, _, _, no⟩ := c
  exact no.elim
theorem nostop : NoStop K E0 := fun _ _ _ no => no.elim
theorem ref_get {rs : List Addr} {i : Nat} {x : V} (h : (rs.map V.ref)[i]? = some x) : ∃ a, rs[i]? = some a ∧ x = .ref a := by
  rw [List.getElem?_map] at h
  cases e : rs[i]? with
  | none =>
    rw [e] at h
    cases h
  | some n =>
    rw [e] at h
    exact ⟨n, rfl, (Option.some.inj h).symm⟩

theorem PE.weak {X : Cx} {e : Expr} {t t' : TE} (h : PE X e t) (i : ∀ σ H Q, t' σ H Q → t σ H Q) : PE X e t' := ⟨fun pins s σ H Q I h' => h.run pins s σ H Q I (i σ H Q h')⟩
theorem PS.weak {X : Cx} {s : Stmt} {t t' : TS} (h : PS X s t) (i : ∀ D σ H, t' D σ H → t D σ H) : PS X s t' := ⟨fun pins s0 σ H D I h' => h.run pins s0 σ H D I (i D σ H h')⟩
theorem cut_from (xs : List V) (k : Nat) (h : k ≤ xs.length) : cutV xs (some (k : Int)) none = xs.drop k := by
  unfold cutV
  rw [show HT.sIx xs.length 0 (some (k : Int)) = min k xs.length from HT.sIx_nat xs.length 0 k, HT.sIx_none, Nat.min_eq_left h]
  exact List.take_of_length_le (by rw [List.length_drop]; exact Nat.le_refl _)
theorem nv_drop (t : List Nat) (k : Nat) : nv (t.drop k) = (nv t).drop k := List.map_drop
/-! ### math.comb -/
def rComb : List V → Hp → VK → Prop := fun vs H Q => ∃ a b : Nat, vs = [.int ((a : Nat) : Int), .int ((b : Nat) : Int)] ∧ a ≤ 1000000000 ∧ b ≤ 1000 ∧ Q (.int ((C a b : Nat) : Int)) H
theorem cr_comb {X : Cx} : CallR X (.builtin "math.comb") rComb := by
  intro pins s σ H vs us Q I r h
  obtain ⟨a, b, rfl, ha, hb, q⟩ := h
  obtain ⟨t, u, rfl⟩ := Vals.int2 r
  refine PySem.W.mc_comb (by omega) (by omega) (by omega) (.inl (by omega)) fun _ => ?_
  rw [comb_C]
  exact ⟨.int _, H, I.tok _, ⟨_, rfl⟩, q⟩

/-! ### t > u of two tuples of one length -/
abbrev iv (t : List Nat) : List Int := t.map fun n => ((n : Nat) : Int)
theorem iv_at (t : List Nat) (j : Nat) : (iv t).getD j 0 = ((t.getD j 0 : Nat) : Int) := by
  rw [List.getD_eq_getElem?_getD, List.getD_eq_getElem?_getD, List.getElem?_map]
  cases t[j]? <;> rfl
theorem lexAt_gt (t u : List Nat) (hl : t.length = u.length) : ∀ (k i : Nat), i + k = t.length →
    Ob.lexAt (fun j => decide ((iv t).getD j 0 = (iv u).getD j 0)) (fun j => decide ((iv u).getD j 0 < (iv t).getD j 0)) false i k = gtB (t.drop i) (u.drop i)
  | 0, i, h => by
    rw [Ob.lexAt_zero, List.drop_of_length_le (by omega)]
    unfold gtB
    rfl
  | k + 1, i, h => by
    have h1 : i < t.length := by omega
    have h2 : i < u.length := by omega
    have e1 : t.getD i 0 = t[i] := by rw [List.getD_eq_getElem?_getD, List.getElem?_eq_getElem h1]; rfl
    have e2 : u.getD i 0 = u[i] := by rw [List.getD_eq_getElem?_getD, List.getElem?_eq_getElem h2]; rfl
    rw [Ob.lexAt_succ, lexAt_gt t u hl k (i + 1) (by omega), List.drop_eq_getElem_cons h1, List.drop_eq_getElem_cons h2]
    show (if decide ((iv t).getD i 0 = (iv u).getD i 0) = true then _ else decide ((iv u).getD i 0 < (iv t).getD i 0)) = (if t[i] = u[i] then _ else decide (u[i] < t[i]))
    rw [iv_at, iv_at, e1, e2]
    by_cases c : t[i] = u[i]
    · rw [if_pos c, if_pos (decide_eq_true (by rw [c]))]
    · rw [if_neg c, if_neg (fun z => c (by have := of_decide_eq_true z; omega))]
      by_cases d : u[i] < t[i]
      · rw [decide_eq_true d, decide_eq_true (by omega)]
      · rw [decide_eq_false d, decide_eq_false (by omega)]
def rGtN (K : PySem.W.Frag) : R2 := fun x y H Q => ∃ (a b : Addr) (t u : List Nat), x = .ref a ∧ y = .ref b ∧ SqT K H a (nv t) ∧ SqT K H b (nv u) ∧ t.length = u.length ∧ Q (.bl (gtB t u)) H
theorem op_gtN {X : Cx} (hu : X.A.units < cLine) : OpR X (compareOp .Gt) (rGtN X.K) := by
  intro pins s σ H x y v w Q I rx ry h
  obtain ⟨a, b, t, u, rfl, rfl, ha, hb, hl, q⟩ := h
  cases rx
  cases ry
  rw [nv_ints] at ha hb
  obtain ⟨its, r1, p1, _⟩ := I.tuple ha
  obtain ⟨its2, r2, p2, _⟩ := I.tuple hb
  have i1 : IntsAre its (iv t) := Vals.ints r1
  have i2 : IntsAre its2 (iv u) := Vals.ints r2
  have e1 : its.toArray.size = t.length := by rw [List.size_toArray, i1.length, List.length_map]
  have e2 : its2.toArray.size = t.length := by rw [List.size_toArray, i2.length, List.length_map, hl]
  have at1 : ∀ j (h1 : j < its.toArray.size), ∃ k, its.toArray[j] = .int ((iv t).getD j 0) k := fun j h1 => PyProof.Rows.IntsAre.int_at i1 _ _ (by simp at h1; simp [h1])
  have at2 : ∀ j (h1 : j < its2.toArray.size), ∃ k, its2.toArray[j] = .int ((iv u).getD j 0) k := fun j h1 => PyProof.Rows.IntsAre.int_at i2 _ _ (by simp at h1; simp [h1])
  have R := Ob.RcOp.tuples_gt (A := X.A) (s := s) (e := fun j => decide ((iv t).getD j 0 = (iv u).getD j 0)) (r := fun j => decide ((iv u).getD j 0 < (iv t).getD j 0)) p1 p2 hu (fun j h1 h2 => by
    obtain ⟨k, et⟩ := at1 j h1
    obtain ⟨k', et'⟩ := at2 j h2
    rw [et, et']
    have z : ((iv t).getD j 0 == (iv u).getD j 0) = decide ((iv t).getD j 0 = (iv u).getD j 0) := by
      by_cases q : (iv t).getD j 0 = (iv u).getD j 0
      · rw [decide_eq_true q]; exact beq_iff_eq.mpr q
      · rw [decide_eq_false q]; exact beq_eq_false_iff_ne.mpr q
    rw [← z]
    exact SeqAt.EqAt.int_int _ _ _ _) (fun j h1 h2 _ => by
    obtain ⟨k, et⟩ := at1 j h1
    obtain ⟨k', et'⟩ := at2 j h2
    rw [et, et']
    exact Ob.RcOp.gt_int _ _ _ _)
  rw [e1, e2, Nat.min_self, decide_eq_false (Nat.lt_irrefl _), lexAt_gt t u hl t.length 0 (Nat.zero_add _), List.drop_zero, List.drop_zero] at R
  have z : wpAny (model X.prog X.w) X.A (compareOp .Gt (.ref a) (.ref b)) (EP X pins σ Q) X.xe s := R X.prog X.w X.xe (EP X pins σ Q) ⟨.bl _, H, I, rfl, q⟩
  exact z
/-! ### a for over enumerate of a tuple -/
theorem for_enumT {K : PySem.W.Frag} {a : Addr} {xs : List V} {g : TG} {tb : TS} {D : Ends} {σ : L2.St} {H : Hp} (Pv : Nat → L2.St → Hp → Prop) (h0 : Pv 0 σ H) (hl : ∀ i σ H, i ≤ xs.length → Pv i σ H → SqT K H a xs)
    (hs : ∀ i x T σ H, xs[i]? = some x → Pv i σ H → H T = none → g (.ref T) σ (upd H T (.tup [.int (i : Nat), x])) fun σ2 H2 => tb { D with nx := Pv (i + 1), ct := Pv (i + 1), bk := D.nx } σ2 H2) (hd : ∀ σ H, Pv xs.length σ H → D.nx σ H) :
    ∃ W : Nat → Nat → L2.St → Hp → Prop, (∃ m, W 0 m σ H) ∧ ∀ i m σ H, W i m σ H →
      ((IteT K a).stop i H ∧ D.nx σ H) ∨ ((IteT K a).go i H ∧ ∃ N : L2.St → Hp → Prop, (∀ σ' H', N σ' H' → ∃ m', m' < m ∧ W (i + 1) m' σ' H') ∧ ∀ x H', (IteT K a).yld i H x H' → g x σ H' fun σ2 H2 => tb { D with nx := N, ct := N, bk := D.nx } σ2 H2) := by
  refine ⟨fun i m σ H => m = xs.length - i ∧ i ≤ xs.length ∧ Pv i σ H, ⟨xs.length, by simp, Nat.zero_le _, h0⟩, ?_⟩
  rintro i m σ H ⟨rfl, hi, p⟩
  have q := hl i σ H hi p
  by_cases hlt : i < xs.length
  · refine .inr ⟨⟨xs, xs[i], q, by simp [hlt]⟩, Pv (i + 1), fun σ' H' p' => ⟨xs.length - (i + 1), by omega, rfl, hlt, p'⟩, fun x H' y => ?_⟩
    obtain ⟨T, x', rfl, free, rfl, fx⟩ := y
    exact hs i x' T σ H (fx xs q) p free
  · have e : i = xs.length := by omega
    subst e
    exact .inl ⟨⟨xs, q, Nat.le_refl _⟩, hd σ H p⟩
end
end L6

/-! what an expression gives, known and locked from there on -/
namespace FZ
open PySem PySem.Spec PyProof.Rows L2
def tFrz (te : TE) : TE := fun σ H Q => te σ H fun v H1 => ∃ d u, v = .ref d ∧ H1 d = some u ∧ Mut (some u) ∧ ∀ od, Q v (upd H1 d (.frz od u))
theorem pe_frz {X : Cx} {e : Expr} {te : TE} (h : PE X e te) : PE X e (tFrz te) := by
  refine ⟨fun pins s σ H Q I q => ?_⟩
  refine thn (h.run pins s σ H _ I q) fun v s1 ⟨x, H1, I1, r, d, u, ex, hd, mu, q1⟩ => ?_
  obtain ⟨od, I2⟩ := I1.lock hd mu
  exact ⟨x, _, I2, r, q1 od⟩
end FZ

namespace K60
open PySem PySem.Spec PyProof.Rows L2 RZ L5 XX LK M24 DT M38
open MR (ind_num ind_den q_den q_mul q_add qd)
theorem plcs_asc {ds : List Nat} : (plcs ds).Pairwise fun p q => PySem.W.dataLe false encT p q = true := by
  unfold plcs
  refine List.pairwise_map.mpr (List.pairwise_lt_range.imp fun {a b} (h : a < b) => ?_)
  rw [RS.le_dec]
  refine decide_eq_true ?_
  show [((a : Nat) : Int), _] ≤ [((b : Nat) : Int), _]
  exact List.cons_le_cons_iff.mpr (.inl (by omega))
theorem keptF_all {F : Fra} {ds : List Nat} (hk : keysF F = plcs ds) (h : ∀ t ∈ plcs ds, evF F t ≠ 0) : keptF F = plcs ds := by
  unfold keptF
  have e : srt encT (keysF F) = plcs ds := by
    rw [hk]
    exact srt_is encT_inj (List.Perm.refl _) plcs_asc
  rw [e]
  exact List.filter_eq_self.mpr fun t ht => decide_eq_true (h t ht)
theorem frq_ne {n : Nat} (h : 0 < n) : frq n ≠ 0 := fun e => by
  have := frq_num h
  rw [e] at this
  cases this
theorem tab_pure {ds : List Nat} (h : PureN ds) : tabQ (pureF ds) = (wholeE ds, ((lcmF (pureF ds) : Nat) : Int)) := by
  have nd : (keysF (pureF ds)).Nodup := keys_pureF ds ▸ nd_plcs ds
  have val : ∀ i x, ds[i]? = some x → evF (pureF ds) [i, x] = frq (far ds x) := fun i x hx => evF_mem nd (List.mem_of_getElem? (get_pureF hx))
  have kp : keptF (pureF ds) = plcs ds := keptF_all (keys_pureF ds) fun t ht => by
    obtain ⟨i, hi⟩ := List.mem_iff_getElem?.mp ht
    have il : i < ds.length := by
      have := (List.getElem?_eq_some_iff.mp hi).1
      rw [len_plcs] at this
      exact this
    have hx : ds[i]? = some ds[i] := List.getElem?_eq_getElem il
    rw [get_plcs hx] at hi
    obtain rfl := Option.some.inj hi
    rw [val i _ hx]
    exact frq_ne (far_ok h hx).1
  unfold tabQ
  rw [kp]
  refine Prod.ext ?_ rfl
  show (plcs ds).map _ = wholeE ds
  unfold plcs wholeE
  rw [List.map_map]
  refine List.map_congr_left fun i hi => ?_
  have il := List.mem_range.mp hi
  have hx : ds[i]? = some (ds.getD i 0) := by
    rw [List.getD_eq_getElem?_getD, List.getElem?_eq_getElem il]
    rfl
  have fo := far_ok h hx
  show ([i, ds.getD i 0], intF (pureF ds) [i, ds.getD i 0]) = _
  unfold intF
  rw [val i _ hx, frq_num fo.1, frq_den fo.1, Int.one_mul]
theorem tab_whole {ds : List Nat} (h : PureN ds) : tabQ (wholeF ds) = (wholeE ds, 1) := by
  have nd : (keysF (wholeF ds)).Nodup := keys_wholeF ds ▸ nd_plcs ds
  have val : ∀ i x, ds[i]? = some x → evF (wholeF ds) [i, x] = (((lcmF (pureF ds) / far ds x : Nat) : Int) : Rat) := fun i x hx => evF_mem nd (List.mem_of_getElem? (get_wholeF (get_wholeE hx)))
  have pos : ∀ i x, ds[i]? = some x → 0 < lcmF (pureF ds) / far ds x := fun i x hx => by
    have fo := far_ok h hx
    have := dvd_lcmF (List.mem_of_getElem? (get_pureF hx))
    rw [show (([i, x], frq (far ds x)) : List Nat × Rat).2.den = far ds x from frq_den fo.1] at this
    exact Nat.div_pos (Nat.le_of_dvd (lcmF_pos _) this) fo.1
  have kp : keptF (wholeF ds) = plcs ds := keptF_all (keys_wholeF ds) fun t ht => by
    obtain ⟨i, hi⟩ := List.mem_iff_getElem?.mp ht
    have il : i < ds.length := by
      have := (List.getElem?_eq_some_iff.mp hi).1
      rw [len_plcs] at this
      exact this
    have hx : ds[i]? = some ds[i] := List.getElem?_eq_getElem il
    rw [get_plcs hx] at hi
    obtain rfl := Option.some.inj hi
    rw [val i _ hx]
    have := pos i _ hx
    exact MR.c_ne (by omega)
  unfold tabQ
  rw [kp, wholeF_lcm]
  refine Prod.ext ?_ rfl
  show (plcs ds).map _ = wholeE ds
  unfold plcs wholeE
  rw [List.map_map]
  refine List.map_congr_left fun i hi => ?_
  have il := List.mem_range.mp hi
  have hx : ds[i]? = some (ds.getD i 0) := by
    rw [List.getD_eq_getElem?_getD, List.getElem?_eq_getElem il]
    rfl
  show ([i, ds.getD i 0], intF (wholeF ds) [i, ds.getD i 0]) = _
  unfold intF
  rw [val i _ hx, num_int, den_int, wholeF_lcm]
  show _ = (_, _)
  simp
section
variable {P : Program} {w : World} {K : PySem.W.Frag} {mg : Str → Option Value} {base : Heap}
def WhG (g : Nat) (H : Hp) : Nat → L2.St → Hp → Prop := fun M σ H1 => ∃ x y : Nat, σ = [some (.int ((x : Nat) : Int)), some (.int ((y : Nat) : Int))] ∧ Nat.gcd x y = g ∧ M = y ∧ H1 = H
theorem ok_wshare (T : Txt K mg) : FnOk P w K mg base CX0 1 T.a_w_share T.d_w_share ["_law_one", "_law_other"] (fun vs H Q _ => ∃ a b : Int, vs = [.int a, .int b] ∧ Q (.int ((Nat.gcd a.natAbs b.natAbs : Nat) : Int)) H) := by
  refine T.F_w_share.ok sc_w_share (fun vs H Q E h => ?_) (fun cdv A outer s H vs Q E hr h => ?_)
  · obtain ⟨a, b, rfl, _⟩ := h
    rfl
  · obtain ⟨a, b, rfl, q⟩ := h
    refine ⟨_, (pss_cons (ps_par (i := 0) (j := 1) (by rfl) sc_w_share.nd rfl rfl (by decide) rfl rfl (pa_cons (pe_callB call_abs (by rfl) T.z_abs boot_abs (pa_cons (pv 0) pa_nil)) (pa_cons (pe_callB call_abs (by rfl) T.z_abs boot_abs (pa_cons (pv 1) pa_nil)) pa_nil)) (by rfl))
      (pss_cons (ps_while PassesOwn.never (pt_cmpR op_gt (pv 1) pe_int (nomark _))
      (pss_one (ps_par (i := 0) (j := 1) (by rfl) sc_w_share.nd rfl rfl (by decide) rfl rfl (pa_cons (pv 1) (pa_cons (pe_op op_mod (pv 0) (pv 1)) pa_nil)) (by rfl))))
      (pss_one (ps_ret (pv 0))))), ?_⟩
    refine ⟨_, rfl, _, rfl, _, rfl, _, rfl, _, _, rfl, ?_⟩
    refine ⟨WhG (Nat.gcd a.natAbs b.natAbs) H, ⟨b.natAbs, a.natAbs, b.natAbs, ?_, rfl, rfl, rfl⟩, ?_⟩
    · show [some (V.int (if a < 0 then -a else a)), some (V.int (if b < 0 then -b else b))] = _
      rw [show (if a < 0 then -a else a) = ((a.natAbs : Nat) : Int) by split <;> omega, show (if b < 0 then -b else b) = ((b.natAbs : Nat) : Int) by split <;> omega]
    rintro M σ H1 ⟨x, y, rfl, hg, rfl, rfl⟩
    refine ⟨_, rfl, _, _, rfl, rfl, _, rfl, ?_⟩
    by_cases h0 : 0 < M
    · rw [decide_eq_true (show ((M : Nat) : Int) > 0 by omega)]
      refine iteT ⟨fun σ' H' => ∃ m', m' < M ∧ WhG (Nat.gcd a.natAbs b.natAbs) H1 m' σ' H', fun _ _ h => h, ?_⟩
      refine ⟨_, rfl, _, rfl, _, rfl, _, _, rfl, rfl, by omega, _, _, rfl, ?_⟩
      refine ⟨x % M, Nat.mod_lt _ h0, M, x % M, ?_, ?_, rfl, rfl⟩
      · rfl
      · rw [← hg, Nat.gcd_comm x M, Nat.gcd_rec M x, Nat.gcd_comm]
    · have e : M = 0 := by omega
      subst e
      refine iteF ⟨_, rfl, ?_⟩
      rw [Nat.gcd_zero_right] at hg
      rw [hg]
      exact q
def sp_wlow : Sp := fun vs H Q _ => ∃ a b : Int, vs = [.int a, .int b] ∧ 0 < b ∧ b.natAbs < 2 ^ 4000 ∧ ∀ H' r, Same H H' → H r = none → QAt H' r (Rat.divInt a b) → Q (.ref r) H'
theorem ok_wlow (T : Txt K mg) : FnOk P w K mg base CX0 2 T.a_w_low T.d_w_low ["_law_top", "_law_bottom"] sp_wlow := by
  refine T.F_w_low.ok sc_w_low (fun vs H Q E h => ?_) (fun cdv A outer s H vs Q E hr h => ?_)
  · obtain ⟨a, b, rfl, _⟩ := h
    rfl
  · obtain ⟨a, b, rfl, b0, bl, q⟩ := h
    refine ⟨_, (pss_cons (ps_set (i := 2) sc_w_low.nd rfl (Or.inl rfl) (pe_call  (ok_wshare T) (hr.mono (by decide)) (by rfl) T.m_w_share T.F_w_share.kp T.b_w_share .nil pass0 (pa_cons (pv 0) (pa_cons (pv 1) pa_nil))))
      (pss_cons (ps_set (i := 2) sc_w_low.nd rfl (Or.inl rfl) (pe_ifExp (pt_cmpR op_gt (pv 1) pe_int (nomark _)) (pv 2) (pe_op op_sub pe_int (pv 2))))
      (pss_one (ps_ret (pe_tup (pa_cons (pe_op op_fdivNW (pv 0) (pv 2)) (pa_cons (pe_op op_fdivNW (pv 1) (pv 2)) pa_nil))))))), ?_⟩
    have g0 : 0 < Nat.gcd a.natAbs b.natAbs := Nat.gcd_pos_of_pos_right _ (by omega)
    have gl : (((Nat.gcd a.natAbs b.natAbs : Nat) : Int)).natAbs.log2 < 9000 := by
      rw [Int.natAbs_natCast]
      have := Nat.le_of_dvd (by omega) (Nat.gcd_dvd_right a.natAbs b.natAbs)
      exact log_of (by omega)
    have d1 : ((Nat.gcd a.natAbs b.natAbs : Nat) : Int) ∣ a := Int.ofNat_dvd_left.mpr (Nat.gcd_dvd_left _ _)
    have d2 : ((Nat.gcd a.natAbs b.natAbs : Nat) : Int) ∣ b := Int.ofNat_dvd_left.mpr (Nat.gcd_dvd_right _ _)
    refine ⟨_, rfl, _, rfl, _, _, rfl, ?_⟩
    refine ⟨_, rfl, _, _, rfl, rfl, _, rfl, ?_⟩
    rw [decide_eq_true (show b > 0 from b0)]
    refine iteT ⟨_, rfl, ?_⟩
    refine ⟨_, rfl, _, rfl, _, _, rfl, rfl, ⟨by omega, gl⟩, _, rfl, _, rfl, _, _, rfl, rfl, ⟨by omega, gl⟩, by show 2 ≤ sizeLine; decide, fun r nr => ?_⟩
    refine q _ r (same_new nr _) nr ?_
    unfold QAt qv
    rw [upd_same, ind_num b0, ind_den b0]
    show some (HO.tup [V.int (a.fdiv _), V.int (b.fdiv _)]) = _
    rw [Int.fdiv_eq_ediv_of_dvd d1, Int.fdiv_eq_ediv_of_dvd d2]
end
end K60

namespace K60
open PySem PySem.Spec PyProof.Rows L2 RZ L5 XX LK M24 DT M38
theorem sqt_upd_ne {K : PySem.W.Frag} {H : Hp} {D c : Addr} {o : HO} {xs : List V} (h : SqT K H c xs) (ne : ∀ u, H c = some u → (u = .tup xs ∨ ∃ ob, u = .frz ob (.tup xs)) → c ≠ D) : SqT K (upd H D o) c xs := by
  rcases h with (h | ⟨ob, h⟩) | h
  · exact .inl (.inl (by rw [upd_ne (ne _ h (.inl rfl))]; exact h))
  · exact .inl (.inr ⟨ob, by rw [upd_ne (ne _ h (.inr ⟨ob, rfl⟩))]; exact h⟩)
  · exact .inr h
section
variable {P : Program} {w : World} {K : PySem.W.Frag} {mg : Str → Option Value} {base : Heap}
end
end K60

namespace K60
open PySem PySem.Spec PyProof.Rows L2 RZ L5 XX LK M24 DT M38
def ofT (T : Ent × Int) : Fra := T.1.map fun p => (p.1, Rat.divInt p.2 T.2)
theorem keys_ofT (T : Ent × Int) : keysF (ofT T) = keys T.1 := by
  unfold keysF ofT
  rw [List.map_map]
  rfl
theorem get_ofT {T : Ent × Int} {i : Nat} {p : List Nat × Int} (h : T.1[i]? = some p) : (ofT T)[i]? = some (p.1, Rat.divInt p.2 T.2) := by
  unfold ofT
  rw [List.getElem?_map, h]
  rfl
theorem fr_upd {H : Hp} {z : Addr} {o : HO} {L : List (List Nat × Addr)} {F : Fra} {m : List (List Key × V)} (ez : H z = some (.dT m)) (h : Hold H L F) : Hold (upd H z o) L F := Paired.mapP h fun a b k => ⟨k.1, by
  have k2 := k.2
  unfold QAt at k2 ⊢
  rw [upd_ne (fun y => by rw [y, ez] at k2; cases k2)]
  exact k2⟩
theorem q_upd {H : Hp} {z r : Addr} {o : HO} {q : Rat} {m : List (List Key × V)} (ez : H z = some (.dT m)) (h : QAt H r q) : QAt (upd H z o) r q := by
  unfold QAt at h ⊢
  rw [upd_ne (fun y => by rw [y, ez] at h; cases h)]
  exact h
theorem fr_updL {H : Hp} {z : Addr} {o : HO} {L : List (List Nat × Addr)} {F : Fra} {m : List V} (ez : H z = some (.lst m)) (h : Hold H L F) : Hold (upd H z o) L F := Paired.mapP h fun a b k => ⟨k.1, by
  have k2 := k.2
  unfold QAt at k2 ⊢
  rw [upd_ne (fun y => by rw [y, ez] at k2; cases k2)]
  exact k2⟩
theorem q_updL {H : Hp} {z r : Addr} {o : HO} {q : Rat} {m : List V} (ez : H z = some (.lst m)) (h : QAt H r q) : QAt (upd H z o) r q := by
  unfold QAt at h ⊢
  rw [upd_ne (fun y => by rw [y, ez] at h; cases h)]
  exact h
theorem putAll_fT : ∀ (M F : List (List Nat × Addr)), (keysF (F ++ M)).Nodup → putAll (fT F) (fT M) = fT (F ++ M)
  | [], F, _ => by
    rw [List.append_nil]
    rfl
  | p :: M, F, nd => by
    have e : F ++ p :: M = (F ++ [p]) ++ M := by rw [List.append_assoc]; rfl
    have nf : p.1 ∉ keysF F := fun h => by
      unfold keysF at nd h
      rw [List.map_append, List.nodup_append] at nd
      exact nd.2.2 _ h _ (by rw [List.map_cons]; exact List.mem_cons_self) rfl
    show putAll (putK (fT F) (tK p.1) (V.ref p.2)) (fT M) = _
    rw [put_new nf]
    show putAll (fT (F ++ [p])) (fT M) = _
    rw [putAll_fT M (F ++ [p]) (by rw [← e]; exact nd), ← e]
section
variable {P : Program} {w : World} {K : PySem.W.Frag} {mg : Str → Option Value} {base : Heap}
def sp_wpure' (K : PySem.W.Frag) : Sp := fun vs H Q _ => ∃ (a : Addr) (ds : List Nat), vs = [.ref a] ∧ SqT K H a (nv ds) ∧ PureN ds ∧ ∀ H' z, Same H H' → H z = none → FracAt H' z (pureF ds) → Q (.ref z) H'
theorem ok_wpure' (T : Txt K mg) : FnOk P w K mg base CX0 1 T.a_w_pure T.d_w_pure ["_law_degrees_here"] (sp_wpure' K) := by
  refine T.F_w_pure.ok sc_w_pure (fun vs H Q E h => ?_) (fun cdv A outer s H vs Q E hr h => ?_)
  · obtain ⟨a, ds, rfl, _⟩ := h
    rfl
  · obtain ⟨a, ds, rfl, hT, hp, q⟩ := h
    refine ⟨_, (pss_cons (ps_set (i := 1) sc_w_pure.nd rfl (Or.inl rfl) pe_dnewT)
      (pss_cons (ps_for PassesOwn.never rfl (show PI _ _ _ (iEnumT K _) from pi_enumT (by rfl) T.z_enumerate (pa_cons (pv 0) pa_nil)) (pg_tup (by rfl) (pgs_cons (pg_name (i := 2) sc_w_pure.nd rfl (Or.inl rfl)) (pgs_cons (pg_name (i := 3) sc_w_pure.nd rfl (Or.inl rfl)) pgs_nil)))
      (pss_cons (ps_set (i := 4) sc_w_pure.nd rfl (Or.inl rfl) pe_int)
      (pss_cons (ps_for PassesOwn.never rfl (pi_tup (pv 0)) (pg_name (i := 5) sc_w_pure.nd rfl (Or.inl rfl))
      (pss_one (ps_set (i := 4) sc_w_pure.nd rfl (Or.inl rfl) (pe_op op_mulW (pv 4) (pe_ifExp (pt_cmpR op_ne (pv 5) (pv 3) (nomark _)) (pe_callB call_abs (by rfl) T.z_abs boot_abs (pa_cons (pe_op op_sub (pv 3) (pv 5)) pa_nil)) pe_int)))))
      (pss_one (ps_dput (hu_of hr) (pv 1) (pe_tup (pa_cons (pv 2) (pa_cons (pv 3) pa_nil))) (pe_tup (pa_cons pe_int (pa_cons (pv 4) pa_nil))) rfl)))))
      (pss_one (ps_ret (pv 1))))), ?_⟩
    intro z hz
    have sz := same_new hz (.dT [])
    have nine := hp.nine
    refine ⟨_, rfl, a, _, rfl, same_sqt sz hT, ?_⟩
    refine L6.for_enumT (K := K) (a := a) (xs := nv ds) (fun i σ H' => ∃ v2 v3 v4 v5 : Option V, σ = [some (.ref a), some (.ref z), v2, v3, v4, v5] ∧ (∀ c o, c ≠ z → H c = some o → H' c = some o) ∧ ∃ L, H' z = some (.dT (fT L)) ∧ Hold H' L ((pureF ds).take i)) ⟨none, none, none, none, rfl, fun c o n h => sz c o h, [], upd_same, .nil⟩ (fun i σ H' _ ⟨_, _, _, _, _, k, _⟩ => same_sqt (fun c o h => k c o (ne_of_none h hz) h) hT) (fun i x t5 σ H1 hi hh n5 => ?_) (fun σ H1 hh => ?_)
    · obtain ⟨v2, v3, v4, v5, rfl, k1, L, ez, hL⟩ := hh
      obtain ⟨x, hx, rfl⟩ := nv_get hi
      have xm := hp.lt x (List.mem_of_getElem? hx)
      have s5 := same_new n5 (.tup [.int ((i : Nat) : Int), .int ((x : Nat) : Int)])
      refine ⟨t5, _, rfl, SqT.of upd_same, rfl, _, _, rfl, _, _, rfl, rfl, ?_⟩
      have ez5 := s5 _ _ ez
      have hL5 := hL.same s5
      have k5 : ∀ c o, c ≠ z → H c = some o → (upd H1 t5 (.tup [.int ((i : Nat) : Int), .int ((x : Nat) : Int)])) c = some o := fun c o n h => s5 _ _ (k1 c o n h)
      generalize (upd H1 t5 (.tup [.int ((i : Nat) : Int), .int ((x : Nat) : Int)])) = H5 at ez5 hL5 k5 ⊢
      have hT1 : SqT K H5 a (nv ds) := same_sqt (fun c o h => k5 c o (ne_of_none h hz) h) hT
      refine ⟨_, rfl, a, rfl, ⟨_, hT1⟩, ?_⟩
      refine for_tup (K := K) (a := a) (xs := nv ds) (fun j σ H' => ∃ v5 : Option V, σ = [some (.ref a), some (.ref z), some (.int ((i : Nat) : Int)), some (.int ((x : Nat) : Int)), some (.int ((far (ds.take j) x : Nat) : Int)), v5] ∧ H' = H5) ⟨v5, rfl, rfl⟩ (fun j σ H' _ ⟨_, _, y⟩ => y ▸ hT1) (fun j y σ H2 hj hh => ?_) (fun σ H2 hh => ?_)
      · obtain ⟨v5, rfl, rfl⟩ := hh
        obtain ⟨y, hy, rfl⟩ := nv_get hj
        have ym := hp.lt y (List.mem_of_getElem? hy)
        have fl : far (ds.take j) x < 2 ^ 100 := far_lt (by rw [List.length_take]; omega) xm fun z hz => hp.lt z (List.mem_of_mem_take hz)
        have fl4 : (((far (ds.take j) x : Nat) : Int)).natAbs < 2 ^ 4000 := up4 (a := 100) (by rw [Int.natAbs_natCast]; exact fl) (by decide)
        have eb : decide (V.int ((y : Nat) : Int) = V.int ((x : Nat) : Int)) = decide (y = x) := decide_eq_decide.mpr ⟨fun z => by have := V.int.inj z; omega, fun z => by rw [z]⟩
        refine ⟨_, rfl, _, rfl, _, rfl, rfl, _, rfl, ?_⟩
        rw [eb]
        by_cases c : y = x
        · rw [decide_eq_true c]
          refine iteF ⟨_, _, rfl, rfl, mulW fl4 (by decide), some (.int ((y : Nat) : Int)), ?_, rfl⟩
          rw [far_take hy, if_pos c]
          show [_, _, _, _, some (V.int (((far (ds.take j) x : Nat) : Int) * 1)), _] = _
          rw [Int.mul_one]
        · rw [decide_eq_false c]
          have ed : (if ((x : Nat) : Int) - ((y : Nat) : Int) < 0 then -(((x : Nat) : Int) - ((y : Nat) : Int)) else ((x : Nat) : Int) - ((y : Nat) : Int)) = ((dist x y : Nat) : Int) := by
            unfold dist
            split <;> omega
          refine iteT ⟨_, rfl, _, rfl, _, _, rfl, rfl, _, rfl, ?_⟩
          rw [ed]
          refine ⟨_, _, rfl, rfl, mulW fl4 (up4 (a := 100) (by rw [Int.natAbs_natCast]; exact Nat.lt_of_le_of_lt (dist_le xm ym) (by decide)) (by decide)), some (.int ((y : Nat) : Int)), ?_, rfl⟩
          rw [far_take hy, if_neg c, Int.natCast_mul]
          rfl
      · obtain ⟨v5, rfl, rfl⟩ := hh
        rw [nv_len, List.take_length]
        refine ⟨_, rfl, by show 2 ≤ sizeLine; decide, fun rq nq => ⟨_, rfl, _, rfl, _, rfl, by show 2 ≤ sizeLine; decide, fun tk ntk => ?_⟩⟩
        have s6 := same_new nq (.tup [.int 1, .int ((far ds x : Nat) : Int)])
        have s7 := same_new ntk (.tup [.int ((i : Nat) : Int), .int ((x : Nat) : Int)])
        have S7 := s6.trans s7
        have ez7 := S7 _ _ ez5
        have hl := hL.length
        rw [List.length_take, len_pureF] at hl
        have fo := far_ok hp hx
        have hq : QAt (upd H2 rq (.tup [.int 1, .int ((far ds x : Nat) : Int)])) rq (frq (far ds x)) := by
          unfold QAt qv
          rw [upd_same, frq_num fo.1, frq_den fo.1]
        have nk : [i, x] ∉ keysF L := by
          rw [hL.keys]
          unfold keysF
          rw [List.map_take]
          show [i, x] ∉ (keysF (pureF ds)).take i
          rw [keys_pureF]
          exact not_before (nd_plcs ds) (get_plcs hx)
        refine ⟨z, _, rfl, DPut.t (k := tK [i, x]) ez7 (nv_key upd_same) (by rw [len_fT]; exact sizeK (by omega)), ?_⟩
        refine ⟨_, _, _, _, rfl, fun c o n h => by rw [upd_ne n]; exact S7 _ _ (k5 c o n h), L ++ [([i, x], rq)], by rw [upd_same, put_new nk], ?_⟩
        rw [take_more (get_pureF hx)]
        exact Paired.snoc (fr_upd ez7 (hL5.same S7)) ⟨rfl, q_upd ez7 (hq.same s7)⟩
    · obtain ⟨v2, v3, v4, v5, rfl, k1, L, ez, hL⟩ := hh
      rw [nv_len, ← len_pureF ds, List.take_length] at hL
      exact ⟨_, rfl, q H1 z (fun c o h => k1 c o (ne_of_none h hz) h) hz ⟨L, ez, hL⟩⟩
def sp_wof (K : PySem.W.Frag) (C : Addr) : Sp := fun vs H Q _ => ∃ a T, vs = [.ref a] ∧ TabAt K C H a T ∧ EntN T.1 ∧ 0 < T.2 ∧ T.2.natAbs < 2 ^ 4000 ∧ ∀ H' z, Same H H' → FracAt H' z (ofT T) → Q (.ref z) H'
theorem ok_wof (T : Txt K mg) (O : TabT K mg) : FnOk P w K mg base CX0 3 T.a_w_of T.d_w_of ["_law_table"] (sp_wof K O.C) := by
  refine T.F_w_of.ok sc_w_of (fun vs H Q E h => ?_) (fun cdv A outer s H vs Q E hr h => ?_)
  · obtain ⟨a, T1, rfl, _⟩ := h
    rfl
  · obtain ⟨a, A1, rfl, hA, ok, b0, bl, q⟩ := h
    refine ⟨_, (pss_one (ps_ret (pe_callTy (cr_dictPT rfl hr.units) (by rfl) T.z_dict boot_dict (pa_cons (pe_lc (own := [("_law_place", 1)]) (g := gName 1) (tt := tYes) rfl sc_w_of.nd (pi_keys (FZ.pe_frz (pe_prop (E := E0) (pv 0) O.cl O.P1 (ok_ents T O) (hr.mono (by decide)) O.b1 .nil pass0 rfl))) (blkOk_by (own := [("_law_place", 1)]) (N := N_w_of) (sc := defScope s_w_of) (by decide +kernel)) (fun _ _ _ _ _ => (pg_name (i := 1) sc_w_of.nd rfl (Or.inl rfl))) (fun _ _ _ _ _ => pts_nil) (fun _ _ _ _ _ => (pe_tup (pa_cons (pv 1) (pa_cons (pe_call  (ok_wlow T) (hr.mono (by decide)) (by rfl) T.m_w_low T.F_w_low.kp T.b_w_low .nil pass0 (pa_cons (pe_dget (hu_of hr) (pe_prop (E := E0) (pv 0) O.cl O.P1 (ok_ents T O) (hr.mono (by decide)) O.b1 .nil pass0 rfl) (pv 1) (fun _ _ => rfl)) (pa_cons (pe_prop (E := E0) (pv 0) O.cl O.P2 (ok_bot O) (hr.mono (by decide)) O.b2 .nil pass0 rfl) pa_nil))) pa_nil))))) pa_nil)))), ?_⟩
    have ⟨dx, e0, h1, h2⟩ := hA
    refine ⟨_, rfl, a, dx, _, rfl, h1, a, A1, rfl, hA, ok, fun H1 d s1 n1 e1 => ?_⟩
    refine ⟨d, _, rfl, e1, trivial, fun od => ?_⟩
    have fzs : ∀ c o, H c = some o → (upd H1 d (.frz od (.dT (iT A1.1)))) c = some o := fun c o h => by
      rw [upd_ne (ne_of_none h n1)]
      exact s1 c o h
    have hfz : (upd H1 d (.frz od (.dT (iT A1.1)))) d = some (.frz od (.dT (iT A1.1))) := upd_same
    generalize (upd H1 d (.frz od (.dT (iT A1.1)))) = H2 at fzs hfz ⊢
    refine ⟨d, od, rfl, .inr ⟨_, hfz, fun D hD => ?_⟩⟩
    have sD := same_new hD (.lst [])
    have few := ok.few
    refine lc_it (walk_keysT (d := d) (o := od) (kvs := iT A1.1)) (fun i H' => Same H2 H' ∧ ∃ (rs : List Addr) (L : List (List Nat × Addr)), H' D = some (.lst (rs.map V.ref)) ∧ Hold H' L ((ofT A1).take i) ∧ Paired (fun r p => ∃ b, SqT K H' r [.ref b, p.2] ∧ H' b = some (.tup (p.1.map kV))) rs (fT L)) ⟨sD, [], [], upd_same, .nil, .nil⟩ (fun i H' _ hh => hh.1 _ _ hfz) ?_ ?_
    · rintro i x Hx H3 hi ⟨s3, rs, L, eD, hL, hP⟩ ⟨e4, k, v, r, hx, rfl, hq⟩
      subst e4
      obtain ⟨p, hp, rfl, rfl⟩ := at_step hx
      have hq' := key_nv hq
      have mp := List.mem_of_getElem? hp
      have ilt : i < A1.1.length := (List.getElem?_eq_some_iff.mp hp).1
      have ev' := ev_mem ok.nd mp
      have B : ∀ c o, H c = some o → H3 c = some o := fun c o h => s3 c o (fzs c o h)
      refine ⟨rfl, _, rfl, ?_⟩
      refine ⟨_, rfl, a, dx, _, rfl, B _ _ h1, a, A1, rfl, hA.same B, ok, fun H4 d4 s4 n4 e4 => ?_⟩
      refine ⟨_, rfl, d4, _, rfl, get_iT (.inl e4) (s4 _ _ hq') (mem_keys hp), ?_⟩
      have B4 : ∀ c o, H c = some o → H4 c = some o := fun c o h => s4 c o (B c o h)
      refine ⟨_, rfl, a, dx, _, rfl, B4 _ _ h1, a, A1, rfl, hA.same B4, ?_⟩
      refine ⟨_, _, rfl, b0, bl, fun H5 rq s5 nq hrq => ?_⟩
      refine ⟨by show 2 ≤ sizeLine; decide, fun z nz => ?_⟩
      have s6 := same_new nz (.tup [V.ref r, V.ref rq])
      have S6 := s4.trans (s5.trans s6)
      have eD6 := S6 _ _ eD
      have hl := hL.length
      have rl := hP.length
      rw [len_fT] at rl
      rw [List.length_take, show (ofT A1).length = A1.1.length from by unfold ofT; rw [List.length_map]] at hl
      have hq6 := hrq.same s6
      have few' := ok.few
      have n9 : ∀ {c : Addr} {xs : List V}, (upd H5 z (.tup [V.ref r, V.ref rq])) c = some (.tup xs) → c ≠ D := fun {c xs} h k => by
        rw [k, eD6] at h
        cases h
      have nq' : ∀ {c : Addr} {xs : List V}, SqT K (upd H5 z (.tup [V.ref r, V.ref rq])) c xs → SqT K (upd (upd H5 z (.tup [V.ref r, V.ref rq])) D (.lst (rs.map V.ref ++ [V.ref z]))) c xs := fun {c xs} h => sqt_upd_ne h fun u k w e => by
        rw [e, eD6] at k
        obtain rfl := Option.some.inj k
        rcases w with w | ⟨ob, w⟩ <;> cases w
      refine ⟨_, eD6, by rw [List.length_map]; exact sizeK (by omega), same_updL (s3.trans S6) hD, rs ++ [z], L ++ [(p.1, rq)], by rw [upd_same, List.map_append]; rfl, ?_, ?_⟩
      · rw [take_more (get_ofT hp)]
        refine Paired.snoc (fr_updL eD6 (hL.same S6)) ⟨rfl, q_updL eD6 ?_⟩
        rw [ev'] at hq6
        exact hq6
      · have cv : fT (L ++ [(p.1, rq)]) = fT L ++ [(tK p.1, V.ref rq)] := by
          unfold fT
          rw [List.map_append]
          rfl
        rw [cv]
        refine Paired.snoc (Paired.mapP hP fun r' p' z' => ?_) ⟨r, nq' (SqT.of upd_same), ?_⟩
        · obtain ⟨b', k1, k2⟩ := z'
          exact ⟨b', nq' (same_sqt S6 k1), by rw [upd_ne (n9 (S6 _ _ k2))]; exact S6 _ _ k2⟩
        · rw [upd_ne (n9 (S6 _ _ hq'))]
          exact nv_key (S6 _ _ hq')
    · rintro H3 ⟨s3, rs, L, eD, hL, hP⟩
      rw [len_iT, ← show (ofT A1).length = A1.1.length from by unfold ofT; rw [List.length_map], List.take_length] at hL
      refine ⟨D, rs, _, rfl, SqL.of eD, hP, fun z nz => ?_⟩
      have s4 := same_new nz (.dT (putAll [] (fT L)))
      have kn : (keysF L).Nodup := by rw [hL.keys, keys_ofT]; exact ok.nd
      refine q _ z (fun c o h => s4 c o (s3 c o (fzs c o h))) ⟨L, ?_, hL.same s4⟩
      rw [upd_same, show ([] : List (List Key × V)) = fT [] from rfl, putAll_fT L [] (by rw [List.nil_append]; exact kn)]
      rfl
theorem ok_wpow (T : Txt K mg) : FnOk P w K mg base CX0 1 T.a_w_power T.d_w_power ["_law_number", "_law_exponent"] (fun vs H Q _ => ∃ d e : Nat, vs = [.int ((d : Nat) : Int), .int ((e : Nat) : Int)] ∧ d ≤ 480 ∧ e ≤ 9 ∧ Q (.int ((d ^ e : Nat) : Int)) H) := by
  refine T.F_w_power.ok sc_w_power (fun vs H Q E h => ?_) (fun cdv A outer s H vs Q E hr h => ?_)
  · obtain ⟨d, e, rfl, _⟩ := h
    rfl
  · obtain ⟨d, e, rfl, h1, h2, q⟩ := h
    refine ⟨_, (pss_cons (ps_set (i := 2) sc_w_power.nd rfl (Or.inl rfl) pe_int)
      (pss_cons (ps_for PassesOwn.never rfl (pi_range1 rfl T.z_range (pa_cons (pv 1) pa_nil)) (pg_name (i := 3) sc_w_power.nd rfl (Or.inl rfl))
      (pss_one (ps_set (i := 2) sc_w_power.nd rfl (Or.inl rfl) (pe_op op_mulW (pv 2) (pv 0)))))
      (pss_one (ps_ret (pv 2))))), ?_⟩
    refine ⟨_, rfl, _, rfl, by omega, by omega, ?_⟩
    refine for_range (lo := 0) (n := e) (fun i σ H' => ∃ v3 : Option V, σ = [some (.int ((d : Nat) : Int)), some (.int ((e : Nat) : Int)), some (.int ((d ^ i : Nat) : Int)), v3] ∧ H' = H) ⟨none, rfl, rfl⟩ ?_ ?_
    · rintro i σ H1 hi ⟨v3, rfl, rfl⟩
      have b1 : d ^ i ≤ 480 ^ 9 := Nat.le_trans (Nat.pow_le_pow_left h1 i) (Nat.pow_le_pow_right (by decide) (by omega))
      have b2 : (480 : Nat) ^ 9 < 2 ^ 100 := by decide
      refine ⟨_, rfl, _, rfl, _, _, rfl, rfl, mulW (up4 (a := 100) (by rw [Int.natAbs_natCast]; omega) (by decide)) (up4 (a := 100) (by rw [Int.natAbs_natCast]; omega) (by decide)), some (.int (0 + ((i : Nat) : Int))), ?_, rfl⟩
      rw [Nat.pow_succ, Int.natCast_mul]
      rfl
    · rintro σ H1 ⟨v3, rfl, rfl⟩
      exact ⟨_, rfl, q⟩
end
end K60

namespace K60
open PySem PySem.Spec PyProof.Rows L2 RZ L5 XX LK M24 DT M38
/-! ### the rules of powers -/
def sgI (j : Nat) : Int := if j % 2 = 0 then 1 else -1
def sgQ (j : Nat) : Rat := if j % 2 = 0 then 1 else -1
theorem sg_cast (j : Nat) : ((sgI j : Int) : Rat) = sgQ j := by
  unfold sgI sgQ
  split <;> rfl
theorem sgQ_add (a b : Nat) : sgQ (a + b) = sgQ a * sgQ b := by
  unfold sgQ
  by_cases h1 : a % 2 = 0
  · by_cases h2 : b % 2 = 0
    · rw [if_pos (by omega), if_pos h1, if_pos h2]; grind
    · rw [if_neg (by omega), if_pos h1, if_neg h2]; grind
  · by_cases h2 : b % 2 = 0
    · rw [if_neg (by omega), if_neg h1, if_pos h2]; grind
    · rw [if_pos (by omega), if_neg h1, if_neg h2]; grind
theorem sgQ_sq (a : Nat) : sgQ a * sgQ a = 1 := by
  unfold sgQ
  split <;> grind
theorem sgQ_ne (a : Nat) : sgQ a ≠ 0 := fun e => by
  have := sgQ_sq a
  rw [e] at this
  grind
def cq (x : Nat) : Rat := ((x : Nat) : Int)
theorem cq_inj {x y : Nat} (h : cq x = cq y) : x = y := by
  have := MR.c_inj (show (((x : Nat) : Int) : Rat) = (((y : Nat) : Int) : Rat) from h)
  omega
theorem cq_mul (x y : Nat) : cq (x * y) = cq x * cq y := by
  unfold cq
  rw [Int.natCast_mul, Rat.intCast_mul]
theorem cq_pow (x : Nat) : ∀ e : Nat, cq (x ^ e) = cq x ^ e
  | 0 => by
    rw [Nat.pow_zero, Rat.pow_zero]
    rfl
  | e + 1 => by rw [Nat.pow_succ, cq_mul, cq_pow x e, Rat.pow_succ]
theorem far_acc (x : Nat) : ∀ (ds : List Nat) (b : Nat), ds.foldl (fun p y => if y = x then p else p * dist x y) b = b * far ds x
  | [], b => (Nat.mul_one b).symm
  | y :: ds, b => by
    unfold far
    rw [List.foldl_cons, List.foldl_cons]
    split
    · exact far_acc x ds b
    · rw [far_acc x ds (b * dist x y), far_acc x ds (1 * dist x y), Nat.one_mul, Nat.mul_assoc]
theorem far_cons (x y : Nat) (ds : List Nat) : far (y :: ds) x = (if y = x then 1 else dist x y) * far ds x := by
  show (y :: ds).foldl _ 1 = _
  rw [List.foldl_cons]
  split
  · rw [far_acc]
  · rw [far_acc, Nat.one_mul]
def cnt (ds : List Nat) (x : Nat) : Nat := (ds.filter fun y => decide (x < y)).length
theorem cnt_cons (x y : Nat) (ds : List Nat) : cnt (y :: ds) x = (if x < y then 1 else 0) + cnt ds x := by
  unfold cnt
  rw [List.filter_cons]
  by_cases h : x < y
  · rw [if_pos (decide_eq_true h), if_pos h, List.length_cons]
    omega
  · rw [if_neg (by simpa using h), if_neg h]
    omega
theorem P_far (x : Nat) : ∀ ds : List Nat, MR.P (ds.map cq) (cq x) = sgQ (cnt ds x) * cq (far ds x)
  | [] => by
    have : cq 1 = 1 := rfl
    show (1 : Rat) = 1 * cq 1
    grind
  | y :: ds => by
    show (if cq y = cq x then 1 else cq x - cq y) * MR.P (ds.map cq) (cq x) = _
    rw [P_far x ds, far_cons, cnt_cons, cq_mul, sgQ_add]
    by_cases e : y = x
    · rw [if_pos (by rw [e]), if_pos e, if_neg (by omega)]
      show 1 * _ = 1 * _ * (1 * _)
      grind
    · rw [if_neg fun z => e (cq_inj z), if_neg e]
      by_cases l : x < y
      · rw [if_pos l]
        have ed : cq (dist x y) = cq y - cq x := by
          unfold cq dist
          rw [show (((x - y + (y - x) : Nat)) : Int) = ((y : Nat) : Int) - ((x : Nat) : Int) by omega, Rat.intCast_sub]
        rw [ed, show sgQ 1 = -1 from rfl]
        grind
      · rw [if_neg l]
        have ed : cq (dist x y) = cq x - cq y := by
          unfold cq dist
          rw [show (((x - y + (y - x) : Nat)) : Int) = ((x : Nat) : Int) - ((y : Nat) : Int) by omega, Rat.intCast_sub]
        rw [ed, show sgQ 0 = 1 from rfl]
        grind
theorem cnt_asc : ∀ {ds : List Nat}, Asc ds → ∀ {i x : Nat}, ds[i]? = some x → cnt ds x + (i + 1) = ds.length
  | y :: ds, h, 0, x, e => by
    obtain rfl : y = x := by simpa using e
    have h' := List.pairwise_cons.mp h
    rw [cnt_cons, if_neg (Nat.lt_irrefl _)]
    have : cnt ds y = ds.length := by
      unfold cnt
      rw [List.filter_eq_self.mpr fun z hz => decide_eq_true (h'.1 z hz)]
    rw [this, List.length_cons]
    omega
  | y :: ds, h, i + 1, x, e => by
    have h' := List.pairwise_cons.mp h
    have e' : ds[i]? = some x := by simpa using e
    have hx : y < x := h'.1 x (List.mem_of_getElem? e')
    rw [cnt_cons, if_neg (by omega), List.length_cons]
    have := cnt_asc h'.2 e'
    omega
/-- the sum with signs of the integers, up to a step -/
def wsum (ds : List Nat) (e : Nat) : Nat → Int
  | 0 => 0
  | i + 1 => wsum ds e i + sgI i * ((lcmF (pureF ds) / far ds (ds.getD i 0) : Nat) : Int) * ((ds.getD i 0 ^ e : Nat) : Int)
theorem S_snoc {f : Rat → Rat} {x : Rat} : ∀ {xs : List Rat}, MR.S f (xs ++ [x]) = MR.S f xs + f x
  | [] => by
    show f x + 0 = 0 + f x
    grind
  | y :: xs => by
    show f y + MR.S f (xs ++ [x]) = f y + MR.S f xs + f x
    rw [S_snoc (xs := xs)]
    grind
theorem wsum_S {ds : List Nat} (hp : PureN ds) (e : Nat) : ∀ i, i ≤ ds.length → ((wsum ds e i : Int) : Rat) = sgQ (ds.length - 1) * cq (lcmF (pureF ds)) * MR.S (fun x => x ^ e / MR.P (ds.map cq) x) ((ds.take i).map cq)
  | 0, _ => by
    show (0 : Rat) = _ * _ * 0
    grind
  | i + 1, hi => by
    have hx : ds[i]? = some ds[i] := List.getElem?_eq_getElem (by omega)
    have eg : ds.getD i 0 = ds[i] := by rw [List.getD_eq_getElem?_getD, hx]; rfl
    have fo := far_ok hp hx
    have dv := dvd_lcmF (List.mem_of_getElem? (get_pureF hx))
    rw [show (([i, ds[i]], frq (far ds ds[i])) : List Nat × Rat).2.den = far ds ds[i] from frq_den fo.1] at dv
    obtain ⟨m, hm⟩ := dv
    have em : lcmF (pureF ds) / far ds ds[i] = m := by rw [hm, Nat.mul_div_cancel_left _ fo.1]
    show ((wsum ds e i + sgI i * ((lcmF (pureF ds) / far ds (ds.getD i 0) : Nat) : Int) * ((ds.getD i 0 ^ e : Nat) : Int) : Int) : Rat) = _
    rw [eg, em, Rat.intCast_add, wsum_S hp e i (by omega), Rat.intCast_mul, Rat.intCast_mul, sg_cast, take_more hx, List.map_append]
    show _ + sgQ i * cq m * cq (ds[i] ^ e) = _ * MR.S _ (_ ++ [cq ds[i]])
    rw [S_snoc, cq_pow, P_far]
    have ca := cnt_asc hp.asc hx
    have es : sgQ i = sgQ (ds.length - 1) * sgQ (cnt ds ds[i]) := by
      have : sgQ (ds.length - 1) = sgQ (cnt ds ds[i]) * sgQ i := by
        rw [← sgQ_add]
        congr 1
        omega
      rw [this]
      have := sgQ_sq (cnt ds ds[i])
      grind
    have f0 : cq (far ds ds[i]) ≠ 0 := MR.c_ne (by omega)
    have s1 := sgQ_sq (cnt ds ds[i])
    have s0 := sgQ_ne (cnt ds ds[i])
    rw [es, hm, cq_mul]
    generalize sgQ (cnt ds ds[i]) = s at *
    generalize sgQ (ds.length - 1) = c at *
    generalize cq (far ds ds[i]) = f at *
    generalize cq ds[i] ^ e = p at *
    generalize cq m = m at *
    grind
theorem wsum_zero {ds : List Nat} (hp : PureN ds) {e : Nat} (h : e + 2 ≤ ds.length) : wsum ds e ds.length = 0 := by
  refine MR.c_inj ?_
  rw [wsum_S hp e _ (Nat.le_refl _), List.take_length]
  have nd : (ds.map cq).Nodup := List.pairwise_map.mpr (hp.nd.imp fun {a b} n z => n (cq_inj z))
  have := MR.W_zero e (ds.map cq) (by rw [List.length_map]; exact h) nd
  unfold MR.W at this
  rw [this]
  show _ * (0 : Rat) = 0
  grind
theorem wsum_lt {ds : List Nat} (hp : PureN ds) {e : Nat} (he : e ≤ 9) : ∀ i, i ≤ ds.length → (wsum ds e i).natAbs ≤ i * 2 ^ 1100
  | 0, _ => by
    show (0 : Int).natAbs ≤ _
    omega
  | i + 1, hi => by
    have hx : ds[i]? = some ds[i] := List.getElem?_eq_getElem (by omega)
    have eg : ds.getD i 0 = ds[i] := by rw [List.getD_eq_getElem?_getD, hx]; rfl
    have xm := hp.lt ds[i] (List.getElem_mem _)
    have ih := wsum_lt hp he i (by omega)
    have b1 : ds[i] ^ e ≤ 480 ^ 9 := Nat.le_trans (Nat.pow_le_pow_left xm e) (Nat.pow_le_pow_right (by decide) he)
    have b2 : (480 : Nat) ^ 9 < 2 ^ 100 := by decide
    have b3 := whole_lt hp ds[i]
    have t1 : (sgI i * ((lcmF (pureF ds) / far ds ds[i] : Nat) : Int) * ((ds[i] ^ e : Nat) : Int)).natAbs ≤ 2 ^ 1100 := by
      have e1 : (sgI i).natAbs = 1 := by unfold sgI; split <;> rfl
      rw [Int.natAbs_mul, Int.natAbs_mul, e1, Nat.one_mul, Int.natAbs_natCast, Int.natAbs_natCast]
      have : (lcmF (pureF ds) / far ds ds[i]) * ds[i] ^ e ≤ 2 ^ 1000 * 2 ^ 100 := Nat.mul_le_mul (Nat.le_of_lt b3) (by omega)
      rw [← Nat.pow_add] at this
      exact this
    show (wsum ds e i + sgI i * ((lcmF (pureF ds) / far ds (ds.getD i 0) : Nat) : Int) * ((ds.getD i 0 ^ e : Nat) : Int)).natAbs ≤ _
    rw [eg, Nat.succ_mul]
    exact Nat.le_trans (Int.natAbs_add_le _ _) (Nat.add_le_add ih t1)
end K60

namespace K60
open PySem PySem.Spec PyProof.Rows L2 RZ L5 XX LK M24 DT M38
theorem stp_whole (ds : List Nat) : stp (wholeE ds) = (List.range ds.length).map fun i => ((i : Nat) : Int) := by
  unfold stp wholeE
  rw [List.map_map]
  rfl
section
variable {P : Program} {w : World} {K : PySem.W.Frag} {mg : Str → Option Value} {base : Heap}
def sp_wrules (K : PySem.W.Frag) (C : Addr) : Sp := fun vs H Q _ => ∃ a ds b, vs = [.ref a] ∧ TabAt K C H a (wholeE ds, b) ∧ PureN ds ∧ ∀ H' z, Same H H' → H' z = some (.lst ((List.replicate (ds.length - 1) (0 : Int)).map V.int)) → Q (.ref z) H'
theorem ok_wrules (T : Txt K mg) (O : TabT K mg) : FnOk P w K mg base CX0 3 T.a_w_rules T.d_w_rules ["_law_table"] (sp_wrules K O.C) := by
  refine T.F_w_rules.ok sc_w_rules (fun vs H Q E h => ?_) (fun cdv A outer s H vs Q E hr h => ?_)
  · obtain ⟨a, ds, b, rfl, _⟩ := h
    rfl
  · obtain ⟨a, ds, b, rfl, hA, hp, q⟩ := h
    refine ⟨_, (pss_cons (ps_par (i := 3) (j := 4) (by rfl) sc_w_rules.nd rfl rfl (by decide) rfl rfl (pa_cons (pe_callB (cr_max rfl) (by rfl) T.z_max (by decide +kernel) (pa_cons (pe_lc (own := [("_law_step", 1), ("_law_degree", 2)]) (g := gTup K 2 (gCons (gName 1) (gCons (gName 2) gNil))) (tt := tYes) rfl sc_w_rules.nd (pi_keys (FZ.pe_frz (pe_prop (E := E0) (pv 0) O.cl O.P1 (ok_ents T O) (hr.mono (by decide)) O.b1 .nil pass0 rfl))) (blkOk_by (own := [("_law_step", 1), ("_law_degree", 2)]) (N := N_w_rules) (sc := defScope s_w_rules) (by decide +kernel)) (fun _ _ _ _ _ => (pg_tup (by rfl) (pgs_cons (pg_name (i := 1) sc_w_rules.nd rfl (Or.inl rfl)) (pgs_cons (pg_name (i := 2) sc_w_rules.nd rfl (Or.inl rfl)) pgs_nil)))) (fun _ _ _ _ _ => pts_nil) (fun _ _ _ _ _ => (pv 1))) pa_nil)) (pa_cons (pe_lst pa_nil) pa_nil)) (by rfl))
      (pss_cons (ps_for PassesOwn.never rfl (pi_range1 rfl T.z_range (pa_cons (pv 3) pa_nil)) (pg_name (i := 5) sc_w_rules.nd rfl (Or.inl rfl))
      (pss_cons (ps_set (i := 6) sc_w_rules.nd rfl (Or.inl rfl) pe_int)
      (pss_cons (ps_for PassesOwn.never rfl (pi_keys (FZ.pe_frz (pe_prop (E := E0) (pv 0) O.cl O.P1 (ok_ents T O) (hr.mono (by decide)) O.b1 .nil pass0 rfl))) (pg_tup (by rfl) (pgs_cons (pg_name (i := 1) sc_w_rules.nd rfl (Or.inl rfl)) (pgs_cons (pg_name (i := 2) sc_w_rules.nd rfl (Or.inl rfl)) pgs_nil)))
      (pss_cons (ps_set (i := 7) sc_w_rules.nd rfl (Or.inl rfl) (pe_ifExp (pt_cmpR op_eq (pe_op op_mod (pv 1) pe_int) pe_int (nomark _)) pe_int (pe_un un_neg pe_int)))
      (pss_one (ps_set (i := 6) sc_w_rules.nd rfl (Or.inl rfl) (pe_op op_add (pv 6) (pe_op op_mulW (pe_op op_mulW (pv 7) (pe_dget (hu_of hr) (pe_prop (E := E0) (pv 0) O.cl O.P1 (ok_ents T O) (hr.mono (by decide)) O.b1 .nil pass0 rfl) (pe_tup (pa_cons (pv 1) (pa_cons (pv 2) pa_nil))) (fun _ _ => rfl))) (pe_call  (ok_wpow T) (hr.mono (by decide)) (by rfl) T.m_w_power T.F_w_power.kp T.b_w_power .nil pass0 (pa_cons (pv 2) (pa_cons (pv 5) pa_nil)))))))))
      (pss_one (ps_expr (pe_bm PySem.F.plainAttrs_list PySem.F.slot_list_append PySem.F.type_list_append mt_append (pv 4) (pa_cons (pv 6) pa_nil)))))))
      (pss_one (ps_ret (pv 4))))), ?_⟩
    have nine := hp.nine
    have nd : (keys (wholeE ds)).Nodup := by rw [keys_wholeE]; exact nd_plcs ds
    have okE : EntN (wholeE ds) := ⟨nd, fun t ht => by
      rw [keys_wholeE] at ht
      obtain ⟨s, d, e, _⟩ := plc_plcs hp t ht
      rw [e]
      simp, by rw [len_wholeE]; omega⟩
    have ⟨dx, e0, h1, h2⟩ := hA
    refine ⟨_, rfl, a, dx, _, rfl, h1, a, (wholeE ds, b), rfl, hA, okE, fun H1 d s1 n1 e1 => ?_⟩
    refine ⟨d, _, rfl, e1, trivial, fun od => ?_⟩
    have fzs : ∀ c o, H c = some o → (upd H1 d (.frz od (.dT (iT (wholeE ds))))) c = some o := fun c o h => by
      rw [upd_ne (ne_of_none h n1)]
      exact s1 c o h
    have hfz : (upd H1 d (.frz od (.dT (iT (wholeE ds))))) d = some (.frz od (.dT (iT (wholeE ds)))) := upd_same
    generalize (upd H1 d (.frz od (.dT (iT (wholeE ds))))) = H2 at fzs hfz ⊢
    refine ⟨d, od, rfl, .inr ⟨_, hfz, fun D hD => ?_⟩⟩
    have sD := same_new hD (.lst [])
    refine lc_it (walk_keysT (d := d) (o := od) (kvs := iT (wholeE ds))) (fun i H' => Same H2 H' ∧ H' D = some (.lst (((stp (wholeE ds)).take i).map V.int))) ⟨sD, upd_same⟩ (fun i H' _ hh => hh.1 _ _ hfz) ?_ ?_
    · rintro i x Hx H3 hi ⟨s3, eD⟩ ⟨e4, k, v, r, hx, rfl, hq⟩
      subst e4
      obtain ⟨p, hpp, rfl, rfl⟩ := at_step hx
      have hq' := key_nv hq
      have mp := List.mem_of_getElem? hpp
      have ilt : i < (wholeE ds).length := (List.getElem?_eq_some_iff.mp hpp).1
      obtain ⟨st, dg, ep, _⟩ := plc_plcs hp p.1 (by rw [← keys_wholeE]; exact List.mem_map_of_mem mp)
      have hu : (stp (wholeE ds))[i]? = some ((st : Nat) : Int) := by
        unfold stp
        rw [List.getElem?_map, hpp]
        show some ((p.1.getD 0 0 : Nat) : Int) = _
        rw [ep]
        rfl
      rw [ep] at hq'
      refine ⟨r, _, rfl, SqT.of hq', rfl, _, _, rfl, _, _, rfl, rfl, ?_⟩
      rw [len_wholeE] at ilt
      refine ⟨rfl, _, rfl, _, eD, by rw [List.length_map, List.length_take]; exact sizeK (by omega), same_updL s3 hD, ?_⟩
      rw [upd_same, take_more hu, List.map_append]
      rfl
    · rintro H3 ⟨s3, eD⟩
      rw [len_iT, List.take_of_length_le (by unfold stp; rw [List.length_map]; exact Nat.le_refl _), stp_whole] at eD
      have one := hp.one
      refine ⟨D, _, rfl, SqL.of eD, by rw [List.length_map, List.length_range]; exact hp.one, fun m m1 m2 => ?_⟩
      obtain rfl : m = ((ds.length - 1 : Nat) : Int) := by
        obtain ⟨i, hi, rfl⟩ := List.mem_map.mp m1
        have hi' := List.mem_range.mp hi
        have := m2 _ (List.mem_map.mpr ⟨ds.length - 1, List.mem_range.mpr (by omega), rfl⟩)
        omega
      refine ⟨Nat.zero_le _, fun l nl => ?_⟩
      have sl := same_new nl (.lst [])
      refine ⟨_, _, rfl, ?_⟩
      have S0 : ∀ c o, c ≠ l → H c = some o → (upd H3 l (.lst [])) c = some o := fun c o n h => sl _ _ (s3 _ _ (fzs _ _ h))
      have hl0 : H l = none := by
        cases e : H l with
        | none => rfl
        | some o => rw [s3 _ _ (fzs _ _ e)] at nl; cases nl
      have el0 : (upd H3 l (.lst [])) l = some (.lst ((List.replicate 0 (0 : Int)).map V.int)) := upd_same
      generalize (upd H3 l (.lst [])) = H4 at S0 el0 ⊢
      refine ⟨_, rfl, _, rfl, by omega, by omega, ?_⟩
      refine for_range (lo := 0) (n := ds.length - 1) (fun i σ H' => ∃ v1 v2 v5 v6 v7 : Option V, σ = [some (.ref a), v1, v2, some (.int ((ds.length - 1 : Nat) : Int)), some (.ref l), v5, v6, v7] ∧ (∀ c o, c ≠ l → H c = some o → H' c = some o) ∧ H' l = some (.lst ((List.replicate i (0 : Int)).map V.int))) ⟨_, _, _, _, _, rfl, S0, el0⟩ ?_ ?_
      · rintro e σ H5 he ⟨v1, v2, v5, v6, v7, rfl, k5, el5⟩
        have off : ∀ {c : Addr} {o : HO}, H c = some o → c ≠ l := fun {c o} h => ne_of_none h hl0
        have S5 : ∀ c o, H c = some o → H5 c = some o := fun c o h => k5 c o (off h) h
        have hA5 := hA.same S5
        refine ⟨_, rfl, a, dx, _, rfl, S5 _ _ h1, a, (wholeE ds, b), rfl, hA5, okE, fun H6 d6 s6 n6 e6 => ?_⟩
        refine ⟨d6, _, rfl, e6, trivial, fun od6 => ?_⟩
        have fz6 : ∀ c o, H5 c = some o → (upd H6 d6 (.frz od6 (.dT (iT (wholeE ds))))) c = some o := fun c o h => by
          rw [upd_ne (ne_of_none h n6)]
          exact s6 c o h
        have hfz6 : (upd H6 d6 (.frz od6 (.dT (iT (wholeE ds))))) d6 = some (.frz od6 (.dT (iT (wholeE ds)))) := upd_same
        generalize (upd H6 d6 (.frz od6 (.dT (iT (wholeE ds))))) = H7 at fz6 hfz6 ⊢
        refine ⟨d6, od6, rfl, .inr ⟨_, hfz6, ?_⟩⟩
        refine for_it (walk_keysT (d := d6) (o := od6) (kvs := iT (wholeE ds))) (fun i σ H' => ∃ v1 v2 v7 : Option V, σ = [some (.ref a), v1, v2, some (.int ((ds.length - 1 : Nat) : Int)), some (.ref l), some (.int (0 + ((e : Nat) : Int))), some (.int (wsum ds e i)), v7] ∧ Same H7 H') ⟨v1, v2, v7, rfl, fun _ _ h => h⟩ (fun i σ H' _ ⟨_, _, _, _, s⟩ => s _ _ hfz6) ?_ ?_
        · rintro i x σ H8 H9 hi ⟨v1, v2, v7, rfl, s8⟩ ⟨e4, k, v, r, hx, rfl, hq⟩
          subst e4
          obtain ⟨p, hpp, rfl, rfl⟩ := at_step hx
          have hq' := key_nv hq
          have mp := List.mem_of_getElem? hpp
          have ilt : i < ds.length := by
            have := (List.getElem?_eq_some_iff.mp hpp).1
            rw [len_wholeE] at this
            exact this
          have hdx : ds[i]? = some ds[i] := List.getElem?_eq_getElem ilt
          have eg : ds.getD i 0 = ds[i] := by rw [List.getD_eq_getElem?_getD, hdx]; rfl
          have ep := hpp
          rw [get_wholeE hdx] at ep
          obtain rfl := Option.some.inj ep
          have xm := hp.lt ds[i] (List.getElem_mem _)
          have S9 : ∀ c o, H c = some o → H9 c = some o := fun c o h => s8 c o (fz6 c o (S5 c o h))
          have evv : ev (wholeE ds) [i, ds[i]] = ((lcmF (pureF ds) / far ds ds[i] : Nat) : Int) := ev_mem nd mp
          refine ⟨r, _, rfl, SqT.of hq', rfl, _, _, rfl, _, _, rfl, rfl, ?_⟩
          refine ⟨_, rfl, _, _, rfl, rfl, (show (0 : Int) < 2 by decide), rfl, _, rfl, ?_⟩
          have eb : decide (V.int (((i : Nat) : Int) % 2) = V.int 0) = decide (i % 2 = 0) := decide_eq_decide.mpr ⟨fun z => by have := V.int.inj z; omega, fun z => by congr 1; omega⟩
          rw [eb]
          by_cases par : i % 2 = 0
          case' pos =>
            rw [decide_eq_true par]
            refine iteT ?_
            have es : (1 : Int) = sgI i := by unfold sgI; rw [if_pos par]
          case' neg =>
            rw [decide_eq_false par]
            refine iteF ⟨_, rfl, ?_⟩
            have es : (-1 : Int) = sgI i := by unfold sgI; rw [if_neg par]
          all_goals
            have l1 : (sgI i).natAbs < 2 ^ 4000 := by rw [show (sgI i).natAbs = 1 by unfold sgI; split <;> rfl]; exact Nat.one_lt_two_pow (by decide)
            have l2 : (((lcmF (pureF ds) / far ds ds[i] : Nat) : Int)).natAbs < 2 ^ 1000 := by rw [Int.natAbs_natCast]; exact whole_lt hp _
            have l3 : (((ds[i] ^ e : Nat) : Int)).natAbs < 2 ^ 100 := by
              rw [Int.natAbs_natCast]
              have b1 : ds[i] ^ e ≤ 480 ^ 9 := Nat.le_trans (Nat.pow_le_pow_left xm e) (Nat.pow_le_pow_right (by decide) (by omega))
              exact Nat.lt_of_le_of_lt b1 (by decide)
            refine ⟨_, rfl, _, rfl, ?_⟩
            refine ⟨_, rfl, a, dx, _, rfl, S9 _ _ h1, a, (wholeE ds, b), rfl, hA.same S9, okE, fun H10 d10 s10 n10 e10 => ?_⟩
            refine ⟨_, rfl, _, rfl, by show 2 ≤ sizeLine; decide, fun tk ntk => ?_⟩
            have s11 := same_new ntk (.tup (nv [i, ds[i]]))
            refine ⟨d10, _, rfl, get_iT (t := [i, ds[i]]) (.inl (s11 _ _ e10)) upd_same (mem_keys hpp), ?_⟩
            rw [evv]
            refine ⟨_, _, rfl, rfl, mulW (by rw [es]; exact l1) (up4 l2 (by decide)), _, rfl, _, rfl, ds[i], e, by show [V.int _, V.int (0 + ((e : Nat) : Int))] = _; rw [Int.zero_add], xm, by omega, ?_⟩
            have l4 : ((sgI i) * ((lcmF (pureF ds) / far ds ds[i] : Nat) : Int)).natAbs < 2 ^ 4000 := by
              rw [Int.natAbs_mul, show (sgI i).natAbs = 1 by unfold sgI; split <;> rfl, Nat.one_mul]
              exact up4 l2 (by decide)
            refine ⟨_, _, rfl, rfl, mulW (by rw [← es] at l4; exact l4) (up4 l3 (by decide)), _, _, rfl, rfl, ?_⟩
            refine ⟨some (.int ((i : Nat) : Int)), some (.int ((ds[i] : Nat) : Int)), some (.int (sgI i)), ?_, s8.trans (s10.trans s11)⟩
            rw [show wsum ds e (i + 1) = wsum ds e i + sgI i * ((lcmF (pureF ds) / far ds (ds.getD i 0) : Nat) : Int) * ((ds.getD i 0 ^ e : Nat) : Int) from rfl, eg, ← es]
            rfl
        · rintro σ H8 ⟨v1, v2, v7, rfl, s8⟩
          rw [len_iT, len_wholeE, wsum_zero hp (by omega)]
          have k8 : ∀ c o, H5 c = some o → H8 c = some o := fun c o h => s8 c o (fz6 c o h)
          have el8 := k8 _ _ el5
          refine ⟨_, rfl, .inl ⟨rfl, _, SqL.of el8⟩, _, rfl, l, _, _, rfl, rfl, el8, by rw [List.length_map, List.length_replicate]; exact sizeK (by omega), ?_⟩
          refine ⟨_, _, _, _, _, rfl, fun c o n h => by rw [upd_ne n]; exact k8 _ _ (k5 c o n h), ?_⟩
          rw [upd_same, List.replicate_succ', List.map_append]
          rfl
      · rintro σ H5 ⟨v1, v2, v5, v6, v7, rfl, k5, el5⟩
        exact ⟨_, rfl, q H5 l (fun c o h => k5 c o (ne_of_none h hl0) h) el5⟩
end
end K60

namespace K60
open PySem PySem.Spec PyProof.Rows L2 RZ L5 XX LK M24 DT M38
open MR (ind_num ind_den q_den)
abbrev itx (i : Int) : Str := toString i
def qTx (q : Rat) : Str := if q.den = 1 then itx q.num else Str.empty ++ itx q.num ++ ("/" : Str) ++ itx (q.den : Int)
def entTx (q : Rat) (x : Nat) : Str := Str.empty ++ qTx q ++ (" at " : Str) ++ itx ((x : Nat) : Int)
def stepTx (i : Nat) (t : Str) : Str := Str.empty ++ itx ((i : Nat) : Int) ++ (": " : Str) ++ Txt.join ", " [t]
def entQ (ds : List Nat) (b : Int) (x : Nat) : Rat := Rat.divInt ((lcmF (pureF ds) / far ds x : Nat) : Int) b
def lineTx (ds : List Nat) (b : Int) (i : Nat) : Str := stepTx i (entTx (entQ ds b (ds.getD i 0)) (ds.getD i 0))
def txtT (ds : List Nat) (b : Int) : Str := Txt.join "; " ((List.range ds.length).map (lineTx ds b))
/-- the texts are short -/
def Short (ds : List Nat) (b : Int) : Prop := ∀ (i x : Nat), ds[i]? = some x → (qTx (entQ ds b x)).length ≤ 50
theorem short_len {x : Nat} (h : x ≤ 480) : (itx ((x : Nat) : Int)).length ≤ 3 := by
  have : ∀ x : Fin 481, (itx ((x.val : Nat) : Int)).length ≤ 3 := by decide +kernel
  exact this ⟨x, by omega⟩
theorem glued_len (a : Str) (ys : List Str) : (Txt.join a ys).length ≤ (ys.map (·.length)).sum + ys.length * a.length := by
  cases ys with
  | nil => exact Nat.zero_le _
  | cons y r =>
    have key : ∀ (r : List Str) (acc : Array Nat), (r.foldl (fun acc p => acc ++ a.cps ++ p.cps) acc).size = acc.size + (r.map (·.length)).sum + r.length * a.length := fun r => by
      induction r with
      | nil =>
        intro acc
        simp
      | cons z r ih =>
        intro acc
        rw [List.foldl_cons, ih, Array.size_append, Array.size_append, List.map_cons, List.sum_cons, List.length_cons, Nat.succ_mul]
        show acc.size + a.length + z.length + _ + _ = _
        omega
    show (r.foldl (fun acc p => acc ++ a.cps ++ p.cps) y.cps).size ≤ _
    rw [key, List.map_cons, List.sum_cons, List.length_cons, Nat.succ_mul]
    show y.length + _ + _ ≤ _
    omega
theorem glued_pos (a : Str) (y : Str) (r : List Str) (h : 0 < y.length) : 0 < (Txt.join a (y :: r)).length := by
  have key : ∀ (r : List Str) (acc : Array Nat), acc.size ≤ (r.foldl (fun acc p => acc ++ a.cps ++ p.cps) acc).size := fun r => by
    induction r with
    | nil => exact fun acc => Nat.le_refl _
    | cons z r ih =>
      intro acc
      rw [List.foldl_cons]
      refine Nat.le_trans ?_ (ih _)
      rw [Array.size_append, Array.size_append]
      omega
  exact Nat.lt_of_lt_of_le h (key r y.cps)
theorem sum_le {c : Nat} : ∀ {L : List Str}, (∀ x ∈ L, x.length ≤ c) → (L.map (·.length)).sum ≤ c * L.length
  | [], _ => Nat.zero_le _
  | x :: L, h => by
    have h1 := h x List.mem_cons_self
    have h2 := sum_le (L := L) fun u hu => h u (List.mem_cons_of_mem _ hu)
    rw [List.map_cons, List.sum_cons, List.length_cons, Nat.mul_succ]
    omega
def dictP (g : Nat → V) (n : Nat) : List (Key × V) := (List.range n).map fun i => (Sum.inl ((i : Nat) : Int), g i)
theorem dictP_len {g : Nat → V} {n : Nat} : (dictP g n).length = n := by unfold dictP; rw [List.length_map, List.length_range]
theorem dictP_val {g : Nat → V} {k : Nat} : ∀ {l : List Nat}, valV (l.map fun i => ((Sum.inl ((i : Nat) : Int) : Key), g i)) (Sum.inl ((k : Nat) : Int)) = if k ∈ l then some (g k) else none
  | [] => rfl
  | x :: l => by
    rw [List.map_cons]
    by_cases e : x = k
    · subst e
      rw [valV_pos rfl, if_pos List.mem_cons_self]
    · rw [valV_neg (fun z => e (by have := Sum.inl.inj z; exact Int.ofNat.inj this)), dictP_val (l := l)]
      have : k ∈ x :: l ↔ k ∈ l := by rw [List.mem_cons]; exact ⟨fun h => h.resolve_left (Ne.symm e), .inr⟩
      by_cases h : k ∈ l
      · rw [if_pos h, if_pos (this.mpr h)]
      · rw [if_neg h, if_neg (fun z => h (this.mp z))]
theorem dictP_put {g : Nat → V} {n : Nat} {v : V} : putK (dictP g n) (Sum.inl ((n : Nat) : Int)) v = dictP (fun j => if j = n then v else g j) (n + 1) := by
  have h : ((dictP g n).any fun kv => decide (kv.1 = Sum.inl ((n : Nat) : Int))) = false := by
    rw [List.any_eq_false]
    intro kv hk
    obtain ⟨i, hi, rfl⟩ := List.mem_map.mp hk
    have := List.mem_range.mp hi
    intro z
    have := Int.ofNat.inj (Sum.inl.inj (of_decide_eq_true z))
    omega
  unfold putK
  rw [if_neg (by rw [h]; decide)]
  unfold dictP
  rw [List.range_succ, List.map_append]
  congr 1
  · refine List.map_congr_left fun i hi => ?_
    have := List.mem_range.mp hi
    simp [show ¬ i = n by omega]
  · simp
theorem dictP_get {g : Nat → V} {n i : Nat} (h : i < n) : (dictP g n)[i]? = some (Sum.inl ((i : Nat) : Int), g i) := by
  unfold dictP
  rw [List.getElem?_map, List.getElem?_range h]
  rfl
theorem join_one (s t : Str) : (Txt.join s [t]).length = t.length := rfl
theorem str_le {x : Str} {n : Nat} (h : x.length ≤ n) (hn : n ≤ 100000) : x.length ≤ sizeLine := Nat.le_trans h (Nat.le_trans hn (by decide))
theorem log_lt {i : Int} (h : i.natAbs < 2 ^ 1500) : i.natAbs.log2 < 1920 := by
  have : i.natAbs < 2 ^ 1920 := Nat.lt_of_lt_of_le h (Nat.pow_le_pow_right (by decide) (by decide))
  by_cases z : i.natAbs = 0
  · rw [z]
    decide
  · exact (Nat.log2_lt z).mpr this
section
variable {P : Program} {w : World} {K : PySem.W.Frag} {mg : Str → Option Value} {base : Heap}
theorem pe_nev {X : Cx} {e : Expr} : PE X e (fun _ _ _ => False) := ⟨fun _ _ _ _ _ _ h => False.elim h⟩
theorem sl_of {n : Nat} (h : n ≤ 1000) : n ≤ sizeLine := Nat.le_of_lt (sizeK (by omega))
theorem ok_ptx (T : Txt K mg) : FnOk P w K mg base CX0 1 T.a_pair_text T.d_pair_text ["pair"] (fun vs H Q _ => ∃ (r : Addr) (q : Rat), vs = [.ref r] ∧ QAt H r q ∧ q.num.natAbs < 2 ^ 1500 ∧ q.den < 2 ^ 1500 ∧ (qTx q).length ≤ 50 ∧ Q (.str (qTx q)) H) := by
  refine T.F_pair_text.ok sc_pair_text (fun vs H Q E h => ?_) (fun cdv A outer s H vs Q E hr h => ?_)
  · obtain ⟨r, q, rfl, _⟩ := h
    rfl
  · obtain ⟨r, p, rfl, hq, n1, n2, len, q⟩ := h
    refine ⟨_, (pss_cons (ps_asg (pv 0) (pg_tup (by rfl) (pgs_cons (pg_name (i := 1) sc_pair_text.nd rfl (Or.inl rfl)) (pgs_cons (pg_name (i := 2) sc_pair_text.nd rfl (Or.inl rfl)) pgs_nil))))
      (pss_cons (ps_if (pt_cmpR op_eq (pv 2) pe_int (nomark _)) (pss_one (ps_ret (pe_callTy call_str_int (by rfl) T.z_str boot_str (pa_cons (pv 1) pa_nil)))) pss_nil)
      (pss_one (ps_ret (pe_joined (.cons (pe_fmt (pv 1)) (.cons pe_str (.cons (pe_fmt (pv 2)) .nil)))))))), ?_⟩
    refine ⟨_, rfl, r, _, rfl, SqT.of hq, rfl, _, _, rfl, _, _, rfl, rfl, ?_⟩
    have b1 := log_lt n1
    have b2 : (((p.den : Nat) : Int)).natAbs.log2 < 1920 := log_lt (by rw [Int.natAbs_natCast]; exact n2)
    refine ⟨_, rfl, rfl, _, rfl, ite2 (fun c => ?_) (fun c => ?_)⟩
    · have c' : p.den = 1 := by
        have := V.int.inj (of_decide_eq_true c)
        omega
      unfold qTx at q
      rw [if_pos c'] at q
      exact ⟨_, rfl, _, rfl, b1, q⟩
    · have c' : ¬ p.den = 1 := fun z => c (decide_eq_true (by rw [z]; rfl))
      unfold qTx at q len
      rw [if_neg c'] at q len
      have e1 : (Str.empty ++ itx p.num ++ ("/" : Str) ++ itx (p.den : Int)).length = (itx p.num).length + 1 + (itx (p.den : Int)).length := by
        rw [Str.length_append, Str.length_append, Str.length_append, show ("/" : Str).length = 1 from by decide +kernel, show Str.empty.length = 0 from rfl, Nat.zero_add]
      refine ⟨_, rfl, .inr ⟨_, rfl, b1, _, rfl, ?_, _, rfl, ?_, _, rfl, .inr ⟨_, rfl, b2, _, rfl, ?_, q⟩⟩⟩
      · refine str_le (n := 50) ?_ (by decide)
        rw [Str.length_append, show Str.empty.length = 0 from rfl]
        show 0 + (itx p.num).length ≤ 50
        omega
      · refine str_le (n := 50) ?_ (by decide)
        rw [Str.length_append, Str.length_append, show Str.empty.length = 0 from rfl, show (Str.ofString "/").length = 1 from by decide +kernel]
        show 0 + (itx p.num).length + 1 ≤ 50
        omega
      · exact str_le (n := 50) len (by decide)
theorem ok_stx (T : Txt K mg) : FnOk P w K mg base CX0 1 T.a_step_text T.d_step_text ["step", "parts"] (fun vs H Q _ => ∃ (a : Addr) (i : Nat) (t : Str), vs = [.int ((i : Nat) : Int), .ref a] ∧ SqL K H a [.str t] ∧ i ≤ 9 ∧ t.length ≤ 100 ∧ Q (.str (stepTx i t)) H) := by
  refine T.F_step_text.ok sc_step_text (fun vs H Q E h => ?_) (fun cdv A outer s H vs Q E hr h => ?_)
  · obtain ⟨a, i, t, rfl, _⟩ := h
    rfl
  · obtain ⟨a, i, t, rfl, hA, hi, ht, q⟩ := h
    refine ⟨_, (pss_cons (ps_set (i := 2) sc_step_text.nd rfl (Or.inl rfl) (pe_join pe_str (pv 1)))
      (pss_one (ps_ret (pe_joined (.cons (pe_fmt (pv 0)) (.cons pe_str (.cons (pe_fmt (pv 2)) .nil))))))), ?_⟩
    have hx : (itx ((i : Nat) : Int)).length ≤ 3 := short_len (by omega)
    have e2 : (": " : Str).length = 2 := by decide +kernel
    have ej : (Txt.join ", " [t]).length = t.length := rfl
    refine ⟨⟨_, rfl⟩, _, rfl, _, a, [t], rfl, rfl, .inl hA, ?_, ?_⟩
    · rw [List.map_cons, List.map_nil, List.sum_cons, List.sum_nil, show (", " : Str).length = 2 from by decide +kernel]
      show t.length + 0 + 1 * 2 ≤ 16777216
      omega
    refine ⟨_, rfl, .inr ⟨_, rfl, log_lt (Nat.lt_of_le_of_lt (show (((i : Nat) : Int)).natAbs ≤ 9 by omega) (Nat.lt_of_lt_of_le (show 9 < 2 ^ 10 by decide) (Nat.pow_le_pow_right (by decide) (by decide)))), _, rfl, ?_, _, rfl, ?_, _, rfl, .inl ⟨_, rfl, str_le (n := 100) ht (by decide), _, rfl, ?_, q⟩⟩⟩
    · refine str_le (n := 50) ?_ (by decide)
      rw [Str.length_append, show Str.empty.length = 0 from rfl]
      show 0 + (itx ((i : Nat) : Int)).length ≤ 50
      omega
    · refine str_le (n := 50) ?_ (by decide)
      rw [Str.length_append, Str.length_append, show Str.empty.length = 0 from rfl, show (Str.ofString ": ").length = 2 from by decide +kernel]
      show 0 + (itx ((i : Nat) : Int)).length + 2 ≤ 50
      omega
    · refine str_le (n := 150) ?_ (by decide)
      rw [Str.length_append, Str.length_append, Str.length_append, show Str.empty.length = 0 from rfl, show (Str.ofString ": ").length = 2 from by decide +kernel]
      show 0 + (itx ((i : Nat) : Int)).length + 2 + t.length ≤ 150
      omega
def sp_ttx (K : PySem.W.Frag) : Sp := fun vs H Q _ => ∃ (d : Addr) (ds : List Nat) (b : Int), vs = [.ref d, .int b] ∧ H d = some (.dT (iT (wholeE ds))) ∧ PureN ds ∧ Short ds b ∧ 0 < b ∧ b.natAbs < 2 ^ 1000 ∧ ∀ H', Same H H' → Q (.str (txtT ds b)) H'
theorem ok_ttx (T : Txt K mg) : FnOk P w K mg base CX0 3 T.a_table_text T.d_table_text ["entries", "bottom"] (sp_ttx K) := by
  refine T.F_table_text.ok sc_table_text (fun vs H Q E h => ?_) (fun cdv A outer s H vs Q E hr h => ?_)
  · obtain ⟨d, ds, b, rfl, _⟩ := h
    rfl
  · obtain ⟨d, ds, b, rfl, hA, hp, sh, b0, b1, q⟩ := h
    refine ⟨_, (pss_cons (ps_set (i := 2) sc_table_text.nd rfl (Or.inr rfl) pe_dnewK)
      (pss_cons (ps_lock (ps_for PassesOwn.never rfl (pi_keys (pv 0)) (pg_tup (by rfl) (pgs_cons (pg_name (i := 3) sc_table_text.nd rfl (Or.inl rfl)) (pgs_cons (pg_name (i := 4) sc_table_text.nd rfl (Or.inl rfl)) pgs_nil)))
      (pss_cons (ps_set (i := 5) sc_table_text.nd rfl (Or.inl rfl) (pe_call  (ok_ptx T) (hr.mono (by decide)) (by rfl) T.m_pair_text T.F_pair_text.kp T.b_pair_text .nil pass0 (pa_cons (pe_call  (ok_lpair T) (hr.mono (by decide)) (by rfl) T.m_lowest_pair T.F_lowest_pair.kp T.b_lowest_pair .nil pass0 (pa_cons (pe_dget (hu_of hr) (pv 0) (pe_tup (pa_cons (pv 3) (pa_cons (pv 4) pa_nil))) (fun _ _ => rfl)) (pa_cons (pv 1) pa_nil))) pa_nil)))
      (pss_one (ps_dput (hu_of hr) (pv 2) (pv 3) (pe_op op_cat (pe_dget2 (hu_of hr) (pv 2) (pv 3) (pe_lst pa_nil) ⟨rfl, rfl, rfl, rfl⟩) (pe_lst (pa_cons (pe_joined (.cons (pe_fmt (pv 5)) (.cons pe_str (.cons (pe_fmt (pv 4)) .nil)))) pa_nil))) rfl)))))
      (pss_cons (ps_lock (ps_setLc (i := 6) (own := [("step", 3)]) (g := gName 3) (tt := tYes) rfl sc_table_text.nd rfl rfl (sw_true rfl rfl rfl (by decide +kernel)) (pi_keys (pv 2)) (blkOk_by (own := [("step", 3)]) (N := N_table_text) (sc := defScope s_table_text) (by decide +kernel)) (fun _ _ _ _ _ => (pg_name (i := 3) sc_table_text.nd rfl (Or.inl rfl))) (fun _ _ _ _ _ => pts_nil) (fun _ _ _ _ _ => (pe_call  (ok_stx T) (hr.mono (by decide)) (by rfl) T.m_step_text T.F_step_text.kp T.b_step_text .nil pass0 (pa_cons (pv 3) (pa_cons (pe_dget (hu_of hr) (pv 2) (pv 3) (fun _ _ => rfl)) pa_nil))))))
      (pss_one (ps_ret (pe_orT (pe_join pe_str (pv 6)) (pe_one pe_nev))))))), ?_⟩
    have nine := hp.nine
    have nd : (keys (wholeE ds)).Nodup := by rw [keys_wholeE]; exact nd_plcs ds
    intro D hD
    have sD := same_new hD (.dK [])
    have hd1 := sD _ _ hA
    have eD1 : (upd H D (.dK [])) D = some (.dK (dictP (fun _ => V.non) 0)) := upd_same
    have dD : d ≠ D := ne_of_none hA hD
    refine ⟨d, _, hd1, trivial, fun od => ?_⟩
    have fzs : ∀ c o, c ≠ d → H c = some o → (upd (upd H D (.dK [])) d (.frz od (.dT (iT (wholeE ds))))) c = some o := fun c o n h => by
      rw [upd_ne n]
      exact sD c o h
    have hfz : (upd (upd H D (.dK [])) d (.frz od (.dT (iT (wholeE ds))))) d = some (.frz od (.dT (iT (wholeE ds)))) := upd_same
    have eD2 : (upd (upd H D (.dK [])) d (.frz od (.dT (iT (wholeE ds))))) D = some (.dK (dictP (fun _ => V.non) 0)) := by
      rw [upd_ne (Ne.symm dD)]
      exact eD1
    generalize (upd (upd H D (.dK [])) d (.frz od (.dT (iT (wholeE ds))))) = H2 at fzs hfz eD2 ⊢
    refine ⟨_, rfl, d, od, rfl, .inr ⟨_, hfz, ?_⟩⟩
    refine for_it (walk_keysT (d := d) (o := od) (kvs := iT (wholeE ds))) (fun i σ H' => ∃ (v3 v4 v5 v6 : Option V) (f : Nat → Addr), σ = [some (.ref d), some (.int b), some (.ref D), v3, v4, v5, v6] ∧ Fr D H2 H' ∧ H' D = some (.dK (dictP (fun j => V.ref (f j)) i)) ∧ ∀ j, j < i → H' (f j) = some (.lst [.str (entTx (entQ ds b (ds.getD j 0)) (ds.getD j 0))])) ⟨_, _, _, _, fun _ => D, rfl, fun _ _ _ h => h, eD2, fun j h => by omega⟩ (fun i σ H' _ ⟨_, _, _, _, _, _, s, _⟩ => s _ _ dD hfz) ?_ ?_
    · rintro i x σ H8 H9 hi ⟨v3, v4, v5, v6, f, rfl, s8, eD8, hf⟩ ⟨e4, k, v, r, hx, rfl, hq⟩
      subst e4
      obtain ⟨p, hpp, rfl, rfl⟩ := at_step hx
      have hq' := key_nv hq
      have mp := List.mem_of_getElem? hpp
      have ilt : i < ds.length := by
        have := (List.getElem?_eq_some_iff.mp hpp).1
        rw [len_wholeE] at this
        exact this
      have hdx : ds[i]? = some ds[i] := List.getElem?_eq_getElem ilt
      have eg : ds.getD i 0 = ds[i] := by rw [List.getD_eq_getElem?_getD, hdx]; rfl
      have ep := hpp
      rw [get_wholeE hdx] at ep
      obtain rfl := Option.some.inj ep
      have xm := hp.lt ds[i] (List.getElem_mem _)
      have evv : ev (wholeE ds) [i, ds[i]] = ((lcmF (pureF ds) / far ds ds[i] : Nat) : Int) := ev_mem nd mp
      have hdd : d ≠ D := dD
      refine ⟨r, _, rfl, SqT.of hq', rfl, _, _, rfl, _, _, rfl, rfl, ?_⟩
      refine ⟨_, rfl, _, rfl, _, rfl, by show 2 ≤ sizeLine; decide, fun tk ntk => ?_⟩
      have s1 := same_new ntk (.tup (nv [i, ds[i]]))
      have fz9 := s8 _ _ dD hfz
      refine ⟨d, _, rfl, get_iT (t := [i, ds[i]]) (.inr ⟨od, s1 _ _ fz9⟩) upd_same (mem_keys hpp), ?_⟩
      rw [evv]
      have w1 := whole_lt hp ds[i]
      generalize hW : lcmF (pureF ds) / far ds ds[i] = W at w1
      have eQ : entQ ds b ds[i] = Rat.divInt ((W : Nat) : Int) b := by unfold entQ; rw [hW]
      refine ⟨_, rfl, _, _, rfl, b0, Nat.lt_of_lt_of_le b1 (Nat.pow_le_pow_right (by decide) (by decide)), fun H10 z s10 hz => ?_⟩
      have hQ : QAt H10 z (entQ ds b ds[i]) := by
        unfold QAt
        rw [hz, eQ]
        unfold qv
        rw [ind_num b0, ind_den b0]
      have bn : (entQ ds b ds[i]).num.natAbs < 2 ^ 1500 := by
        rw [eQ, ind_num b0]
        refine Nat.lt_of_le_of_lt (Int.natAbs_ediv_le_natAbs _ _) (Nat.lt_of_lt_of_le ?_ (Nat.pow_le_pow_right (show 0 < 2 by decide) (show 1000 ≤ 1500 by decide)))
        rw [Int.natAbs_natCast]
        exact w1
      have bd : (entQ ds b ds[i]).den < 2 ^ 1500 := by
        have e1 : (((entQ ds b ds[i]).den : Nat) : Int).natAbs ≤ b.natAbs := by
          rw [eQ, ind_den b0]
          exact Int.natAbs_ediv_le_natAbs _ _
        rw [Int.natAbs_natCast] at e1
        exact Nat.lt_of_le_of_lt e1 (Nat.lt_of_lt_of_le b1 (Nat.pow_le_pow_right (show 0 < 2 by decide) (show 1000 ≤ 1500 by decide)))
      have bs := sh i ds[i] hdx
      refine ⟨z, _, rfl, hQ, bn, bd, bs, ?_⟩
      have S10 := s1.trans s10
      have eD10 := S10 _ _ eD8
      refine ⟨_, rfl, D, rfl, .inl ⟨_, .inl eD10⟩, _, rfl, Nat.zero_le _, fun l nl => ?_⟩
      have s11 := same_new nl (.lst [])
      have gN : DGet (upd H10 l (.lst [])) D (.int ((i : Nat) : Int)) none := by
        have e2 : valV (dictP (fun j => V.ref (f j)) i) (Sum.inl ((i : Nat) : Int)) = none := by
          unfold dictP
          rw [dictP_val, if_neg (by rw [List.mem_range]; omega)]
        rw [← e2]
        exact DGet.k (k := Sum.inl ((i : Nat) : Int)) (s11 _ _ eD10)
      refine ⟨none, gN, ?_⟩
      have xl : (itx ((ds[i] : Nat) : Int)).length ≤ 3 := short_len xm
      have at4 : (Str.ofString " at ").length = 4 := by decide +kernel
      refine ⟨_, rfl, .inl ⟨_, rfl, str_le (n := 50) bs (by decide), _, rfl, ?_, _, rfl, ?_, _, rfl, .inr ⟨_, rfl, log_lt (i := ((ds[i] : Nat) : Int)) (by rw [Int.natAbs_natCast]; exact Nat.lt_of_le_of_lt xm (Nat.lt_of_lt_of_le (show 480 < 2 ^ 10 by decide) (Nat.pow_le_pow_right (by decide) (by decide)))), _, rfl, ?_, ?_⟩⟩⟩
      · refine str_le (n := 50) ?_ (by decide)
        rw [Str.length_append, show Str.empty.length = 0 from rfl, Nat.zero_add]
        exact bs
      · refine str_le (n := 54) ?_ (by decide)
        rw [Str.length_append, Str.length_append, show Str.empty.length = 0 from rfl, at4]
        omega
      · refine str_le (n := 60) ?_ (by decide)
        rw [Str.length_append, Str.length_append, Str.length_append, show Str.empty.length = 0 from rfl, at4]
        show 0 + _ + 4 + (itx ((ds[i] : Nat) : Int)).length ≤ 60
        omega
      refine ⟨by show 1 ≤ sizeLine; decide, fun l2 nl2 => ?_⟩
      have s12 := same_new nl2 (.lst [.str (entTx (entQ ds b ds[i]) ds[i])])
      refine ⟨l, l2, _, _, rfl, rfl, s12 _ _ upd_same, upd_same, by show 0 + 1 ≤ sizeLine; decide, fun y ny => ?_⟩
      have s13 := same_new ny (.lst ([] ++ [.str (entTx (entQ ds b ds[i]) ds[i])]))
      have S13 := S10.trans (s11.trans (s12.trans s13))
      have eD13 := S13 _ _ eD8
      have yD : y ≠ D := fun e => by
        have e12 := (S10.trans (s11.trans s12)) _ _ eD8
        rw [← e] at e12
        cases e12.symm.trans ny
      refine ⟨_, rfl, _, rfl, D, _, rfl, DPut.k (k := Sum.inl ((i : Nat) : Int)) eD13 (by rw [dictP_len]; exact sizeK (by omega)), ?_⟩
      refine ⟨_, _, _, _, fun j => if j = i then y else f j, rfl, ?_, ?_, ?_⟩
      · intro c o n h
        rw [upd_ne n]
        exact S13 _ _ (s8 c o n h)
      · rw [upd_same, dictP_put]
        congr 2
        unfold dictP
        refine List.map_congr_left fun j _ => ?_
        by_cases e : j = i <;> simp [e]
      · intro j hj
        show upd _ D _ (if j = i then y else f j) = _
        by_cases e : j = i
        · rw [if_pos e, upd_ne yD, upd_same, e, eg]
          rfl
        · rw [if_neg e, upd_ne (fun k => ?_)]
          · exact S13 _ _ (hf j (by omega))
          · have := hf j (by omega)
            rw [k, eD8] at this
            cases this
    · rintro σ H8 ⟨v3, v4, v5, v6, f, rfl, s8, eD8, hf⟩
      rw [len_iT, len_wholeE] at eD8 hf
      have fzH := s8 _ _ dD hfz
      refine ⟨fzH, ?_⟩
      have S0 : Same H (upd H8 d (.dT (iT (wholeE ds)))) := fun c o h => by
        by_cases e : c = d
        · subst e
          rw [upd_same, ← h, hA]
        · rw [upd_ne e]
          exact s8 _ _ (ne_of_none h hD) (fzs c o e h)
      have eD : (upd H8 d (.dT (iT (wholeE ds)))) D = some (.dK (dictP (fun j => V.ref (f j)) ds.length)) := by
        rw [upd_ne (Ne.symm dD)]
        exact eD8
      have hf' : ∀ j, j < ds.length → (upd H8 d (.dT (iT (wholeE ds)))) (f j) = some (.lst [.str (entTx (entQ ds b (ds.getD j 0)) (ds.getD j 0))]) := fun j hj => by
        rw [upd_ne (fun k => ?_)]
        · exact hf j hj
        · have := hf j hj
          rw [k, fzH] at this
          cases this
      generalize (upd H8 d (.dT (iT (wholeE ds)))) = H3 at S0 eD hf' ⊢
      refine ⟨D, _, eD, trivial, fun od2 => ?_⟩
      have fz3 : ∀ c o, c ≠ D → H3 c = some o → (upd H3 D (.frz od2 (.dK (dictP (fun j => V.ref (f j)) ds.length)))) c = some o := fun c o n h => by
        rw [upd_ne n]
        exact h
      have hfz3 : (upd H3 D (.frz od2 (.dK (dictP (fun j => V.ref (f j)) ds.length)))) D = some (.frz od2 (.dK (dictP (fun j => V.ref (f j)) ds.length))) := upd_same
      have bk3 : ∀ H', Same (upd H3 D (.frz od2 (.dK (dictP (fun j => V.ref (f j)) ds.length)))) H' → Same H (upd H' D (.dK (dictP (fun j => V.ref (f j)) ds.length))) := fun H' s c o h => by
        have hc := ne_of_none h hD
        rw [upd_ne hc]
        exact s _ _ (fz3 c o hc (S0 c o h))
      generalize (upd H3 D (.frz od2 (.dK (dictP (fun j => V.ref (f j)) ds.length)))) = H4 at fz3 hfz3 bk3 ⊢
      refine ⟨_, rfl, D, od2, rfl, .inl ⟨_, hfz3, fun y hy => ?_⟩⟩
      have sy := same_new hy (.lst [])
      have yD : y ≠ D := fun e => by rw [e, hfz3] at hy; cases hy
      refine lc_it (walk_keys (d := D) (o := od2) (kvs := dictP (fun j => V.ref (f j)) ds.length)) (fun i H' => Same H4 H' ∧ H' y = some (.lst (((List.range i).map (lineTx ds b)).map V.str))) ⟨sy, upd_same⟩ (fun i H' _ hh => hh.1 _ _ hfz3) ?_ ?_
      · rintro i x Hx H5 hi ⟨s5, e5⟩ ⟨e6, k, v, hx, rfl⟩
        subst e6
        rw [dictP_len] at hi
        rw [dictP_get hi] at hx
        obtain ⟨rfl, rfl⟩ := Prod.mk.inj (Option.some.inj hx)
        have hl := s5 _ _ (fz3 _ _ (fun k => by have := hf' i hi; rw [k, eD] at this; cases this) (hf' i hi))
        have hdx : ds[i]? = some ds[i] := List.getElem?_eq_getElem hi
        have eg : ds.getD i 0 = ds[i] := by rw [List.getD_eq_getElem?_getD, hdx]; rfl
        have bs := sh i ds[i] hdx
        have xl : (itx ((ds[i] : Nat) : Int)).length ≤ 3 := short_len (hp.lt ds[i] (List.getElem_mem _))
        have gN : DGet H5 D (.int ((i : Nat) : Int)) (some (V.ref (f i))) := by
          have e2 : valV (dictP (fun j => V.ref (f j)) ds.length) (Sum.inl ((i : Nat) : Int)) = some (V.ref (f i)) := by
            unfold dictP
            rw [dictP_val, if_pos (List.mem_range.mpr hi)]
          exact .inl ⟨_, Sum.inl ((i : Nat) : Int), .inr ⟨od2, s5 _ _ hfz3⟩, rfl, e2.symm⟩
        refine ⟨rfl, _, rfl, _, rfl, _, rfl, D, _, rfl, gN, f i, i, _, rfl, SqL.of hl, by omega, ?_, ?_⟩
        · rw [eg]
          unfold entTx
          rw [Str.length_append, Str.length_append, Str.length_append, show Str.empty.length = 0 from rfl, show (" at " : Str).length = 4 from by decide +kernel]
          omega
        · refine ⟨_, e5, by rw [List.length_map, List.length_map, List.length_range]; exact sizeK (by omega), same_updL s5 hy, ?_⟩
          rw [upd_same, List.range_succ, List.map_append, List.map_append]
          rfl
      · rintro H5 ⟨s5, e5⟩
        rw [dictP_len] at e5
        refine ⟨s5 _ _ hfz3, ?_⟩
        have S5 := bk3 H5 s5
        have e5' : (upd H5 D (.dK (dictP (fun j => V.ref (f j)) ds.length))) y = some (.lst (((List.range ds.length).map (lineTx ds b)).map V.str)) := by
          rw [upd_ne yD]
          exact e5
        have ln : ∀ x ∈ (List.range ds.length).map (lineTx ds b), x.length ≤ 100 ∧ 0 < x.length := fun x hx => by
          obtain ⟨i, hi, rfl⟩ := List.mem_map.mp hx
          have hi := List.mem_range.mp hi
          have hdx : ds[i]? = some ds[i] := List.getElem?_eq_getElem hi
          have eg : ds.getD i 0 = ds[i] := by rw [List.getD_eq_getElem?_getD, hdx]; rfl
          have bs := sh i ds[i] hdx
          have xl : (itx ((ds[i] : Nat) : Int)).length ≤ 3 := short_len (hp.lt ds[i] (List.getElem_mem _))
          have il : (itx ((i : Nat) : Int)).length ≤ 3 := short_len (by omega)
          have e : (lineTx ds b i).length = 0 + (itx ((i : Nat) : Int)).length + 2 + (0 + (qTx (entQ ds b ds[i])).length + 4 + (itx ((ds[i] : Nat) : Int)).length) := by
            unfold lineTx stepTx
            rw [Str.length_append, Str.length_append, Str.length_append, join_one, eg]
            unfold entTx
            rw [Str.length_append, Str.length_append, Str.length_append, show Str.empty.length = 0 from rfl, show (" at " : Str).length = 4 from by decide +kernel, show (": " : Str).length = 2 from by decide +kernel]
          omega
        have sm := sum_le (c := 100) fun x hx => (ln x hx).1
        have gl := glued_len "; " ((List.range ds.length).map (lineTx ds b))
        have e2 : ("; " : Str).length = 2 := by decide +kernel
        rw [List.length_map, List.length_range] at sm gl
        rw [e2] at gl
        have pos : 0 < (txtT ds b).length := by
          unfold txtT
          have one := hp.one
          cases hL : (List.range ds.length).map (lineTx ds b) with
          | nil =>
            have := congrArg List.length hL
            rw [List.length_map, List.length_range] at this
            exact absurd this (by show ds.length ≠ 0; omega)
          | cons x t =>
            rw [hL] at ln
            exact glued_pos _ _ _ (ln x List.mem_cons_self).2
        refine ⟨⟨_, rfl⟩, _, rfl, _, y, _, rfl, rfl, .inl (SqL.of e5'), by rw [List.length_map, List.length_range, show (Str.ofString "; ").length = 2 from e2]; omega, ?_⟩
        refine ⟨true, ⟨str_le (n := 2000) (by omega) (by decide), ?_⟩, iteT (q _ S5)⟩
        symm
        rw [bne_iff_ne]
        show (((txtT ds b).length : Nat) : Int) ≠ 0
        omega
end
end K60

/-! -o of an own class with __neg__ -/
namespace W7
open PySem PySem.Spec PyProof.Rows L2
section
variable {X : Cx} {C f : Addr} {CX : CXT} {k : Nat} {fd : FuncData} {ps : List Str} {sp : Sp}
def rNegOwn (C : Addr) (sp : Sp) : V → Hp → VK → Prop := fun x H Q => ∃ (a dx : Addr) (fs : List (Str × V)), x = .ref a ∧ H a = some (.ins C dx fs) ∧ sp [.ref a] H Q E0
theorem un_negOwn (at_ : PySem.W.findIn X.K (.ref C) "__neg__" = some (some (.ref f))) (fn : PySem.W.isFn X.K (.ref f) = true) (F : FnOk X.prog X.w X.K X.mg X.base CX k f fd ps sp) (hr : Room k X.A) (hb : Binds X.K fd ps []) (hx : Passes CX X E0) : UnR X (unaryOp .USub) (rNegOwn C sp) := by
  intro pins s σ H x v Q I rx h
  obtain ⟨a, dx, fs, rfl, ha, q⟩ := h
  obtain rfl : v = Value.ref a := rx
  obtain ⟨_, Oa, _⟩ := ins_get I.hok ha
  obtain ⟨_, Ja, _⟩ := Oa.look
  have run : wpAny (model X.prog X.w) X.A (call (.ref f) [.ref a]) (EP X pins σ Q) X.xe s := run_fn (dvs := []) (ds := []) (vs := [.ref a]) (us := [.ref a]) (Q := Q) F hr hb .nil hx I (.cons rfl .nil) q
  unfold unaryOp
  refine wpAny_holding ?_
  refine wpAny_bind (m := callSpecial? (.ref a) (Str.ofString "__neg__")) (PySem.W.special_fn I.kIn Ja at_ (beq_iff_eq.mp fn) (wpAny_mono run (fun r s' z => ?_) fun _ _ z => z))
  exact wpAny_pure z
end
end W7

namespace K60
open PySem PySem.Spec PyProof.Rows L2 RZ L5 XX LK M24 DT M38
section
variable {K : PySem.W.Frag} {C : Addr} {H : Hp}
theorem PS.weak' {X : Cx} {st : Stmt} {t t' : TS} (h : PS X st t) (i : ∀ D σ H, t' D σ H → t D σ H) : PS X st t' := ⟨fun pins s σ H D I h' => h.run pins s σ H D I (i D σ H h')⟩
/-- text of a table -/
structure TabS (K : PySem.W.Frag) (C : Addr) where
  fS : Addr
  dS : FuncData
  FS : Fun K "__str__" "Table.__str__" s_str fS dS
  bS : Binds K dS ["self"] []
  aS : PySem.W.findIn K (.ref C) "__str__" = some (some (.ref fS))
  nS : PySem.W.isFn K (.ref fS) = true
theorem do_eq {a b : Addr} {T U : Ent × Int} {Q : VK} (hx : TabAt K C H a T) (hy : TabAt K C H b U) (lT : Lw T) (lU : Lw U) (q : Q (.bl (decide (T = U))) H) : W7.rOwn C (sp_eqt K C) (.ref a) (.ref b) H Q := by
  have ⟨dx, e, h1, h2⟩ := hx
  have ⟨dy, f, k1, k2⟩ := hy
  refine ⟨a, b, dx, dy, _, _, rfl, rfl, h1, k1, a, b, T, U, rfl, hx, hy, ?_⟩
  rw [tab_eq lT lU]
  exact q
theorem eqv_same (l : List (List Nat)) : PyData.eqv (.list (l.map encT)) (.list (l.map encT)) = true := SeqAt.eqv_refl _ (by
  simp only [PyData.canLay0]
  exact (can_tups l).1)
theorem divInt_far {l f : Nat} (h0 : 0 < f) (hd : f ∣ l) (hl : 0 < l) : Rat.divInt ((l / f : Nat) : Int) ((l : Nat) : Int) = frq f := by
  unfold frq
  rw [Rat.divInt_eq_divInt_iff (by omega) (by omega), Int.one_mul]
  rw [← Int.natCast_mul, Nat.div_mul_cancel hd]
theorem frac_eq {z u : Addr} {F : Fra} {n : Nat} (nd : (keysF F).Nodup) (hz : FracAt H z F) (hu : FracAt H u F) : EqRn K H (EqB K H (n + 2)) (.ref z) (.ref u) true := by
  obtain ⟨L, z1, z2⟩ := hz
  obtain ⟨M, u1, u2⟩ := hu
  have e : ((fT L).length == (fT M).length && (fT L).all fun _ => true) = true := by
    rw [len_fT, len_fT, z2.length, u2.length]
    simp
  have nd' : ((fT M).map (·.1)).Nodup := by
    have e : (fT M).map (·.1) = (keysF M).map tK := by
      unfold fT keysF
      rw [List.map_map, List.map_map]
      rfl
    rw [e, u2.keys]
    exact (List.pairwise_map.mpr (nd.imp fun h k => h (tK_inj k)))
  rw [← e]
  refine .dT z1 u1 fun _ p hp => .inr ?_
  obtain ⟨l, hl, rfl⟩ := List.mem_map.mp hp
  obtain ⟨i, hi⟩ := List.mem_iff_getElem?.mp hl
  obtain ⟨q, hq, e1, q1⟩ := z2.get hi
  have il := (List.getElem?_eq_some_iff.mp hq).1
  rw [← u2.length] at il
  have hm : M[i]? = some M[i] := List.getElem?_eq_getElem il
  obtain ⟨q', hq', e2, q2⟩ := u2.get hm
  obtain rfl := Option.some.inj (hq.symm.trans hq')
  have mem : (tK M[i].1, V.ref M[i].2) ∈ fT M := List.mem_map_of_mem (f := fun p : List Nat × Addr => (tK p.1, V.ref p.2)) (List.getElem_mem il)
  refine ⟨V.ref M[i].2, ?_, .deep (.of ?_)⟩
  · show valV (fT M) (tK l.1) = _
    rw [e1, ← e2]
    exact DT.val_mem nd' mem
  · have h : EqRn K H (EqB K H (n + 1)) (.ref l.2) (.ref M[i].2) _ := .tup (SqT.of q1) (SqT.of q2) (.cons .int (.cons .int .nil))
    simpa using h
theorem ofT_whole {ds : List Nat} (h : PureN ds) : ofT (wholeE ds, ((lcmF (pureF ds) : Nat) : Int)) = pureF ds := by
  have e : ofT (wholeE ds, ((lcmF (pureF ds) : Nat) : Int)) = (List.range ds.length).map fun i => ([i, ds.getD i 0], Rat.divInt (((lcmF (pureF ds) / far ds (ds.getD i 0) : Nat)) : Int) ((lcmF (pureF ds) : Nat) : Int)) := by
    unfold ofT wholeE
    rw [List.map_map]
    rfl
  rw [e]
  show _ = (List.range ds.length).map fun i => ([i, ds.getD i 0], frq (far ds (ds.getD i 0)))
  refine List.map_congr_left fun i hi => ?_
  have hi := List.mem_range.mp hi
  have hx : ds[i]? = some ds[i] := List.getElem?_eq_getElem hi
  have eg : ds.getD i 0 = ds[i] := by rw [List.getD_eq_getElem?_getD, hx]; rfl
  rw [eg]
  have f0 := (far_ok h hx).1
  rw [divInt_far f0 ?_ (lcmF_pos _)]
  have := lcmF_dvd.mp (Nat.dvd_refl (lcmF (pureF ds))) _ (List.mem_of_getElem? (get_pureF hx))
  rwa [frq_den f0] at this
end
section
variable {P : Program} {w : World} {K : PySem.W.Frag} {mg : Str → Option Value} {base : Heap}
def sp_strt (K : PySem.W.Frag) (C : Addr) : Sp := fun vs H Q _ => ∃ (a : Addr) (ds : List Nat) (b : Int), vs = [.ref a] ∧ TabAt K C H a (wholeE ds, b) ∧ PureN ds ∧ Short ds b ∧ 0 < b ∧ b.natAbs < 2 ^ 1000 ∧ ∀ H', Same H H' → Q (.str (txtT ds b)) H'
theorem ok_strt (T : Txt K mg) (O : TabT K mg) (S : TabS K O.C) : FnOk P w K mg base CX0 4 S.fS S.dS ["self"] (sp_strt K O.C) := by
  refine S.FS.ok sc_str (fun vs H Q E h => ?_) (fun cdv A outer s H vs Q E hr h => ?_)
  · obtain ⟨a, ds, b, rfl, _⟩ := h
    rfl
  · obtain ⟨a, ds, b, rfl, ⟨dx, e, h1, h2⟩, hp, sh, b0, b1, q⟩ := h
    refine ⟨_, (pss_one (ps_ret (pe_callTy SkE.call_str_str (by rfl) T.z_str boot_str (pa_cons (pe_call  (ok_ttx T) (hr.mono (by decide)) (by rfl) T.m_table_text T.F_table_text.kp T.b_table_text .nil pass0 (pa_cons (pe_fld (pv 0) rfl) (pa_cons (pe_fld (pv 0) rfl) pa_nil))) pa_nil)))), ?_⟩
    refine ⟨_, rfl, a, O.C, dx, _, _, rfl, h1, O.cl, O.nE, rfl, _, rfl, a, O.C, dx, _, _, rfl, h1, O.cl, O.nB, rfl, e, ds, b, rfl, h2, hp, sh, b0, b1, fun H1 s1 => ⟨_, rfl, q H1 s1⟩⟩
end
abbrev rf (a : Addr) : Option V := some (.ref a)
section
variable {P : Program} {w : World} {K : PySem.W.Frag} {mg : Str → Option Value} {base : Heap} {cdv : Value} {A : Around} {outer : List Env} {s : Shared} {H0 : Hp} {E : XK}
abbrev XR (T : Txt K mg) (P : Program) (w : World) (base : Heap) (cdv : Value) (A : Around) (outer : List Env) (s : Shared) (H0 : Hp) (E : XK) : Cx := (cxOf CX0 P w K mg base N_w_right "_law_right" (defScope s_w_right) T.a_w_right cdv A outer s H0 E).nox
abbrev stR (i : Nat) : Stmt := (defBody s_w_right).getD i (.Pass ⟨0, 0, 0, 0⟩)
theorem st0 (T : Txt K mg) (hr : Room 13 (XR T P w base cdv A outer s H0 E).A) : PS (XR T P w base cdv A outer s H0 E) (stR 0)
    (fun D σ H => ∃ p, σ = [rf p, none, none, none, none, none, none, none, none] ∧ Pail p H ∧ ∀ H' a ds, Bar p H H' → Pail p H' → SqT K H' a (nv ds) → PureN ds → D.nx [rf p, rf a, none, none, none, none, none, none, none] H') := by
  refine PS.weak' (ps_set (i := 1) sc_w_right.nd rfl (Or.inl rfl) (pe_call  (ok_wdeg T) (hr.mono (by decide)) (by rfl) T.m_w_degrees T.F_w_degrees.kp T.b_w_degrees .nil pass0 (pa_cons (pv 0) (pa_cons (pe_call  (ok_some T) (hr.mono (by decide)) (by rfl) T.m_w_pick T.F_w_pick.kp T.b_w_pick .nil pass0 (pa_cons (pv 0) (pa_cons (pe_lst (pa_cons pe_int (pa_cons pe_int (pa_cons pe_int (pa_cons pe_int pa_nil))))) pa_nil))) (pa_cons (pe_call  (ok_some T) (hr.mono (by decide)) (by rfl) T.m_w_pick T.F_w_pick.kp T.b_w_pick .nil pass0 (pa_cons (pv 0) (pa_cons (pe_lst (pa_cons pe_int (pa_cons pe_int (pa_cons pe_int (pa_cons pe_int pa_nil))))) pa_nil))) pa_nil))))) ?i
  case i =>
    rintro D σ H ⟨p, rfl, hp, q⟩
    refine ⟨_, rfl, _, rfl, by show 4 ≤ sizeLine; decide, fun l4 n4 => ?_⟩
    dsimp only [tNil, tCons, tC, List.cons_append, List.nil_append]
    refine do_any (K := K) [1, 3, 5, 9] hp n4 (by simp) (by decide) fun H1 k1 hk1 b1 p1 => ?_
    refine ⟨_, rfl, by show 4 ≤ sizeLine; decide, fun l5 n5 => ?_⟩
    dsimp only [tNil, tCons, tC, List.cons_append, List.nil_append]
    refine do_any (K := K) [5, 12, 60, 480] p1 n5 (by simp) (by decide) fun H2 k2 hk2 b2 p2 => ?_
    obtain ⟨n1, rfl, m1, m2⟩ : ∃ n : Nat, k1 = ((n : Nat) : Int) ∧ 1 ≤ n ∧ n ≤ 9 := by
      simp only [List.mem_cons, List.not_mem_nil, or_false] at hk1
      exact ⟨k1.toNat, by omega, by omega, by omega⟩
    obtain ⟨n2, rfl, m3⟩ : ∃ n : Nat, k2 = ((n : Nat) : Int) ∧ n ≤ 480 := by
      simp only [List.mem_cons, List.not_mem_nil, or_false] at hk2
      exact ⟨k2.toNat, by omega, by omega⟩
    refine ⟨p, n1, n2, rfl, p2, m1, m2, m3, fun H3 z ds b3 p3 hz hp3 => ?_⟩
    exact q H3 z ds (b1.trans (b2.trans b3)) p3 (SqT.of hz) hp3
theorem st1 (T : Txt K mg) (O : TabT K mg) (hr : Room 13 (XR T P w base cdv A outer s H0 E).A) : PS (XR T P w base cdv A outer s H0 E) (stR 1)
    (fun D σ H => ∃ p a ds, σ = [rf p, rf a, none, none, none, none, none, none, none] ∧ SqT K H a (nv ds) ∧ PureN ds ∧ ∀ H' t u, Same H H' → TabAt K O.C H' t (wholeE ds, ((lcmF (pureF ds) : Nat) : Int)) → FracAt H' u (pureF ds) → D.nx [rf p, rf a, rf t, rf u, none, none, none, none, none] H') := by
  refine PS.weak' (ps_par (i := 2) (j := 3) (by rfl) sc_w_right.nd rfl rfl (by decide) rfl rfl (pa_cons (pe_call  (ok_ptab T O) (hr.mono (by decide)) (by rfl) T.m_pure_table T.F_pure_table.kp T.b_pure_table .nil pass0 (pa_cons (pv 1) pa_nil)) (pa_cons (pe_call  (ok_wpure' T) (hr.mono (by decide)) (by rfl) T.m_w_pure T.F_w_pure.kp T.b_w_pure .nil pass0 (pa_cons (pv 1) pa_nil)) pa_nil)) (by rfl)) ?i
  case i =>
    rintro D σ H ⟨p, a, ds, rfl, hA, hp, q⟩
    refine ⟨_, rfl, a, ds, rfl, hA, hp, fun H1 x s1 hx nx => ?_⟩
    rw [tab_pure hp] at hx
    refine ⟨_, rfl, a, ds, rfl, same_sqt s1 hA, hp, fun H2 z s2 n2 hz => ?_⟩
    refine ⟨_, _, rfl, ?_⟩
    exact q H2 x z (s1.trans s2) (hx.same s2) hz
theorem st2 (T : Txt K mg) (O : TabT K mg) (hr : Room 13 (XR T P w base cdv A outer s H0 E).A) : PS (XR T P w base cdv A outer s H0 E) (stR 2)
    (fun D σ H => ∃ p a ds t u, σ = [rf p, rf a, rf t, rf u, none, none, none, none, none] ∧ PureN ds ∧ TabAt K O.C H t (wholeE ds, ((lcmF (pureF ds) : Nat) : Int)) ∧ FracAt H u (pureF ds) ∧ ∀ H', Same H H' → D.nx [rf p, rf a, rf t, rf u, none, none, none, none, none] H') := by
  refine PS.weak' (ps_if (PW.pt (pw_or (pt_cmpR (op_neB hr.units) (pe_call  (ok_wof T O) (hr.mono (by decide)) (by rfl) T.m_w_of T.F_w_of.kp T.b_w_of .nil pass0 (pa_cons (pv 2) pa_nil)) (pv 3) (nomark _)) (pw_or1 (pt_cmpR (op_neD hr.units) (pe_lc (own := [("_law_one", 8)]) (g := gName 8) rfl sc_w_right.nd (pi_list (pe_call  (ok_wrules T O) (hr.mono (by decide)) (by rfl) T.m_w_rules T.F_w_rules.kp T.b_w_rules .nil pass0 (pa_cons (pv 2) pa_nil))) (blkOk_by (own := [("_law_one", 8)]) (N := N_w_right) (sc := defScope s_w_right) (by decide +kernel)) (fun _ _ _ _ _ => (pg_name (i := 8) sc_w_right.nd rfl (Or.inl rfl))) (fun _ _ _ _ _ => pts_one (pt_cmpR op_ne (pv 8) pe_int (nomark _))) (fun _ _ _ _ _ => (pv 8))) (pe_lst pa_nil) (nomark _))))) (pss_one (ps_ret pe_bl)) pss_nil) ?i
  case i =>
    rintro D σ H ⟨p, a, ds, t, u, rfl, hp, ht, hu, q⟩
    have okE : EntN (wholeE ds) := ⟨by rw [keys_wholeE]; exact nd_plcs ds, fun t ht => by
      rw [keys_wholeE] at ht
      obtain ⟨s, d, e, _⟩ := plc_plcs hp t ht
      rw [e]
      simp, by rw [len_wholeE]; have := hp.nine; omega⟩
    have B0 := lcmF_pos (pureF ds)
    have Bl := pureF_lcm hp
    refine ⟨_, rfl, t, _, rfl, ht, okE, by show (0 : Int) < ((lcmF (pureF ds) : Nat) : Int); omega, by rw [Int.natAbs_natCast]; exact Nat.lt_trans Bl (Nat.pow_lt_pow_right (by decide) (by decide)), fun H1 z s1 hz => ?_⟩
    rw [ofT_whole hp] at hz
    refine ⟨_, rfl, 2, true, by decide, frac_eq (keys_pureF ds ▸ nd_plcs ds) hz (hu.same s1), ?_⟩
    refine ⟨_, rfl, iteF ?_⟩
    refine ⟨_, rfl, t, ds, _, rfl, ht.same s1, hp, fun H2 l s2 hl => ?_⟩
    have S2 := s1.trans s2
    refine ⟨l, rfl, ⟨_, SqL.of hl⟩, fun D1 hD => ?_⟩
    have sD := same_new hD (.lst [])
    refine lc_it (walk_list (a := l) (xs := (List.replicate (ds.length - 1) (0 : Int)).map V.int)) (fun i H' => Same H2 H' ∧ H' D1 = some (.lst [])) ⟨sD, upd_same⟩ (fun i H' _ hh => SqL.of (hh.1 _ _ hl)) ?_ ?_
    · rintro i x Hx H3 hi ⟨s3, eD⟩ ⟨e4, hx⟩
      have e0 : x = .int 0 := by
        have hx := hx
        rw [List.getElem?_map] at hx
        cases e : (List.replicate (ds.length - 1) (0 : Int))[i]? with
        | none => rw [e] at hx; cases hx
        | some v =>
          rw [e] at hx
          obtain rfl := Option.some.inj hx
          rw [List.eq_of_mem_replicate (List.mem_of_getElem? e)]
      subst e0
      subst e4
      refine ⟨rfl, _, rfl, rfl, _, rfl, iteF ⟨s3, eD⟩⟩
    · rintro H3 ⟨s3, eD⟩
      refine ⟨Nat.zero_le _, fun l2 n2 => ?_⟩
      have s4 := same_new n2 (.lst [])
      refine ⟨_, _, .lst (SqL.of (s4 _ _ eD)) (dp_tups (TupsU.tups (rs := []) (L := []) .nil)), .lst (SqL.of upd_same) (dp_tups (TupsU.tups (rs := []) (L := []) .nil)), shaped_tups [], shaped_tups [], ?_⟩
      rw [eqv_same]
      refine ⟨_, rfl, iteF ?_⟩
      exact q _ (S2.trans (s3.trans s4))
theorem st3 (T : Txt K mg) (O : TabT K mg) (hr : Room 13 (XR T P w base cdv A outer s H0 E).A) : PS (XR T P w base cdv A outer s H0 E) (stR 3)
    (fun D σ H => ∃ p a ds t u, σ = [rf p, rf a, rf t, rf u, none, none, none, none, none] ∧ SqT K H a (nv ds) ∧ PureN ds ∧ ∀ H' x y, Same H H' → TabAt K O.C H' x (wholeE ds, 1) → H' y = some (.tup [.int ((lcmF (pureF ds) : Nat) : Int), .int 1]) → D.nx [rf p, rf a, rf t, rf u, rf x, rf y, none, none, none] H') := by
  refine PS.weak' (ps_asg (pe_call  (ok_wpure T O) (hr.mono (by decide)) (by rfl) T.m_whole_pure T.F_whole_pure.kp T.b_whole_pure .nil pass0 (pa_cons (pv 1) pa_nil)) (pg_tup (by rfl) (pgs_cons (pg_name (i := 4) sc_w_right.nd rfl (Or.inl rfl)) (pgs_cons (pg_name (i := 5) sc_w_right.nd rfl (Or.inl rfl)) pgs_nil)))) ?i
  case i =>
    rintro D σ H ⟨p, a, ds, t, u, rfl, hA, hp, q⟩
    refine ⟨_, rfl, a, ds, rfl, hA, hp, fun H1 z x y s1 hz hx hy => ?_⟩
    rw [tab_whole hp] at hx
    refine ⟨z, _, rfl, SqT.of hz, rfl, _, _, rfl, _, _, rfl, rfl, ?_⟩
    exact q H1 x y s1 hx hy
theorem st4 (T : Txt K mg) (O : TabT K mg) (hr : Room 13 (XR T P w base cdv A outer s H0 E).A) : PS (XR T P w base cdv A outer s H0 E) (stR 4)
    (fun D σ H => ∃ p a ds t u x y, σ = [rf p, rf a, rf t, rf u, rf x, rf y, none, none, none] ∧ PureN ds ∧ TabAt K O.C H x (wholeE ds, 1) ∧ FracAt H u (pureF ds) ∧ ∀ H', Same H H' → D.nx [rf p, rf a, rf t, rf u, rf x, rf y, none, none, none] H') := by
  refine PS.weak' (ps_if (PW.pt (pw_or (pt_cmpR op_ne (pe_prop (E := E0) (pv 4) O.cl O.P2 (ok_bot O) (hr.mono (by decide)) O.b2 .nil pass0 rfl) pe_int (nomark _)) (pw_or1 (pt_cmpR (op_neD hr.units) (pe_callTy (call_list_dT rfl) (by rfl) T.z_list boot_list (pa_cons (pe_prop (E := E0) (pv 4) O.cl O.P1 (ok_ents T O) (hr.mono (by decide)) O.b1 .nil pass0 rfl) pa_nil)) (pe_callB (cr_sortDT rfl hr.units) (by rfl) T.z_sorted boot_sorted (pa_cons (pv 3) pa_nil)) (nomark _))))) (pss_one (ps_ret pe_bl)) pss_nil) ?i
  case i =>
    rintro D σ H ⟨p, a, ds, t, u, x, y, rfl, hp, hx, hu, q⟩
    have okE : EntN (wholeE ds) := ⟨by rw [keys_wholeE]; exact nd_plcs ds, fun t ht => by
      rw [keys_wholeE] at ht
      obtain ⟨s, d, e, _⟩ := plc_plcs hp t ht
      rw [e]
      simp, by rw [len_wholeE]; have := hp.nine; omega⟩
    have ⟨dx, e0, h1, h2⟩ := hx
    refine ⟨_, rfl, x, dx, _, rfl, h1, x, _, rfl, hx, rfl, ?_⟩
    rw [decide_eq_true rfl]
    obtain ⟨L, u1, u2⟩ := hu
    have kL : keysF L = plcs ds := by rw [u2.keys, keys_pureF]
    refine ⟨_, rfl, iteF ?_⟩
    refine ⟨_, rfl, x, dx, _, rfl, h1, x, _, rfl, hx, okE, fun H1 z s1 n1 e1 => ?_⟩
    refine ⟨z, _, rfl, .inl e1, fun l3 bs n3 k3 => ?_⟩
    have u3 := tups_keys (keys_iT (wholeE ds)) k3
    have s3 := same_new n3 (.lst (bs.map V.ref))
    have S3 := s1.trans s3
    refine ⟨_, rfl, u, _, _, rfl, .inl (S3 _ _ u1), keys_fT L, by rw [kL, ← keys_wholeE]; exact okE.ne, fun p4 qs n4 hq => ?_⟩
    have ks : srt encT (keysF L) = plcs ds := by rw [kL]; exact srt_is encT_inj (List.Perm.refl _) plcs_asc
    rw [ks] at hq
    rw [keys_wholeE] at u3
    have s4 := same_new n4 (.lst (qs.map V.ref))
    refine ⟨_, _, .lst (SqL.of (s4 _ _ upd_same)) (dp_tups ((u3.same (s3.trans s4)).tups)), .lst (SqL.of upd_same) (dp_tups (hq.same s4).tups), shaped_tups _, shaped_tups _, ?_⟩
    rw [eqv_same]
    refine ⟨_, rfl, iteF ?_⟩
    exact q _ (S3.trans s4)
end
end K60

namespace K60
open PySem PySem.Spec PyProof.Rows L2 RZ L5 XX LK M24 DT M38
open MR (ind_num ind_den)
def gsh (ds : List Nat) : Nat → Nat
  | 0 => 0
  | n + 1 => Nat.gcd (gsh ds n) (lcmF (pureF ds) / far ds (ds.getD n 0))
theorem gsh_dvd {ds : List Nat} : ∀ n i : Nat, i < n → gsh ds n ∣ lcmF (pureF ds) / far ds (ds.getD i 0)
  | n + 1, i, h => by
    by_cases e : i = n
    · subst e
      exact Nat.gcd_dvd_right _ _
    · exact Nat.dvd_trans (Nat.gcd_dvd_left _ _) (gsh_dvd n i (by omega))
theorem far_lcm {ds : List Nat} (h : PureN ds) {i x : Nat} (hx : ds[i]? = some x) : far ds x ∣ lcmF (pureF ds) := by
  have := lcmF_dvd.mp (Nat.dvd_refl (lcmF (pureF ds))) _ (List.mem_of_getElem? (get_pureF hx))
  rwa [frq_den (far_ok h hx).1] at this
theorem gsh_one {ds : List Nat} (h : PureN ds) : gsh ds ds.length = 1 := by
  have one := h.one
  have L0 := lcmF_pos (pureF ds)
  have at' : ∀ i, i < ds.length → ∃ x, ds[i]? = some x ∧ ds.getD i 0 = x := fun i hi => ⟨ds[i], List.getElem?_eq_getElem hi, by rw [List.getD_eq_getElem?_getD, List.getElem?_eq_getElem hi]; rfl⟩
  obtain ⟨x0, hx0, e0⟩ := at' 0 (by omega)
  have d0 := gsh_dvd (ds := ds) ds.length 0 (by omega)
  rw [e0] at d0
  have f0 := far_lcm h hx0
  have p0 : 0 < lcmF (pureF ds) / far ds x0 := Nat.div_pos (Nat.le_of_dvd L0 f0) (far_ok h hx0).1
  have g0 : 0 < gsh ds ds.length := Nat.pos_of_dvd_of_pos d0 p0
  have gl : gsh ds ds.length ∣ lcmF (pureF ds) := Nat.dvd_trans d0 (Nat.div_dvd_of_dvd f0)
  have key : lcmF (pureF ds) ∣ lcmF (pureF ds) / gsh ds ds.length := lcmF_dvd.mpr fun p hp => by
    obtain ⟨i, x, hx, rfl⟩ := mem_pureF hp
    have hi := (List.getElem?_eq_some_iff.mp hx).1
    obtain ⟨x', hx', e'⟩ := at' i hi
    obtain rfl := Option.some.inj (hx.symm.trans hx')
    have fx := far_ok h hx
    rw [frq_den fx.1]
    have d1 := gsh_dvd (ds := ds) ds.length i hi
    rw [e'] at d1
    obtain ⟨k, hk⟩ := d1
    refine ⟨k, ?_⟩
    have e2 : lcmF (pureF ds) = gsh ds ds.length * (far ds x * k) := by
      have := Nat.div_mul_cancel (far_lcm h hx)
      rw [hk] at this
      rw [← this, Nat.mul_assoc, Nat.mul_comm k]
    rw [e2, Nat.mul_div_cancel_left _ g0]
  have q0 : 0 < lcmF (pureF ds) / gsh ds ds.length := Nat.div_pos (Nat.le_of_dvd L0 gl) g0
  have le := Nat.le_of_dvd q0 key
  have := Nat.div_mul_cancel gl
  generalize lcmF (pureF ds) / gsh ds ds.length = c at *
  generalize gsh ds ds.length = g at *
  by_cases h1 : g ≤ 1
  · omega
  · exfalso
    have : c * 2 ≤ c * g := Nat.mul_le_mul_left c (by omega)
    omega
theorem low_dvd {l f : Nat} (h0 : 0 < f) (hd : f ∣ l) : (Rat.divInt ((l : Nat) : Int) ((f : Nat) : Int)).num = ((l / f : Nat) : Int) ∧ ((Rat.divInt ((l : Nat) : Int) ((f : Nat) : Int)).den : Int) = 1 := by
  have e : Nat.gcd (((l : Nat) : Int)).natAbs (((f : Nat) : Int)).natAbs = f := by
    rw [Int.natAbs_natCast, Int.natAbs_natCast]
    exact Nat.gcd_eq_right hd
  rw [ind_num (by omega), ind_den (by omega), e]
  exact ⟨by rw [Int.natCast_ediv], Int.ediv_self (by omega)⟩
section
variable {P : Program} {w : World} {K : PySem.W.Frag} {mg : Str → Option Value} {base : Heap} {cdv : Value} {A : Around} {outer : List Env} {s : Shared} {H0 : Hp} {E : XK}
theorem st6 (T : Txt K mg) (O : TabT K mg) (hr : Room 13 (XR T P w base cdv A outer s H0 E).A) : PS (XR T P w base cdv A outer s H0 E) (stR 6)
    (fun D σ H => ∃ p a ds t u x y, σ = [rf p, rf a, rf t, rf u, rf x, rf y, some (.int 0), none, none] ∧ PureN ds ∧ TabAt K O.C H x (wholeE ds, 1) ∧ FracAt H u (pureF ds) ∧ H y = some (.tup [.int ((lcmF (pureF ds) : Nat) : Int), .int 1]) ∧ ∀ H' v7, Same H H' → D.nx [rf p, rf a, rf t, rf u, rf x, rf y, some (.int 1), v7, none] H') := by
  refine PS.weak' (ps_lock (ps_for PassesOwn.never rfl (pi_keys (pv 3)) (pg_name (i := 7) sc_w_right.nd rfl (Or.inl rfl))
      (pss_cons (ps_set (i := 6) sc_w_right.nd rfl (Or.inl rfl) (pe_call  (ok_wshare T) (hr.mono (by decide)) (by rfl) T.m_w_share T.F_w_share.kp T.b_w_share .nil pass0 (pa_cons (pv 6) (pa_cons (pe_dget (hu_of hr) (pe_prop (E := E0) (pv 4) O.cl O.P1 (ok_ents T O) (hr.mono (by decide)) O.b1 .nil pass0 rfl) (pv 7) (fun _ _ => rfl)) pa_nil))))
      (pss_one (ps_if (pt_cmpR (op_neB hr.units) (pe_call  (ok_wlow T) (hr.mono (by decide)) (by rfl) T.m_w_low T.F_w_low.kp T.b_w_low .nil pass0 (pa_cons (pe_op op_mulW (pe_ix ix_tup (pv 5) pe_int (fun _ _ => rfl)) (pe_ix ix_tup (pe_dget (hu_of hr) (pv 3) (pv 7) (fun _ _ => rfl)) pe_int (fun _ _ => rfl))) (pa_cons (pe_op op_mulW (pe_ix ix_tup (pv 5) pe_int (fun _ _ => rfl)) (pe_ix ix_tup (pe_dget (hu_of hr) (pv 3) (pv 7) (fun _ _ => rfl)) pe_int (fun _ _ => rfl))) pa_nil))) (pe_tup (pa_cons (pe_dget (hu_of hr) (pe_prop (E := E0) (pv 4) O.cl O.P1 (ok_ents T O) (hr.mono (by decide)) O.b1 .nil pass0 rfl) (pv 7) (fun _ _ => rfl)) (pa_cons pe_int pa_nil))) (nomark _)) (pss_one (ps_ret pe_bl)) pss_nil))))) ?i
  case i =>
    rintro D σ H ⟨p, a, ds, t, u, x, y, rfl, hp, hx, ⟨L, u1, u2⟩, hy, q⟩
    have nine := hp.nine
    have nd : (keys (wholeE ds)).Nodup := by rw [keys_wholeE]; exact nd_plcs ds
    have okE : EntN (wholeE ds) := ⟨nd, fun t ht => by
      rw [keys_wholeE] at ht
      obtain ⟨s, d, e, _⟩ := plc_plcs hp t ht
      rw [e]
      simp, by rw [len_wholeE]; omega⟩
    have kL : keysF L = plcs ds := by rw [u2.keys, keys_pureF]
    have ndL : (keysF L).Nodup := by rw [kL]; exact nd_plcs ds
    have ⟨dx, e0, h1, h2⟩ := hx
    have xu : x ≠ u := fun e => by rw [e, u1] at h1; cases h1
    have eu : e0 ≠ u := fun e => by
      rw [e, u1] at h2
      have h2 := Option.some.inj h2
      have h2 := HO.dT.inj h2
      have one := hp.one
      have g1 : (fT L)[0]? = (iT (wholeE ds))[0]? := by rw [h2]
      have e2 := get_wholeE (ds := ds) (i := 0) (x := ds[0]) (List.getElem?_eq_getElem (by omega))
      have lL := u2.length
      rw [len_pureF] at lL
      have e3 : L[0]? = some L[0] := List.getElem?_eq_getElem (by omega)
      unfold fT at g1
      unfold iT kI iD at g1
      rw [List.getElem?_map, List.getElem?_map, List.getElem?_map, e2, e3] at g1
      have g2 : V.ref L[0].2 = V.int _ := congrArg Prod.snd (Option.some.inj g1)
      cases g2
    have yu : y ≠ u := fun e => by rw [e, u1] at hy; cases hy
    refine ⟨u, _, u1, trivial, fun od => ?_⟩
    have hfz : (upd H u (.frz od (.dT (fT L)))) u = some (.frz od (.dT (fT L))) := upd_same
    have back : ∀ H', Same (upd H u (.frz od (.dT (fT L)))) H' → Same H (upd H' u (.dT (fT L))) := fun H' s => unlock u1 s
    have fz : ∀ c o, c ≠ u → H c = some o → (upd H u (.frz od (.dT (fT L)))) c = some o := fun c o n h => by
      rw [upd_ne n]
      exact h
    have hx2 : TabAt K O.C (upd H u (.frz od (.dT (fT L)))) x (wholeE ds, 1) := ⟨dx, e0, fz _ _ xu h1, fz _ _ eu h2⟩
    have h12 := fz _ _ xu h1
    have hy2 := fz _ _ yu hy
    have u3 : Hold (upd H u (.frz od (.dT (fT L)))) L (pureF ds) := Paired.mapP u2 fun l p k => ⟨k.1, fz _ _ (fun e => by have := k.2; unfold QAt at this; rw [e, u1] at this; cases this) k.2⟩
    generalize (upd H u (.frz od (.dT (fT L)))) = H2 at hfz back hx2 h12 hy2 u3 ⊢
    refine ⟨_, rfl, u, od, rfl, .inr ⟨_, hfz, ?_⟩⟩
    refine for_it (walk_keysT (d := u) (o := od) (kvs := fT L)) (fun i σ H' => ∃ v7 : Option V, σ = [rf p, rf a, rf t, rf u, rf x, rf y, some (.int ((gsh ds i : Nat) : Int)), v7, none] ∧ Same H2 H') ⟨_, rfl, fun _ _ h => h⟩ (fun i σ H' _ ⟨_, _, s⟩ => s _ _ hfz) ?_ ?_
    · rintro i z σ G G' hi ⟨v7, rfl, s3⟩ ⟨e4, k, v, r, hz, rfl, hq⟩
      subst e4
      obtain ⟨l, hl, rfl, rfl⟩ := at_stepF hz
      obtain ⟨qq, hqq, e5, q5⟩ := u3.get hl
      have il : i < ds.length := by
        have := (List.getElem?_eq_some_iff.mp hqq).1
        rwa [len_pureF] at this
      have hdx : ds[i]? = some ds[i] := List.getElem?_eq_getElem il
      have eg : ds.getD i 0 = ds[i] := by rw [List.getD_eq_getElem?_getD, hdx]; rfl
      rw [get_pureF hdx] at hqq
      obtain rfl := Option.some.inj hqq
      have f0 := far_ok hp hdx
      have fd := far_lcm hp hdx
      have hq' := key_nv hq
      rw [e5] at hq'
      have q6 : G' l.2 = some (.tup [.int 1, .int ((far ds ds[i] : Nat) : Int)]) := by
        have := s3 _ _ q5
        unfold qv at this
        rw [frq_num f0.1, frq_den f0.1] at this
        exact this
      have lm : (([i, ds[i]] : List Nat), l.2) ∈ L := by
        have h := List.mem_of_getElem? hl
        rw [show l = (([i, ds[i]] : List Nat), l.2) from Prod.ext e5 rfl] at h
        exact h
      have evm : ([i, ds[i]], ((lcmF (pureF ds) / far ds ds[i] : Nat) : Int)) ∈ wholeE ds := List.mem_of_getElem? (get_wholeE hdx)
      have evv : ev (wholeE ds) [i, ds[i]] = ((lcmF (pureF ds) / far ds ds[i] : Nat) : Int) := ev_mem nd evm
      have kin : [i, ds[i]] ∈ keys (wholeE ds) := List.mem_map.mpr ⟨_, evm, rfl⟩
      have b1000 : (lcmF (pureF ds) : Nat) < 2 ^ 1000 := pureF_lcm hp
      refine ⟨_, rfl, _, rfl, x, dx, _, rfl, s3 _ _ h12, x, (wholeE ds, 1), rfl, hx2.same s3, okE, fun H6 d6 s6 n6 e6 => ?_⟩
      refine ⟨_, rfl, d6, _, rfl, get_iT (t := [i, ds[i]]) (.inl e6) (s6 _ _ hq') kin, ?_⟩
      rw [evv]
      refine ⟨_, _, rfl, ?_⟩
      have S6 := s3.trans s6
      have fz6 := S6 _ _ hfz
      have gL := get_fT (t := [i, ds[i]]) (r := l.2) ndL (.inr ⟨od, fz6⟩) (s6 _ _ hq') lm
      have q7 := s6 _ _ q6
      refine ⟨_, rfl, y, _, _, .int ((lcmF (pureF ds) : Nat) : Int), rfl, rfl, SqT.of (S6 _ _ hy2), rfl, _, rfl, _, rfl, u, _, rfl, gL, l.2, _, _, .int 1, rfl, rfl, SqT.of q7, rfl, _, _, rfl, rfl, mulW (up4 (a := 1000) (by rw [Int.natAbs_natCast]; exact b1000) (by decide)) (up4 (a := 10) (by decide) (by decide)), ?_⟩
      refine ⟨_, rfl, y, _, _, .int 1, rfl, rfl, SqT.of (S6 _ _ hy2), rfl, _, rfl, _, rfl, u, _, rfl, gL, l.2, _, _, .int ((far ds ds[i] : Nat) : Int), rfl, rfl, SqT.of q7, rfl, _, _, rfl, rfl, mulW (up4 (a := 10) (by decide) (by decide)) (up4 (a := 100) (by rw [Int.natAbs_natCast]; exact f0.2) (by decide)), ?_⟩
      refine ⟨_, _, rfl, by rw [Int.one_mul]; have := f0.1; omega, by rw [Int.one_mul, Int.natAbs_natCast]; exact Nat.lt_trans f0.2 (Nat.pow_lt_pow_right (by decide) (by decide)), fun H9 z9 s9 n9 hq9 => ?_⟩
      rw [Int.mul_one, Int.one_mul] at hq9
      have hq9' : H9 z9 = some (.tup [.int ((lcmF (pureF ds) / far ds ds[i] : Nat) : Int), .int 1]) := by
        unfold QAt qv at hq9
        rw [(low_dvd f0.1 fd).1, (low_dvd f0.1 fd).2] at hq9
        exact hq9
      have S9 := S6.trans s9
      refine ⟨_, rfl, x, dx, _, rfl, S9 _ _ h12, x, (wholeE ds, 1), rfl, hx2.same S9, okE, fun H10 d10 s10 n10 e10 => ?_⟩
      refine ⟨_, rfl, d10, _, rfl, get_iT (t := [i, ds[i]]) (.inl e10) (s10 _ _ (s9 _ _ (s6 _ _ hq'))) kin, ?_⟩
      rw [evv]
      refine ⟨by show 2 ≤ sizeLine; decide, fun tk ntk => ?_⟩
      have s11 := same_new ntk (.tup [.int ((lcmF (pureF ds) / far ds ds[i] : Nat) : Int), .int 1])
      have eqr : EqRn K (upd H10 tk (.tup [.int ((lcmF (pureF ds) / far ds ds[i] : Nat) : Int), .int 1])) (EqB K (upd H10 tk (.tup [.int ((lcmF (pureF ds) / far ds ds[i] : Nat) : Int), .int 1])) 1) (.ref z9) (.ref tk) true := by
        have h : EqRn K (upd H10 tk (.tup [.int ((lcmF (pureF ds) / far ds ds[i] : Nat) : Int), .int 1])) (EqB K (upd H10 tk (.tup [.int ((lcmF (pureF ds) / far ds ds[i] : Nat) : Int), .int 1])) 1) (.ref z9) (.ref tk) _ := .tup (SqT.of (s11 _ _ (s10 _ _ hq9'))) (SqT.of upd_same) (.cons .int (.cons .int .nil))
        simpa using h
      refine ⟨1, _, by decide, eqr, _, rfl, iteF ?_⟩
      refine ⟨some (.ref r), ?_, S9.trans (s10.trans s11)⟩
      rw [show gsh ds (i + 1) = Nat.gcd (gsh ds i) (lcmF (pureF ds) / far ds (ds.getD i 0)) from rfl, eg]
      rfl
    · rintro σ G ⟨v7, rfl, s3⟩
      rw [len_fT, u2.length, len_pureF, gsh_one hp]
      exact ⟨s3 _ _ hfz, q _ _ (back G s3)⟩
theorem st7 (T : Txt K mg) (hr : Room 13 (XR T P w base cdv A outer s H0 E).A) : PS (XR T P w base cdv A outer s H0 E) (stR 7)
    (fun D σ H => ∃ p a ds t u x y v7, σ = [rf p, rf a, rf t, rf u, rf x, rf y, some (.int 1), v7, none] ∧ PureN ds ∧ H y = some (.tup [.int ((lcmF (pureF ds) : Nat) : Int), .int 1]) ∧ ∀ H', Same H H' → D.nx [rf p, rf a, rf t, rf u, rf x, rf y, some (.int 1), v7, none] H') := by
  refine PS.weak' (ps_if (PW.pt (pw_or (pt_cmpR op_ne (pv 6) pe_int (nomark _)) (pw_or (pt_cmpR op_lt (pe_ix ix_tup (pv 5) pe_int (fun _ _ => rfl)) pe_int (nomark _)) (pw_or1 (pt_cmpR (op_neB hr.units) (pv 5) (pe_call  (ok_wlow T) (hr.mono (by decide)) (by rfl) T.m_w_low T.F_w_low.kp T.b_w_low .nil pass0 (pa_cons (pe_ix ix_tup (pv 5) pe_int (fun _ _ => rfl)) (pa_cons (pe_ix ix_tup (pv 5) pe_int (fun _ _ => rfl)) pa_nil))) (nomark _)))))) (pss_one (ps_ret pe_bl)) pss_nil) ?i
  case i =>
    rintro D σ H ⟨p, a, ds, t, u, x, y, v7, rfl, hp, hy, q⟩
    have B0 := lcmF_pos (pureF ds)
    refine ⟨_, rfl, rfl, _, rfl, iteF ?_⟩
    refine ⟨_, rfl, y, _, _, .int ((lcmF (pureF ds) : Nat) : Int), rfl, rfl, SqT.of hy, rfl, _, _, rfl, rfl, _, rfl, ?_⟩
    rw [decide_eq_false (show ¬ ((lcmF (pureF ds) : Nat) : Int) < 1 by omega)]
    refine iteF ?_
    refine ⟨_, rfl, _, rfl, y, _, _, .int ((lcmF (pureF ds) : Nat) : Int), rfl, rfl, SqT.of hy, rfl, _, rfl, y, _, _, .int 1, rfl, rfl, SqT.of hy, rfl, _, _, rfl, by decide, by decide, fun H9 z9 s9 n9 hq9 => ?_⟩
    have hq9' : H9 z9 = some (.tup [.int ((lcmF (pureF ds) : Nat) : Int), .int 1]) := by
      have e := low_dvd (l := lcmF (pureF ds)) (f := 1) (by decide) (Nat.one_dvd _)
      rw [Nat.div_one] at e
      have hq := hq9
      unfold QAt qv at hq
      rw [show (1 : Int) = ((1 : Nat) : Int) from rfl] at hq
      rw [e.1, e.2] at hq
      exact hq
    have eqr : EqRn K H9 (EqB K H9 1) (.ref y) (.ref z9) true := by
      have h : EqRn K H9 (EqB K H9 1) (.ref y) (.ref z9) _ := .tup (SqT.of (s9 _ _ hy)) (SqT.of hq9') (.cons .int (.cons .int .nil))
      simpa using h
    exact ⟨1, _, by decide, eqr, _, rfl, iteF (q _ s9)⟩
theorem st8 (T : Txt K mg) (O : TabT K mg) (hr : Room 13 (XR T P w base cdv A outer s H0 E).A) : PS (XR T P w base cdv A outer s H0 E) (stR 8)
    (fun D σ H => ∃ p a ds t u x y v6 v7, σ = [rf p, rf a, rf t, rf u, rf x, rf y, v6, v7, none] ∧ PureN ds ∧ TabAt K O.C H t (wholeE ds, ((lcmF (pureF ds) : Nat) : Int)) ∧ TabAt K O.C H x (wholeE ds, 1) ∧ H y = some (.tup [.int ((lcmF (pureF ds) : Nat) : Int), .int 1]) ∧ ∀ H', Same H H' → D.rt (.bl true) H') := by
  refine PS.weak' (ps_ret (pe_or (pe_cmpR op_ge (pe_ix ix_tup (pv 5) pe_int (fun _ _ => rfl)) (pe_op op_pow pe_int pe_int) (nomark _)) (pe_one (pe_cmpR (W7.op_eqOwn O.aE O.nE' (ok_eqt T O) (hr.mono (by decide)) O.bE pass0) (pv 4) (pe_meth (pv 2) O.cl O.mX (ok_times T O) (hr.mono (by decide)) O.bX .nil pass0 (pa_cons (pe_ix ix_tup (pv 5) pe_int (fun _ _ => rfl)) (pa_cons (pe_ix ix_tup (pv 5) pe_int (fun _ _ => rfl)) pa_nil))) (nomark _))))) ?i
  case i =>
    rintro D σ H ⟨p, a, ds, t, u, x, y, v6, v7, rfl, hp, ht, hx, hy, q⟩
    have okE : EntN (wholeE ds) := ⟨by rw [keys_wholeE]; exact nd_plcs ds, fun t ht => by
      rw [keys_wholeE] at ht
      obtain ⟨s, d, e, _⟩ := plc_plcs hp t ht
      rw [e]
      simp, by rw [len_wholeE]; have := hp.nine; omega⟩
    have B0 := lcmF_pos (pureF ds)
    have Bl := pureF_lcm hp
    have lw1 : Lw (wholeE ds, 1) := tab_whole hp ▸ (RV.of (F := wholeF ds) (by rw [keys_wholeF]; exact nd_plcs ds)).lw
    have lwB : Lw (wholeE ds, ((lcmF (pureF ds) : Nat) : Int)) := tab_pure hp ▸ (RV.of (F := pureF ds) (by rw [keys_pureF]; exact nd_plcs ds)).lw
    have et : timesT (wholeE ds, ((lcmF (pureF ds) : Nat) : Int)) ((lcmF (pureF ds) : Nat) : Int) 1 = (wholeE ds, 1) := by
      refine (Raw.times (Raw.self lwB) (by decide)).eq2 (Raw.self lw1) fun u => ?_
      show ev (wholeE ds) u * _ * 1 = ev (wholeE ds) u * (_ * 1)
      rw [Int.mul_one, Int.mul_one]
    have ⟨dt, e1, k1, k2⟩ := ht
    refine ⟨_, rfl, y, _, _, .int ((lcmF (pureF ds) : Nat) : Int), rfl, rfl, SqT.of hy, rfl, _, _, rfl, rfl, ⟨by decide, by decide, by decide⟩, _, _, rfl, rfl, ?_⟩
    refine ⟨_, rfl, ite2 (fun c => q _ fun _ _ h => h) (fun c => ?_)⟩
    have sml : ((lcmF (pureF ds) : Nat) : Int) < BIG := by
      have c' : ¬ (10 : Int) ^ 60 ≤ ((lcmF (pureF ds) : Nat) : Int) := fun z => c (decide_eq_true z)
      unfold BIG
      omega
    have ⟨dx, e0, h1, h2⟩ := hx
    have smE : Sm (wholeE ds) := fun p hp' => by
      obtain ⟨i, x, hx, rfl⟩ := mem_wholeE hp'
      rw [Int.natAbs_natCast]
      exact Nat.lt_trans (whole_lt hp x) (Nat.pow_lt_pow_right (by decide) (by decide))
    refine ⟨_, rfl, _, rfl, t, dt, _, rfl, k1, rfl, _, rfl, y, _, _, .int ((lcmF (pureF ds) : Nat) : Int), rfl, rfl, SqT.of hy, rfl, _, rfl, y, _, _, .int 1, rfl, rfl, SqT.of hy, rfl, t, _, _, _, rfl, ht, okE, smE, by show ((lcmF (pureF ds) : Nat) : Int) ≠ 0; omega, by show (((lcmF (pureF ds) : Nat) : Int)).natAbs < _; rw [Int.natAbs_natCast]; exact Nat.lt_trans Bl (Nat.pow_lt_pow_right (by decide) (by decide)), by unfold BIG; omega, sml, by decide, by decide, by decide, fun H9 z s9 hz nz => ?_⟩
    rw [et] at hz
    refine do_eq (hx.same s9) hz lw1 lw1 ?_
    rw [decide_eq_true rfl]
    exact q _ s9
end
end K60

namespace K60
open PySem PySem.Spec PyProof.Rows L2 RZ L5 XX LK M24 DT M38
section
variable {P : Program} {w : World} {K : PySem.W.Frag} {mg : Str → Option Value} {base : Heap}
def sp_right : Sp := fun vs H Q _ => ∃ (p : Addr), vs = [.ref p] ∧ Pail p H ∧ ∀ H', Bar p H H' → Pail p H' → Q (.bl true) H'
theorem Pail.same {p : Addr} {H H' : Hp} (s : Same H H') : Pail p H → Pail p H' := fun ⟨g, x, c, h⟩ => ⟨g, x, c, s _ _ h⟩
theorem ok_right (T : Txt K mg) (O : TabT K mg) : FnOk P w K mg base CX0 14 T.a_w_right T.d_w_right ["_law_bowl_here"] sp_right := by
  refine T.F_w_right.ok sc_w_right (fun vs H Q E h => ?_) (fun cdv A outer s H vs Q E hr h => ?_)
  · obtain ⟨p, rfl, _⟩ := h
    rfl
  · obtain ⟨p, rfl, hp, q⟩ := h
    refine ⟨_, pss_cons (st0 T hr) (pss_cons (st1 T O hr) (pss_cons (st2 T O hr) (pss_cons (st3 T O hr) (pss_cons (st4 T O hr) (pss_cons (ps_set (i := 6) sc_w_right.nd rfl (Or.inl rfl) pe_int) (pss_cons (st6 T O hr) (pss_cons (st7 T hr) (pss_one (st8 T O hr))))))))), ?_⟩
    refine ⟨p, rfl, hp, fun H1 a ds b1 p1 hA hd => ?_⟩
    refine ⟨p, a, ds, rfl, hA, hd, fun H2 t u s2 ht hu => ?_⟩
    refine ⟨p, a, ds, t, u, rfl, hd, ht, hu, fun H3 s3 => ?_⟩
    refine ⟨p, a, ds, t, u, rfl, same_sqt (s2.trans s3) hA, hd, fun H4 x y s4 hx hy => ?_⟩
    refine ⟨p, a, ds, t, u, x, y, rfl, hd, hx, hu.same (s3.trans s4), fun H5 s5 => ?_⟩
    refine ⟨p, a, ds, t, u, x, y, rfl, hd, hx.same s5, hu.same (s3.trans (s4.trans s5)), s5 _ _ hy, fun H6 v7 s6 => ?_⟩
    refine ⟨p, a, ds, t, u, x, y, v7, rfl, hd, s6 _ _ (s5 _ _ hy), fun H7 s7 => ?_⟩
    have S7 := s5.trans (s6.trans s7)
    have T7 := s3.trans (s4.trans S7)
    refine ⟨p, a, ds, t, u, x, y, _, v7, rfl, hd, ht.same T7, hx.same S7, S7 _ _ hy, fun H8 s8 => ?_⟩
    have Z := s2.trans (T7.trans s8)
    exact q H8 (b1.trans (Bar.same Z)) (p1.same Z)
end
section
variable {K : PySem.W.Frag} {mg : Str → Option Value}
abbrev XL (T : Txt K mg) (P : Program) (w : World) (base : Heap) (cdv : Value) (A : Around) (outer : List Env) (s : Shared) (H0 : Hp) (E : XK) : Cx := (cxOf CX0 P w K mg base N_law "law" (defScope s_law) T.a_law cdv A outer s H0 E).nox
abbrev stL (i : Nat) : Stmt := (defBody s_law).getD i (.Pass ⟨0, 0, 0, 0⟩)
def sp_law (K : PySem.W.Frag) : Sp := fun vs H Q _ => ∃ (a : Addr) (ns : List Int), vs = [.ref a] ∧ SqL K H a (ns.map V.int) ∧ ns.length ≤ 63 ∧ ∀ H', Q (.bl true) H'
theorem bar_new {z : Addr} {H A B : Hp} (s : Same H A) (hz : H z = none) (f : Bar z A B) : Same H B := fun b o h => f b o (ne_of_none h hz) (s b o h)
theorem pn023 : PureN [0, 2, 3] := ⟨by decide, by decide, by decide, by decide⟩
theorem pn4 : PureN [4] := ⟨by decide, by decide, by decide, by decide⟩
theorem lcm023 : lcmF (pureF [0, 2, 3]) = 6 := by decide +kernel
theorem lcm4 : lcmF (pureF [4]) = 1 := by decide +kernel
theorem short_of {ds : List Nat} {b : Int} (h : ∀ x ∈ ds, (qTx (entQ ds b x)).length ≤ 50) : Short ds b := fun i x hx => h x (List.mem_of_getElem? hx)
theorem sh1 : Short [0, 2, 3] 6 := short_of (by decide +kernel)
theorem sh2 : Short [0, 2, 3] 1 := short_of (by decide +kernel)
theorem sh3 : Short [4] 1 := short_of (by decide +kernel)
theorem tx1 : txtT [0, 2, 3] 6 = ("0: 1/6 at 0; 1: 1/2 at 2; 2: 1/3 at 3" : Str) := by decide +kernel
theorem tx2 : txtT [0, 2, 3] 1 = ("0: 1 at 0; 1: 3 at 2; 2: 2 at 3" : Str) := by decide +kernel
theorem tx3 : txtT [4] 1 = ("0: 1 at 4" : Str) := by decide +kernel
abbrev toldL : List V := [.str ("0: 1/6 at 0; 1: 1/2 at 2; 2: 1/3 at 3" : Str), .str ("0: 1 at 0; 1: 3 at 2; 2: 2 at 3" : Str), .str ("0: 1 at 4" : Str)]
section
variable {P : Program} {w : World} {base : Heap} {cdv : Value} {A : Around} {outer : List Env} {s : Shared} {H0 : Hp} {E : XK}
theorem lw0' (T : Txt K mg) (O : TabT K mg) (hr : Room 15 (XL T P w base cdv A outer s H0 E).A) : PS (XL T P w base cdv A outer s H0 E) (stL 0)
    (fun D σ H => ∃ (a : Addr) (ns : List Int), σ = [some (.ref a), none, none, none, none, none] ∧ SqL K H a (ns.map V.int) ∧ ns.length ≤ 63 ∧ ∀ H' v1 v2 v3, D.nx [some (.ref a), v1, v2, v3, none, none] H') := by
  refine PS.weak' (ps_for PassesOwn.never rfl (pi_range1 rfl T.z_range (pa_cons (pe_callB (call_max2 rfl) (by rfl) T.z_max (by decide +kernel) (pa_cons pe_int (pa_cons (pe_callB (call_min2 rfl) (by rfl) T.z_min (by decide +kernel) (pa_cons pe_int (pa_cons (pe_callB call_len_seq (by rfl) T.z_len boot_len (pa_cons (pv 0) pa_nil)) pa_nil))) pa_nil))) pa_nil)) (pg_name (i := 1) sc_law.nd rfl (Or.inl rfl))
      (pss_cons (ps_set (i := 2) sc_law.nd rfl (Or.inl rfl) (pe_call  (ok_pot T) (hr.mono (by decide)) (by rfl) T.m_w_bowl T.F_w_bowl.kp T.b_w_bowl .nil pass0 (pa_cons (pv 0) (pa_cons (pv 1) pa_nil))))
      (pss_one (ps_for PassesOwn.never rfl (pi_range1 rfl T.z_range (pa_cons pe_int pa_nil)) (pg_name (i := 3) sc_law.nd rfl (Or.inl rfl))
      (pss_one (ps_if (pt_not (pt_val (pe_call  (ok_right T O) (hr.mono (by decide)) (by rfl) T.m_w_right T.F_w_right.kp T.b_w_right .nil pass0 (pa_cons (pv 2) pa_nil)))) (pss_one (ps_ret pe_bl)) pss_nil)))))) ?i
  case i =>
    rintro D σ H ⟨a, ns, rfl, hS, hl, q⟩
    have hm1 : ∀ m : Int, (if (if ((ns.map V.int).length : Int) < 3 then ((ns.map V.int).length : Int) else 3) > 1 then (if ((ns.map V.int).length : Int) < 3 then ((ns.map V.int).length : Int) else 3) else 1) = m → 1 ≤ m ∧ m ≤ 3 := fun m e => by
      rw [← e]
      split <;> split <;> omega
    refine ⟨_, rfl, a, _, rfl, .inl hS, _, _, rfl, _, _, rfl, _, rfl, ?_⟩
    have hb := hm1 _ rfl
    refine ⟨Int.le_trans (by decide) hb.1, Int.lt_of_le_of_lt hb.2 (by decide), ?_⟩
    refine for_range (lo := 0) (n := _) (fun i σ H' => ∃ v1 v2 v3 : Option V, σ = [some (.ref a), v1, v2, v3, none, none] ∧ Same H H') ⟨none, none, none, rfl, fun _ _ h => h⟩ ?_ ?_
    · rintro i σ H1 hi ⟨v1, v2, v3, rfl, s1⟩
      have hi4 : i < 1000 := by
        have := hb.2
        omega
      refine ⟨_, rfl, _, rfl, a, ns, i, by rw [Int.zero_add]; rfl, s1.seq hS, hi4, fun H2 z g x c s2 hz hz2 => ?_⟩
      refine ⟨_, rfl, by decide, by decide, ?_⟩
      refine for_range (lo := 0) (n := 4) (fun j σ H' => ∃ v3 : Option V, σ = [some (.ref a), some (.int (0 + ((i : Nat) : Int))), some (.ref z), v3, none, none] ∧ Bar z H2 H' ∧ Pail z H') ⟨_, rfl, fun _ _ _ h => h, ⟨g, x, c, hz2⟩⟩ ?_ ?_
      · rintro j σ H3 hj ⟨v3, rfl, b3, p3⟩
        refine ⟨_, rfl, z, rfl, p3, fun H4 b4 p4 => ⟨true, rfl, iteF ?_⟩⟩
        exact ⟨_, rfl, b3.trans b4, p4⟩
      · rintro σ H3 ⟨v3, rfl, b3, p3⟩
        exact ⟨_, _, _, rfl, s1.trans (bar_new s2 hz b3)⟩
    · rintro σ H1 ⟨v1, v2, v3, rfl, s1⟩
      exact q H1 v1 v2 v3
theorem lw1' (T : Txt K mg) (O : TabT K mg) (S : TabS K O.C) (hr : Room 15 (XL T P w base cdv A outer s H0 E).A) : PS (XL T P w base cdv A outer s H0 E) (stL 1)
    (fun D σ H => ∃ v0 v1 v2 v3, σ = [v0, v1, v2, v3, none, none] ∧ ∀ H' z, H' z = some (.lst toldL) → D.nx [v0, v1, v2, v3, some (.ref z), none] H') := by
  refine PS.weak' (ps_set (i := 4) sc_law.nd rfl (Or.inl rfl) (pe_lst (pa_cons (pe_callTy (W7.call_strOwn1 S.aS S.nS (ok_strt T O S) (hr.mono (by decide)) S.bS pass0) (by rfl) T.z_str boot_str (pa_cons (pe_call  (ok_ptab T O) (hr.mono (by decide)) (by rfl) T.m_pure_table T.F_pure_table.kp T.b_pure_table .nil pass0 (pa_cons (pe_tup (pa_cons pe_int (pa_cons pe_int (pa_cons pe_int pa_nil)))) pa_nil)) pa_nil)) (pa_cons (pe_callTy (W7.call_strOwn1 S.aS S.nS (ok_strt T O S) (hr.mono (by decide)) S.bS pass0) (by rfl) T.z_str boot_str (pa_cons (pe_ix ix_tup (pe_call  (ok_wpure T O) (hr.mono (by decide)) (by rfl) T.m_whole_pure T.F_whole_pure.kp T.b_whole_pure .nil pass0 (pa_cons (pe_tup (pa_cons pe_int (pa_cons pe_int (pa_cons pe_int pa_nil)))) pa_nil)) pe_int (fun _ _ => rfl)) pa_nil)) (pa_cons (pe_callTy (W7.call_strOwn1 S.aS S.nS (ok_strt T O S) (hr.mono (by decide)) S.bS pass0) (by rfl) T.z_str boot_str (pa_cons (pe_call  (ok_ptab T O) (hr.mono (by decide)) (by rfl) T.m_pure_table T.F_pure_table.kp T.b_pure_table .nil pass0 (pa_cons (pe_tup (pa_cons pe_int pa_nil)) pa_nil)) pa_nil)) pa_nil))))) ?i
  case i =>
    rintro D σ H ⟨v0, v1, v2, v3, rfl, q⟩
    refine ⟨by show 3 ≤ sizeLine; decide, fun a1 n1 => ?_⟩
    have u1 : (upd H a1 (.tup [.int 0, .int 2, .int 3])) a1 = some (.tup (nv [0, 2, 3])) := upd_same
    refine ⟨a1, [0, 2, 3], rfl, SqT.of u1, pn023, fun H1 x s1 hx nx => ?_⟩
    rw [tab_pure pn023, lcm023] at hx
    have ⟨dx, ex, g1, _⟩ := hx
    refine ⟨x, dx, _, rfl, g1, x, [0, 2, 3], 6, rfl, hx, pn023, sh1, by decide, by decide, fun H2 s2 => ⟨_, rfl, ?_⟩⟩
    rw [tx1]
    refine ⟨by show 3 ≤ sizeLine; decide, fun a2 n2 => ?_⟩
    have u2 : (upd H2 a2 (.tup [.int 0, .int 2, .int 3])) a2 = some (.tup (nv [0, 2, 3])) := upd_same
    refine ⟨a2, [0, 2, 3], rfl, SqT.of u2, pn023, fun H4 z4 x4 y4 s4 hz4 hx4 hy4 => ?_⟩
    rw [tab_whole pn023] at hx4
    have ⟨dx4, ex4, g4, _⟩ := hx4
    refine ⟨z4, _, _, .ref x4, rfl, rfl, SqT.of hz4, rfl, ?_⟩
    refine ⟨x4, dx4, _, rfl, g4, x4, [0, 2, 3], 1, rfl, hx4, pn023, sh2, by decide, by decide, fun H5 s5 => ⟨_, rfl, ?_⟩⟩
    rw [tx2]
    refine ⟨by show 1 ≤ sizeLine; decide, fun a6 n6 => ?_⟩
    have u6 : (upd H5 a6 (.tup [.int 4])) a6 = some (.tup (nv [4])) := upd_same
    refine ⟨a6, [4], rfl, SqT.of u6, pn4, fun H7 x7 s7 hx7 nx7 => ?_⟩
    rw [tab_pure pn4, lcm4] at hx7
    have ⟨dx7, ex7, g7, _⟩ := hx7
    refine ⟨x7, dx7, _, rfl, g7, x7, [4], 1, rfl, hx7, pn4, sh3, by decide, by decide, fun H8 s8 => ⟨_, rfl, ?_⟩⟩
    rw [tx3]
    refine ⟨by show 3 ≤ sizeLine; decide, fun z hz => ?_⟩
    exact q _ z upd_same
theorem lw3' (T : Txt K mg) (O : TabT K mg) (hr : Room 15 (XL T P w base cdv A outer s H0 E).A) : PS (XL T P w base cdv A outer s H0 E) (stL 3)
    (fun D σ H => ∃ v0 v1 v2 v3 z l, σ = [v0, v1, v2, v3, some (.ref z), some (.ref l)] ∧ H z = some (.lst toldL) ∧ H l = some (.lst toldL) ∧ ∀ H', D.rt (.bl true) H') := by
  refine PS.weak' (ps_ret (pe_and (pe_cmpR (op_eqD hr.units) (pv 4) (pv 5) (nomark _)) (pe_and (pe_cmpR (op_eqB hr.units) (pe_ix ix_tup (pe_call  (ok_wpure T O) (hr.mono (by decide)) (by rfl) T.m_whole_pure T.F_whole_pure.kp T.b_whole_pure .nil pass0 (pa_cons (pe_tup (pa_cons pe_int (pa_cons pe_int (pa_cons pe_int pa_nil)))) pa_nil)) pe_int (fun _ _ => rfl)) (pe_tup (pa_cons pe_int (pa_cons pe_int pa_nil))) (nomark _)) (pe_one (pe_cmpR (op_eqB hr.units) (pe_ix ix_tup (pe_call  (ok_wpure T O) (hr.mono (by decide)) (by rfl) T.m_whole_pure T.F_whole_pure.kp T.b_whole_pure .nil pass0 (pa_cons (pe_tup (pa_cons pe_int pa_nil)) pa_nil)) pe_int (fun _ _ => rfl)) (pe_tup (pa_cons pe_int (pa_cons pe_int pa_nil))) (nomark _)))))) ?i
  case i =>
    rintro D σ H ⟨v0, v1, v2, v3, z, l, rfl, hz, hl, q⟩
    refine ⟨_, rfl, _, rfl, .list [.str ("0: 1/6 at 0; 1: 1/2 at 2; 2: 1/3 at 3" : Str), .str ("0: 1 at 0; 1: 3 at 2; 2: 2 at 3" : Str), .str ("0: 1 at 4" : Str)], .list [.str ("0: 1/6 at 0; 1: 1/2 at 2; 2: 1/3 at 3" : Str), .str ("0: 1 at 0; 1: 3 at 2; 2: 2 at 3" : Str), .str ("0: 1 at 4" : Str)], .lst (SqL.of hz) (.cons (.str _) (.cons (.str _) (.cons (.str _) .nil))), .lst (SqL.of hl) (.cons (.str _) (.cons (.str _) (.cons (.str _) .nil))), by decide +kernel, by decide +kernel, ?_⟩
    rw [show PyData.eqv (.list [.str ("0: 1/6 at 0; 1: 1/2 at 2; 2: 1/3 at 3" : Str), .str ("0: 1 at 0; 1: 3 at 2; 2: 2 at 3" : Str), .str ("0: 1 at 4" : Str)]) (.list [.str ("0: 1/6 at 0; 1: 1/2 at 2; 2: 1/3 at 3" : Str), .str ("0: 1 at 0; 1: 3 at 2; 2: 2 at 3" : Str), .str ("0: 1 at 4" : Str)]) = true by decide +kernel]
    refine ⟨_, rfl, iteT ?_⟩
    refine ⟨by show 3 ≤ sizeLine; decide, fun a1 n1 => ?_⟩
    have u1 : (upd H a1 (.tup [.int 0, .int 2, .int 3])) a1 = some (.tup (nv [0, 2, 3])) := upd_same
    refine ⟨a1, [0, 2, 3], rfl, SqT.of u1, pn023, fun H4 z4 x4 y4 s4 hz4 hx4 hy4 => ?_⟩
    rw [lcm023] at hy4
    refine ⟨z4, _, _, .ref y4, rfl, rfl, SqT.of hz4, rfl, by show 2 ≤ sizeLine; decide, fun t5 n5 => ?_⟩
    have s5 := same_new n5 (.tup [.int 6, .int 1])
    have eq5 : EqRr K (upd H4 t5 (.tup [.int 6, .int 1])) (EqB K (upd H4 t5 (.tup [.int 6, .int 1])) 1) (.ref y4) (.ref t5) true := .of (by
      have h : EqRn K (upd H4 t5 (.tup [.int 6, .int 1])) (EqB K (upd H4 t5 (.tup [.int 6, .int 1])) 1) (.ref y4) (.ref t5) _ := .tup (SqT.of (s5 _ _ hy4)) (SqT.of upd_same) (.cons .int (.cons .int .nil))
      simpa using h)
    refine ⟨1, _, by decide, eq5, _, rfl, iteT ?_⟩
    refine ⟨by show 1 ≤ sizeLine; decide, fun a6 n6 => ?_⟩
    have u6 : (upd (upd H4 t5 (.tup [.int 6, .int 1])) a6 (.tup [.int 4])) a6 = some (.tup (nv [4])) := upd_same
    refine ⟨a6, [4], rfl, SqT.of u6, pn4, fun H7 z7 x7 y7 s7 hz7 hx7 hy7 => ?_⟩
    rw [lcm4] at hy7
    refine ⟨z7, _, _, .ref y7, rfl, rfl, SqT.of hz7, rfl, by show 2 ≤ sizeLine; decide, fun t8 n8 => ?_⟩
    have s8 := same_new n8 (.tup [.int 1, .int 1])
    have eq8 : EqRr K (upd H7 t8 (.tup [.int 1, .int 1])) (EqB K (upd H7 t8 (.tup [.int 1, .int 1])) 1) (.ref y7) (.ref t8) true := .of (by
      have h : EqRn K (upd H7 t8 (.tup [.int 1, .int 1])) (EqB K (upd H7 t8 (.tup [.int 1, .int 1])) 1) (.ref y7) (.ref t8) _ := .tup (SqT.of (s8 _ _ hy7)) (SqT.of upd_same) (.cons .int (.cons .int .nil))
      simpa using h)
    exact ⟨1, _, by decide, eq8, q _⟩
end
section
variable {P : Program} {w : World} {base : Heap}
theorem ok_law (T : Txt K mg) (O : TabT K mg) (S : TabS K O.C) : FnOk P w K mg base CX0 16 T.a_law T.d_law ["_law_script"] (sp_law K) := by
  refine T.F_law.ok sc_law (fun vs H Q E h => ?_) (fun cdv A outer s H vs Q E hr h => ?_)
  · obtain ⟨a, ns, rfl, _⟩ := h
    rfl
  · obtain ⟨a, ns, rfl, hS, hl, q⟩ := h
    refine ⟨_, pss_cons (lw0' T O hr) (pss_cons (lw1' T O S hr) (pss_cons (ps_set (i := 5) sc_law.nd rfl (Or.inl rfl) (pe_lst (pa_cons pe_str (pa_cons pe_str (pa_cons pe_str pa_nil))))) (pss_one (lw3' T O hr)))), ?_⟩
    refine ⟨a, ns, rfl, hS, hl, fun H1 v1 v2 v3 => ⟨_, _, _, _, rfl, fun H2 z hz => ?_⟩⟩
    refine ⟨by show 3 ≤ sizeLine; decide, fun l nl => ?_⟩
    have sl := same_new nl (.lst toldL)
    exact ⟨_, _, _, _, z, l, rfl, sl _ _ hz, upd_same, fun H4 => q H4⟩
end
end
end K60

namespace K60
open PySem PySem.Spec PyProof.Rows L2 RZ L5 XX LK M24 DT M38
/-! ### the end -/
theorem exm_b {K : PySem.W.Frag} {S C : Addr} {b : Bool} (h1 : PySem.W.subIn K (.ref C) (.type "BaseException") = some true) (h2 : PySem.W.isClsIn K C = true) (h3 : PySem.W.typeIn K (.ref C) = some (.type "type")) (h4 : PySem.W.subIn K (.ref S) (.ref C) = some b) : PySem.W.exmOne K (.ref S) (.ref C) = some b := by
  have e1 : (PySem.W.subIn K (.ref C) (.type "BaseException") == some true) = true := by rw [h1] <;> rfl
  have h5 : PySem.W.kitCls K (.ref S) (.ref C) = some b := by
    have h2' : (PySem.W.clsIn K C).isSome = true := h2
    have e2 : ((PySem.W.clsIn K C).isSome && PySem.W.typeIn K (.ref C) == some (.type "type")) = true := by rw [h2', h3] <;> rfl
    exact (if_pos e2).trans h4
  exact (if_pos e1).trans h5
theorem all_mk {l : PySem.W.OpenLaw} {w : World} {K : PySem.W.Frag} {h : Heap} {mg : Str → Option Value} {fa CTable : Addr} (X : K.In h) (G : h.Ns mainGlobals mg) (hfa : mg "law" = some (.ref fa))
    {od_is_number an_is_number : Option Addr} {sl_is_number : Array (Option Value)} {oc_is_number kV_is_number dc_is_number pm_is_number cd_is_number ct_is_number : Value} {f_is_number : Addr}
    (a_is_number : PySem.W.nsIn K mainGlobals "is_number" = some (some (.ref f_is_number))) (l_is_number : K.lookup f_is_number = some ⟨oc_is_number, od_is_number, .func (PySem.W.fnOf "is_number" "is_number" (defArgs s_is_number) (defBody s_is_number) (defScope s_is_number) .none kV_is_number dc_is_number pm_is_number an_is_number cd_is_number ct_is_number), sl_is_number⟩) (cc_is_number : PySem.W.codeIn K cd_is_number "is_number" = true) (k_is_number : PySem.W.keepIn K (.ref f_is_number) = true)
    {od_is_passed an_is_passed : Option Addr} {sl_is_passed : Array (Option Value)} {oc_is_passed kV_is_passed dc_is_passed pm_is_passed cd_is_passed ct_is_passed : Value} {f_is_passed : Addr}
    (a_is_passed : PySem.W.nsIn K mainGlobals "is_passed" = some (some (.ref f_is_passed))) (l_is_passed : K.lookup f_is_passed = some ⟨oc_is_passed, od_is_passed, .func (PySem.W.fnOf "is_passed" "is_passed" (defArgs s_is_passed) (defBody s_is_passed) (defScope s_is_passed) .none kV_is_passed dc_is_passed pm_is_passed an_is_passed cd_is_passed ct_is_passed), sl_is_passed⟩) (cc_is_passed : PySem.W.codeIn K cd_is_passed "is_passed" = true) (k_is_passed : PySem.W.keepIn K (.ref f_is_passed) = true)
    {od_is_within an_is_within : Option Addr} {sl_is_within : Array (Option Value)} {oc_is_within kV_is_within dc_is_within pm_is_within cd_is_within ct_is_within : Value} {f_is_within : Addr}
    (a_is_within : PySem.W.nsIn K mainGlobals "is_within" = some (some (.ref f_is_within))) (l_is_within : K.lookup f_is_within = some ⟨oc_is_within, od_is_within, .func (PySem.W.fnOf "is_within" "is_within" (defArgs s_is_within) (defBody s_is_within) (defScope s_is_within) .none kV_is_within dc_is_within pm_is_within an_is_within cd_is_within ct_is_within), sl_is_within⟩) (cc_is_within : PySem.W.codeIn K cd_is_within "is_within" = true) (k_is_within : PySem.W.keepIn K (.ref f_is_within) = true)
    {od_check_within an_check_within : Option Addr} {sl_check_within : Array (Option Value)} {oc_check_within kV_check_within dc_check_within pm_check_within cd_check_within ct_check_within : Value} {f_check_within : Addr}
    (a_check_within : PySem.W.nsIn K mainGlobals "check_within" = some (some (.ref f_check_within))) (l_check_within : K.lookup f_check_within = some ⟨oc_check_within, od_check_within, .func (PySem.W.fnOf "check_within" "check_within" (defArgs s_check_within) (defBody s_check_within) (defScope s_check_within) .none kV_check_within dc_check_within pm_check_within an_check_within cd_check_within ct_check_within), sl_check_within⟩) (cc_check_within : PySem.W.codeIn K cd_check_within "check_within" = true) (k_check_within : PySem.W.keepIn K (.ref f_check_within) = true)
    {od_check_passed an_check_passed : Option Addr} {sl_check_passed : Array (Option Value)} {oc_check_passed kV_check_passed dc_check_passed pm_check_passed cd_check_passed ct_check_passed : Value} {f_check_passed : Addr}
    (a_check_passed : PySem.W.nsIn K mainGlobals "check_passed" = some (some (.ref f_check_passed))) (l_check_passed : K.lookup f_check_passed = some ⟨oc_check_passed, od_check_passed, .func (PySem.W.fnOf "check_passed" "check_passed" (defArgs s_check_passed) (defBody s_check_passed) (defScope s_check_passed) .none kV_check_passed dc_check_passed pm_check_passed an_check_passed cd_check_passed ct_check_passed), sl_check_passed⟩) (cc_check_passed : PySem.W.codeIn K cd_check_passed "check_passed" = true) (k_check_passed : PySem.W.keepIn K (.ref f_check_passed) = true)
    {od_is_set an_is_set : Option Addr} {sl_is_set : Array (Option Value)} {oc_is_set kV_is_set dc_is_set pm_is_set cd_is_set ct_is_set : Value} {f_is_set : Addr}
    (a_is_set : PySem.W.nsIn K mainGlobals "is_set" = some (some (.ref f_is_set))) (l_is_set : K.lookup f_is_set = some ⟨oc_is_set, od_is_set, .func (PySem.W.fnOf "is_set" "is_set" (defArgs s_is_set) (defBody s_is_set) (defScope s_is_set) .none kV_is_set dc_is_set pm_is_set an_is_set cd_is_set ct_is_set), sl_is_set⟩) (cc_is_set : PySem.W.codeIn K cd_is_set "is_set" = true) (k_is_set : PySem.W.keepIn K (.ref f_is_set) = true)
    {od_greatest_divisor an_greatest_divisor : Option Addr} {sl_greatest_divisor : Array (Option Value)} {oc_greatest_divisor kV_greatest_divisor dc_greatest_divisor pm_greatest_divisor cd_greatest_divisor ct_greatest_divisor : Value} {f_greatest_divisor : Addr}
    (a_greatest_divisor : PySem.W.nsIn K mainGlobals "greatest_divisor" = some (some (.ref f_greatest_divisor))) (l_greatest_divisor : K.lookup f_greatest_divisor = some ⟨oc_greatest_divisor, od_greatest_divisor, .func (PySem.W.fnOf "greatest_divisor" "greatest_divisor" (defArgs s_greatest_divisor) (defBody s_greatest_divisor) (defScope s_greatest_divisor) .none kV_greatest_divisor dc_greatest_divisor pm_greatest_divisor an_greatest_divisor cd_greatest_divisor ct_greatest_divisor), sl_greatest_divisor⟩) (cc_greatest_divisor : PySem.W.codeIn K cd_greatest_divisor "greatest_divisor" = true) (k_greatest_divisor : PySem.W.keepIn K (.ref f_greatest_divisor) = true)
    {od_lowest_pair an_lowest_pair : Option Addr} {sl_lowest_pair : Array (Option Value)} {oc_lowest_pair kV_lowest_pair dc_lowest_pair pm_lowest_pair cd_lowest_pair ct_lowest_pair : Value} {f_lowest_pair : Addr}
    (a_lowest_pair : PySem.W.nsIn K mainGlobals "lowest_pair" = some (some (.ref f_lowest_pair))) (l_lowest_pair : K.lookup f_lowest_pair = some ⟨oc_lowest_pair, od_lowest_pair, .func (PySem.W.fnOf "lowest_pair" "lowest_pair" (defArgs s_lowest_pair) (defBody s_lowest_pair) (defScope s_lowest_pair) .none kV_lowest_pair dc_lowest_pair pm_lowest_pair an_lowest_pair cd_lowest_pair ct_lowest_pair), sl_lowest_pair⟩) (cc_lowest_pair : PySem.W.codeIn K cd_lowest_pair "lowest_pair" = true) (k_lowest_pair : PySem.W.keepIn K (.ref f_lowest_pair) = true)
    {od_pair_text an_pair_text : Option Addr} {sl_pair_text : Array (Option Value)} {oc_pair_text kV_pair_text dc_pair_text pm_pair_text cd_pair_text ct_pair_text : Value} {f_pair_text : Addr}
    (a_pair_text : PySem.W.nsIn K mainGlobals "pair_text" = some (some (.ref f_pair_text))) (l_pair_text : K.lookup f_pair_text = some ⟨oc_pair_text, od_pair_text, .func (PySem.W.fnOf "pair_text" "pair_text" (defArgs s_pair_text) (defBody s_pair_text) (defScope s_pair_text) .none kV_pair_text dc_pair_text pm_pair_text an_pair_text cd_pair_text ct_pair_text), sl_pair_text⟩) (cc_pair_text : PySem.W.codeIn K cd_pair_text "pair_text" = true) (k_pair_text : PySem.W.keepIn K (.ref f_pair_text) = true)
    {od_table_text an_table_text : Option Addr} {sl_table_text : Array (Option Value)} {oc_table_text kV_table_text dc_table_text pm_table_text cd_table_text ct_table_text : Value} {f_table_text : Addr}
    (a_table_text : PySem.W.nsIn K mainGlobals "table_text" = some (some (.ref f_table_text))) (l_table_text : K.lookup f_table_text = some ⟨oc_table_text, od_table_text, .func (PySem.W.fnOf "table_text" "table_text" (defArgs s_table_text) (defBody s_table_text) (defScope s_table_text) .none kV_table_text dc_table_text pm_table_text an_table_text cd_table_text ct_table_text), sl_table_text⟩) (cc_table_text : PySem.W.codeIn K cd_table_text "table_text" = true) (k_table_text : PySem.W.keepIn K (.ref f_table_text) = true)
    {od_step_text an_step_text : Option Addr} {sl_step_text : Array (Option Value)} {oc_step_text kV_step_text dc_step_text pm_step_text cd_step_text ct_step_text : Value} {f_step_text : Addr}
    (a_step_text : PySem.W.nsIn K mainGlobals "step_text" = some (some (.ref f_step_text))) (l_step_text : K.lookup f_step_text = some ⟨oc_step_text, od_step_text, .func (PySem.W.fnOf "step_text" "step_text" (defArgs s_step_text) (defBody s_step_text) (defScope s_step_text) .none kV_step_text dc_step_text pm_step_text an_step_text cd_step_text ct_step_text), sl_step_text⟩) (cc_step_text : PySem.W.codeIn K cd_step_text "step_text" = true) (k_step_text : PySem.W.keepIn K (.ref f_step_text) = true)
    {od_is_place an_is_place : Option Addr} {sl_is_place : Array (Option Value)} {oc_is_place kV_is_place dc_is_place pm_is_place cd_is_place ct_is_place : Value} {f_is_place : Addr}
    (a_is_place : PySem.W.nsIn K mainGlobals "is_place" = some (some (.ref f_is_place))) (l_is_place : K.lookup f_is_place = some ⟨oc_is_place, od_is_place, .func (PySem.W.fnOf "is_place" "is_place" (defArgs s_is_place) (defBody s_is_place) (defScope s_is_place) .none kV_is_place dc_is_place pm_is_place an_is_place cd_is_place ct_is_place), sl_is_place⟩) (cc_is_place : PySem.W.codeIn K cd_is_place "is_place" = true) (k_is_place : PySem.W.keepIn K (.ref f_is_place) = true)
    {od_is_entries an_is_entries : Option Addr} {sl_is_entries : Array (Option Value)} {oc_is_entries kV_is_entries dc_is_entries pm_is_entries cd_is_entries ct_is_entries : Value} {f_is_entries : Addr}
    (a_is_entries : PySem.W.nsIn K mainGlobals "is_entries" = some (some (.ref f_is_entries))) (l_is_entries : K.lookup f_is_entries = some ⟨oc_is_entries, od_is_entries, .func (PySem.W.fnOf "is_entries" "is_entries" (defArgs s_is_entries) (defBody s_is_entries) (defScope s_is_entries) .none kV_is_entries dc_is_entries pm_is_entries an_is_entries cd_is_entries ct_is_entries), sl_is_entries⟩) (cc_is_entries : PySem.W.codeIn K cd_is_entries "is_entries" = true) (k_is_entries : PySem.W.keepIn K (.ref f_is_entries) = true)
    {od_check_bottom an_check_bottom : Option Addr} {sl_check_bottom : Array (Option Value)} {oc_check_bottom kV_check_bottom dc_check_bottom pm_check_bottom cd_check_bottom ct_check_bottom : Value} {f_check_bottom : Addr}
    (a_check_bottom : PySem.W.nsIn K mainGlobals "check_bottom" = some (some (.ref f_check_bottom))) (l_check_bottom : K.lookup f_check_bottom = some ⟨oc_check_bottom, od_check_bottom, .func (PySem.W.fnOf "check_bottom" "check_bottom" (defArgs s_check_bottom) (defBody s_check_bottom) (defScope s_check_bottom) .none kV_check_bottom dc_check_bottom pm_check_bottom an_check_bottom cd_check_bottom ct_check_bottom), sl_check_bottom⟩) (cc_check_bottom : PySem.W.codeIn K cd_check_bottom "check_bottom" = true) (k_check_bottom : PySem.W.keepIn K (.ref f_check_bottom) = true)
    {od_made_table an_made_table : Option Addr} {sl_made_table : Array (Option Value)} {oc_made_table kV_made_table dc_made_table pm_made_table cd_made_table ct_made_table : Value} {f_made_table : Addr}
    (a_made_table : PySem.W.nsIn K mainGlobals "made_table" = some (some (.ref f_made_table))) (l_made_table : K.lookup f_made_table = some ⟨oc_made_table, od_made_table, .func (PySem.W.fnOf "made_table" "made_table" (defArgs s_made_table) (defBody s_made_table) (defScope s_made_table) .none kV_made_table dc_made_table pm_made_table an_made_table cd_made_table ct_made_table), sl_made_table⟩) (cc_made_table : PySem.W.codeIn K cd_made_table "made_table" = true) (k_made_table : PySem.W.keepIn K (.ref f_made_table) = true)
    {od_table_of_fractions an_table_of_fractions : Option Addr} {sl_table_of_fractions : Array (Option Value)} {oc_table_of_fractions kV_table_of_fractions dc_table_of_fractions pm_table_of_fractions cd_table_of_fractions ct_table_of_fractions : Value} {f_table_of_fractions : Addr}
    (a_table_of_fractions : PySem.W.nsIn K mainGlobals "table_of_fractions" = some (some (.ref f_table_of_fractions))) (l_table_of_fractions : K.lookup f_table_of_fractions = some ⟨oc_table_of_fractions, od_table_of_fractions, .func (PySem.W.fnOf "table_of_fractions" "table_of_fractions" (defArgs s_table_of_fractions) (defBody s_table_of_fractions) (defScope s_table_of_fractions) .none kV_table_of_fractions dc_table_of_fractions pm_table_of_fractions an_table_of_fractions cd_table_of_fractions ct_table_of_fractions), sl_table_of_fractions⟩) (cc_table_of_fractions : PySem.W.codeIn K cd_table_of_fractions "table_of_fractions" = true) (k_table_of_fractions : PySem.W.keepIn K (.ref f_table_of_fractions) = true)
    {od_lowest an_lowest : Option Addr} {sl_lowest : Array (Option Value)} {oc_lowest kV_lowest dc_lowest pm_lowest cd_lowest ct_lowest : Value} {f_lowest : Addr}
    (a_lowest : PySem.W.nsIn K mainGlobals "lowest" = some (some (.ref f_lowest))) (l_lowest : K.lookup f_lowest = some ⟨oc_lowest, od_lowest, .func (PySem.W.fnOf "lowest" "lowest" (defArgs s_lowest) (defBody s_lowest) (defScope s_lowest) .none kV_lowest dc_lowest pm_lowest an_lowest cd_lowest ct_lowest), sl_lowest⟩) (cc_lowest : PySem.W.codeIn K cd_lowest "lowest" = true) (k_lowest : PySem.W.keepIn K (.ref f_lowest) = true)
    {od_scaled an_scaled : Option Addr} {sl_scaled : Array (Option Value)} {oc_scaled kV_scaled dc_scaled pm_scaled cd_scaled ct_scaled : Value} {f_scaled : Addr}
    (a_scaled : PySem.W.nsIn K mainGlobals "scaled" = some (some (.ref f_scaled))) (l_scaled : K.lookup f_scaled = some ⟨oc_scaled, od_scaled, .func (PySem.W.fnOf "scaled" "scaled" (defArgs s_scaled) (defBody s_scaled) (defScope s_scaled) .none kV_scaled dc_scaled pm_scaled an_scaled cd_scaled ct_scaled), sl_scaled⟩) (cc_scaled : PySem.W.codeIn K cd_scaled "scaled" = true) (k_scaled : PySem.W.keepIn K (.ref f_scaled) = true)
    {od_sum_of an_sum_of : Option Addr} {sl_sum_of : Array (Option Value)} {oc_sum_of kV_sum_of dc_sum_of pm_sum_of cd_sum_of ct_sum_of : Value} {f_sum_of : Addr}
    (a_sum_of : PySem.W.nsIn K mainGlobals "sum_of" = some (some (.ref f_sum_of))) (l_sum_of : K.lookup f_sum_of = some ⟨oc_sum_of, od_sum_of, .func (PySem.W.fnOf "sum_of" "sum_of" (defArgs s_sum_of) (defBody s_sum_of) (defScope s_sum_of) .none kV_sum_of dc_sum_of pm_sum_of an_sum_of cd_sum_of ct_sum_of), sl_sum_of⟩) (cc_sum_of : PySem.W.codeIn K cd_sum_of "sum_of" = true) (k_sum_of : PySem.W.keepIn K (.ref f_sum_of) = true)
    {od_told_entry an_told_entry : Option Addr} {sl_told_entry : Array (Option Value)} {oc_told_entry kV_told_entry dc_told_entry pm_told_entry cd_told_entry ct_told_entry : Value} {f_told_entry : Addr}
    (a_told_entry : PySem.W.nsIn K mainGlobals "told_entry" = some (some (.ref f_told_entry))) (l_told_entry : K.lookup f_told_entry = some ⟨oc_told_entry, od_told_entry, .func (PySem.W.fnOf "told_entry" "told_entry" (defArgs s_told_entry) (defBody s_told_entry) (defScope s_told_entry) .none kV_told_entry dc_told_entry pm_told_entry an_told_entry cd_told_entry ct_told_entry), sl_told_entry⟩) (cc_told_entry : PySem.W.codeIn K cd_told_entry "told_entry" = true) (k_told_entry : PySem.W.keepIn K (.ref f_told_entry) = true)
    {od_is_pure an_is_pure : Option Addr} {sl_is_pure : Array (Option Value)} {oc_is_pure kV_is_pure dc_is_pure pm_is_pure cd_is_pure ct_is_pure : Value} {f_is_pure : Addr}
    (a_is_pure : PySem.W.nsIn K mainGlobals "is_pure" = some (some (.ref f_is_pure))) (l_is_pure : K.lookup f_is_pure = some ⟨oc_is_pure, od_is_pure, .func (PySem.W.fnOf "is_pure" "is_pure" (defArgs s_is_pure) (defBody s_is_pure) (defScope s_is_pure) .none kV_is_pure dc_is_pure pm_is_pure an_is_pure cd_is_pure ct_is_pure), sl_is_pure⟩) (cc_is_pure : PySem.W.codeIn K cd_is_pure "is_pure" = true) (k_is_pure : PySem.W.keepIn K (.ref f_is_pure) = true)
    {od_check_degrees an_check_degrees : Option Addr} {sl_check_degrees : Array (Option Value)} {oc_check_degrees kV_check_degrees dc_check_degrees pm_check_degrees cd_check_degrees ct_check_degrees : Value} {f_check_degrees : Addr}
    (a_check_degrees : PySem.W.nsIn K mainGlobals "check_degrees" = some (some (.ref f_check_degrees))) (l_check_degrees : K.lookup f_check_degrees = some ⟨oc_check_degrees, od_check_degrees, .func (PySem.W.fnOf "check_degrees" "check_degrees" (defArgs s_check_degrees) (defBody s_check_degrees) (defScope s_check_degrees) .none kV_check_degrees dc_check_degrees pm_check_degrees an_check_degrees cd_check_degrees ct_check_degrees), sl_check_degrees⟩) (cc_check_degrees : PySem.W.codeIn K cd_check_degrees "check_degrees" = true) (k_check_degrees : PySem.W.keepIn K (.ref f_check_degrees) = true)
    {od_distances an_distances : Option Addr} {sl_distances : Array (Option Value)} {oc_distances kV_distances dc_distances pm_distances cd_distances ct_distances : Value} {f_distances : Addr}
    (a_distances : PySem.W.nsIn K mainGlobals "distances" = some (some (.ref f_distances))) (l_distances : K.lookup f_distances = some ⟨oc_distances, od_distances, .func (PySem.W.fnOf "distances" "distances" (defArgs s_distances) (defBody s_distances) (defScope s_distances) .none kV_distances dc_distances pm_distances an_distances cd_distances ct_distances), sl_distances⟩) (cc_distances : PySem.W.codeIn K cd_distances "distances" = true) (k_distances : PySem.W.keepIn K (.ref f_distances) = true)
    {od_places_of an_places_of : Option Addr} {sl_places_of : Array (Option Value)} {oc_places_of kV_places_of dc_places_of pm_places_of cd_places_of ct_places_of : Value} {f_places_of : Addr}
    (a_places_of : PySem.W.nsIn K mainGlobals "places_of" = some (some (.ref f_places_of))) (l_places_of : K.lookup f_places_of = some ⟨oc_places_of, od_places_of, .func (PySem.W.fnOf "places_of" "places_of" (defArgs s_places_of) (defBody s_places_of) (defScope s_places_of) .none kV_places_of dc_places_of pm_places_of an_places_of cd_places_of ct_places_of), sl_places_of⟩) (cc_places_of : PySem.W.codeIn K cd_places_of "places_of" = true) (k_places_of : PySem.W.keepIn K (.ref f_places_of) = true)
    {od_pure_table an_pure_table : Option Addr} {sl_pure_table : Array (Option Value)} {oc_pure_table kV_pure_table dc_pure_table pm_pure_table cd_pure_table ct_pure_table : Value} {f_pure_table : Addr}
    (a_pure_table : PySem.W.nsIn K mainGlobals "pure_table" = some (some (.ref f_pure_table))) (l_pure_table : K.lookup f_pure_table = some ⟨oc_pure_table, od_pure_table, .func (PySem.W.fnOf "pure_table" "pure_table" (defArgs s_pure_table) (defBody s_pure_table) (defScope s_pure_table) .none kV_pure_table dc_pure_table pm_pure_table an_pure_table cd_pure_table ct_pure_table), sl_pure_table⟩) (cc_pure_table : PySem.W.codeIn K cd_pure_table "pure_table" = true) (k_pure_table : PySem.W.keepIn K (.ref f_pure_table) = true)
    {od_whole_pure an_whole_pure : Option Addr} {sl_whole_pure : Array (Option Value)} {oc_whole_pure kV_whole_pure dc_whole_pure pm_whole_pure cd_whole_pure ct_whole_pure : Value} {f_whole_pure : Addr}
    (a_whole_pure : PySem.W.nsIn K mainGlobals "whole_pure" = some (some (.ref f_whole_pure))) (l_whole_pure : K.lookup f_whole_pure = some ⟨oc_whole_pure, od_whole_pure, .func (PySem.W.fnOf "whole_pure" "whole_pure" (defArgs s_whole_pure) (defBody s_whole_pure) (defScope s_whole_pure) .none kV_whole_pure dc_whole_pure pm_whole_pure an_whole_pure cd_whole_pure ct_whole_pure), sl_whole_pure⟩) (cc_whole_pure : PySem.W.codeIn K cd_whole_pure "whole_pure" = true) (k_whole_pure : PySem.W.keepIn K (.ref f_whole_pure) = true)
    {od_factor_of an_factor_of : Option Addr} {sl_factor_of : Array (Option Value)} {oc_factor_of kV_factor_of dc_factor_of pm_factor_of cd_factor_of ct_factor_of : Value} {f_factor_of : Addr}
    (a_factor_of : PySem.W.nsIn K mainGlobals "factor_of" = some (some (.ref f_factor_of))) (l_factor_of : K.lookup f_factor_of = some ⟨oc_factor_of, od_factor_of, .func (PySem.W.fnOf "factor_of" "factor_of" (defArgs s_factor_of) (defBody s_factor_of) (defScope s_factor_of) .none kV_factor_of dc_factor_of pm_factor_of an_factor_of cd_factor_of ct_factor_of), sl_factor_of⟩) (cc_factor_of : PySem.W.codeIn K cd_factor_of "factor_of" = true) (k_factor_of : PySem.W.keepIn K (.ref f_factor_of) = true)
    {od_whole_entries an_whole_entries : Option Addr} {sl_whole_entries : Array (Option Value)} {oc_whole_entries kV_whole_entries dc_whole_entries pm_whole_entries cd_whole_entries ct_whole_entries : Value} {f_whole_entries : Addr}
    (a_whole_entries : PySem.W.nsIn K mainGlobals "whole_entries" = some (some (.ref f_whole_entries))) (l_whole_entries : K.lookup f_whole_entries = some ⟨oc_whole_entries, od_whole_entries, .func (PySem.W.fnOf "whole_entries" "whole_entries" (defArgs s_whole_entries) (defBody s_whole_entries) (defScope s_whole_entries) .none kV_whole_entries dc_whole_entries pm_whole_entries an_whole_entries cd_whole_entries ct_whole_entries), sl_whole_entries⟩) (cc_whole_entries : PySem.W.codeIn K cd_whole_entries "whole_entries" = true) (k_whole_entries : PySem.W.keepIn K (.ref f_whole_entries) = true)
    {od_w_bowl an_w_bowl : Option Addr} {sl_w_bowl : Array (Option Value)} {oc_w_bowl kV_w_bowl dc_w_bowl pm_w_bowl cd_w_bowl ct_w_bowl : Value} {f_w_bowl : Addr}
    (a_w_bowl : PySem.W.nsIn K mainGlobals "_law_bowl" = some (some (.ref f_w_bowl))) (l_w_bowl : K.lookup f_w_bowl = some ⟨oc_w_bowl, od_w_bowl, .func (PySem.W.fnOf "_law_bowl" "_law_bowl" (defArgs s_w_bowl) (defBody s_w_bowl) (defScope s_w_bowl) .none kV_w_bowl dc_w_bowl pm_w_bowl an_w_bowl cd_w_bowl ct_w_bowl), sl_w_bowl⟩) (cc_w_bowl : PySem.W.codeIn K cd_w_bowl "_law_bowl" = true) (k_w_bowl : PySem.W.keepIn K (.ref f_w_bowl) = true)
    {od_w_dip an_w_dip : Option Addr} {sl_w_dip : Array (Option Value)} {oc_w_dip kV_w_dip dc_w_dip pm_w_dip cd_w_dip ct_w_dip : Value} {f_w_dip : Addr}
    (a_w_dip : PySem.W.nsIn K mainGlobals "_law_dip" = some (some (.ref f_w_dip))) (l_w_dip : K.lookup f_w_dip = some ⟨oc_w_dip, od_w_dip, .func (PySem.W.fnOf "_law_dip" "_law_dip" (defArgs s_w_dip) (defBody s_w_dip) (defScope s_w_dip) .none kV_w_dip dc_w_dip pm_w_dip an_w_dip cd_w_dip ct_w_dip), sl_w_dip⟩) (cc_w_dip : PySem.W.codeIn K cd_w_dip "_law_dip" = true) (k_w_dip : PySem.W.keepIn K (.ref f_w_dip) = true)
    {od_w_pick an_w_pick : Option Addr} {sl_w_pick : Array (Option Value)} {oc_w_pick kV_w_pick dc_w_pick pm_w_pick cd_w_pick ct_w_pick : Value} {f_w_pick : Addr}
    (a_w_pick : PySem.W.nsIn K mainGlobals "_law_pick" = some (some (.ref f_w_pick))) (l_w_pick : K.lookup f_w_pick = some ⟨oc_w_pick, od_w_pick, .func (PySem.W.fnOf "_law_pick" "_law_pick" (defArgs s_w_pick) (defBody s_w_pick) (defScope s_w_pick) .none kV_w_pick dc_w_pick pm_w_pick an_w_pick cd_w_pick ct_w_pick), sl_w_pick⟩) (cc_w_pick : PySem.W.codeIn K cd_w_pick "_law_pick" = true) (k_w_pick : PySem.W.keepIn K (.ref f_w_pick) = true)
    {od_w_share an_w_share : Option Addr} {sl_w_share : Array (Option Value)} {oc_w_share kV_w_share dc_w_share pm_w_share cd_w_share ct_w_share : Value} {f_w_share : Addr}
    (a_w_share : PySem.W.nsIn K mainGlobals "_law_share" = some (some (.ref f_w_share))) (l_w_share : K.lookup f_w_share = some ⟨oc_w_share, od_w_share, .func (PySem.W.fnOf "_law_share" "_law_share" (defArgs s_w_share) (defBody s_w_share) (defScope s_w_share) .none kV_w_share dc_w_share pm_w_share an_w_share cd_w_share ct_w_share), sl_w_share⟩) (cc_w_share : PySem.W.codeIn K cd_w_share "_law_share" = true) (k_w_share : PySem.W.keepIn K (.ref f_w_share) = true)
    {od_w_low an_w_low : Option Addr} {sl_w_low : Array (Option Value)} {oc_w_low kV_w_low dc_w_low pm_w_low cd_w_low ct_w_low : Value} {f_w_low : Addr}
    (a_w_low : PySem.W.nsIn K mainGlobals "_law_low" = some (some (.ref f_w_low))) (l_w_low : K.lookup f_w_low = some ⟨oc_w_low, od_w_low, .func (PySem.W.fnOf "_law_low" "_law_low" (defArgs s_w_low) (defBody s_w_low) (defScope s_w_low) .none kV_w_low dc_w_low pm_w_low an_w_low cd_w_low ct_w_low), sl_w_low⟩) (cc_w_low : PySem.W.codeIn K cd_w_low "_law_low" = true) (k_w_low : PySem.W.keepIn K (.ref f_w_low) = true)
    {od_w_pure an_w_pure : Option Addr} {sl_w_pure : Array (Option Value)} {oc_w_pure kV_w_pure dc_w_pure pm_w_pure cd_w_pure ct_w_pure : Value} {f_w_pure : Addr}
    (a_w_pure : PySem.W.nsIn K mainGlobals "_law_pure" = some (some (.ref f_w_pure))) (l_w_pure : K.lookup f_w_pure = some ⟨oc_w_pure, od_w_pure, .func (PySem.W.fnOf "_law_pure" "_law_pure" (defArgs s_w_pure) (defBody s_w_pure) (defScope s_w_pure) .none kV_w_pure dc_w_pure pm_w_pure an_w_pure cd_w_pure ct_w_pure), sl_w_pure⟩) (cc_w_pure : PySem.W.codeIn K cd_w_pure "_law_pure" = true) (k_w_pure : PySem.W.keepIn K (.ref f_w_pure) = true)
    {od_w_of an_w_of : Option Addr} {sl_w_of : Array (Option Value)} {oc_w_of kV_w_of dc_w_of pm_w_of cd_w_of ct_w_of : Value} {f_w_of : Addr}
    (a_w_of : PySem.W.nsIn K mainGlobals "_law_of" = some (some (.ref f_w_of))) (l_w_of : K.lookup f_w_of = some ⟨oc_w_of, od_w_of, .func (PySem.W.fnOf "_law_of" "_law_of" (defArgs s_w_of) (defBody s_w_of) (defScope s_w_of) .none kV_w_of dc_w_of pm_w_of an_w_of cd_w_of ct_w_of), sl_w_of⟩) (cc_w_of : PySem.W.codeIn K cd_w_of "_law_of" = true) (k_w_of : PySem.W.keepIn K (.ref f_w_of) = true)
    {od_w_degrees an_w_degrees : Option Addr} {sl_w_degrees : Array (Option Value)} {oc_w_degrees kV_w_degrees dc_w_degrees pm_w_degrees cd_w_degrees ct_w_degrees : Value} {f_w_degrees : Addr}
    (a_w_degrees : PySem.W.nsIn K mainGlobals "_law_degrees" = some (some (.ref f_w_degrees))) (l_w_degrees : K.lookup f_w_degrees = some ⟨oc_w_degrees, od_w_degrees, .func (PySem.W.fnOf "_law_degrees" "_law_degrees" (defArgs s_w_degrees) (defBody s_w_degrees) (defScope s_w_degrees) .none kV_w_degrees dc_w_degrees pm_w_degrees an_w_degrees cd_w_degrees ct_w_degrees), sl_w_degrees⟩) (cc_w_degrees : PySem.W.codeIn K cd_w_degrees "_law_degrees" = true) (k_w_degrees : PySem.W.keepIn K (.ref f_w_degrees) = true)
    {od_w_power an_w_power : Option Addr} {sl_w_power : Array (Option Value)} {oc_w_power kV_w_power dc_w_power pm_w_power cd_w_power ct_w_power : Value} {f_w_power : Addr}
    (a_w_power : PySem.W.nsIn K mainGlobals "_law_power" = some (some (.ref f_w_power))) (l_w_power : K.lookup f_w_power = some ⟨oc_w_power, od_w_power, .func (PySem.W.fnOf "_law_power" "_law_power" (defArgs s_w_power) (defBody s_w_power) (defScope s_w_power) .none kV_w_power dc_w_power pm_w_power an_w_power cd_w_power ct_w_power), sl_w_power⟩) (cc_w_power : PySem.W.codeIn K cd_w_power "_law_power" = true) (k_w_power : PySem.W.keepIn K (.ref f_w_power) = true)
    {od_w_rules an_w_rules : Option Addr} {sl_w_rules : Array (Option Value)} {oc_w_rules kV_w_rules dc_w_rules pm_w_rules cd_w_rules ct_w_rules : Value} {f_w_rules : Addr}
    (a_w_rules : PySem.W.nsIn K mainGlobals "_law_rules" = some (some (.ref f_w_rules))) (l_w_rules : K.lookup f_w_rules = some ⟨oc_w_rules, od_w_rules, .func (PySem.W.fnOf "_law_rules" "_law_rules" (defArgs s_w_rules) (defBody s_w_rules) (defScope s_w_rules) .none kV_w_rules dc_w_rules pm_w_rules an_w_rules cd_w_rules ct_w_rules), sl_w_rules⟩) (cc_w_rules : PySem.W.codeIn K cd_w_rules "_law_rules" = true) (k_w_rules : PySem.W.keepIn K (.ref f_w_rules) = true)
    {od_w_right an_w_right : Option Addr} {sl_w_right : Array (Option Value)} {oc_w_right kV_w_right dc_w_right pm_w_right cd_w_right ct_w_right : Value} {f_w_right : Addr}
    (a_w_right : PySem.W.nsIn K mainGlobals "_law_right" = some (some (.ref f_w_right))) (l_w_right : K.lookup f_w_right = some ⟨oc_w_right, od_w_right, .func (PySem.W.fnOf "_law_right" "_law_right" (defArgs s_w_right) (defBody s_w_right) (defScope s_w_right) .none kV_w_right dc_w_right pm_w_right an_w_right cd_w_right ct_w_right), sl_w_right⟩) (cc_w_right : PySem.W.codeIn K cd_w_right "_law_right" = true) (k_w_right : PySem.W.keepIn K (.ref f_w_right) = true)
    {od_law an_law : Option Addr} {sl_law : Array (Option Value)} {oc_law kV_law dc_law pm_law cd_law ct_law : Value} {f_law : Addr}
    (a_law : PySem.W.nsIn K mainGlobals "law" = some (some (.ref f_law))) (l_law : K.lookup f_law = some ⟨oc_law, od_law, .func (PySem.W.fnOf "law" "law" (defArgs s_law) (defBody s_law) (defScope s_law) .none kV_law dc_law pm_law an_law cd_law ct_law), sl_law⟩) (cc_law : PySem.W.codeIn K cd_law "law" = true) (k_law : PySem.W.keepIn K (.ref f_law) = true)
    (aCTable : PySem.W.nsIn K mainGlobals "Table" = some (some (.ref CTable)))
    {tt_init : Addr} {tc_init : Value} {td_init : Option Addr} {tn_init : Nat} {ts_init : Array (Option Value)} {tk_init : Nat}
    {od_init an_init : Option Addr} {sl_init : Array (Option Value)} {oc_init kV_init dc_init pm_init cd_init ct_init : Value} {f_init : Addr}
    (a_init : PySem.W.findIn K (.ref CTable) "__init__" = some (some (.ref f_init))) (i_init : PySem.W.isFn K (.ref f_init) = true) (l_init : K.lookup f_init = some ⟨oc_init, od_init, .func (PySem.W.fnOf "__init__" "Table.__init__" (defArgs s_init) (defBody s_init) (defScope s_init) (.ref tt_init) kV_init dc_init pm_init an_init cd_init ct_init), sl_init⟩) (cc_init : PySem.W.codeIn K cd_init "Table.__init__" = true) (k_init : PySem.W.keepIn K (.ref f_init) = true) (t_init : K.lookup tt_init = some ⟨tc_init, td_init, .seq #[.int 1 tk_init] tn_init, ts_init⟩)
    {od_at an_at : Option Addr} {sl_at : Array (Option Value)} {oc_at kV_at dc_at pm_at cd_at ct_at : Value} {f_at : Addr}
    (a_at : PySem.W.findIn K (.ref CTable) "at" = some (some (.ref f_at))) (i_at : PySem.W.isFn K (.ref f_at) = true) (l_at : K.lookup f_at = some ⟨oc_at, od_at, .func (PySem.W.fnOf "at" "Table.at" (defArgs s_at) (defBody s_at) (defScope s_at) .none kV_at dc_at pm_at an_at cd_at ct_at), sl_at⟩) (cc_at : PySem.W.codeIn K cd_at "Table.at" = true) (k_at : PySem.W.keepIn K (.ref f_at) = true)
    {tt_times : Addr} {tc_times : Value} {td_times : Option Addr} {tn_times : Nat} {ts_times : Array (Option Value)} {tk_times : Nat}
    {od_times an_times : Option Addr} {sl_times : Array (Option Value)} {oc_times kV_times dc_times pm_times cd_times ct_times : Value} {f_times : Addr}
    (a_times : PySem.W.findIn K (.ref CTable) "times" = some (some (.ref f_times))) (i_times : PySem.W.isFn K (.ref f_times) = true) (l_times : K.lookup f_times = some ⟨oc_times, od_times, .func (PySem.W.fnOf "times" "Table.times" (defArgs s_times) (defBody s_times) (defScope s_times) (.ref tt_times) kV_times dc_times pm_times an_times cd_times ct_times), sl_times⟩) (cc_times : PySem.W.codeIn K cd_times "Table.times" = true) (k_times : PySem.W.keepIn K (.ref f_times) = true) (t_times : K.lookup tt_times = some ⟨tc_times, td_times, .seq #[.int 1 tk_times] tn_times, ts_times⟩)
    {od_add an_add : Option Addr} {sl_add : Array (Option Value)} {oc_add kV_add dc_add pm_add cd_add ct_add : Value} {f_add : Addr}
    (a_add : PySem.W.findIn K (.ref CTable) (PySem.dunder Operator.Add.info.2) = some (some (.ref f_add))) (i_add : PySem.W.isFn K (.ref f_add) = true) (l_add : K.lookup f_add = some ⟨oc_add, od_add, .func (PySem.W.fnOf "__add__" "Table.__add__" (defArgs s_add) (defBody s_add) (defScope s_add) .none kV_add dc_add pm_add an_add cd_add ct_add), sl_add⟩) (cc_add : PySem.W.codeIn K cd_add "Table.__add__" = true) (k_add : PySem.W.keepIn K (.ref f_add) = true)
    {od_sub an_sub : Option Addr} {sl_sub : Array (Option Value)} {oc_sub kV_sub dc_sub pm_sub cd_sub ct_sub : Value} {f_sub : Addr}
    (a_sub : PySem.W.findIn K (.ref CTable) (PySem.dunder Operator.Sub.info.2) = some (some (.ref f_sub))) (i_sub : PySem.W.isFn K (.ref f_sub) = true) (l_sub : K.lookup f_sub = some ⟨oc_sub, od_sub, .func (PySem.W.fnOf "__sub__" "Table.__sub__" (defArgs s_sub) (defBody s_sub) (defScope s_sub) .none kV_sub dc_sub pm_sub an_sub cd_sub ct_sub), sl_sub⟩) (cc_sub : PySem.W.codeIn K cd_sub "Table.__sub__" = true) (k_sub : PySem.W.keepIn K (.ref f_sub) = true)
    {od_neg an_neg : Option Addr} {sl_neg : Array (Option Value)} {oc_neg kV_neg dc_neg pm_neg cd_neg ct_neg : Value} {f_neg : Addr}
    (a_neg : PySem.W.findIn K (.ref CTable) "__neg__" = some (some (.ref f_neg))) (i_neg : PySem.W.isFn K (.ref f_neg) = true) (l_neg : K.lookup f_neg = some ⟨oc_neg, od_neg, .func (PySem.W.fnOf "__neg__" "Table.__neg__" (defArgs s_neg) (defBody s_neg) (defScope s_neg) .none kV_neg dc_neg pm_neg an_neg cd_neg ct_neg), sl_neg⟩) (cc_neg : PySem.W.codeIn K cd_neg "Table.__neg__" = true) (k_neg : PySem.W.keepIn K (.ref f_neg) = true)
    {od_eq an_eq : Option Addr} {sl_eq : Array (Option Value)} {oc_eq kV_eq dc_eq pm_eq cd_eq ct_eq : Value} {f_eq : Addr}
    (a_eq : PySem.W.findIn K (.ref CTable) "__eq__" = some (some (.ref f_eq))) (i_eq : PySem.W.isFn K (.ref f_eq) = true) (l_eq : K.lookup f_eq = some ⟨oc_eq, od_eq, .func (PySem.W.fnOf "__eq__" "Table.__eq__" (defArgs s_eq) (defBody s_eq) (defScope s_eq) .none kV_eq dc_eq pm_eq an_eq cd_eq ct_eq), sl_eq⟩) (cc_eq : PySem.W.codeIn K cd_eq "Table.__eq__" = true) (k_eq : PySem.W.keepIn K (.ref f_eq) = true)
    {od_bool an_bool : Option Addr} {sl_bool : Array (Option Value)} {oc_bool kV_bool dc_bool pm_bool cd_bool ct_bool : Value} {f_bool : Addr}
    (a_bool : PySem.W.findIn K (.ref CTable) "__bool__" = some (some (.ref f_bool))) (i_bool : PySem.W.isFn K (.ref f_bool) = true) (l_bool : K.lookup f_bool = some ⟨oc_bool, od_bool, .func (PySem.W.fnOf "__bool__" "Table.__bool__" (defArgs s_bool) (defBody s_bool) (defScope s_bool) .none kV_bool dc_bool pm_bool an_bool cd_bool ct_bool), sl_bool⟩) (cc_bool : PySem.W.codeIn K cd_bool "Table.__bool__" = true) (k_bool : PySem.W.keepIn K (.ref f_bool) = true)
    {od_str an_str : Option Addr} {sl_str : Array (Option Value)} {oc_str kV_str dc_str pm_str cd_str ct_str : Value} {f_str : Addr}
    (a_str : PySem.W.findIn K (.ref CTable) "__str__" = some (some (.ref f_str))) (i_str : PySem.W.isFn K (.ref f_str) = true) (l_str : K.lookup f_str = some ⟨oc_str, od_str, .func (PySem.W.fnOf "__str__" "Table.__str__" (defArgs s_str) (defBody s_str) (defScope s_str) .none kV_str dc_str pm_str an_str cd_str ct_str), sl_str⟩) (cc_str : PySem.W.codeIn K cd_str "Table.__str__" = true) (k_str : PySem.W.keepIn K (.ref f_str) = true)
    {pp_entries : Addr} {re_entries : List Value}
    {od_entries an_entries : Option Addr} {sl_entries : Array (Option Value)} {oc_entries kV_entries dc_entries pm_entries cd_entries ct_entries : Value} {f_entries : Addr}
    (a_entries : PySem.W.findIn K (.ref CTable) "entries" = some (some (.ref pp_entries))) (g_entries : PySem.W.specialIn K (.ref pp_entries) "__get__" = some (some (.builtin "property.__get__"))) (tk_entries : PySem.W.takesIn K (.ref pp_entries) = some true) (r_entries : PySem.W.recIn K pp_entries "property" = some (.ref f_entries :: re_entries)) (l_entries : K.lookup f_entries = some ⟨oc_entries, od_entries, .func (PySem.W.fnOf "entries" "Table.entries" (defArgs s_entries) (defBody s_entries) (defScope s_entries) .none kV_entries dc_entries pm_entries an_entries cd_entries ct_entries), sl_entries⟩) (cc_entries : PySem.W.codeIn K cd_entries "Table.entries" = true) (k_entries : PySem.W.keepIn K (.ref f_entries) = true)
    {pp_bottom : Addr} {re_bottom : List Value}
    {od_bottom an_bottom : Option Addr} {sl_bottom : Array (Option Value)} {oc_bottom kV_bottom dc_bottom pm_bottom cd_bottom ct_bottom : Value} {f_bottom : Addr}
    (a_bottom : PySem.W.findIn K (.ref CTable) "bottom" = some (some (.ref pp_bottom))) (g_bottom : PySem.W.specialIn K (.ref pp_bottom) "__get__" = some (some (.builtin "property.__get__"))) (tk_bottom : PySem.W.takesIn K (.ref pp_bottom) = some true) (r_bottom : PySem.W.recIn K pp_bottom "property" = some (.ref f_bottom :: re_bottom)) (l_bottom : K.lookup f_bottom = some ⟨oc_bottom, od_bottom, .func (PySem.W.fnOf "bottom" "Table.bottom" (defArgs s_bottom) (defBody s_bottom) (defScope s_bottom) .none kV_bottom dc_bottom pm_bottom an_bottom cd_bottom ct_bottom), sl_bottom⟩) (cc_bottom : PySem.W.codeIn K cd_bottom "Table.bottom" = true) (k_bottom : PySem.W.keepIn K (.ref f_bottom) = true)
    {pp_end_ : Addr} {re_end_ : List Value}
    {od_end_ an_end_ : Option Addr} {sl_end_ : Array (Option Value)} {oc_end_ kV_end_ dc_end_ pm_end_ cd_end_ ct_end_ : Value} {f_end_ : Addr}
    (a_end_ : PySem.W.findIn K (.ref CTable) "end" = some (some (.ref pp_end_))) (g_end_ : PySem.W.specialIn K (.ref pp_end_) "__get__" = some (some (.builtin "property.__get__"))) (tk_end_ : PySem.W.takesIn K (.ref pp_end_) = some true) (r_end_ : PySem.W.recIn K pp_end_ "property" = some (.ref f_end_ :: re_end_)) (l_end_ : K.lookup f_end_ = some ⟨oc_end_, od_end_, .func (PySem.W.fnOf "end" "Table.end" (defArgs s_end_) (defBody s_end_) (defScope s_end_) .none kV_end_ dc_end_ pm_end_ an_end_ cd_end_ ct_end_), sl_end_⟩) (cc_end_ : PySem.W.codeIn K cd_end_ "Table.end" = true) (k_end_ : PySem.W.keepIn K (.ref f_end_) = true)
    (pgTable : PySem.W.plainGet K CTable Str.empty = true)
    (hdTable : PySem.W.hasDictIn K CTable = true)
    (poTable : PySem.W.plainOver K CTable = true)
    (saTable : PySem.W.findIn K (.ref CTable) "__setattr__" = some (some (.builtin "object.__setattr__")))
    (mkTable : PySem.W.makesIn K CTable = true)
    (kcTable : PySem.W.keepIn K (.ref CTable) = true)
    (n_entriesTable : PySem.W.findIn K (.ref CTable) "_entries" = some none)
    (n_bottomTable : PySem.W.findIn K (.ref CTable) "_bottom" = some none)
    (c1Table : PySem.W.findIn K (.ref CTable) "__class__" = some (some (.builtin "object.__class__")))
    (c2Table : PySem.W.specialIn K (.builtin "object.__class__") "__get__" = some (some (.builtin "getset_descriptor.__get__")))
    (c3Table : PySem.W.takesIn K (.builtin "object.__class__") = some true)
    (hmTable : PySem.W.mroIn K CTable (.type "object") = some true)
    (kitTable : PySem.W.kitOne K (.ref CTable) (.ref CTable) = some true)
    (knTable : PySem.W.kitOne K (.type "NoneType") (.ref CTable) = some false)
    (snTable : PySem.W.subIn K (.type "NoneType") (.ref CTable) = some false)
    (kdTable : PySem.W.kitOne K (.type "dict") (.ref CTable) = some false)
    (sdTable : PySem.W.subIn K (.type "dict") (.ref CTable) = some false)
    (firstTable : PySem.W.selfFirst K CTable = true)
    (hneTable : PySem.W.findIn K (.ref CTable) "__ne__" = some (some (.builtin "object.__ne__")))
    (z_isinstance : PySem.W.nsIn K mainGlobals "isinstance" = some none)
    (z_int : PySem.W.nsIn K mainGlobals "int" = some none)
    (z_bool : PySem.W.nsIn K mainGlobals "bool" = some none)
    (z_tuple : PySem.W.nsIn K mainGlobals "tuple" = some none)
    (z_all : PySem.W.nsIn K mainGlobals "all" = some none)
    (z_zip : PySem.W.nsIn K mainGlobals "zip" = some none)
    (z_str : PySem.W.nsIn K mainGlobals "str" = some none)
    (z_len : PySem.W.nsIn K mainGlobals "len" = some none)
    (z_dict : PySem.W.nsIn K mainGlobals "dict" = some none)
    (z_sorted : PySem.W.nsIn K mainGlobals "sorted" = some none)
    (z_list : PySem.W.nsIn K mainGlobals "list" = some none)
    (z_abs : PySem.W.nsIn K mainGlobals "abs" = some none)
    (z_enumerate : PySem.W.nsIn K mainGlobals "enumerate" = some none)
    (z_max : PySem.W.nsIn K mainGlobals "max" = some none)
    (z_range : PySem.W.nsIn K mainGlobals "range" = some none)
    (z_min : PySem.W.nsIn K mainGlobals "min" = some none)
    (z_ValueError : PySem.W.nsIn K mainGlobals "ValueError" = some none)
    (z_IndexError : PySem.W.nsIn K mainGlobals "IndexError" = some none)
    (z_NotImplemented : PySem.W.nsIn K mainGlobals "NotImplemented" = some none)
    (z_classmethod : PySem.W.nsIn K mainGlobals "classmethod" = some none)
    (z_property : PySem.W.nsIn K mainGlobals "property" = some none)
    (z_gcd : PySem.W.nsIn K mainGlobals "gcd" = some (some (.builtin "math.gcd")))
    (z_lcm : PySem.W.nsIn K mainGlobals "lcm" = some (some (.builtin "math.lcm")))
    {t_MAX_DIGITS : Nat} (g_MAX_DIGITS : PySem.W.nsIn K mainGlobals "MAX_DIGITS" = some (some (.int 60 t_MAX_DIGITS)))
    {t_MAX_STEP_tables : Nat} (g_MAX_STEP_tables : PySem.W.nsIn K mainGlobals "MAX_STEP_tables" = some (some (.int 8 t_MAX_STEP_tables)))
    {t_MAX_PLACE_tables : Nat} (g_MAX_PLACE_tables : PySem.W.nsIn K mainGlobals "MAX_PLACE_tables" = some (some (.int 480 t_MAX_PLACE_tables)))
    {t_MAX_STEP_degrees : Nat} (g_MAX_STEP_degrees : PySem.W.nsIn K mainGlobals "MAX_STEP_degrees" = some (some (.int 8 t_MAX_STEP_degrees)))
    {t_MAX_PLACE_degrees : Nat} (g_MAX_PLACE_degrees : PySem.W.nsIn K mainGlobals "MAX_PLACE_degrees" = some (some (.int 480 t_MAX_PLACE_degrees)))
    {t_BEYOND_DIGITS : Nat} (g_BEYOND_DIGITS : PySem.W.nsIn K mainGlobals "BEYOND_DIGITS" = some (some (.int 1000000000000000000000000000000000000000000000000000000000000 t_BEYOND_DIGITS)))
    : ∃ fd : FuncData, (∀ (s : Shared) (v : Value), BindsTo s fd ⟨[v], []⟩ [("_law_script", v)]) ∧ ∀ base : Heap, K.In base → base.Ns mainGlobals mg → FnOk l.prog w K mg base CX0 16 fa fd ["_law_script"] (sp_law K) := by
  have e := hfa.symm.trans (PySem.W.mg_of X G a_law)
  cases e
  have F_is_number := fun_mk (st := s_is_number) l_is_number cc_is_number k_is_number
  have b_is_number := F_is_number.binds (ps := ["value"]) fun _ _ _ _ _ _ us hl => match us, hl with | [_], _ => rfl
  have F_is_passed := fun_mk (st := s_is_passed) l_is_passed cc_is_passed k_is_passed
  have b_is_passed := F_is_passed.binds (ps := ["value"]) fun _ _ _ _ _ _ us hl => match us, hl with | [_], _ => rfl
  have F_is_within := fun_mk (st := s_is_within) l_is_within cc_is_within k_is_within
  have b_is_within := F_is_within.binds (ps := ["value", "least", "most"]) fun _ _ _ _ _ _ us hl => match us, hl with | [_, _, _], _ => rfl
  have F_check_within := fun_mk (st := s_check_within) l_check_within cc_check_within k_check_within
  have b_check_within := F_check_within.binds (ps := ["value", "least", "most"]) fun _ _ _ _ _ _ us hl => match us, hl with | [_, _, _], _ => rfl
  have F_check_passed := fun_mk (st := s_check_passed) l_check_passed cc_check_passed k_check_passed
  have b_check_passed := F_check_passed.binds (ps := ["value"]) fun _ _ _ _ _ _ us hl => match us, hl with | [_], _ => rfl
  have F_is_set := fun_mk (st := s_is_set) l_is_set cc_is_set k_is_set
  have b_is_set := F_is_set.binds (ps := ["value", "many"]) fun _ _ _ _ _ _ us hl => match us, hl with | [_, _], _ => rfl
  have F_greatest_divisor := fun_mk (st := s_greatest_divisor) l_greatest_divisor cc_greatest_divisor k_greatest_divisor
  have b_greatest_divisor := F_greatest_divisor.binds (ps := ["numbers"]) fun _ _ _ _ _ _ us hl => match us, hl with | [_], _ => rfl
  have F_lowest_pair := fun_mk (st := s_lowest_pair) l_lowest_pair cc_lowest_pair k_lowest_pair
  have b_lowest_pair := F_lowest_pair.binds (ps := ["top", "bottom"]) fun _ _ _ _ _ _ us hl => match us, hl with | [_, _], _ => rfl
  have F_pair_text := fun_mk (st := s_pair_text) l_pair_text cc_pair_text k_pair_text
  have b_pair_text := F_pair_text.binds (ps := ["pair"]) fun _ _ _ _ _ _ us hl => match us, hl with | [_], _ => rfl
  have F_table_text := fun_mk (st := s_table_text) l_table_text cc_table_text k_table_text
  have b_table_text := F_table_text.binds (ps := ["entries", "bottom"]) fun _ _ _ _ _ _ us hl => match us, hl with | [_, _], _ => rfl
  have F_step_text := fun_mk (st := s_step_text) l_step_text cc_step_text k_step_text
  have b_step_text := F_step_text.binds (ps := ["step", "parts"]) fun _ _ _ _ _ _ us hl => match us, hl with | [_, _], _ => rfl
  have F_is_place := fun_mk (st := s_is_place) l_is_place cc_is_place k_is_place
  have b_is_place := F_is_place.binds (ps := ["value"]) fun _ _ _ _ _ _ us hl => match us, hl with | [_], _ => rfl
  have F_is_entries := fun_mk (st := s_is_entries) l_is_entries cc_is_entries k_is_entries
  have b_is_entries := F_is_entries.binds (ps := ["value"]) fun _ _ _ _ _ _ us hl => match us, hl with | [_], _ => rfl
  have F_check_bottom := fun_mk (st := s_check_bottom) l_check_bottom cc_check_bottom k_check_bottom
  have b_check_bottom := F_check_bottom.binds (ps := ["value"]) fun _ _ _ _ _ _ us hl => match us, hl with | [_], _ => rfl
  have F_made_table := fun_mk (st := s_made_table) l_made_table cc_made_table k_made_table
  have b_made_table := F_made_table.binds (ps := ["entries", "bottom"]) fun _ _ _ _ _ _ us hl => match us, hl with | [_, _], _ => rfl
  have F_table_of_fractions := fun_mk (st := s_table_of_fractions) l_table_of_fractions cc_table_of_fractions k_table_of_fractions
  have b_table_of_fractions := F_table_of_fractions.binds (ps := ["fractions"]) fun _ _ _ _ _ _ us hl => match us, hl with | [_], _ => rfl
  have F_lowest := fun_mk (st := s_lowest) l_lowest cc_lowest k_lowest
  have b_lowest := F_lowest.binds (ps := ["entries", "bottom"]) fun _ _ _ _ _ _ us hl => match us, hl with | [_, _], _ => rfl
  have F_scaled := fun_mk (st := s_scaled) l_scaled cc_scaled k_scaled
  have b_scaled := F_scaled.binds (ps := ["entries", "number"]) fun _ _ _ _ _ _ us hl => match us, hl with | [_, _], _ => rfl
  have F_sum_of := fun_mk (st := s_sum_of) l_sum_of cc_sum_of k_sum_of
  have b_sum_of := F_sum_of.binds (ps := ["one", "other", "sign"]) fun _ _ _ _ _ _ us hl => match us, hl with | [_, _, _], _ => rfl
  have F_told_entry := fun_mk (st := s_told_entry) l_told_entry cc_told_entry k_told_entry
  have b_told_entry := F_told_entry.binds (ps := ["pair", "bottom"]) fun _ _ _ _ _ _ us hl => match us, hl with | [_, _], _ => rfl
  have F_is_pure := fun_mk (st := s_is_pure) l_is_pure cc_is_pure k_is_pure
  have b_is_pure := F_is_pure.binds (ps := ["value"]) fun _ _ _ _ _ _ us hl => match us, hl with | [_], _ => rfl
  have F_check_degrees := fun_mk (st := s_check_degrees) l_check_degrees cc_check_degrees k_check_degrees
  have b_check_degrees := F_check_degrees.binds (ps := ["value"]) fun _ _ _ _ _ _ us hl => match us, hl with | [_], _ => rfl
  have F_distances := fun_mk (st := s_distances) l_distances cc_distances k_distances
  have b_distances := F_distances.binds (ps := ["degrees"]) fun _ _ _ _ _ _ us hl => match us, hl with | [_], _ => rfl
  have F_places_of := fun_mk (st := s_places_of) l_places_of cc_places_of k_places_of
  have b_places_of := F_places_of.binds (ps := ["degrees"]) fun _ _ _ _ _ _ us hl => match us, hl with | [_], _ => rfl
  have F_pure_table := fun_mk (st := s_pure_table) l_pure_table cc_pure_table k_pure_table
  have b_pure_table := F_pure_table.binds (ps := ["degrees"]) fun _ _ _ _ _ _ us hl => match us, hl with | [_], _ => rfl
  have F_whole_pure := fun_mk (st := s_whole_pure) l_whole_pure cc_whole_pure k_whole_pure
  have b_whole_pure := F_whole_pure.binds (ps := ["degrees"]) fun _ _ _ _ _ _ us hl => match us, hl with | [_], _ => rfl
  have F_factor_of := fun_mk (st := s_factor_of) l_factor_of cc_factor_of k_factor_of
  have b_factor_of := F_factor_of.binds (ps := ["degrees"]) fun _ _ _ _ _ _ us hl => match us, hl with | [_], _ => rfl
  have F_whole_entries := fun_mk (st := s_whole_entries) l_whole_entries cc_whole_entries k_whole_entries
  have b_whole_entries := F_whole_entries.binds (ps := ["degrees"]) fun _ _ _ _ _ _ us hl => match us, hl with | [_], _ => rfl
  have F_w_bowl := fun_mk (st := s_w_bowl) l_w_bowl cc_w_bowl k_w_bowl
  have b_w_bowl := F_w_bowl.binds (ps := ["_law_script", "_law_spot"]) fun _ _ _ _ _ _ us hl => match us, hl with | [_, _], _ => rfl
  have F_w_dip := fun_mk (st := s_w_dip) l_w_dip cc_w_dip k_w_dip
  have b_w_dip := F_w_dip.binds (ps := ["_law_bowl_here", "_law_total"]) fun _ _ _ _ _ _ us hl => match us, hl with | [_, _], _ => rfl
  have F_w_pick := fun_mk (st := s_w_pick) l_w_pick cc_w_pick k_w_pick
  have b_w_pick := F_w_pick.binds (ps := ["_law_bowl_here", "_law_items"]) fun _ _ _ _ _ _ us hl => match us, hl with | [_, _], _ => rfl
  have F_w_share := fun_mk (st := s_w_share) l_w_share cc_w_share k_w_share
  have b_w_share := F_w_share.binds (ps := ["_law_one", "_law_other"]) fun _ _ _ _ _ _ us hl => match us, hl with | [_, _], _ => rfl
  have F_w_low := fun_mk (st := s_w_low) l_w_low cc_w_low k_w_low
  have b_w_low := F_w_low.binds (ps := ["_law_top", "_law_bottom"]) fun _ _ _ _ _ _ us hl => match us, hl with | [_, _], _ => rfl
  have F_w_pure := fun_mk (st := s_w_pure) l_w_pure cc_w_pure k_w_pure
  have b_w_pure := F_w_pure.binds (ps := ["_law_degrees_here"]) fun _ _ _ _ _ _ us hl => match us, hl with | [_], _ => rfl
  have F_w_of := fun_mk (st := s_w_of) l_w_of cc_w_of k_w_of
  have b_w_of := F_w_of.binds (ps := ["_law_table"]) fun _ _ _ _ _ _ us hl => match us, hl with | [_], _ => rfl
  have F_w_degrees := fun_mk (st := s_w_degrees) l_w_degrees cc_w_degrees k_w_degrees
  have b_w_degrees := F_w_degrees.binds (ps := ["_law_bowl_here", "_law_size", "_law_most"]) fun _ _ _ _ _ _ us hl => match us, hl with | [_, _, _], _ => rfl
  have F_w_power := fun_mk (st := s_w_power) l_w_power cc_w_power k_w_power
  have b_w_power := F_w_power.binds (ps := ["_law_number", "_law_exponent"]) fun _ _ _ _ _ _ us hl => match us, hl with | [_, _], _ => rfl
  have F_w_rules := fun_mk (st := s_w_rules) l_w_rules cc_w_rules k_w_rules
  have b_w_rules := F_w_rules.binds (ps := ["_law_table"]) fun _ _ _ _ _ _ us hl => match us, hl with | [_], _ => rfl
  have F_w_right := fun_mk (st := s_w_right) l_w_right cc_w_right k_w_right
  have b_w_right := F_w_right.binds (ps := ["_law_bowl_here"]) fun _ _ _ _ _ _ us hl => match us, hl with | [_], _ => rfl
  have F_law := fun_mk (st := s_law) l_law cc_law k_law
  have b_law := F_law.binds (ps := ["_law_script"]) fun _ _ _ _ _ _ us hl => match us, hl with | [_], _ => rfl
  have F_init : FunD K "__init__" "Table.__init__" (defArgs s_init) (defBody s_init) (defScope s_init) [.int 1] [] f_init _ := ⟨⟨_, _, _, _, _, _, _, _, _, _, rfl, l_init, cc_init, .inr ⟨by simp, _, _, [.int 1 tk_init], _, rfl, t_init, rfl, .cons ⟨_, rfl⟩ .nil⟩, .inl rfl⟩, k_init⟩
  obtain ⟨dsb_init, hv_init, b_init⟩ := F_init.binds1 (ps := ["self", "entries", "bottom"]) 3 1 (by simp) rfl (fun T kV doc pm an cdv ct us its h1 h2 => match us, its, h1, h2 with | [_, _, _], [_], _, _ => ⟨_, rfl, rfl⟩)
  obtain ⟨dse_init, hw_init, e_init⟩ := F_init.binds1 (ps := ["self", "entries", "bottom"]) 2 0 (by simp) rfl (fun T kV doc pm an cdv ct us its h1 h2 => match us, its, h1, h2 with | [_, _], [_], _, _ => ⟨_, rfl, rfl⟩)
  cases hv_init
  obtain ⟨tok_init, rfl⟩ : ∃ t, dse_init = [.int 1 t] := by
    cases hw_init with
    | cons h t =>
      cases t
      obtain ⟨t, rfl⟩ := h
      exact ⟨t, rfl⟩
  have F_at := fun_mk (st := s_at) l_at cc_at k_at
  have b_at := F_at.binds (ps := ["self", "step", "degree"]) fun _ _ _ _ _ _ us hl => match us, hl with | [_, _, _], _ => rfl
  have F_times : FunD K "times" "Table.times" (defArgs s_times) (defBody s_times) (defScope s_times) [.int 1] [] f_times _ := ⟨⟨_, _, _, _, _, _, _, _, _, _, rfl, l_times, cc_times, .inr ⟨by simp, _, _, [.int 1 tk_times], _, rfl, t_times, rfl, .cons ⟨_, rfl⟩ .nil⟩, .inl rfl⟩, k_times⟩
  obtain ⟨dsb_times, hv_times, b_times⟩ := F_times.binds1 (ps := ["self", "top", "bottom"]) 3 1 (by simp) rfl (fun T kV doc pm an cdv ct us its h1 h2 => match us, its, h1, h2 with | [_, _, _], [_], _, _ => ⟨_, rfl, rfl⟩)
  obtain ⟨dse_times, hw_times, e_times⟩ := F_times.binds1 (ps := ["self", "top", "bottom"]) 2 0 (by simp) rfl (fun T kV doc pm an cdv ct us its h1 h2 => match us, its, h1, h2 with | [_, _], [_], _, _ => ⟨_, rfl, rfl⟩)
  cases hv_times
  obtain ⟨tok_times, rfl⟩ : ∃ t, dse_times = [.int 1 t] := by
    cases hw_times with
    | cons h t =>
      cases t
      obtain ⟨t, rfl⟩ := h
      exact ⟨t, rfl⟩
  have F_add := fun_mk (st := s_add) l_add cc_add k_add
  have b_add := F_add.binds (ps := ["self", "other"]) fun _ _ _ _ _ _ us hl => match us, hl with | [_, _], _ => rfl
  have F_sub := fun_mk (st := s_sub) l_sub cc_sub k_sub
  have b_sub := F_sub.binds (ps := ["self", "other"]) fun _ _ _ _ _ _ us hl => match us, hl with | [_, _], _ => rfl
  have F_neg := fun_mk (st := s_neg) l_neg cc_neg k_neg
  have b_neg := F_neg.binds (ps := ["self"]) fun _ _ _ _ _ _ us hl => match us, hl with | [_], _ => rfl
  have F_eq := fun_mk (st := s_eq) l_eq cc_eq k_eq
  have b_eq := F_eq.binds (ps := ["self", "other"]) fun _ _ _ _ _ _ us hl => match us, hl with | [_, _], _ => rfl
  have F_bool := fun_mk (st := s_bool) l_bool cc_bool k_bool
  have b_bool := F_bool.binds (ps := ["self"]) fun _ _ _ _ _ _ us hl => match us, hl with | [_], _ => rfl
  have F_str := fun_mk (st := s_str) l_str cc_str k_str
  have b_str := F_str.binds (ps := ["self"]) fun _ _ _ _ _ _ us hl => match us, hl with | [_], _ => rfl
  have F_entries := fun_mk (st := s_entries) l_entries cc_entries k_entries
  have b_entries := F_entries.binds (ps := ["self"]) fun _ _ _ _ _ _ us hl => match us, hl with | [_], _ => rfl
  have F_bottom := fun_mk (st := s_bottom) l_bottom cc_bottom k_bottom
  have b_bottom := F_bottom.binds (ps := ["self"]) fun _ _ _ _ _ _ us hl => match us, hl with | [_], _ => rfl
  have F_end_ := fun_mk (st := s_end_) l_end_ cc_end_ k_end_
  have b_end_ := F_end_.binds (ps := ["self"]) fun _ _ _ _ _ _ us hl => match us, hl with | [_], _ => rfl
  let T : Txt K mg := ⟨_, _, F_is_number, b_is_number, PySem.W.mg_of X G a_is_number, _, _, F_is_passed, b_is_passed, PySem.W.mg_of X G a_is_passed, _, _, F_is_within, b_is_within, PySem.W.mg_of X G a_is_within, _, _, F_check_within, b_check_within, PySem.W.mg_of X G a_check_within, _, _, F_check_passed, b_check_passed, PySem.W.mg_of X G a_check_passed, _, _, F_is_set, b_is_set, PySem.W.mg_of X G a_is_set, _, _, F_greatest_divisor, b_greatest_divisor, PySem.W.mg_of X G a_greatest_divisor, _, _, F_lowest_pair, b_lowest_pair, PySem.W.mg_of X G a_lowest_pair, _, _, F_pair_text, b_pair_text, PySem.W.mg_of X G a_pair_text, _, _, F_table_text, b_table_text, PySem.W.mg_of X G a_table_text, _, _, F_step_text, b_step_text, PySem.W.mg_of X G a_step_text, _, _, F_is_place, b_is_place, PySem.W.mg_of X G a_is_place, _, _, F_is_entries, b_is_entries, PySem.W.mg_of X G a_is_entries, _, _, F_check_bottom, b_check_bottom, PySem.W.mg_of X G a_check_bottom, _, _, F_made_table, b_made_table, PySem.W.mg_of X G a_made_table, _, _, F_table_of_fractions, b_table_of_fractions, PySem.W.mg_of X G a_table_of_fractions, _, _, F_lowest, b_lowest, PySem.W.mg_of X G a_lowest, _, _, F_scaled, b_scaled, PySem.W.mg_of X G a_scaled, _, _, F_sum_of, b_sum_of, PySem.W.mg_of X G a_sum_of, _, _, F_told_entry, b_told_entry, PySem.W.mg_of X G a_told_entry, _, _, F_is_pure, b_is_pure, PySem.W.mg_of X G a_is_pure, _, _, F_check_degrees, b_check_degrees, PySem.W.mg_of X G a_check_degrees, _, _, F_distances, b_distances, PySem.W.mg_of X G a_distances, _, _, F_places_of, b_places_of, PySem.W.mg_of X G a_places_of, _, _, F_pure_table, b_pure_table, PySem.W.mg_of X G a_pure_table, _, _, F_whole_pure, b_whole_pure, PySem.W.mg_of X G a_whole_pure, _, _, F_factor_of, b_factor_of, PySem.W.mg_of X G a_factor_of, _, _, F_whole_entries, b_whole_entries, PySem.W.mg_of X G a_whole_entries, _, _, F_w_bowl, b_w_bowl, PySem.W.mg_of X G a_w_bowl, _, _, F_w_dip, b_w_dip, PySem.W.mg_of X G a_w_dip, _, _, F_w_pick, b_w_pick, PySem.W.mg_of X G a_w_pick, _, _, F_w_share, b_w_share, PySem.W.mg_of X G a_w_share, _, _, F_w_low, b_w_low, PySem.W.mg_of X G a_w_low, _, _, F_w_pure, b_w_pure, PySem.W.mg_of X G a_w_pure, _, _, F_w_of, b_w_of, PySem.W.mg_of X G a_w_of, _, _, F_w_degrees, b_w_degrees, PySem.W.mg_of X G a_w_degrees, _, _, F_w_power, b_w_power, PySem.W.mg_of X G a_w_power, _, _, F_w_rules, b_w_rules, PySem.W.mg_of X G a_w_rules, _, _, F_w_right, b_w_right, PySem.W.mg_of X G a_w_right, _, _, F_law, b_law, PySem.W.mg_of X G a_law, PySem.W.mg_none_of X G z_isinstance, PySem.W.mg_none_of X G z_int, PySem.W.mg_none_of X G z_bool, PySem.W.mg_none_of X G z_tuple, PySem.W.mg_none_of X G z_all, PySem.W.mg_none_of X G z_zip, PySem.W.mg_none_of X G z_str, PySem.W.mg_none_of X G z_len, PySem.W.mg_none_of X G z_dict, PySem.W.mg_none_of X G z_sorted, PySem.W.mg_none_of X G z_list, PySem.W.mg_none_of X G z_abs, PySem.W.mg_none_of X G z_enumerate, PySem.W.mg_none_of X G z_max, PySem.W.mg_none_of X G z_range, PySem.W.mg_none_of X G z_min, PySem.W.mg_none_of X G z_ValueError, PySem.W.mg_none_of X G z_IndexError, PySem.W.mg_none_of X G z_NotImplemented, PySem.W.mg_none_of X G z_classmethod, PySem.W.mg_none_of X G z_property, PySem.W.mg_of X G z_gcd, PySem.W.mg_of X G z_lcm, _, PySem.W.mg_of X G g_MAX_DIGITS, _, PySem.W.mg_of X G g_MAX_STEP_tables, _, PySem.W.mg_of X G g_MAX_PLACE_tables, _, PySem.W.mg_of X G g_MAX_STEP_degrees, _, PySem.W.mg_of X G g_MAX_PLACE_degrees, _, PySem.W.mg_of X G g_BEYOND_DIGITS⟩
  have clTable : Cls K CTable := ⟨pgTable, hdTable, poTable, saTable⟩
  let O : TabT K mg := ⟨CTable, clTable, n_entriesTable, n_bottomTable, PySem.W.mg_of X G aCTable, _, _, F_init, b_init, tok_init, e_init, ⟨mkTable, a_init, i_init, kcTable⟩, fun H a dx fs h => .base (.ins h clTable c1Table c2Table c3Table hmTable), kitTable, knTable, snTable, kdTable, sdTable, firstTable, _, _, _, ⟨a_entries, g_entries, tk_entries, ⟨_, r_entries⟩⟩, F_entries, b_entries, _, _, _, ⟨a_bottom, g_bottom, tk_bottom, ⟨_, r_bottom⟩⟩, F_bottom, b_bottom, _, _, _, ⟨a_end_, g_end_, tk_end_, ⟨_, r_end_⟩⟩, F_end_, b_end_, _, _, F_at, b_at, ⟨a_at, i_at, k_at⟩, _, _, F_times, b_times, tok_times, e_times, ⟨a_times, i_times, k_times⟩, _, _, F_add, b_add, a_add, i_add, _, _, F_sub, b_sub, a_sub, i_sub, _, _, F_neg, b_neg, a_neg, i_neg, _, _, F_eq, b_eq, a_eq, i_eq, _, _, F_bool, b_bool, a_bool, i_bool, hmTable, hneTable⟩
  let S : TabS K O.C := ⟨_, _, F_str, b_str, a_str, i_str⟩
  exact ⟨_, fun s v => .of_eq rfl, fun base _ _ => ok_law T O S⟩
end K60

open PySem PySem.W PyProof.Rows
set_option maxRecDepth 100000 in
set_option maxHeartbeats 0 in
theorem PySem.Challenge.cw_pureladders_k60_whole_pure_tables_holds : PySem.Challenge.rw_pureladders_k60_whole_pure_tables.Holds := by
  w_on; o_law; k_head; (case hw => w_witness2)
  k_fill
  refine L2.walk_of (l := PySem.Challenge.rw_pureladders_k60_whole_pure_tables) (n := 63) (k := 16) (x := "_law_script") (CX := fun _ => L2.CX0) (sp := fun w => K60.sp_law _) rfl (by decide) rfl ⟨rfl, by decide, by decide⟩ (fun w h Y => PySem.W.kIn_of Y) ?F (fun _ _ a ns hl _ hS => ⟨a, ns, rfl, hS, hl, fun _ => rfl⟩) (fun _ _ _ _ _ h => h)
  case F =>
    intro w mg fa h KX G hmg
    refine' K60.all_mk KX G hmg ?a_is_number ?l_is_number ?cc_is_number ?k_is_number ?a_is_passed ?l_is_passed ?cc_is_passed ?k_is_passed ?a_is_within ?l_is_within ?cc_is_within ?k_is_within ?a_check_within ?l_check_within ?cc_check_within ?k_check_within ?a_check_passed ?l_check_passed ?cc_check_passed ?k_check_passed ?a_is_set ?l_is_set ?cc_is_set ?k_is_set ?a_greatest_divisor ?l_greatest_divisor ?cc_greatest_divisor ?k_greatest_divisor ?a_lowest_pair ?l_lowest_pair ?cc_lowest_pair ?k_lowest_pair ?a_pair_text ?l_pair_text ?cc_pair_text ?k_pair_text ?a_table_text ?l_table_text ?cc_table_text ?k_table_text ?a_step_text ?l_step_text ?cc_step_text ?k_step_text ?a_is_place ?l_is_place ?cc_is_place ?k_is_place ?a_is_entries ?l_is_entries ?cc_is_entries ?k_is_entries ?a_check_bottom ?l_check_bottom ?cc_check_bottom ?k_check_bottom ?a_made_table ?l_made_table ?cc_made_table ?k_made_table ?a_table_of_fractions ?l_table_of_fractions ?cc_table_of_fractions ?k_table_of_fractions ?a_lowest ?l_lowest ?cc_lowest ?k_lowest ?a_scaled ?l_scaled ?cc_scaled ?k_scaled ?a_sum_of ?l_sum_of ?cc_sum_of ?k_sum_of ?a_told_entry ?l_told_entry ?cc_told_entry ?k_told_entry ?a_is_pure ?l_is_pure ?cc_is_pure ?k_is_pure ?a_check_degrees ?l_check_degrees ?cc_check_degrees ?k_check_degrees ?a_distances ?l_distances ?cc_distances ?k_distances ?a_places_of ?l_places_of ?cc_places_of ?k_places_of ?a_pure_table ?l_pure_table ?cc_pure_table ?k_pure_table ?a_whole_pure ?l_whole_pure ?cc_whole_pure ?k_whole_pure ?a_factor_of ?l_factor_of ?cc_factor_of ?k_factor_of ?a_whole_entries ?l_whole_entries ?cc_whole_entries ?k_whole_entries ?a_w_bowl ?l_w_bowl ?cc_w_bowl ?k_w_bowl ?a_w_dip ?l_w_dip ?cc_w_dip ?k_w_dip ?a_w_pick ?l_w_pick ?cc_w_pick ?k_w_pick ?a_w_share ?l_w_share ?cc_w_share ?k_w_share ?a_w_low ?l_w_low ?cc_w_low ?k_w_low ?a_w_pure ?l_w_pure ?cc_w_pure ?k_w_pure ?a_w_of ?l_w_of ?cc_w_of ?k_w_of ?a_w_degrees ?l_w_degrees ?cc_w_degrees ?k_w_degrees ?a_w_power ?l_w_power ?cc_w_power ?k_w_power ?a_w_rules ?l_w_rules ?cc_w_rules ?k_w_rules ?a_w_right ?l_w_right ?cc_w_right ?k_w_right ?a_law ?l_law ?cc_law ?k_law ?aCTable ?a_init ?i_init ?l_init ?cc_init ?k_init ?t_init ?a_at ?i_at ?l_at ?cc_at ?k_at ?a_times ?i_times ?l_times ?cc_times ?k_times ?t_times ?a_add ?i_add ?l_add ?cc_add ?k_add ?a_sub ?i_sub ?l_sub ?cc_sub ?k_sub ?a_neg ?i_neg ?l_neg ?cc_neg ?k_neg ?a_eq ?i_eq ?l_eq ?cc_eq ?k_eq ?a_bool ?i_bool ?l_bool ?cc_bool ?k_bool ?a_str ?i_str ?l_str ?cc_str ?k_str ?a_entries ?g_entries ?tk_entries ?r_entries ?l_entries ?cc_entries ?k_entries ?a_bottom ?g_bottom ?tk_bottom ?r_bottom ?l_bottom ?cc_bottom ?k_bottom ?a_end_ ?g_end_ ?tk_end_ ?r_end_ ?l_end_ ?cc_end_ ?k_end_ ?pgTable ?hdTable ?poTable ?saTable ?mkTable ?kcTable ?n_entriesTable ?n_bottomTable ?c1Table ?c2Table ?c3Table ?hmTable ?kitTable ?knTable ?snTable ?kdTable ?sdTable ?firstTable ?hneTable ?z_isinstance ?z_int ?z_bool ?z_tuple ?z_all ?z_zip ?z_str ?z_len ?z_dict ?z_sorted ?z_list ?z_abs ?z_enumerate ?z_max ?z_range ?z_min ?z_ValueError ?z_IndexError ?z_NotImplemented ?z_classmethod ?z_property ?z_gcd ?z_lcm ?g_MAX_DIGITS ?g_MAX_STEP_tables ?g_MAX_PLACE_tables ?g_MAX_STEP_degrees ?g_MAX_PLACE_degrees ?g_BEYOND_DIGITS
    (case a_is_number => first | k_is | kernel_rfl | rfl)
    (case l_is_number => first | k_is | kernel_rfl | rfl)
    (case cc_is_number => first | k_is | kernel_rfl | rfl)
    (case k_is_number => first | k_is | kernel_rfl | rfl)
    (case a_is_passed => first | k_is | kernel_rfl | rfl)
    (case l_is_passed => first | k_is | kernel_rfl | rfl)
    (case cc_is_passed => first | k_is | kernel_rfl | rfl)
    (case k_is_passed => first | k_is | kernel_rfl | rfl)
    (case a_is_within => first | k_is | kernel_rfl | rfl)
    (case l_is_within => first | k_is | kernel_rfl | rfl)
    (case cc_is_within => first | k_is | kernel_rfl | rfl)
    (case k_is_within => first | k_is | kernel_rfl | rfl)
    (case a_check_within => first | k_is | kernel_rfl | rfl)
    (case l_check_within => first | k_is | kernel_rfl | rfl)
    (case cc_check_within => first | k_is | kernel_rfl | rfl)
    (case k_check_within => first | k_is | kernel_rfl | rfl)
    (case a_check_passed => first | k_is | kernel_rfl | rfl)
    (case l_check_passed => first | k_is | kernel_rfl | rfl)
    (case cc_check_passed => first | k_is | kernel_rfl | rfl)
    (case k_check_passed => first | k_is | kernel_rfl | rfl)
    (case a_is_set => first | k_is | kernel_rfl | rfl)
    (case l_is_set => first | k_is | kernel_rfl | rfl)
    (case cc_is_set => first | k_is | kernel_rfl | rfl)
    (case k_is_set => first | k_is | kernel_rfl | rfl)
    (case a_greatest_divisor => first | k_is | kernel_rfl | rfl)
    (case l_greatest_divisor => first | k_is | kernel_rfl | rfl)
    (case cc_greatest_divisor => first | k_is | kernel_rfl | rfl)
    (case k_greatest_divisor => first | k_is | kernel_rfl | rfl)
    (case a_lowest_pair => first | k_is | kernel_rfl | rfl)
    (case l_lowest_pair => first | k_is | kernel_rfl | rfl)
    (case cc_lowest_pair => first | k_is | kernel_rfl | rfl)
    (case k_lowest_pair => first | k_is | kernel_rfl | rfl)
    (case a_pair_text => first | k_is | kernel_rfl | rfl)
    (case l_pair_text => first | k_is | kernel_rfl | rfl)
    (case cc_pair_text => first | k_is | kernel_rfl | rfl)
    (case k_pair_text => first | k_is | kernel_rfl | rfl)
    (case a_table_text => first | k_is | kernel_rfl | rfl)
    (case l_table_text => first | k_is | kernel_rfl | rfl)
    (case cc_table_text => first | k_is | kernel_rfl | rfl)
    (case k_table_text => first | k_is | kernel_rfl | rfl)
    (case a_step_text => first | k_is | kernel_rfl | rfl)
    (case l_step_text => first | k_is | kernel_rfl | rfl)
    (case cc_step_text => first | k_is | kernel_rfl | rfl)
    (case k_step_text => first | k_is | kernel_rfl | rfl)
    (case a_is_place => first | k_is | kernel_rfl | rfl)
    (case l_is_place => first | k_is | kernel_rfl | rfl)
    (case cc_is_place => first | k_is | kernel_rfl | rfl)
    (case k_is_place => first | k_is | kernel_rfl | rfl)
    (case a_is_entries => first | k_is | kernel_rfl | rfl)
    (case l_is_entries => first | k_is | kernel_rfl | rfl)
    (case cc_is_entries => first | k_is | kernel_rfl | rfl)
    (case k_is_entries => first | k_is | kernel_rfl | rfl)
    (case a_check_bottom => first | k_is | kernel_rfl | rfl)
    (case l_check_bottom => first | k_is | kernel_rfl | rfl)
    (case cc_check_bottom => first | k_is | kernel_rfl | rfl)
    (case k_check_bottom => first | k_is | kernel_rfl | rfl)
    (case a_made_table => first | k_is | kernel_rfl | rfl)
    (case l_made_table => first | k_is | kernel_rfl | rfl)
    (case cc_made_table => first | k_is | kernel_rfl | rfl)
    (case k_made_table => first | k_is | kernel_rfl | rfl)
    (case a_table_of_fractions => first | k_is | kernel_rfl | rfl)
    (case l_table_of_fractions => first | k_is | kernel_rfl | rfl)
    (case cc_table_of_fractions => first | k_is | kernel_rfl | rfl)
    (case k_table_of_fractions => first | k_is | kernel_rfl | rfl)
    (case a_lowest => first | k_is | kernel_rfl | rfl)
    (case l_lowest => first | k_is | kernel_rfl | rfl)
    (case cc_lowest => first | k_is | kernel_rfl | rfl)
    (case k_lowest => first | k_is | kernel_rfl | rfl)
    (case a_scaled => first | k_is | kernel_rfl | rfl)
    (case l_scaled => first | k_is | kernel_rfl | rfl)
    (case cc_scaled => first | k_is | kernel_rfl | rfl)
    (case k_scaled => first | k_is | kernel_rfl | rfl)
    (case a_sum_of => first | k_is | kernel_rfl | rfl)
    (case l_sum_of => first | k_is | kernel_rfl | rfl)
    (case cc_sum_of => first | k_is | kernel_rfl | rfl)
    (case k_sum_of => first | k_is | kernel_rfl | rfl)
    (case a_told_entry => first | k_is | kernel_rfl | rfl)
    (case l_told_entry => first | k_is | kernel_rfl | rfl)
    (case cc_told_entry => first | k_is | kernel_rfl | rfl)
    (case k_told_entry => first | k_is | kernel_rfl | rfl)
    (case a_is_pure => first | k_is | kernel_rfl | rfl)
    (case l_is_pure => first | k_is | kernel_rfl | rfl)
    (case cc_is_pure => first | k_is | kernel_rfl | rfl)
    (case k_is_pure => first | k_is | kernel_rfl | rfl)
    (case a_check_degrees => first | k_is | kernel_rfl | rfl)
    (case l_check_degrees => first | k_is | kernel_rfl | rfl)
    (case cc_check_degrees => first | k_is | kernel_rfl | rfl)
    (case k_check_degrees => first | k_is | kernel_rfl | rfl)
    (case a_distances => first | k_is | kernel_rfl | rfl)
    (case l_distances => first | k_is | kernel_rfl | rfl)
    (case cc_distances => first | k_is | kernel_rfl | rfl)
    (case k_distances => first | k_is | kernel_rfl | rfl)
    (case a_places_of => first | k_is | kernel_rfl | rfl)
    (case l_places_of => first | k_is | kernel_rfl | rfl)
    (case cc_places_of => first | k_is | kernel_rfl | rfl)
    (case k_places_of => first | k_is | kernel_rfl | rfl)
    (case a_pure_table => first | k_is | kernel_rfl | rfl)
    (case l_pure_table => first | k_is | kernel_rfl | rfl)
    (case cc_pure_table => first | k_is | kernel_rfl | rfl)
    (case k_pure_table => first | k_is | kernel_rfl | rfl)
    (case a_whole_pure => first | k_is | kernel_rfl | rfl)
    (case l_whole_pure => first | k_is | kernel_rfl | rfl)
    (case cc_whole_pure => first | k_is | kernel_rfl | rfl)
    (case k_whole_pure => first | k_is | kernel_rfl | rfl)
    (case a_factor_of => first | k_is | kernel_rfl | rfl)
    (case l_factor_of => first | k_is | kernel_rfl | rfl)
    (case cc_factor_of => first | k_is | kernel_rfl | rfl)
    (case k_factor_of => first | k_is | kernel_rfl | rfl)
    (case a_whole_entries => first | k_is | kernel_rfl | rfl)
    (case l_whole_entries => first | k_is | kernel_rfl | rfl)
    (case cc_whole_entries => first | k_is | kernel_rfl | rfl)
    (case k_whole_entries => first | k_is | kernel_rfl | rfl)
    (case a_w_bowl => first | k_is | kernel_rfl | rfl)
    (case l_w_bowl => first | k_is | kernel_rfl | rfl)
    (case cc_w_bowl => first | k_is | kernel_rfl | rfl)
    (case k_w_bowl => first | k_is | kernel_rfl | rfl)
    (case a_w_dip => first | k_is | kernel_rfl | rfl)
    (case l_w_dip => first | k_is | kernel_rfl | rfl)
    (case cc_w_dip => first | k_is | kernel_rfl | rfl)
    (case k_w_dip => first | k_is | kernel_rfl | rfl)
    (case a_w_pick => first | k_is | kernel_rfl | rfl)
    (case l_w_pick => first | k_is | kernel_rfl | rfl)
    (case cc_w_pick => first | k_is | kernel_rfl | rfl)
    (case k_w_pick => first | k_is | kernel_rfl | rfl)
    (case a_w_share => first | k_is | kernel_rfl | rfl)
    (case l_w_share => first | k_is | kernel_rfl | rfl)
    (case cc_w_share => first | k_is | kernel_rfl | rfl)
    (case k_w_share => first | k_is | kernel_rfl | rfl)
    (case a_w_low => first | k_is | kernel_rfl | rfl)
    (case l_w_low => first | k_is | kernel_rfl | rfl)
    (case cc_w_low => first | k_is | kernel_rfl | rfl)
    (case k_w_low => first | k_is | kernel_rfl | rfl)
    (case a_w_pure => first | k_is | kernel_rfl | rfl)
    (case l_w_pure => first | k_is | kernel_rfl | rfl)
    (case cc_w_pure => first | k_is | kernel_rfl | rfl)
    (case k_w_pure => first | k_is | kernel_rfl | rfl)
    (case a_w_of => first | k_is | kernel_rfl | rfl)
    (case l_w_of => first | k_is | kernel_rfl | rfl)
    (case cc_w_of => first | k_is | kernel_rfl | rfl)
    (case k_w_of => first | k_is | kernel_rfl | rfl)
    (case a_w_degrees => first | k_is | kernel_rfl | rfl)
    (case l_w_degrees => first | k_is | kernel_rfl | rfl)
    (case cc_w_degrees => first | k_is | kernel_rfl | rfl)
    (case k_w_degrees => first | k_is | kernel_rfl | rfl)
    (case a_w_power => first | k_is | kernel_rfl | rfl)
    (case l_w_power => first | k_is | kernel_rfl | rfl)
    (case cc_w_power => first | k_is | kernel_rfl | rfl)
    (case k_w_power => first | k_is | kernel_rfl | rfl)
    (case a_w_rules => first | k_is | kernel_rfl | rfl)
    (case l_w_rules => first | k_is | kernel_rfl | rfl)
    (case cc_w_rules => first | k_is | kernel_rfl | rfl)
    (case k_w_rules => first | k_is | kernel_rfl | rfl)
    (case a_w_right => first | k_is | kernel_rfl | rfl)
    (case l_w_right => first | k_is | kernel_rfl | rfl)
    (case cc_w_right => first | k_is | kernel_rfl | rfl)
    (case k_w_right => first | k_is | kernel_rfl | rfl)
    (case a_law => first | k_is | kernel_rfl | rfl)
    (case l_law => first | k_is | kernel_rfl | rfl)
    (case cc_law => first | k_is | kernel_rfl | rfl)
    (case k_law => first | k_is | kernel_rfl | rfl)
    (case aCTable => first | k_is | kernel_rfl | rfl)
    (case a_init => first | k_is | kernel_rfl | rfl)
    (case i_init => first | k_is | kernel_rfl | rfl)
    (case l_init => first | k_is | kernel_rfl | rfl)
    (case cc_init => first | k_is | kernel_rfl | rfl)
    (case k_init => first | k_is | kernel_rfl | rfl)
    (case t_init => rfl)
    (case a_at => first | k_is | kernel_rfl | rfl)
    (case i_at => first | k_is | kernel_rfl | rfl)
    (case l_at => first | k_is | kernel_rfl | rfl)
    (case cc_at => first | k_is | kernel_rfl | rfl)
    (case k_at => first | k_is | kernel_rfl | rfl)
    (case a_times => first | k_is | kernel_rfl | rfl)
    (case i_times => first | k_is | kernel_rfl | rfl)
    (case l_times => first | k_is | kernel_rfl | rfl)
    (case cc_times => first | k_is | kernel_rfl | rfl)
    (case k_times => first | k_is | kernel_rfl | rfl)
    (case t_times => rfl)
    (case a_add => first | k_is | kernel_rfl | rfl)
    (case i_add => first | k_is | kernel_rfl | rfl)
    (case l_add => first | k_is | kernel_rfl | rfl)
    (case cc_add => first | k_is | kernel_rfl | rfl)
    (case k_add => first | k_is | kernel_rfl | rfl)
    (case a_sub => first | k_is | kernel_rfl | rfl)
    (case i_sub => first | k_is | kernel_rfl | rfl)
    (case l_sub => first | k_is | kernel_rfl | rfl)
    (case cc_sub => first | k_is | kernel_rfl | rfl)
    (case k_sub => first | k_is | kernel_rfl | rfl)
    (case a_neg => first | k_is | kernel_rfl | rfl)
    (case i_neg => first | k_is | kernel_rfl | rfl)
    (case l_neg => first | k_is | kernel_rfl | rfl)
    (case cc_neg => first | k_is | kernel_rfl | rfl)
    (case k_neg => first | k_is | kernel_rfl | rfl)
    (case a_eq => first | k_is | kernel_rfl | rfl)
    (case i_eq => first | k_is | kernel_rfl | rfl)
    (case l_eq => first | k_is | kernel_rfl | rfl)
    (case cc_eq => first | k_is | kernel_rfl | rfl)
    (case k_eq => first | k_is | kernel_rfl | rfl)
    (case a_bool => first | k_is | kernel_rfl | rfl)
    (case i_bool => first | k_is | kernel_rfl | rfl)
    (case l_bool => first | k_is | kernel_rfl | rfl)
    (case cc_bool => first | k_is | kernel_rfl | rfl)
    (case k_bool => first | k_is | kernel_rfl | rfl)
    (case a_str => first | k_is | kernel_rfl | rfl)
    (case i_str => first | k_is | kernel_rfl | rfl)
    (case l_str => first | k_is | kernel_rfl | rfl)
    (case cc_str => first | k_is | kernel_rfl | rfl)
    (case k_str => first | k_is | kernel_rfl | rfl)
    (case a_entries => first | k_is | kernel_rfl | rfl)
    (case g_entries => first | k_is | kernel_rfl | rfl)
    (case tk_entries => first | k_is | kernel_rfl | rfl)
    (case r_entries => first | k_is | kernel_rfl | rfl)
    (case l_entries => first | k_is | kernel_rfl | rfl)
    (case cc_entries => first | k_is | kernel_rfl | rfl)
    (case k_entries => first | k_is | kernel_rfl | rfl)
    (case a_bottom => first | k_is | kernel_rfl | rfl)
    (case g_bottom => first | k_is | kernel_rfl | rfl)
    (case tk_bottom => first | k_is | kernel_rfl | rfl)
    (case r_bottom => first | k_is | kernel_rfl | rfl)
    (case l_bottom => first | k_is | kernel_rfl | rfl)
    (case cc_bottom => first | k_is | kernel_rfl | rfl)
    (case k_bottom => first | k_is | kernel_rfl | rfl)
    (case a_end_ => first | k_is | kernel_rfl | rfl)
    (case g_end_ => first | k_is | kernel_rfl | rfl)
    (case tk_end_ => first | k_is | kernel_rfl | rfl)
    (case r_end_ => first | k_is | kernel_rfl | rfl)
    (case l_end_ => first | k_is | kernel_rfl | rfl)
    (case cc_end_ => first | k_is | kernel_rfl | rfl)
    (case k_end_ => first | k_is | kernel_rfl | rfl)
    (case pgTable => first | k_is | kernel_rfl | rfl)
    (case hdTable => first | k_is | kernel_rfl | rfl)
    (case poTable => first | k_is | kernel_rfl | rfl)
    (case saTable => first | k_is | kernel_rfl | rfl)
    (case mkTable => first | k_is | kernel_rfl | rfl)
    (case kcTable => first | k_is | kernel_rfl | rfl)
    (case n_entriesTable => first | k_is | kernel_rfl | rfl)
    (case n_bottomTable => first | k_is | kernel_rfl | rfl)
    (case c1Table => first | k_is | kernel_rfl | rfl)
    (case c2Table => first | k_is | kernel_rfl | rfl)
    (case c3Table => first | k_is | kernel_rfl | rfl)
    (case hmTable => first | k_is | kernel_rfl | rfl)
    (case kitTable => first | k_is | kernel_rfl | rfl)
    (case knTable => first | k_is | kernel_rfl | rfl)
    (case snTable => first | k_is | kernel_rfl | rfl)
    (case kdTable => first | k_is | kernel_rfl | rfl)
    (case sdTable => first | k_is | kernel_rfl | rfl)
    (case firstTable => first | k_is | kernel_rfl | rfl)
    (case hneTable => first | k_is | kernel_rfl | rfl)
    (case z_isinstance => first | k_is | kernel_rfl | rfl)
    (case z_int => first | k_is | kernel_rfl | rfl)
    (case z_bool => first | k_is | kernel_rfl | rfl)
    (case z_tuple => first | k_is | kernel_rfl | rfl)
    (case z_all => first | k_is | kernel_rfl | rfl)
    (case z_zip => first | k_is | kernel_rfl | rfl)
    (case z_str => first | k_is | kernel_rfl | rfl)
    (case z_len => first | k_is | kernel_rfl | rfl)
    (case z_dict => first | k_is | kernel_rfl | rfl)
    (case z_sorted => first | k_is | kernel_rfl | rfl)
    (case z_list => first | k_is | kernel_rfl | rfl)
    (case z_abs => first | k_is | kernel_rfl | rfl)
    (case z_enumerate => first | k_is | kernel_rfl | rfl)
    (case z_max => first | k_is | kernel_rfl | rfl)
    (case z_range => first | k_is | kernel_rfl | rfl)
    (case z_min => first | k_is | kernel_rfl | rfl)
    (case z_ValueError => first | k_is | kernel_rfl | rfl)
    (case z_IndexError => first | k_is | kernel_rfl | rfl)
    (case z_NotImplemented => first | k_is | kernel_rfl | rfl)
    (case z_classmethod => first | k_is | kernel_rfl | rfl)
    (case z_property => first | k_is | kernel_rfl | rfl)
    (case z_gcd => first | k_is | kernel_rfl | rfl)
    (case z_lcm => first | k_is | kernel_rfl | rfl)
    (case g_MAX_DIGITS => first | k_is | kernel_rfl | rfl)
    (case g_MAX_STEP_tables => first | k_is | kernel_rfl | rfl)
    (case g_MAX_PLACE_tables => first | k_is | kernel_rfl | rfl)
    (case g_MAX_STEP_degrees => first | k_is | kernel_rfl | rfl)
    (case g_MAX_PLACE_degrees => first | k_is | kernel_rfl | rfl)
    (case g_BEYOND_DIGITS => first | k_is | kernel_rfl | rfl)
