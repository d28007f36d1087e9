import PyProof.Rows.All
import Wide.All
import OpenK.AllK
import Wide.FinOn
import HandS.Base
import HandS.Call
import HandS.List
import HandS.Comp
import HandS.Ends
import HandS.Iter
import HandS.Words
import HandS.WordsList
import HandS.TupMul
import HandS.TupAny
import HandS.IsInst
import HandS.Zip
import HandS.Style
import HandS.Wide
import HandS.GenList
import KE.KTupSum
import KE.KEqSeq
import HandS.TupSets
import PyProof.WalksMore
import HandS.Property
import KE.KOpsOwn
import HandS.OwnEq
import HandS.WordsExc
import HandS.ForExc
import HandS.TryMany
import HandS.ExcInit
import HandS.ExcField
import HandS.Lambda
import KE.KExcInit
import KE.SortData
import HandS.DictTup
import HandS.Conv
import HandS.Walk
import KE.KDictCopyH
import KE.KDictDisplayH
import KE.KDictSum
import PyProof.TupleOfSeq
import KE.SortKeyHeap
import HandS.SortKw
import HandS.SortOrd
import HandS.Defaults
import HandS.Dict
import HandS.More
import HandS.Flow
import KE.KCallOwn
import OpenK.KOps
import OpenK.KMeth
import HandS.IterVal
import KE.KOwnIter
import HandS.Small
import PyProof.Rows.TupMore
import HandS.OwnIter
import PyProof.Conv_bool
import KE.KTupTruth
import HandS.Deep
import KE.DataMinMax
import HandS.FStr
import HandS.Text
import HandS.RaiseMore
import HandS.SetFor
import HandS.Strs
import HandS.EndTab
import PySem.Challenge.RW_pureladders_k39_whole_restricted_familie
set_option Elab.async false
set_option linter.all false
set_option maxRecDepth 100000
set_option maxHeartbeats 4000000
/-! rules that the layer lacks -/
namespace L5
open PySem PySem.Spec PyProof.Rows L2
/-! ### powers of great numbers -/
def CPowW (i j : Int) : Prop := 0 ≤ j ∧ (Builtin.Int.intBits i : Int) * j ≤ 2 ^ 27
theorem op_powW {X : Cx} : OpR X (binaryOp .Pow) (rI CPowW fun i j => .int (i ^ j.toNat)) := opI fun _ _ _ _ _ _ _ hc q => pow_int hc.1 hc.2 q
/-! ### sum and max of a tuple of ints -/
section
variable {pr : Program} {wd : World} {A : Around} {E : Value → Shared → Prop} {s : Shared} {tp : Addr} {us : List Value} {ms : List Int} {G : Value → Shared → Prop}
/-- a row of ints, as the library's walks want it -/
theorem items_of (hi : IntsAre us ms) : ∃ ws : Array (Int × Tok), us.toArray = intItems ws ∧ ws.toList.map (·.1) = ms := by
  obtain ⟨ws, ew⟩ := hi.allInts.items
  refine ⟨ws, ew, ?_⟩
  rw [← nums_intItems, ← ew]
  exact hi.numsOf
abbrev Stays (s : Shared) (h : Heap) : Prop := ∀ b o, s.heap.get? b = some o → h.get? b = some o
theorem sum_of_tuple (hh : A.handled = none) (ht : s.heap.IsTuple tp us.toArray) (hi : IntsAre us ms) (q : ∀ h n t, Stays s h → G (.int ms.sum t) { s with heap := h, toks := n }) :
    wpAny (model pr wd) A (call (.builtin "sum") [.ref tp]) G E s := by
  obtain ⟨ws, ew, en⟩ := items_of hi
  rw [ew] at ht
  refine PySem.W.ktm_sumG hh ht fun h n t kept => ?_
  have g := q h n t kept
  rw [← en] at g
  rw [preSum_eq, List.take_of_length_le (by rw [List.length_map, Array.length_toList]; exact Nat.le_refl _)]
  exact g
theorem max_of_tuple (hh : A.handled = none) (ht : s.heap.IsTuple tp us.toArray) (hi : IntsAre us ms) (some1 : 0 < ms.length) (q : ∀ h n M t, Stays s h → M ∈ ms → (∀ a, a ∈ ms → a ≤ M) → G (.int M t) { s with heap := h, toks := n }) :
    wpAny (model pr wd) A (call (.builtin "max") [.ref tp]) G E s := by
  obtain ⟨ws, ew, en⟩ := items_of hi
  subst en
  rw [ew] at ht
  have pos : 0 < ws.size := by simpa using some1
  have esz : (intItems ws).size = ws.size := by simp [intItems]
  obtain ⟨ob, hob, _⟩ := id ht
  have apart : tp ≠ s.heap.objs.size := Nat.ne_of_lt (Heap.lt_size hob)
  refine call_max_walk (wpAny_pyIter_tuple ht ?_)
  refine ⟨_, _, _, _, _, _, _, rfl, Walks.tuple (A := A.in1) hh s.heap.objs.size tp apart (intItems ws), ⟨⟨_, Heap.get?_push_size _ rfl, rfl, rfl⟩, ht.at fun o e => Heap.get?_push_of_some _ e⟩, fun b hb => ?_, by rw [esz]; exact pos, CmpOf.ints_gt (numAt ws) (fun _ _ => intItems_at), fun v h n hv kept => ?_⟩
  · have two : b = s.heap.objs.size ∨ b = tp := by simpa using hb
    rcases two with rfl | rfl
    · exact Heap.lt_size (o := _) (Heap.get?_push_size _ rfl)
    · exact Heap.lt_size (o := ob) (Heap.get?_push_of_some _ hob)
  · obtain ⟨t, rfl⟩ := intItems_at hv
    rw [esz] at *
    obtain ⟨top1, top2⟩ := argBest_gt (numAt ws) (ws.size - 1)
    have at_of : ∀ i, numAt ws i = (ws.toList.map (·.1)).getD i 0 := fun i => numAt_eq ..
    refine q h n _ t (fun b o e => kept b o (fun hb => ?_) (Heap.get?_push_of_some _ e)) ?_ fun a ha => ?_
    · rw [List.mem_singleton.mp hb] at e
      exact Nat.lt_irrefl _ (Heap.lt_size e)
    · rw [at_of]
      refine PySem.getD_mem ?_
      rw [List.length_map, Array.length_toList]
      omega
    · obtain ⟨i, less, rfl⟩ := mem_getD ha
      rw [List.length_map, Array.length_toList] at less
      rw [← at_of]
      exact top2 i (by omega)
end
section
variable {X : Cx}
def rSumT (K : PySem.W.Frag) : List V → Hp → VK → Prop := fun vs H Q => ∃ (a : Addr) (ns : List Int), vs = [V.ref a] ∧ SqT K H a (ns.map V.int) ∧ Q (.int ns.sum) H
theorem cr_sumT (calm : X.calm = true) : CallR X (.builtin "sum") (rSumT X.K) := fun _ _ _ _ _ _ _ I r h => by
  obtain ⟨_, _, rfl, ht, q⟩ := h
  obtain ⟨_, rv, plain, _⟩ := I.tuple ht
  rw [Vals.ref1 r]
  exact sum_of_tuple (I.ok.hd calm) plain rv.ints fun _ _ _ kept => ⟨.int _, _, I.kept kept, ⟨_, rfl⟩, q⟩
def rMaxT (K : PySem.W.Frag) : List V → Hp → VK → Prop := fun vs H Q => ∃ (a : Addr) (ns : List Int), vs = [V.ref a] ∧ SqT K H a (ns.map V.int) ∧ 0 < ns.length ∧ ∀ m, m ∈ ns → (∀ y, y ∈ ns → y ≤ m) → Q (.int m) H
theorem cr_maxT (calm : X.calm = true) : CallR X (.builtin "max") (rMaxT X.K) := fun _ _ _ _ _ _ _ I r h => by
  obtain ⟨_, _, rfl, ht, some1, q⟩ := h
  obtain ⟨_, rv, plain, _⟩ := I.tuple ht
  rw [Vals.ref1 r]
  exact max_of_tuple (I.ok.hd calm) plain rv.ints some1 fun _ _ m _ kept g1 g2 => ⟨.int m, _, I.kept kept, ⟨_, rfl⟩, q m g1 g2⟩
end
/-! ### tuple * int, any int: the tuple itself, the empty one, or a longer one -/
abbrev tupObj (items : Array Value) (n : Nat) (dd : Option Addr) (sl : Array (Option Value)) : Obj := { cls := .type "tuple", dict := dd, data := .seq items n, slots := sl }
theorem off_of {b : Bool} (h : b = false) : decide (b = true) = false := decide_eq_false (Bool.eq_false_iff.mp h)
theorem mul_same (tp : Addr) (items : Array Value) (n : Nat) (dd : Option Addr) (sl : Array (Option Value)) (x : Int) (u : Tok) (fits : (decide (x < -(2 ^ 63)) || decide (x ≥ 2 ^ 63)) = false) (same : (items.isEmpty || x == 1) = true) :
    Meets (Builtin.«tuple.__mul__» ⟨[.ref tp, .int x u], []⟩) (fun _ R s => s.heap.get? tp = some (tupObj items n dd sl) ∧ R (.ok (.ret (Value.ref tp))) { s with heap := s.heap, toks := s.toks }) :=
  .of_wp fun _ _ _ _ st both => by
    obtain ⟨_, _, _, _, _⟩ := st
    obtain ⟨at1, q⟩ := both
    have ix := AutoSeq1.idx_int
    wp_walk using wpAny_loadPart' at1
    repeat (first
      | (refine wpAny_ite_false (off_of fits) ?_; wp_walk using wpAny_loadPart' at1)
      | (refine wpAny_ite_true (decide_eq_true same) ?_; wp_walk using wpAny_loadPart' at1))
    exact ⟨_, rfl, q⟩
theorem mul_none (tp : Addr) (items : Array Value) (n : Nat) (dd : Option Addr) (sl : Array (Option Value)) (x : Int) (u : Tok) (fits : (decide (x < -(2 ^ 63)) || decide (x ≥ 2 ^ 63)) = false) (other : (items.isEmpty || x == 1) = false) (less : (decide (x ≤ 0) || items.isEmpty) = true) :
    Meets (Builtin.«tuple.__mul__» ⟨[.ref tp, .int x u], []⟩) (fun _ R s => s.heap.get? tp = some (tupObj items n dd sl) ∧
      R (.ok (.ret (Value.ref s.heap.objs.size))) { s with heap := s.heap.push { cls := Value.type "tuple", data := Data.seq #[] }, toks := s.toks }) :=
  .of_wp fun _ _ _ _ st both => by
    obtain ⟨_, _, _, _, _⟩ := st
    obtain ⟨at1, q⟩ := both
    have ix := AutoSeq1.idx_int
    wp_walk using wpAny_loadPart' at1
    repeat (first
      | (refine wpAny_ite_false (off_of fits) ?_; wp_walk using wpAny_loadPart' at1)
      | (refine wpAny_ite_false (off_of other) ?_; wp_walk using wpAny_loadPart' at1)
      | (refine wpAny_ite_true (decide_eq_true less) ?_; wp_walk using wpAny_loadPart' at1))
    exact ⟨_, rfl, q⟩
def rRepA (K : PySem.W.Frag) : R2 := fun x y H Q => ∃ l k xs, x = .ref l ∧ y = .int k ∧ SqT K H l xs ∧ xs ≠ [] ∧ -1000 ≤ k ∧ k ≤ 1000 ∧ xs.length ≤ 1000 ∧
  (k = 1 → Q (.ref l) H) ∧ (k ≠ 1 → ∀ p, H p = none → Q (.ref p) (upd H p (.tup (List.replicate k.toNat xs).flatten)))
section
variable {X : Cx}
theorem op_repA : OpR X (binaryOp .Mult) (rRepA X.K) := fun pins s σ H x y v u Q I rx ry h => by
  obtain ⟨tp, k, xs, rfl, rfl, isT, full, lo, hi, short, qa, qb⟩ := h
  by_cases two : 2 ≤ k
  · exact op_repT pins s σ H _ _ v u Q I rx ry ⟨tp, k, xs, rfl, rfl, isT, full, two, hi, short, qb (by omega)⟩
  cases rx
  obtain ⟨tk, rfl⟩ := ry
  obtain ⟨its, r, ⟨⟨c, dd, dt, sl⟩, ho, hc, n, hd⟩, _⟩ := I.tuple isT
  simp only at hc hd
  subst hc hd
  have filled : its.toArray.isEmpty = false := by
    cases its with
    | nil =>
      cases r
      exact absurd rfl full
    | cons _ _ => rfl
  have fits : (decide (k < -(2 ^ 63)) || decide (k ≥ 2 ^ 63)) = false := Bool.or_eq_false_iff.mpr ⟨decide_eq_false (by omega), decide_eq_false (by omega)⟩
  by_cases one : k = 1
  · subst one
    refine wpAny_binaryOp_repeat_ref (T := "tuple") (U := "int") (by decide) ⟨_, ho, rfl⟩ (fun z => typeIs_int z _ tk) noFill_tuple_mul F.fills_int_mul F.slot_int_rmul repeat_tuple F.slot_int_index.lookup
      (call_meets F.slot_int_rmul (typeIs_int s _ tk) F.entry_int_rmul (F.args_int_rmul_2 _ _) (int_rmul_tuple _ tk tp its.toArray n dd sl)
        ⟨ho, rfl, ⟨_, ho, rfl⟩, call_meets F.slot_tuple_mul ⟨_, ho, rfl⟩ F.entry_tuple_mul (F.args_tuple_mul_2 _ _) (mul_same tp its.toArray n dd sl 1 tk fits (by rw [filled]; rfl)) ⟨ho, ?_⟩⟩)
    exact ⟨.ref tp, H, I, rfl, qa rfl⟩
  · have other : (its.toArray.isEmpty || k == 1) = false := Bool.or_eq_false_iff.mpr ⟨filled, beq_eq_false_iff_ne.mpr one⟩
    have less : (decide (k ≤ 0) || its.toArray.isEmpty) = true := Bool.or_eq_true_iff.mpr (.inl (decide_eq_true (by omega)))
    refine wpAny_binaryOp_repeat_ref (T := "tuple") (U := "int") (by decide) ⟨_, ho, rfl⟩ (fun z => typeIs_int z k tk) noFill_tuple_mul F.fills_int_mul F.slot_int_rmul repeat_tuple F.slot_int_index.lookup
      (call_meets F.slot_int_rmul (typeIs_int s k tk) F.entry_int_rmul (F.args_int_rmul_2 _ _) (int_rmul_tuple k tk tp its.toArray n dd sl)
        ⟨ho, rfl, ⟨_, ho, rfl⟩, call_meets F.slot_tuple_mul ⟨_, ho, rfl⟩ F.entry_tuple_mul (F.args_tuple_mul_2 _ _) (mul_none tp its.toArray n dd sl k tk fits other less) ⟨ho, ?_⟩⟩)
    have e0 : (List.replicate k.toNat xs).flatten = [] := by
      rw [show k.toNat = 0 by omega]
      rfl
    have q := qb one s.heap.objs.size (I.hok.fresh (Nat.le_refl _))
    rw [e0] at q
    exact ⟨.ref s.heap.objs.size, _, I.laid (t' := s.toks) (o := .tup []) (fun _ _ e => Heap.get?_push_of_some _ e) (Nat.le_refl _) ⟨Nat.zero_le _, [], .nil, IsTup.new _ _⟩, rfl, q⟩
end
/-! ### words for what stands in the heap -/
section
variable {K : PySem.W.Frag} {H H' : Hp}
abbrev nv (t : List Nat) : List V := t.map fun n => V.int ((n : Nat) : Int)
theorem nv_ints (t : List Nat) : nv t = (t.map fun n => ((n : Nat) : Int)).map V.int := by
  rw [List.map_map]
  rfl
theorem nv_len (t : List Nat) : (nv t).length = t.length := List.length_map _
theorem nv_app (t u : List Nat) : nv (t ++ u) = nv t ++ nv u := List.map_append
theorem nv_get {t : List Nat} {i : Nat} {x : V} (h : (nv t)[i]? = some x) : ∃ n, t[i]? = some n ∧ x = .int ((n : Nat) : Int) := by
  rw [List.getElem?_map] at h
  cases e : t[i]? with
  | none =>
    rw [e] at h
    cases h
  | some n =>
    rw [e] at h
    exact ⟨n, rfl, (Option.some.inj h).symm⟩
theorem nv_at {t : List Nat} {i n : Nat} (h : t[i]? = some n) : atI (nv t) (i : Int) = some (.int ((n : Nat) : Int)) := atI_nat (by rw [List.getElem?_map, h] <;> rfl)
theorem sizeK {n : Nat} (h : n ≤ 1000000) : n < sizeLine := Nat.lt_of_le_of_lt h (by decide)
theorem same_updL {p : Addr} {o : HO} (s : Same H H') (hp : H p = none) : Same H (upd H' p o) := fun b u q => by
  rw [upd_ne (ne_of_none q hp)]
  exact s b u q
theorem sqt_updL {a p : Addr} {xs ys : List V} {o : HO} (hp : H p = some (.lst ys)) (h : SqT K H a xs) : SqT K (upd H p o) a xs := by
  have ne : ∀ u, H a = some u → u ≠ .lst ys → a ≠ p := fun u e n z => by
    rw [z, hp] at e
    exact n (Option.some.inj e).symm
  rcases h with (h | ⟨o, h⟩) | h
  · exact .inl (.inl (by rw [upd_ne (ne _ h (by intro z; cases z))]; exact h))
  · exact .inl (.inr ⟨o, by rw [upd_ne (ne _ h (by intro z; cases z))]; exact h⟩)
  · exact .inr h
theorem sql_updL {a p : Addr} {xs : List V} {o : HO} (hne : a ≠ p) (h : SqL K H a xs) : SqL K (upd H p o) a xs := by
  rcases h with (h | ⟨o, h⟩) | h
  · exact .inl (.inl (by rw [upd_ne hne]; exact h))
  · exact .inl (.inr ⟨o, by rw [upd_ne hne]; exact h⟩)
  · exact .inr h
theorem sum_cast (t : List Nat) : (t.map fun n => ((n : Nat) : Int)).sum = ((t.sum : Nat) : Int) := by
  induction t with
  | nil => rfl
  | cons x r ih => rw [List.map_cons, List.sum_cons, List.sum_cons, ih]; omega
theorem same_sqt {a : Addr} {xs : List V} (e : Same H H') (h : SqT K H a xs) : SqT K H' a xs := by
  rcases h with (h | ⟨o, h⟩) | h
  · exact .inl (.inl (e _ _ h))
  · exact .inl (.inr ⟨o, e _ _ h⟩)
  · exact .inr h
theorem same_new {p : Addr} (h : H p = none) (o : HO) : Same H (upd H p o) := fun b u q => by rw [upd_ne (ne_of_none q h)]; exact q
def Tups (K : PySem.W.Frag) (H : Hp) : List Addr → List (List Nat) → Prop := Paired fun a t => SqT K H a (nv t)
theorem Tups.same (e : Same H H') : ∀ {rs : List Addr} {L : List (List Nat)}, Tups K H rs L → Tups K H' rs L
  | _, _, .nil => .nil
  | _, _, .cons h t => .cons (same_sqt e h) (Tups.same e t)
theorem Tups.updL {p : Addr} {ys : List V} {o : HO} (hp : H p = some (.lst ys)) : ∀ {rs : List Addr} {L : List (List Nat)}, Tups K H rs L → Tups K (upd H p o) rs L
  | _, _, .nil => .nil
  | _, _, .cons h t => .cons (sqt_updL hp h) (Tups.updL hp t)
theorem Tups.length : ∀ {rs : List Addr} {L : List (List Nat)}, Tups K H rs L → rs.length = L.length
  | _, _, .nil => rfl
  | _, _, .cons _ t => congrArg (· + 1) (Tups.length t)
theorem Tups.app : ∀ {rs qs : List Addr} {L M : List (List Nat)}, Tups K H rs L → Tups K H qs M → Tups K H (rs ++ qs) (L ++ M)
  | _, _, _, _, .nil, s => s
  | _, _, _, _, .cons r t, s => .cons r (Tups.app t s)
theorem Tups.rev {rs : List Addr} {L : List (List Nat)} (h : Tups K H rs L) : Tups K H rs.reverse L.reverse := by
  induction h with
  | nil => exact .nil
  | cons r t ih =>
    rw [List.reverse_cons, List.reverse_cons]
    exact ih.app (.cons r .nil)
theorem Tups.get : ∀ {rs : List Addr} {L : List (List Nat)} {i : Nat} {a : Addr}, Tups K H rs L → rs[i]? = some a → ∃ t, L[i]? = some t ∧ SqT K H a (nv t)
  | _, _, _, _, .nil, e => by simp at e
  | _, _, 0, _, .cons r _, e => by simp at e; subst e; exact ⟨_, rfl, r⟩
  | _, _, i + 1, a, .cons _ t, e => by
    obtain ⟨u, h1, h2⟩ := Tups.get (i := i) (a := a) t (by simpa using e)
    exact ⟨u, by simpa using h1, h2⟩
theorem sqt_ty {a : Addr} {xs : List V} (h : SqT K H a xs) : TyX K H (.ref a) (.type "tuple") := by
  rcases h with (h | ⟨o, h⟩) | ⟨o, its, n, e, c, _⟩
  · exact .base (.tup h)
  · exact .fTuple h
  · exact .kTuple e c
/-- as data -/
abbrev encT (t : List Nat) : PyData := .tuple (t.map fun n => PyData.int ((n : Nat) : Int))
theorem dp_nats : ∀ (t : List Nat), DpAll K H (nv t) (t.map fun n => PyData.int ((n : Nat) : Int))
  | [] => .nil
  | n :: t => .cons (.int _) (dp_nats t)
theorem dp_tup {a : Addr} {t : List Nat} (h : SqT K H a (nv t)) : Dp K H (.ref a) (encT t) := .tup h (dp_nats t)
theorem dp_tups : ∀ {rs : List Addr} {L : List (List Nat)}, Tups K H rs L → DpAll K H (rs.map V.ref) (L.map encT)
  | _, _, .nil => .nil
  | _, _, .cons h t => .cons (dp_tup h) (dp_tups t)
theorem can_nats : ∀ t : List Nat, PyData.canLayAll0 (t.map fun n => PyData.int ((n : Nat) : Int)) = true ∧ PyData.depthAll (t.map fun n => PyData.int ((n : Nat) : Int)) = 0
  | [] => by simp [PyData.canLayAll0, PyData.depthAll]
  | n :: t => by
    have h := can_nats t
    simp only [List.map_cons, PyData.canLayAll0, PyData.depthAll, h.1, h.2, PyData.canLay0, PyData.depth]
    simp
theorem can_tups : ∀ L : List (List Nat), PyData.canLayAll0 (L.map encT) = true ∧ PyData.depthAll (L.map encT) ≤ 1
  | [] => by simp [PyData.canLayAll0, PyData.depthAll]
  | t :: L => by
    have h := can_tups L
    have g := can_nats t
    simp only [List.map_cons, PyData.canLayAll0, PyData.depthAll, h.1, PyData.canLay0, PyData.depth, g.1, g.2]
    exact ⟨by simp, by omega⟩
theorem shaped_tups (L : List (List Nat)) : SeqAt.shaped (.list (L.map encT)) = true := by
  have h := can_tups L
  unfold SeqAt.shaped
  simp only [PyData.canLay0, PyData.depth, h.1, Bool.true_and]
  exact decide_eq_true (by omega)
theorem eqv_tups (L : List (List Nat)) : PyData.eqv (.list (L.map encT)) (.list (L.map encT)) = true := SeqAt.eqv_refl _ (by
  simp only [PyData.canLay0]
  exact (can_tups L).1)
theorem shaped_tup (t : List Nat) : SeqAt.shaped (encT t) = true := by
  have g := can_nats t
  unfold SeqAt.shaped
  simp only [encT, PyData.canLay0, PyData.depth, g.1, g.2, Bool.true_and]
  exact decide_eq_true (by omega)
theorem eqv_tup (t : List Nat) : PyData.eqv (encT t) (encT t) = true := SeqAt.eqv_refl _ (by
  simp only [encT, PyData.canLay0]
  exact (can_nats t).1)
end
end L5

namespace W7
open PySem PySem.Spec PyProof.Rows L2
section
variable {P : Program} {w : World} {A : Around} {E : Value → Shared → Prop} {s : Shared}
theorem set_of_tuple {l : Addr} {items9 : Array Value} (ks9 : List (Addr × List Int)) {Q : Value → Shared → Prop} (hh9 : A.handled = none) (hl9 : s.heap.IsTuple l items9) (hit9 : items9.toList = ks9.map fun p => Value.ref p.1)
    (hk9 : ∀ p ∈ ks9, IsT P w s.heap p.2 p.1) (hfew9 : ks9.length < 64) (hu9 : A.units + 3 < cLine)
    (h : ∀ (h' : Heap) (tk9 : Nat) L es9 ep9 t, SetTR P w h' s.heap.objs.size L es9 ep9 t → Got ks9 ks9.length L → (∀ b o, s.heap.get? b = some o → h'.get? b = some o) → Q (.ref s.heap.objs.size) { s with heap := h', toks := tk9 }) :
    wpAny (model P w) A (call (.type "set") [.ref l]) Q E s := by
  have hisz9 : items9.size = ks9.length := by
    have q9 := congrArg List.length hit9
    rw [Array.length_toList, List.length_map] at q9
    exact q9
  obtain ⟨c9, tl9, hmro9⟩ := F.called_set.mro
  have hmade9 := F.called_set.made
  have hsub9 := F.called_set.sub
  refine wpAny_call (codeAny_of_tree ?_)
  show wpAny _ _ (callAny (.type "set") _) _ _ _
  refine wpAny_pure ⟨Code.quiet_builtin _ (by decide +kernel), codeAny_builtin F.entry_type_call ?_⟩
  rw [Around.under_plain (weight_type_call_type "set" [.ref l] []) rfl]
  have h19 := F.called_set.notType
  have h29 := F.called_set.canCreate
  have hct9 := F.typeCall_set_1 (.ref l)
  repeat (any_goals (first | assumption | wp_step))

  refine codeAny_mono (code_set_led1 (.ref l) (E := E) (Q₁ := fun obj9 sa9 => obj9 = .ref s.heap.objs.size ∧ sa9 = { s with heap := s.heap.push { cls := .type "set", dict := none, data := .set #[] 0 (.fresh 0 0 (!w.params.followText "set-order")) } }) ⟨rfl, rfl⟩) fun r sa9 hr9 => ?_
  cases r with
  | error e => exact hr9
  | ok fl9 =>
    cases fl9 with
    | ret obj9 =>
      obtain ⟨rfl, rfl⟩ := hr9
      have hS9 : (s.heap.push { cls := .type "set", dict := none, data := .set #[] 0 (.fresh 0 0 (!w.params.followText "set-order")) }).get? s.heap.objs.size = some { cls := .type "set", dict := none, data := .set #[] 0 (.fresh 0 0 (!w.params.followText "set-order")) } := Heap.get?_push_size _ rfl
      have hT9 : Shared.TypeIs { s with heap := s.heap.push { cls := .type "set", dict := none, data := .set #[] 0 (.fresh 0 0 (!w.params.followText "set-order")) } } (.ref s.heap.objs.size) "set" := ⟨_, hS9, rfl⟩
      have hli9 := F.called_set.init.lookup
      have hbi9 := F.called_set.init.bind (.ref s.heap.objs.size)
      repeat (any_goals (first | assumption | wp_step))

      refine codeAny_mono (codeAny_call_builtin (R := wants (fun r sb9 => r = .none ∧ ∃ h' tk9 L es9 ep9 t, sb9 = { s with heap := h', toks := tk9 } ∧ SetTR P w h' s.heap.objs.size L es9 ep9 t ∧ Got ks9 ks9.length L ∧
          (∀ b o, s.heap.get? b = some o → h'.get? b = some o)) E) F.called_set.init.plain F.entry_set_init (check_set_init_1 hT9 ?_)) fun rb9 sb9 hrb9 => ?_
      · obtain ⟨ol9, hol9, hcl9, nl9, hdl9⟩ := hl9
        obtain ⟨ocls9, odict9, odata9, oslots9⟩ := ol9
        simp only at hcl9 hdl9
        subst hcl9; subst hdl9
        have hol' : (s.heap.push { cls := .type "set", dict := none, data := .set #[] 0 (.fresh 0 0 (!w.params.followText "set-order")) }).get? l = some { cls := .type "tuple", dict := odict9, data := .seq items9 nl9, slots := oslots9 } := Heap.get?_push_of_some _ hol9
        have hsls9 := F.sub_tuple_set
        have hslf9 := F.sub_tuple_frozenset
        have hne9 : (Value.type "tuple" == Value.type "dict") = false := by decide
        have hl19 : (s.heap.push { cls := .type "set", dict := none, data := .set #[] 0 (.fresh 0 0 (!w.params.followText "set-order")) }).IsTuple l items9 := ⟨_, hol', rfl, nl9, rfl⟩
        unfold Builtin.«set.__init__» noKeywords Builtin.Frozenset.updateFrom
        generalize hPI9 : pyIter = PI9
        wp_walk
        subst hPI9

        refine wpAny_pyIter_tuple hl19 ?_
        refine wpAny_bind (wpAny_runValue ?_)
        have hlS9 : l < s.heap.objs.size := Heap.lt_size hol9
        have hh39 : A.in1.in1.in1.handled = none := by simp [hh9]
        have hz19 : (s.heap.push { cls := .type "set", dict := none, data := .set #[] 0 (.fresh 0 0 (!w.params.followText "set-order")) }).objs.size = s.heap.objs.size + 1 := Heap.size_push ..
        have hneI9 : l ≠ (s.heap.push { cls := .type "set", dict := none, data := .set #[] 0 (.fresh 0 0 (!w.params.followText "set-order")) }).objs.size := by
          rw [Heap.size_push]; exact Nat.ne_of_lt (Nat.lt_succ_of_lt hlS9)
        have hSf9 : s.heap.objs.size ∉ [(s.heap.push { cls := .type "set", dict := none, data := .set #[] 0 (.fresh 0 0 (!w.params.followText "set-order")) }).objs.size, l] := by
          rw [Heap.size_push]; simp only [List.mem_cons, List.mem_singleton, List.not_mem_nil, or_false, not_or]
          exact ⟨Nat.ne_of_lt (Nat.lt_succ_self _), Nat.ne_of_gt hlS9⟩
        have hval9 : ∀ (i : Nat) (v : Value), items9[i]? = some v → ∃ p, ks9[i]? = some p ∧ v = .ref p.1 := fun i v hv => by
          have q9 : items9.toList[i]? = some v := by rw [Array.getElem?_toList]; exact hv
          rw [hit9, List.getElem?_map] at q9
          cases hq : ks9[i]? with
          | none => rw [hq] at q9; cases q9
          | some p =>
            rw [hq] at q9
            exact ⟨p, rfl, (Option.some.inj q9).symm⟩
        have none_of9 : ∀ b, s.heap.objs.size ≤ b → s.heap.get? b = none := fun b hb => by
          cases q9 : s.heap.get? b with
          | none => rfl
          | some o => exact absurd (Nat.lt_of_lt_of_le (Heap.lt_size q9) hb) (Nat.lt_irrefl _)
        refine set_update_tups ((Walks.tuple hh39 _ l hneI9 items9).toS) s.heap.objs.size
          hSf9 ks9 hisz9 hfew9 hval9 s.heap hk9 (none_of9 _ (Nat.le_refl _)) (fun b hb => none_of9 b (by
            rw [List.mem_singleton.mp hb, Heap.size_push]
            exact Nat.le_succ _)) hu9 (items9.size - 0) 0 _ (by omega) (Nat.zero_le _)
          ⟨⟨_, Heap.get?_push_size _ rfl, rfl, rfl⟩, (hl19.at fun o e => Heap.get?_push_of_some _ e)⟩ (fun b o e => Heap.get?_push_of_some _ (Heap.get?_push_of_some _ e)) ?hS0 ?hR
        case hS0 =>
          have hget9 : ((s.heap.push { cls := .type "set", dict := none, data := .set #[] 0 (.fresh 0 0 (!w.params.followText "set-order")) }).push { cls := .type "tuple_iterator", data := .fields #[.ref l, .int 0 0] }).get? s.heap.objs.size
              = some { cls := .type "set", dict := none, data := .set #[] 0 (.fresh 0 0 (!w.params.followText "set-order")) } := Heap.get?_push_of_some _ hS9
          exact ⟨[], #[], 0, _, setTR_fresh hget9, Got.zero ks9⟩
        case hR =>
          intro s' L es9 ep9 t hm9 hSq9 gq9 hkp9
          obtain ⟨h', g29, dq9, tkq9, osq9⟩ := s'
          have eg9 : g29 = s.gens := hm9.gens
          have ed9 : dq9 = s.drawn := hm9.drawn
          have eo9 : osq9 = s.os := hm9.os
          subst eg9; subst ed9; subst eo9
          show wpAny _ _ _ _ _ _
          refine wpAny_pure ?_
          show wpAny _ _ (ret Value.none) _ _ _
          rw [hisz9] at gq9
          exact wpAny_pure ⟨rfl, h', tkq9, L, es9, ep9, t, rfl, hSq9, gq9, hkp9⟩

      · cases rb9 with
        | error e => exact hrb9
        | ok flb9 =>
          cases flb9 with
          | ret r =>
            obtain ⟨rfl, h', tk9, L, es9, ep9, t, rfl, hSq9, gq9, hkq9⟩ := hrb9
            repeat (any_goals (first | assumption | wp_step))
            exact h _ _ _ _ _ _ hSq9 gq9 hkq9
          | _ => exact hrb9.elim
    | _ => exact hr9.elim

end
end W7

/-! plain mathematics: lists of tuples of numbers, in the order of their entries; least ones -/
namespace M7
/-- entry by entry at most -/
def fitB : List Nat → List Nat → Bool
  | a :: t, b :: u => decide (a ≤ b) && fitB t u
  | _, _ => true
/-- before, at the first entry that is unlike -/
def ltN : List Nat → List Nat → Bool
  | a :: t, b :: u => decide (a < b) || (decide (a = b) && ltN t u)
  | _, _ => false
theorem fit_refl : ∀ t, fitB t t = true
  | [] => rfl
  | a :: t => by
    show (decide (a ≤ a) && fitB t t) = true
    rw [fit_refl t, decide_eq_true (Nat.le_refl a)]
    rfl
theorem fit_cons {a b : Nat} {t u : List Nat} : fitB (a :: t) (b :: u) = true ↔ a ≤ b ∧ fitB t u = true := by
  show (decide (a ≤ b) && fitB t u) = true ↔ _
  rw [Bool.and_eq_true, decide_eq_true_iff]
theorem fit_trans : ∀ {t u v : List Nat}, u.length = t.length → fitB t u = true → fitB u v = true → fitB t v = true
  | [], _, _, _, _, _ => by simp [fitB]
  | _ :: _, [], _, h, _, _ => by simp at h
  | _ :: _, _ :: _, [], _, _, _ => by simp [fitB]
  | a :: t, b :: u, c :: v, h, h1, h2 => by
    rw [fit_cons] at h1 h2 ⊢
    exact ⟨Nat.le_trans h1.1 h2.1, fit_trans (by simpa using h) h1.2 h2.2⟩
theorem fit_anti : ∀ {t u : List Nat}, u.length = t.length → fitB t u = true → fitB u t = true → t = u
  | [], [], _, _, _ => rfl
  | [], _ :: _, h, _, _ => by simp at h
  | _ :: _, [], h, _, _ => by simp at h
  | a :: t, b :: u, h, h1, h2 => by
    rw [fit_cons] at h1 h2
    rw [Nat.le_antisymm h1.1 h2.1, fit_anti (by simpa using h) h1.2 h2.2]
theorem lt_cons {a b : Nat} {t u : List Nat} : ltN (a :: t) (b :: u) = true ↔ a < b ∨ (a = b ∧ ltN t u = true) := by
  show (decide (a < b) || (decide (a = b) && ltN t u)) = true ↔ _
  rw [Bool.or_eq_true, Bool.and_eq_true, decide_eq_true_iff, decide_eq_true_iff]
theorem lt_irr : ∀ t, ltN t t = false
  | [] => rfl
  | a :: t => by
    cases h : ltN (a :: t) (a :: t) with
    | false => rfl
    | true =>
      rcases lt_cons.mp h with z | ⟨_, z⟩
      · omega
      · rw [lt_irr t] at z
        cases z
theorem lt_trans : ∀ {t u v : List Nat}, ltN t u = true → ltN u v = true → ltN t v = true
  | [], _, _, h, _ => by simp [ltN] at h
  | _ :: _, [], _, h, _ => by simp [ltN] at h
  | _ :: _, _ :: _, [], _, h => by simp [ltN] at h
  | a :: t, b :: u, c :: v, h1, h2 => by
    rw [lt_cons] at h1 h2 ⊢
    rcases h1 with h1 | ⟨h1, k1⟩ <;> rcases h2 with h2 | ⟨h2, k2⟩
    · exact .inl (by omega)
    · exact .inl (by omega)
    · exact .inl (by omega)
    · exact .inr ⟨by omega, lt_trans k1 k2⟩
theorem lt_tri : ∀ {t u : List Nat}, u.length = t.length → t ≠ u → ltN t u = true ∨ ltN u t = true
  | [], [], _, h => absurd rfl h
  | [], _ :: _, h, _ => by simp at h
  | _ :: _, [], h, _ => by simp at h
  | a :: t, b :: u, hl, h => by
    rw [lt_cons, lt_cons]
    rcases Nat.lt_trichotomy a b with z | z | z
    · exact .inl (.inl z)
    · subst z
      rcases lt_tri (t := t) (u := u) (by simpa using hl) (fun e => h (by rw [e])) with k | k
      · exact .inl (.inr ⟨rfl, k⟩)
      · exact .inr (.inr ⟨rfl, k⟩)
    · exact .inr (.inl z)
theorem fit_lt : ∀ {t u : List Nat}, u.length = t.length → fitB t u = true → t ≠ u → ltN t u = true
  | [], [], _, _, h => absurd rfl h
  | [], _ :: _, h, _, _ => by simp at h
  | _ :: _, [], h, _, _ => by simp at h
  | a :: t, b :: u, hl, hf, h => by
    rw [fit_cons] at hf
    rw [lt_cons]
    rcases Nat.lt_or_eq_of_le hf.1 with z | z
    · exact .inl z
    · subst z
      exact .inr ⟨rfl, fit_lt (by simpa using hl) hf.2 fun e => h (by rw [e])⟩
theorem fit_sum : ∀ {t u : List Nat}, u.length = t.length → fitB t u = true → t.sum ≤ u.sum ∧ (t ≠ u → t.sum < u.sum)
  | [], [], _, _ => ⟨Nat.le_refl _, fun h => absurd rfl h⟩
  | [], _ :: _, h, _ => by simp at h
  | _ :: _, [], h, _ => by simp at h
  | a :: t, b :: u, hl, hf => by
    rw [fit_cons] at hf
    obtain ⟨h1, h2⟩ := fit_sum (t := t) (u := u) (by simpa using hl) hf.2
    simp only [List.sum_cons]
    refine ⟨by omega, fun h => ?_⟩
    rcases Nat.lt_or_eq_of_le hf.1 with z | z
    · omega
    · subst z
      have := h2 fun e => h (by rw [e])
      omega
/-! ### lists that ascend -/
abbrev Asc (A : List (List Nat)) : Prop := A.Pairwise fun t u => ltN t u = true
theorem asc_unique : ∀ {A B : List (List Nat)}, Asc A → Asc B → (∀ x, x ∈ A ↔ x ∈ B) → A = B
  | [], [], _, _, _ => rfl
  | [], b :: B, _, _, h => by simpa using (h b).mpr List.mem_cons_self
  | a :: A, [], _, _, h => by simpa using (h a).mp List.mem_cons_self
  | a :: A, b :: B, h1, h2, h => by
    obtain ⟨a1, a2⟩ := List.pairwise_cons.mp h1
    obtain ⟨b1, b2⟩ := List.pairwise_cons.mp h2
    have e : a = b := by
      rcases List.mem_cons.mp ((h a).mp List.mem_cons_self) with z | z
      · exact z
      · rcases List.mem_cons.mp ((h b).mpr List.mem_cons_self) with k | k
        · exact k.symm
        · have := lt_trans (b1 a z) (a1 b k)
          rw [lt_irr] at this
          cases this
    subst e
    rw [asc_unique a2 b2 fun x => ?_]
    constructor
    · intro hx
      rcases List.mem_cons.mp ((h x).mp (List.mem_cons_of_mem _ hx)) with z | z
      · subst z
        have := a1 x hx
        rw [lt_irr] at this
        cases this
      · exact z
    · intro hx
      rcases List.mem_cons.mp ((h x).mpr (List.mem_cons_of_mem _ hx)) with z | z
      · subst z
        have := b1 x hx
        rw [lt_irr] at this
        cases this
      · exact z
def insN (x : List Nat) : List (List Nat) → List (List Nat)
  | [] => [x]
  | y :: r => if x = y then y :: r else if ltN x y = true then x :: y :: r else y :: insN x r
theorem mem_ins {x z : List Nat} : ∀ {L : List (List Nat)}, z ∈ insN x L ↔ z = x ∨ z ∈ L
  | [] => by simp [insN]
  | y :: r => by
    unfold insN
    split
    · rename_i h
      subst h
      simp
    · split
      · simp
      · rw [List.mem_cons, mem_ins, List.mem_cons]
        constructor
        · rintro (h | h | h)
          · exact .inr (.inl h)
          · exact .inl h
          · exact .inr (.inr h)
        · rintro (h | h | h)
          · exact .inr (.inl h)
          · exact .inl h
          · exact .inr (.inr h)
theorem asc_ins {x : List Nat} : ∀ {L : List (List Nat)}, (∀ y ∈ L, y.length = x.length) → Asc L → Asc (insN x L)
  | [], _, _ => List.pairwise_cons.mpr ⟨fun _ h => by simp at h, .nil⟩
  | y :: r, hl, h => by
    obtain ⟨h1, h2⟩ := List.pairwise_cons.mp h
    unfold insN
    split
    · exact h
    · rename_i hne
      split
      · rename_i hlt
        refine List.pairwise_cons.mpr ⟨fun z hz => ?_, h⟩
        rcases List.mem_cons.mp hz with e | e
        · rw [e]
          exact hlt
        · exact lt_trans hlt (h1 z e)
      · rename_i hn
        refine List.pairwise_cons.mpr ⟨fun z hz => ?_, asc_ins (fun y hy => hl y (List.mem_cons_of_mem _ hy)) h2⟩
        rcases mem_ins.mp hz with e | e
        · rw [e]
          rcases lt_tri (t := x) (u := y) (hl y List.mem_cons_self) hne with k | k
          · exact absurd k hn
          · exact k
        · exact h1 z e
def canonN (L : List (List Nat)) : List (List Nat) := L.foldr insN []
theorem mem_canon {z : List Nat} : ∀ {L : List (List Nat)}, z ∈ canonN L ↔ z ∈ L
  | [] => Iff.rfl
  | x :: L => by
    show z ∈ insN x (canonN L) ↔ _
    rw [mem_ins, mem_canon, List.mem_cons]
theorem asc_canon {d : Nat} : ∀ {L : List (List Nat)}, (∀ y ∈ L, y.length = d) → Asc (canonN L)
  | [], _ => .nil
  | x :: L, h => asc_ins (fun y hy => by rw [h y (List.mem_cons_of_mem _ (mem_canon.mp hy)), h x List.mem_cons_self]) (asc_canon fun y hy => h y (List.mem_cons_of_mem _ hy))
theorem canon_len : ∀ L : List (List Nat), (canonN L).length ≤ L.length
  | [] => Nat.le_refl _
  | x :: L => by
    have h := canon_len L
    have k : ∀ M : List (List Nat), (insN x M).length ≤ M.length + 1 := fun M => by
      induction M with
      | nil => exact Nat.le_refl _
      | cons y r ih =>
        unfold insN
        split
        · exact Nat.le_succ _
        · split
          · exact Nat.le_refl _
          · exact Nat.succ_le_succ ih
    exact Nat.le_trans (k _) (Nat.succ_le_succ h)
theorem canon_of {d : Nat} {A L : List (List Nat)} (hA : Asc A) (hd : ∀ y ∈ L, y.length = d) (h : ∀ x, x ∈ A ↔ x ∈ L) : A = canonN L :=
  asc_unique hA (asc_canon hd) fun x => (h x).trans mem_canon.symm
/-! ### least ones -/
abbrev takeN (kept : List (List Nat)) (p : List Nat) : List (List Nat) := if (kept.any fun k => fitB k p) = true then kept else kept ++ [p]
def keepN (A : List (List Nat)) : List (List Nat) := A.foldl takeN []
def minB (A : List (List Nat)) (p : List Nat) : Bool := !(A.any fun q => decide (q ≠ p) && fitB q p)
def leastN (L : List (List Nat)) : List (List Nat) := (canonN L).filter (minB (canonN L))
theorem min_false {A : List (List Nat)} {p : List Nat} : minB A p = false ↔ ∃ q ∈ A, q ≠ p ∧ fitB q p = true := by
  unfold minB
  rw [Bool.not_eq_false', List.any_eq_true]
  constructor
  · rintro ⟨q, h1, h2⟩
    rw [Bool.and_eq_true, decide_eq_true_iff] at h2
    exact ⟨q, h1, h2⟩
  · rintro ⟨q, h1, h2⟩
    exact ⟨q, h1, by rw [Bool.and_eq_true, decide_eq_true_iff]; exact h2⟩
theorem below {d : Nat} {A : List (List Nat)} (hd : ∀ y ∈ A, y.length = d) : ∀ (n : Nat) (q : List Nat), q.sum ≤ n → q ∈ A → ∃ m ∈ A, minB A m = true ∧ fitB m q = true
  | n, q, hn, hq => by
    cases h : minB A q with
    | true => exact ⟨q, hq, h, fit_refl q⟩
    | false =>
      obtain ⟨r, hr, hne, hf⟩ := min_false.mp h
      have hl : q.length = r.length := by rw [hd q hq, hd r hr]
      have hs := (fit_sum hl hf).2 hne
      cases n with
      | zero => omega
      | succ n =>
        obtain ⟨m, hm, h1, h2⟩ := below hd n r (by omega) hr
        exact ⟨m, hm, h1, fit_trans (by rw [hd r hr, hd m hm]) h2 hf⟩
theorem keep_from {d : Nat} {A : List (List Nat)} (hA : Asc A) (hd : ∀ y ∈ A, y.length = d) : ∀ (S P : List (List Nat)), A = P ++ S → S.foldl takeN (P.filter (minB A)) = A.filter (minB A)
  | [], P, e => by rw [e, List.append_nil]; rfl
  | p :: S, P, e => by
    have hp : p ∈ A := by rw [e]; exact List.mem_append_right _ List.mem_cons_self
    have asc := hA
    rw [e] at asc
    obtain ⟨_, a2, a3⟩ := List.pairwise_append.mp asc
    obtain ⟨b1, _⟩ := List.pairwise_cons.mp a2
    have key : ((P.filter (minB A)).any fun k => fitB k p) = !minB A p := by
      cases hm : minB A p with
      | true =>
        cases hk : (P.filter (minB A)).any fun k => fitB k p with
        | false => rfl
        | true =>
          obtain ⟨k, k1, k2⟩ := List.any_eq_true.mp hk
          have kP := (List.mem_filter.mp k1).1
          have kA : k ∈ A := by rw [e]; exact List.mem_append_left _ kP
          have kne : k ≠ p := fun z => by
            have := a3 k kP p List.mem_cons_self
            rw [z, lt_irr] at this
            cases this
          have := min_false.mpr ⟨k, kA, kne, k2⟩
          rw [hm] at this
          cases this
      | false =>
        obtain ⟨q, q1, q2, q3⟩ := min_false.mp hm
        obtain ⟨m, m1, m2, m3⟩ := below hd q.sum q (Nat.le_refl _) q1
        have lq : p.length = q.length := by rw [hd p hp, hd q q1]
        have lm : q.length = m.length := by rw [hd q q1, hd m m1]
        have mp := fit_trans lm m3 q3
        have mne : m ≠ p := fun z => by
          subst z
          exact q2 (fit_anti lq q3 m3)
        have mlt := fit_lt (by rw [lq, lm]) mp mne
        have mP : m ∈ P := by
          rw [e] at m1
          rcases List.mem_append.mp m1 with z | z
          · exact z
          · rcases List.mem_cons.mp z with k | k
            · exact absurd k mne
            · have := lt_trans mlt (b1 m k)
              rw [lt_irr] at this
              cases this
        exact List.any_eq_true.mpr ⟨m, List.mem_filter.mpr ⟨mP, m2⟩, mp⟩
    have step : takeN (P.filter (minB A)) p = (P ++ [p]).filter (minB A) := by
      show (if ((P.filter (minB A)).any fun k => fitB k p) = true then _ else _) = _
      rw [key, List.filter_append]
      cases hm : minB A p with
      | true =>
        rw [if_neg (by decide), List.filter_cons, if_pos hm]
        rfl
      | false =>
        rw [if_pos (show (!false) = true from rfl), List.filter_cons, if_neg (by rw [hm]; decide)]
        exact (List.append_nil _).symm
    show S.foldl takeN (takeN (P.filter (minB A)) p) = _
    rw [step]
    exact keep_from hA hd S (P ++ [p]) (by rw [e, List.append_assoc]; rfl)
theorem keep_least {d : Nat} {L : List (List Nat)} (hd : ∀ y ∈ L, y.length = d) : keepN (canonN L) = leastN L :=
  keep_from (asc_canon hd) (fun y hy => hd y (mem_canon.mp hy)) (canonN L) [] rfl
end M7

/-! sorted(set(x)), x a list or a tuple of tuples of numbers -/
namespace R7
open PySem PySem.Spec PyProof.Rows L2 L5 M7
abbrev zN (t : List Nat) : List Int := t.map fun n => ((n : Nat) : Int)
theorem zN_inj {t u : List Nat} (h : zN t = zN u) : t = u := (List.map_inj_right (f := fun n : Nat => ((n : Nat) : Int)) (fun a b e => by omega)).mp h
theorem bd_of {B : Nat} {t : List Nat} (h : ∀ e ∈ t, e < B) : TS.Bd (B : Int) (zN t) := fun m hm => by
  obtain ⟨n, hn, rfl⟩ := List.mem_map.mp hm
  have := h n hn
  omega
theorem lt_code {B : Nat} : ∀ {t u : List Nat}, u.length = t.length → (∀ e ∈ t, e < B) → (∀ e ∈ u, e < B) → ltN t u = true → TS.code (B : Int) (zN t) < TS.code (B : Int) (zN u)
  | [], _, _, _, _, h => by simp [ltN] at h
  | _ :: _, [], _, _, _, h => by simp [ltN] at h
  | a :: t, b :: u, hl, h1, h2, h => by
    have hl' : u.length = t.length := by simpa using hl
    have k1 : ∀ e ∈ t, e < B := fun e he => h1 e (List.mem_cons_of_mem _ he)
    have k2 : ∀ e ∈ u, e < B := fun e he => h2 e (List.mem_cons_of_mem _ he)
    rcases lt_cons.mp h with z | ⟨rfl, z⟩
    · exact TS.code_lt (by rw [List.length_map, List.length_map, hl']) (bd_of k1) (bd_of k2) (show ((a : Nat) : Int) < ((b : Nat) : Int) by omega)
    · have := lt_code hl' k1 k2 z
      show ((a : Nat) : Int) * (B : Int) ^ (zN t).length + TS.code (B : Int) (zN t) < ((a : Nat) : Int) * (B : Int) ^ (zN u).length + TS.code (B : Int) (zN u)
      rw [show (zN u).length = (zN t).length by rw [List.length_map, List.length_map, hl']]
      omega
theorem code_ltN {B : Nat} {t u : List Nat} (hl : u.length = t.length) (h1 : ∀ e ∈ t, e < B) (h2 : ∀ e ∈ u, e < B) (hc : TS.code (B : Int) (zN t) ≤ TS.code (B : Int) (zN u)) (hne : t ≠ u) : ltN t u = true := by
  rcases lt_tri hl hne with z | z
  · exact z
  · have := lt_code hl.symm h2 h1 z
    omega
section
variable {K : PySem.W.Frag} {H : Hp}
/-- addresses with what stands at them -/
theorem tups_pairs : ∀ {rs : List Addr} {L : List (List Nat)}, Tups K H rs L → ∃ ks : List (Addr × List Nat), ks.map (·.1) = rs ∧ ks.map (·.2) = L ∧ ∀ p ∈ ks, SqT K H p.1 (nv p.2)
  | _, _, .nil => ⟨[], rfl, rfl, fun _ h => nomatch h⟩
  | _, _, .cons (a := a) (b := t) h r => by
    obtain ⟨ks, e1, e2, e3⟩ := tups_pairs r
    refine ⟨(a, t) :: ks, by rw [List.map_cons, e1], by rw [List.map_cons, e2], fun p hp => ?_⟩
    rcases List.mem_cons.mp hp with rfl | hp
    · exact h
    · exact e3 p hp
theorem pairs_tups : ∀ {ks : List (Addr × List Nat)}, (∀ p ∈ ks, SqT K H p.1 (nv p.2)) → Tups K H (ks.map (·.1)) (ks.map (·.2))
  | [], _ => .nil
  | p :: ks, h => .cons (h p List.mem_cons_self) (pairs_tups fun q hq => h q (List.mem_cons_of_mem _ hq))
end
section
variable {X : Cx}
/-- set(x), x a tuple of tuples of ints -/
def rSetTT (K : PySem.W.Frag) (P : Program) (w : World) : List V → Hp → VK → Prop := fun xs H Q => ∃ (l : Addr) (ks : List (Addr × List Int)), xs = [V.ref l] ∧ SqT K H l (ks.map fun p => V.ref p.1) ∧ (∀ p ∈ ks, SqT K H p.1 (p.2.map V.int)) ∧ ks.length < 64 ∧
  ∀ a L, H a = none → (∀ p ∈ L, p ∈ ks) → (∀ p ∈ ks, p.2 ∈ L.map (·.2)) → Q (.ref a) (upd H a (SetTO P w a L))
theorem cr_setTT (calm : X.calm = true) (room : X.A.units + 64 < cLine) : CallR X (.type "set") (rSetTT X.K X.prog X.w) := by
  intro pins s σ H xs us Q I r h
  obtain ⟨l, ks, rfl, at_, each, few, q⟩ := h
  rw [Vals.ref1 r]
  obtain ⟨_, rv, plain, _⟩ := I.tuple at_
  have free : H s.heap.objs.size = none := I.hok.fresh (Nat.le_refl _)
  refine W7.set_of_tuple (P := X.prog) (w := X.w) ks (I.ok.hd calm) plain (by simpa using refs_of_vals rv) (fun p hp => I.isT (each p hp)) few (by omega) fun h' tk L es ep t R g k => ?_
  exact ⟨.ref s.heap.objs.size, upd H s.heap.objs.size (SetTO X.prog X.w s.heap.objs.size L), I.laid (t' := tk) k (Nat.le_refl _) (setTO_new R.t0), rfl, q _ L free (fun p hp => List.mem_of_mem_take (g.sub p hp)) fun p hp => g.all p (by rw [List.take_length]; exact hp)⟩
theorem cr_setAny (calm : X.calm = true) (room : X.A.units + 64 < cLine) : CallR X (.type "set") (fun xs H Q => rSetOfT X.K X.prog X.w xs H Q ∨ rSetTT X.K X.prog X.w xs H Q) := fun pins s σ H xs us Q I r h =>
  h.elim (fun h => cr_setOfT calm room pins s σ H xs us Q I r h) fun h => cr_setTT calm room pins s σ H xs us Q I r h
theorem weakE {e : Expr} {t t' : TE} (h : PE X e t) (i : ∀ σ H Q, t' σ H Q → t σ H Q) : PE X e t' := ⟨fun pins s σ H Q I h' => h.run pins s σ H Q I (i σ H Q h')⟩
/-- sorted(set(x)) -/
def tSS (K : PySem.W.Frag) (te : TE) : TE := fun σ H Q => te σ H fun x H1 => ∃ (l : Addr) (rs : List Addr) (L : List (List Nat)) (d B : Nat), x = .ref l ∧ (SqL K H1 l (rs.map V.ref) ∨ SqT K H1 l (rs.map V.ref)) ∧ Tups K H1 rs L ∧ L.length < 64 ∧ 1 ≤ d ∧ (∀ t ∈ L, t.length = d) ∧ (∀ t ∈ L, ∀ e ∈ t, e < B) ∧
  ∀ H' q rs', Same H1 H' → H1 q = none → H' q = some (.lst (rs'.map V.ref)) → Tups K H' rs' (canonN L) → Q (.ref q) H'
theorem pe_sset {e : Expr} {te : TE} {p1 p2 q1 q2 : Pos} (calm : X.calm = true) (room : X.A.units + 64 < cLine) (g1 : Gl X "sorted") (m1 : X.mg "sorted" = none) (g2 : Gl X "set") (m2 : X.mg "set" = none) (he : PE X e te)
    (t1 : starEach [.Call (.Name "set" p2) [e] [] q2] X.env = (false, eval (.Call (.Name "set" p2) [e] [] q2) X.env) :: starEach [] X.env := by rfl) (t2 : starEach [e] X.env = (false, eval e X.env) :: starEach [] X.env := by rfl)  :
    PE X (.Call (.Name "sorted" p1) [.Call (.Name "set" p2) [e] [] q2] [] q1) (tSS X.K te) := by
  have he' : PE X e (fun σ H Q => ∃ P : VK, te σ H P ∧ ∀ x H1, P x H1 → Q x H1) := ⟨fun pins s σ H Q I ⟨P, h, m⟩ => thn (he.run pins s σ H P I h) fun u s1 ⟨v, H1, I1, r, q⟩ => ⟨v, H1, I1, r, m v H1 q⟩⟩
  refine weakE (pe_callB (cr_sortedT calm) g1 m1 (by decide +kernel) (pa_cons (pe_callTy (cr_setAny calm room) g2 m2 (by decide +kernel) (pa_cons he' pa_nil (hs := t2)) (he := t2)) pa_nil (hs := t1)) (he := t1)) ?_
  intro σ H Q h
  refine ⟨_, h, ?_⟩
  rintro x H1 ⟨l, rs, L, d, B, rfl, at_, hT, few, hd, hlen, hB, q⟩
  obtain ⟨ks, e1, e2, e3⟩ := tups_pairs hT
  have nvz : ∀ t : List Nat, (zN t).map V.int = nv t := fun t => (nv_ints t).symm
  have ks3 : ∀ p ∈ ks.map (fun p => (p.1, zN p.2)), SqT X.K H1 p.1 (p.2.map V.int) := fun p hp => by
    obtain ⟨k, hk, rfl⟩ := List.mem_map.mp hp
    show SqT X.K H1 k.1 ((zN k.2).map V.int)
    rw [nvz]
    exact e3 k hk
  have refs : (ks.map fun p => (p.1, zN p.2)).map (fun p => V.ref p.1) = rs.map V.ref := by
    rw [List.map_map, ← e1, List.map_map]
    rfl
  have few' : (ks.map fun p => (p.1, zN p.2)).length < 64 := by
    rw [List.length_map, ← List.length_map (f := (·.2)) (as := ks), e2]
    exact few
  have go : ∀ a Ls, H1 a = none → (∀ p ∈ Ls, p ∈ ks.map fun p => (p.1, zN p.2)) → (∀ p ∈ ks.map (fun p => (p.1, zN p.2)), p.2 ∈ Ls.map (·.2)) → rSortedT X.K X.prog X.w [.ref a] (upd H1 a (SetTO X.prog X.w a Ls)) Q := by
    intro a Ls ha sub all
    have sa := same_new ha (SetTO X.prog X.w a Ls)
    have memL : ∀ p ∈ Ls, ∃ k ∈ ks, p = (k.1, zN k.2) := fun p hp => by
      obtain ⟨k, hk, e⟩ := List.mem_map.mp (sub p hp)
      exact ⟨k, hk, e.symm⟩
    have inL : ∀ k ∈ ks, k.2 ∈ L := fun k hk => by
      rw [← e2]
      exact List.mem_map_of_mem hk
    refine ⟨a, Ls, d, (B : Int), rfl, upd_same, fun p hp => same_sqt sa (ks3 p (sub p hp)), hd, fun p hp => ?_, fun L' p pm nd _ pw hp => ?_⟩
    · obtain ⟨k, hk, rfl⟩ := memL p hp
      exact ⟨by rw [List.length_map]; exact hlen _ (inL k hk), bd_of (hB _ (inL k hk))⟩
    · -- what stands in the sorted list
      have mem' : ∀ r ∈ L', ∃ k ∈ ks, r = (k.1, zN k.2) := fun r hr => memL r (pm.mem_iff.mp hr)
      have back : ∀ k : Addr × List Nat, (zN k.2).map Int.toNat = k.2 := fun k => by
        rw [List.map_map]
        exact (List.map_congr_left fun n _ => by show (((n : Nat) : Int)).toNat = n; omega).trans (List.map_id _)
      have asc : Asc (L'.map fun r => r.2.map Int.toNat) := by
        have nd' : L'.Pairwise fun q r => q.2 ≠ r.2 := List.pairwise_map.mp nd
        have both := pw.and nd'
        rw [Asc, List.pairwise_map]
        refine both.imp_of_mem fun {q r} hq hr hqr => ?_
        obtain ⟨k1, hk1, rfl⟩ := mem' q hq
        obtain ⟨k2, hk2, rfl⟩ := mem' r hr
        show ltN ((zN k1.2).map Int.toNat) ((zN k2.2).map Int.toNat) = true
        rw [back, back]
        exact code_ltN (by rw [hlen _ (inL k1 hk1), hlen _ (inL k2 hk2)]) (hB _ (inL k1 hk1)) (hB _ (inL k2 hk2)) hqr.1 fun z => hqr.2 (by show zN k1.2 = zN k2.2; rw [z])
      have canon : (L'.map fun r => r.2.map Int.toNat) = canonN L := by
        refine canon_of asc hlen fun t => ⟨fun ht => ?_, fun ht => ?_⟩
        · obtain ⟨r, hr, rfl⟩ := List.mem_map.mp ht
          obtain ⟨k, hk, rfl⟩ := mem' r hr
          show (zN k.2).map Int.toNat ∈ L
          rw [back]
          exact inL k hk
        · rw [← e2] at ht
          obtain ⟨k, hk, rfl⟩ := List.mem_map.mp ht
          obtain ⟨r, hr, e⟩ := List.mem_map.mp (all (k.1, zN k.2) (List.mem_map_of_mem (f := fun p : Addr × List Nat => (p.1, zN p.2)) hk))
          refine List.mem_map.mpr ⟨r, pm.mem_iff.mpr hr, ?_⟩
          show r.2.map Int.toNat = k.2
          rw [e]
          exact back k
      have sp := same_new hp (.lst (L'.map fun q => V.ref q.1))
      have tl : Tups X.K (upd (upd H1 a (SetTO X.prog X.w a Ls)) p (.lst (L'.map fun q => V.ref q.1))) ((L'.map fun r => (r.1, r.2.map Int.toNat)).map (·.1)) ((L'.map fun r => (r.1, r.2.map Int.toNat)).map (·.2)) := pairs_tups fun r hr => by
        obtain ⟨r0, hr0, rfl⟩ := List.mem_map.mp hr
        obtain ⟨k, hk, rfl⟩ := mem' r0 hr0
        show SqT X.K _ k.1 (nv ((zN k.2).map Int.toNat))
        rw [back]
        exact same_sqt (sa.trans sp) (e3 k hk)
      rw [List.map_map, List.map_map] at tl
      have tl2 : Tups X.K (upd (upd H1 a (SetTO X.prog X.w a Ls)) p (.lst (L'.map fun q => V.ref q.1))) (L'.map (·.1)) (L'.map fun r => r.2.map Int.toNat) := tl
      rw [canon] at tl2
      refine q _ p (L'.map (·.1)) (sa.trans sp) (sa.free hp) ?_ tl2
      rw [upd_same, List.map_map]
      rfl
  rcases at_ with at_ | at_
  · exact .inl ⟨l, _, rfl, by rw [refs]; exact at_, ks3, few', go⟩
  · exact .inr ⟨l, _, rfl, by rw [refs]; exact at_, ks3, few', go⟩
end
end R7

/-! a for over a list or a tuple, whichever it is -/
namespace R7
open PySem PySem.Spec PyProof.Rows L2 L5 M7
section
variable {X : Cx} {tg : Expr}
def iAny (K : PySem.W.Frag) (tl : TE) : TI := fun σ H R => tl σ H fun x H1 => ∃ a, x = .ref a ∧ (((∃ xs, SqL K H1 a xs) ∧ R (Itl K a) H1) ∨ ((∃ xs, SqT K H1 a xs) ∧ R (Itt K a) H1))
theorem pi_any {l : Expr} {tl : TE} (hl : PE X l tl) : PI X tg l (iAny X.K tl) := by
  refine ⟨fun pins s σ H R I h => thn (hl.run pins s σ H _ I h) fun v s1 ⟨x, H1, I1, r1, q1⟩ => ?_⟩
  obtain ⟨a, ea, ⟨⟨xs, at_⟩, q⟩ | ⟨⟨xs, at_⟩, q⟩⟩ := q1
  · subst ea; cases r1
    obtain ⟨_, _, plain, _⟩ := I1.list at_
    refine wpAny_pyIter_list plain.isList ⟨s1.heap.objs.size, [s1.heap.objs.size], _, _, H1, rfl, I1.kept (t' := s1.toks) fun b o e => Heap.get?_push_of_some _ e, turn_list a _, ⟨_, Heap.get?_push_size _ rfl, rfl, rfl⟩, fun b hb => ?_, q⟩
    obtain rfl : b = s1.heap.objs.size := List.mem_singleton.mp hb
    exact I1.fpOk (Nat.le_refl _) (I1.hok.fresh (Nat.le_refl _))
  · subst ea; cases r1
    obtain ⟨its, _, plain, _⟩ := I1.tuple at_
    refine wpAny_pyIter_tuple (show s1.heap.IsTuple a its.toArray from plain) ⟨s1.heap.objs.size, [s1.heap.objs.size], _, _, H1, rfl, I1.kept (t' := s1.toks) fun b o e => Heap.get?_push_of_some _ e, turn_tuple a _, ⟨_, Heap.get?_push_size _ rfl, rfl, rfl⟩, fun b hb => ?_, q⟩
    obtain rfl : b = s1.heap.objs.size := List.mem_singleton.mp hb
    exact I1.fpOk (Nat.le_refl _) (I1.hok.fresh (Nat.le_refl _))
end
def SqA (K : PySem.W.Frag) (H : Hp) (a : Addr) (xs : List V) : Prop := SqL K H a xs ∨ SqT K H a xs
section
variable {K : PySem.W.Frag} {H H' : Hp}
theorem sql_same {a : Addr} {xs : List V} (e : Same H H') (h : SqL K H a xs) : SqL K H' a xs := e.seq h
theorem SqA.same {a : Addr} {xs : List V} (e : Same H H') (h : SqA K H a xs) : SqA K H' a xs := h.imp (e.seq ·) (same_sqt e ·)
abbrev Turns (J : It) (g : TG) (tb : TS) (D : Ends) (σ : L2.St) (H : Hp) : Prop := ∃ W : Nat → Nat → L2.St → Hp → Prop, (∃ m, W 0 m σ H) ∧ ∀ i m σ H, W i m σ H →
  (J.stop i H ∧ D.nx σ H) ∨ (J.go i H ∧ ∃ N : L2.St → Hp → Prop, (∀ σ' H', N σ' H' → ∃ m', m' < m ∧ W (i + 1) m' σ' H') ∧ ∀ x H', J.yld i H x H' → g x σ H' fun σ2 H2 => tb { D with nx := N, ct := N, bk := D.nx } σ2 H2)
theorem for_any {a : Addr} {xs : List V} {g : TG} {tb : TS} {D : Ends} {σ : L2.St} (at_ : SqA K H a xs) (Pv : Nat → L2.St → Hp → Prop) (h0 : Pv 0 σ H) (keep : ∀ i σ' H', Pv i σ' H' → Same H H')
    (step : ∀ i x σ H, xs[i]? = some x → Pv i σ H → g x σ H fun σ2 H2 => tb { D with nx := Pv (i + 1), ct := Pv (i + 1), bk := D.nx } σ2 H2) (done : ∀ σ H, Pv xs.length σ H → D.nx σ H) :
    ((∃ xs, SqL K H a xs) ∧ Turns (Itl K a) g tb D σ H) ∨ ((∃ xs, SqT K H a xs) ∧ Turns (Itt K a) g tb D σ H) :=
  at_.elim (fun h => .inl ⟨⟨_, h⟩, for_list Pv h0 (fun i σ' H' _ p => (keep i σ' H' p).seq h) step done⟩) fun h => .inr ⟨⟨_, h⟩, for_tup Pv h0 (fun i σ' H' _ p => same_sqt (keep i σ' H' p) h) step done⟩
end
end R7

/-! [e for a in t for b in u], t and u tuples: the turns of both walks -/
namespace R7
open PySem PySem.Spec PyProof.Rows L2 L5 M7
section
variable {K : PySem.W.Frag} {g g1 : TG} {tt tt1 : TT} {te : TE} {vs vs1 : List Nat} {D : Addr}
abbrev In2 (J1 : It) (g1 : TG) (tt1 : TT) (te : TE) (vs1 : List Nat) (D : Addr) (σ2 : L2.St) (H4 : Hp) (Nx : Hp → Prop) : Prop := ∃ W1 : Nat → Nat → Hp → Prop, (∃ m, W1 0 m H4) ∧ ∀ j k H, W1 j k H →
  (J1.stop j H ∧ Nx H) ∨ (J1.go j H ∧ ∃ Nx1 : Hp → Prop, (∀ H', Nx1 H' → ∃ k', k' < k ∧ W1 (j + 1) k' H') ∧ ∀ x H', J1.yld j H x H' → g1 x (wipe σ2 vs1) H' fun σ3 H5 => wipe σ3 vs1 = wipe σ2 vs1 ∧ tt1 σ3 H5 fun b H6 =>
    if b = true then te σ3 H6 fun y H7 => ∃ acc, H7 D = some (.lst acc) ∧ acc.length < sizeLine ∧ Nx1 (upd H7 D (.lst (acc ++ [y]))) else Nx1 H6)
theorem in2_tup {b : Addr} {ys : List V} {σ2 : L2.St} {H4 : Hp} {Nx : Hp → Prop} (Pj : Nat → Hp → Prop) (h0 : Pj 0 H4) (at_ : ∀ j H, Pj j H → SqT K H b ys)
    (step : ∀ j y H, ys[j]? = some y → Pj j H → g1 y (wipe σ2 vs1) H fun σ3 H5 => wipe σ3 vs1 = wipe σ2 vs1 ∧ tt1 σ3 H5 fun c H6 => if c = true then te σ3 H6 fun z H7 => ∃ acc, H7 D = some (.lst acc) ∧ acc.length < sizeLine ∧ Pj (j + 1) (upd H7 D (.lst (acc ++ [z]))) else Pj (j + 1) H6)
    (done : ∀ H, Pj ys.length H → Nx H) : In2 (Itt K b) g1 tt1 te vs1 D σ2 H4 Nx := by
  refine ⟨fun j k H => j + k = ys.length ∧ Pj j H, ⟨ys.length, Nat.zero_add _, h0⟩, fun j k H0 hw => ?_⟩
  obtain ⟨e, pj⟩ := hw
  have here := at_ j H0 pj
  cases k with
  | zero =>
    obtain rfl : j = ys.length := e
    exact .inl ⟨⟨ys, here, Nat.le_refl _⟩, done H0 pj⟩
  | succ k =>
    have lt : j < ys.length := by omega
    refine .inr ⟨⟨ys, ys[j], here, List.getElem?_eq_getElem lt⟩, Pj (j + 1), fun H' p' => ⟨k, Nat.lt_succ_self k, by omega, p'⟩, fun x H' out => ?_⟩
    obtain ⟨same, val⟩ := out
    subst same
    exact step j x _ (val ys here) pj
theorem out2_tup {a : Addr} {xs : List V} {wi1 : TI} {σ : L2.St} {H1 : Hp} {Qd : Hp → Prop} (Pi : Nat → Hp → Prop) (h0 : Pi 0 (upd H1 D (.lst []))) (at_ : ∀ i H, Pi i H → SqT K H a xs)
    (step : ∀ i x H, xs[i]? = some x → Pi i H → g x (wipe σ vs) H fun σ2 H2 => wipe σ2 vs = wipe σ vs ∧ tt σ2 H2 fun c H3 => if c = true then wi1 σ2 H3 fun J1 H4 => In2 J1 g1 tt1 te vs1 D σ2 H4 (Pi (i + 1)) else Pi (i + 1) H3)
    (done : ∀ H, Pi xs.length H → Qd H) :
    ∃ W : Nat → Nat → Hp → Prop, (∃ m, W 0 m (upd H1 D (.lst []))) ∧ ∀ i m H, W i m H →
      ((Itt K a).stop i H ∧ Qd H) ∨ ((Itt K a).go i H ∧ ∃ Nx : Hp → Prop, (∀ H', Nx H' → ∃ m', m' < m ∧ W (i + 1) m' H') ∧ ∀ x H', (Itt K a).yld i H x H' → g x (wipe σ vs) H' fun σ2 H2 => wipe σ2 vs = wipe σ vs ∧ tt σ2 H2 fun c H3 =>
        if c = true then wi1 σ2 H3 fun J1 H4 => In2 J1 g1 tt1 te vs1 D σ2 H4 Nx else Nx H3) := by
  refine ⟨fun i m H => i + m = xs.length ∧ Pi i H, ⟨xs.length, Nat.zero_add _, h0⟩, fun i m H0 hw => ?_⟩
  obtain ⟨e, pi⟩ := hw
  have here := at_ i H0 pi
  cases m with
  | zero =>
    obtain rfl : i = xs.length := e
    exact .inl ⟨⟨xs, here, Nat.le_refl _⟩, done H0 pi⟩
  | succ m =>
    have lt : i < xs.length := by omega
    refine .inr ⟨⟨xs, xs[i], here, List.getElem?_eq_getElem lt⟩, Pi (i + 1), fun H' p' => ⟨m, Nat.lt_succ_self m, by omega, p'⟩, fun x H' out => ?_⟩
    obtain ⟨same, val⟩ := out
    subst same
    exact step i x _ (val xs here) pi
end
end R7

/-! an operator between two objects of one own class -/
namespace W7
open PySem PySem.W PySem.Calls PyProof.Rows
section
variable {prog : Program} {w : World} {A : Around} {E : Value → Shared → Prop} {s : Shared} {K : Frag} {x y C f : Addr} {ox oy : Obj} {od oe : Option Obj}
theorem fills_own {M : Model} {h : Heap} {cd : ClassData} {rest : List Value} {nm : String} (kin : K.In h) (hc : clsIn K C = some cd) (hm : cd.mro = .ref C :: rest) (hs : findIn K (.ref C) (PySem.dunder nm) = some (some (.ref f))) : Looks M h (fillsNumberSlot (.ref C) nm) true := fills_K kin hc hm hs
theorem bin_same {op : Operator} {Q : Value → Shared → Prop} (kin : K.In s.heap) (I : InstAt s.heap x ox C od) (J : InstAt s.heap y oy C oe) (first : selfFirst K C = true)
    (at_ : findIn K (.ref C) (PySem.dunder op.info.2) = some (some (.ref f))) (fn : isFn K (.ref f) = true) (h : wpAny (model prog w) A (call (.ref f) [.ref x, .ref y]) (PySem.W.CmpBack Q) E s) : wpAny (model prog w) A (binaryOp op (.ref x) (.ref y)) Q E s := by
  obtain ⟨cd, rest, known, mro⟩ := ksp_first first
  rcases info : op.info with ⟨sign, word⟩
  rw [info] at at_
  dsimp only at at_
  have tried := ksp_try kin I at_ fn h
  obtain ⟨hp, g, d, t, os⟩ := s
  have T1 : Looks (model prog w) hp (typeOf (.ref x)) (.ref C) := I.type
  have T2 : Looks (model prog w) hp (typeOf (.ref y)) (.ref C) := J.type
  have T3 : Looks (model prog w) hp (fillsNumberSlot (.ref C) word) true := fills_own kin known mro at_
  have same : (Value.ref C == Value.ref C) = true := beq_self_eq_true _
  simp only [binaryOp, info]
  refine wpAny_holding (wpAny_bind ?_)
  unfold binaryOp1
  refine wpAny_bind (T1.at (wpAny_bind (T2.at (wpAny_bind (T3.at ?_)))))
  simp only [same, if_true]
  ksp_lk
  refine wpAny_mono tried (fun r s' got => ?_) fun _ _ e => e
  obtain ⟨v, rfl, q⟩ := got
  ksp_lk
  exact q
end
end W7

namespace W7
open PySem PySem.Spec PyProof.Rows L2
section
variable {X : Cx} {CX : CXT} {C f : Addr} {fd : FuncData} {ps : List Str} {sp : Sp} {k : Nat} {op : Operator}
/-- a op b, both of the own class at C; sp: the method's promise -/
def rOwn (C : Addr) (sp : Sp) : R2 := fun x y H Q => ∃ (a b dx dy : Addr) (fs gs : List (Str × V)), x = .ref a ∧ y = .ref b ∧ H a = some (.ins C dx fs) ∧ H b = some (.ins C dy gs) ∧ sp [.ref a, .ref b] H Q E0
theorem no_notimpl {x : V} (h : RelV x .notImplemented) : False := by
  cases x <;> first | exact h.elim | (obtain ⟨_, e⟩ := h; cases e) | cases h
theorem op_own (first : PySem.W.selfFirst X.K C = true) (at_ : PySem.W.findIn X.K (.ref C) (PySem.dunder op.info.2) = some (some (.ref f))) (fn : PySem.W.isFn X.K (.ref f) = true) (F : FnOk X.prog X.w X.K X.mg X.base CX k f fd ps sp) (hr : Room k X.A) (hb : Binds X.K fd ps []) (hx : Passes CX X E0) : OpR X (binaryOp op) (rOwn C sp) := by
  intro pins s σ H x y v u Q I rx ry h
  obtain ⟨a, b, dx, dy, fs, gs, rfl, rfl, ha, hb2, q⟩ := h
  obtain rfl : v = Value.ref a := rx
  obtain rfl : u = Value.ref b := ry
  obtain ⟨_, Oa, _⟩ := ins_get I.hok ha
  obtain ⟨_, Ja, _⟩ := Oa.look
  obtain ⟨_, Ob, _⟩ := ins_get I.hok hb2
  obtain ⟨_, Jb, _⟩ := Ob.look
  refine bin_same I.kIn Ja Jb first at_ fn (wpAny_mono (run_fn (dvs := []) (ds := []) (vs := [.ref a, .ref b]) (us := [.ref a, .ref b]) (Q := Q) F hr hb .nil hx I (.cons rfl (.cons rfl .nil)) q) (fun r s' z => ?_) fun _ _ z => z)
  cases r with
  | notImplemented =>
    obtain ⟨_, _, _, rel, _⟩ := z
    exact no_notimpl rel
  | _ => exact z
end
end W7

/-! own exceptions with one field, over any built-in base; a try with several clauses, named or not -/
namespace XX
open PySem PySem.Spec PyProof.Rows L2 Builtin.ObjectAttr
/-! ### self.name = v of a fresh exception, whatever its built-in base is -/
section
variable {pr : Program} {wd : World} {A : Around} {R : Result → Shared → Prop} {hp : Heap} {g : Array GenState} {dr : Drawn} {t : Nat} {os : OsState} {B : String} {bmB : List Value}
theorem first_field {K : PySem.W.Frag} {name : Str} {tk : Tok} {v : Value} {x C : Addr} {fv : Array Value} {cd : ClassData} (SF : StoreFacts B bmB "object.__setattr__" "object") (kin : K.In hp)
    (hx : hp.get? x = some { cls := .ref C, data := .fields fv }) (hcd : PySem.W.clsIn K C = some cd) (over : PySem.W.excOver K C bmB = true) (has : cd.hasDict = true) (no : PySem.W.findIn K (.ref C) name = some none)
    (q : ∀ h' tk' dx, (∀ b o, b ≠ x → hp.get? b = some o → h'.get? b = some o) → hp.objs.size ≤ dx → dx ≠ x → h'.get? x = some { cls := .ref C, dict := some dx, data := .fields fv } →
      h'.Ns1 dx (fun y => if y = name then some v else none) → R (.ok (.ret .none)) ⟨h', g, dr, tk', os⟩) :
    codeAny (model pr wd) A (.call (.builtin "object.__setattr__") ⟨[.ref x, .str name tk, v], []⟩) R ⟨hp, g, dr, t, os⟩ := by
  have taker : PySem.W.takerIn K C name = some none := by
    unfold PySem.W.takerIn
    rw [no]
    rfl
  refine PySem.W.osa_openX (s := ⟨hp, g, dr, t, os⟩) (ox := { cls := .ref C, data := .fields fv }) (od := none) SF kin ⟨hx, rfl, rfl, trivial⟩ over taker fun b => ?_
  have away : x ≠ hp.objs.size := Nat.ne_of_lt (Heap.lt_size hx)
  have known : PySem.W.Looks (model pr wd) hp (classData C) cd := PySem.W.looks_clsIn kin hcd
  show wpAny _ _ (storeInOwnDict (.ref x) (.ref C) (.str name tk) name v b) _ _ _
  obtain ⟨_, _, _, _, _, hd, _, _, _, _, _⟩ := cd
  dsimp only at has
  subst has
  unfold storeInOwnDict ownDictForStores
  repeat (first | with_reducible refine HandSPX.store_in_new ?_ ?_ | with_reducible refine wpAny_loadPart_at hx ?_ | with_reducible refine known.at ?_ | wp_step)
  · exact ⟨_, #[], _, (Heap.get?_update_ne _ _ _ _ away.symm).trans (Heap.get?_push_at rfl rfl), rfl, fun e he => absurd he (by simp), fun _ => rfl⟩
  · intro h' tk' one same
    have still : (hp.push { cls := .type "dict", data := .dict #[] }).get? x = some { cls := .ref C, data := .fields fv } := Heap.get?_push_of_some _ hx
    exact q h' tk' hp.objs.size (fun b' o ne ob => (same.2 b' (Nat.ne_of_lt (Heap.lt_size ob))).trans ((Heap.get?_update_ne _ _ _ _ ne).trans (Heap.get?_push_of_some _ ob))) (Nat.le_refl _) away.symm
      ((same.2 x away).trans (Heap.get?_update_self _ still rfl)) one
end
/-- what the written part says of such a class -/
structure OexB (K : PySem.W.Frag) (C : Addr) (bmB : List Value) (newId : String) : Prop where
  cls : ∃ nm q N bs bm sn sub ab col dd k0 k1 k2 k3 k5, K.lookup C = some (excClassObj nm q C N bs bm true sn sub ab col dd k0 k1 k2 k3 k5 newId) ∧ PySem.W.excTail bmB bm = true
  sa : PySem.W.findIn K (.ref C) "__setattr__" = some (some (.builtin "object.__setattr__"))
  exC : PySem.W.subIn K (.ref C) (.type "BaseException") = some true
  tyC : PySem.W.typeIn K (.ref C) = some (.type "type")
  kC : PySem.W.keepIn K (.ref C) = true
section
variable {X : Cx} {pins : List (Addr × Obj)} {σ : L2.St} {H : Hp} {s : Shared} {a C : Addr} {f : Str} {y : V} {u : Value} {Q : Unit → Shared → Prop} {E : Value → Shared → Prop} {A : Around} {B newId initId : String} {bmB : List Value}
theorem ost_first (SF : StoreFacts B bmB "object.__setattr__" "object") (T : OexB X.K C bmB newId) (I : Inv X pins σ H s) (e : H a = some (exo a C none)) (no : PySem.W.findIn X.K (.ref C) f = some none) (ry : RelV y u)
    (q : ∀ dx s', H dx = none → dx ≠ a → Inv X pins σ (upd (upd H dx (exd dx [(f, y)])) a (exo a C (some dx))) s' → Q () s') : wpAny (model X.prog X.w) A (setAttr (.ref a) f u) Q E s := by
  obtain ⟨nm, qn, N, bs, bm, sn, sub, ab, col, dd, k0, k1, k2, k3, k5, hC, tail⟩ := T.cls
  have hcl : PySem.W.clsIn X.K C = some { name := nm, bases := bs, mro := .ref C :: bm, ns := N, qualname := qn, hasDict := true, slotNames := sn, subclasses := sub, abstract := ab, collection := col, hasDel := false } := by
    unfold PySem.W.clsIn
    rw [hC] <;> rfl
  have over : PySem.W.excOver X.K C bmB = true := by
    unfold PySem.W.excOver
    rw [hcl]
    show (C == C && PySem.W.excTail bmB bm) = true
    rw [tail, beq_self_eq_true] <;> rfl
  obtain ⟨t1, ho⟩ := exo_at I.hok e
  obtain ⟨hp, g, dr, t, os⟩ := s
  refine PySem.W.set_plain I.kIn (ox := { cls := .ref C, dict := none, data := .fields #[.ref t1, .none, .none, .none, .bool false, .none] }) (od := none) ⟨ho, rfl, rfl, trivial⟩ T.sa ?_
  refine first_field SF I.kIn ho hcl over rfl no fun h' tk' dx kept young away hx one => ?_
  have free : H dx = none := I.hok.fresh young
  have old : ∀ {b : Addr} {o : Obj}, hp.get? b = some o → b ≠ dx := fun z => Nat.ne_of_lt (Nat.lt_of_lt_of_le (Heap.lt_size z) young)
  have other : ∀ {b : Addr}, H b = none → b ≠ a := fun {b} n z => by
    rw [z, e] at n
    cases n
  have U : Un X.fs [] H (upd (upd H dx (exd dx [(f, y)])) a (exo a C (some dx))) hp h' := {
    keep := fun b o z n _ _ => kept b o (other n) z
    slot := fun b o z n _ _ => ⟨o.slots, kept b o (other n) z⟩
    free := fun b o z n _ => by rw [upd_ne (other n), upd_ne (old z)]; exact n
    there := fun b o z _ => by
      by_cases hb : b = a
      · rw [hb]
        exact ⟨_, hx⟩
      · exact ⟨o, kept b o hb z⟩
    tups := fun b xs z => by rw [upd_ne (at_ne e z exo_tup), upd_ne (ne_of_none z free)]; exact z
    frzs := fun b o v z => by rw [upd_ne (at_ne e z exo_frz), upd_ne (ne_of_none z free)]; exact z
    tbls := fun b ps z => ⟨#[], by rw [upd_ne (at_ne e z exo_tbl), upd_ne (ne_of_none z free), z]; simp⟩ }
  refine q dx _ free away (I.un (t' := tk') U fun b o z => ?_)
  by_cases hb : b = a
  · subst hb
    rw [upd_same] at z
    cases z
    exact exo_ok hx
  rw [upd_ne hb] at z
  by_cases hd : b = dx
  · subst hd
    rw [upd_same] at z
    cases z
    exact exd_ok one (relO_put (fs := []) ry fun _ => True.intro)
  · rw [upd_ne hd] at z
    refine (I.hok b o z).stay (fun c v hc ob => kept c v (fun ca => ?_) ob) (fun c hc => ?_) fun c xs hc => ?_
    · rcases hc with hc | hc
      · exact hb (hc ▸ ca)
      · exact at_ne e hc exo_own ca
    · rw [upd_ne (at_ne e hc exo_own), upd_ne (ne_of_none hc free)]
      exact hc
    · rw [upd_ne (at_ne e hc exo_tup), upd_ne (ne_of_none hc free)]
      exact hc
/-- self.f = e, of an exception that has no dict -/
def tOst1 (K : PySem.W.Frag) (bmB : List Value) (newId : String) (f : Str) (to te : TE) : TS := fun D σ H => te σ H fun y H1 => to σ H1 fun x H2 => ∃ a C : Addr, x = .ref a ∧ OexB K C bmB newId ∧ PySem.W.findIn K (.ref C) f = some none ∧
  H2 a = some (exo a C none) ∧ ∀ dx, H2 dx = none → dx ≠ a → D.nx σ (upd (upd H2 dx (exd dx [(f, y)])) a (exo a C (some dx)))
theorem ps_ost1 {o e : Expr} {to te : TE} {p' pos : Pos} (SF : StoreFacts B bmB "object.__setattr__" "object") (ho : PE X o to) (he : PE X e te) (hs : swapsWith e (some (.Attribute o f p')) pos.line X.env = pure false := by rfl) : PS X (.Assign [.Attribute o f p'] e pos) (tOst1 X.K bmB newId f to te) :=
  ⟨fun pins s σ H D I h => plainObj_wpAny_Assign_Attribute (thn (he.run pins s σ H _ I h) fun v s1 ⟨_, _, I1, r1, q1⟩ => thn (ho.run pins s1 σ _ _ I1 q1) fun u s2 ⟨_, _, I2, r2, q2⟩ => by
    obtain ⟨a, C, rfl, T, no, ea, q⟩ := q2
    obtain rfl : u = Value.ref a := r2
    exact ost_first SF T I2 ea no r1 fun dx s' n ne J => ⟨σ, _, J, q dx n ne⟩) hs⟩
theorem pmk_oexB {CX : CXT} {x : Str} {fI : Addr} {k : Nat} {fd : FuncData} {ps : List Str} {sp : Sp} {ds : List Value} {dvs : List V} {e : Expr} {es : List Expr} {ta : TA} {p pos : Pos} (F : ExcBaseFacts B newId initId bmB) (T : OexB X.K C bmB newId) (iC : PySem.W.findIn X.K (.ref C) "__init__" = some (some (.ref fI)))
    (tI : PySem.W.typeIn X.K (.ref fI) = some (.type "function")) (F1 : FnOk X.prog X.w X.K X.mg X.base CX k fI fd ps sp) (hr : Room (k + 1) X.A) (hb : Binds X.K fd ps ds) (hd : Vals dvs ds) (hx : Passes CX X (fun _ _ _ => False)) (hg : Gl X x) (hm : X.mg x = some (.ref C)) (ha : PA X (e :: es) ta)
    (hdb : (x == ("__debug__" : Str)) = false := by decide) (he : starEach (e :: es) X.env = (false, eval e X.env) :: starEach es X.env := by rfl) (hpl : (backTo pos (starEach es X.env)).any (·.1) = false := by rfl) :
    PMk X (.Call (.Name x p) (e :: es) [] pos) (tMkO C sp dvs ta) := fun pins s σ H Q I h => by
  obtain ⟨nm, qn, N, bs, bm, sn, sub, ab, col, dd, k0, k1, k2, k3, k5, hC, tail⟩ := T.cls
  refine wpAny_Call_Name_kw (ld_glob I hg hm ?_ hdb)
  refine PySem.W.callWith_K (h₀ := X.base) I.ok.mod.kin T.kC (thn (ha.run pos pins s σ H _ I h) fun us s1 ⟨vs, H1, I1, r1, few, q1⟩ => ⟨I1.kIn, ?_⟩) he hpl
  show wpAny _ _ (call (.ref C) us) _ _ _
  obtain ⟨hp, g, dr, tk, os⟩ := s1
  have up1 : hp.objs.size ≤ hp.objs.size + 1 := Nat.le_succ _
  have hq := q1 (hp.objs.size + 1) (I1.hok.fresh up1)
  have kk : ∀ b o, hp.get? b = some o → ((hp.push (PySem.W.kdv_tup us)).push (PySem.HandSPX.excO C hp.objs.size)).get? b = some o := fun b o z => Heap.get?_push_of_some _ (Heap.get?_push_of_some _ z)
  have made : ((hp.push (PySem.W.kdv_tup us)).push (PySem.HandSPX.excO C hp.objs.size)).get? (hp.objs.size + 1) = some (PySem.HandSPX.excO C hp.objs.size) := by heap_get
  have I2 : Inv X pins σ (upd H1 (hp.objs.size + 1) (exo (hp.objs.size + 1) C none)) ⟨(hp.push (PySem.W.kdv_tup us)).push (PySem.HandSPX.excO C hp.objs.size), g, dr, tk, os⟩ :=
    I1.laid (t' := tk) (a := hp.objs.size + 1) (o := exo (hp.objs.size + 1) C none) (h' := (hp.push (PySem.W.kdv_tup us)).push (PySem.HandSPX.excO C hp.objs.size)) kk up1 (exo_ok made)
  have r2 : Vals (V.ref (hp.objs.size + 1) :: (vs ++ dvs)) (Value.ref (hp.objs.size + 1) :: (us ++ ds)) := .cons rfl (r1.append hd)
  have many : (Value.ref (hp.objs.size + 1) :: us ++ ds).length = ps.length := by
    have z := r2.length
    rw [F1.len _ _ _ _ hq] at z
    exact z.symm
  have fits : us.length ≤ sizeLine := by
    rw [← Paired.length r1, sizeLine_eq]
    omega
  refine wpAny_call (PySem.HandSPX.call_own F (fun Y => PySem.W.excTail_contains Y bm tail) (I1.kIn _ _ hC) (PySem.W.looks_findIn I1.kIn iC) (fun self => PySem.W.bind_fn I1.kIn self tI) fits
    (codeAny_mono (F1.run _ X.stack _ _ ⟨Value.ref (hp.objs.size + 1) :: us, []⟩ (Value.ref (hp.objs.size + 1) :: (us ++ ds)) _ _ (fun _ _ _ => False) (hr.make C us []) (I2.env0.make C us []) (hb _ (Value.ref (hp.objs.size + 1) :: us) I2.kIn many) r2 hq) fun r s' z => ?_))
  cases r with
  | error er => exact hx pins σ _ _ er s' I2 z
  | ok fl =>
    cases fl with
    | ret u =>
      obtain ⟨v, H2, os2, bare2, un2, hok2, rv, rfl, d, fs, ea, ed, hd1, q2⟩ := z
      obtain ⟨h2, g2, d2, t2, os'⟩ := s'
      exact ⟨rv, mk_end (raises_own T.exC T.tyC) I1 up1 kk un2 hok2 os2 bare2 ea ed hd1 q2⟩
    | next => exact False.elim z
    | brk => exact False.elim z
    | cont => exact False.elim z
end
end XX

/-! a try with several clauses, each with a name or without one -/
namespace XX
open PySem PySem.Spec PyProof.Rows L2
/-- a clause: its class, the slot of its name, the reading of its suite -/
structure Clause where
  cls : Value
  slot : Option Nat
  ts : Addr → Value → Option Addr → TS
/-- behind a suite the clause's name is gone -/
def Ends.gone (D : Ends) (i : Nat) : Ends := { nx := fun σ H => D.nx (σ.set i none) H, rt := D.rt, bk := fun σ H => D.bk (σ.set i none) H, ct := fun σ H => D.ct (σ.set i none) H }
def Clause.go (c : Clause) (a : Addr) (cls : Value) (d : Option Addr) (D : Ends) (σ : L2.St) (H : Hp) : Prop := match c.slot with
  | none => c.ts a cls d D σ H
  | some i => c.ts a cls d (Ends.gone D i) (σ.set i (some (.ref a))) H
def wMix (K : PySem.W.Frag) (out : WX) (D : Ends) : List Clause → WX
  | [] => out
  | c :: r => fun cls d σ H => ∃ b, PySem.W.exmOne K cls c.cls = some b ∧ (b = true → ∀ a, H a = none → c.go a cls d D σ H) ∧ (b = false → wMix K out D r cls d σ H)
def NameOk (X : Cx) : Option Str → Option Nat → Prop
  | none, none => True
  | some n, some i => X.N[i]? = some n ∧ X.env.kindOf n = some .local
  | _, _ => False
inductive MixOk (X : Cx) : List ExceptHandler → List Clause → Prop
  | nil : MixOk X [] []
  | cons {x : Str} {nm : Option Str} {c : Clause} {st : Stmt} {suite : List Stmt} {np pp : Pos} {hds : List ExceptHandler} {l : List Clause} (names : Names X x c.cls) (ok : NameOk X nm c.slot)
      (body : ∀ (a : Addr) (oe : Obj) (cls : Value) (d : Option Addr) (pn : List (Addr × Obj)), Zc cls d oe → (∃ vs, oe.data = .fields vs) → PSs (X.suite a ((a, oe) :: pn)) (st :: suite) (c.ts a cls d)) (rest : MixOk X hds l) :
      MixOk X (.ExceptHandler (some (.Name x np)) nm (st :: suite) pp :: hds) (c :: l)
section
variable {X : Cx} {body : List Stmt} {h0 : ExceptHandler} {hds : List ExceptHandler} {l : List Clause} {pos : Pos} {tb : WX → TS} {out : WX}
theorem ps_try_mix (hs : X.stack = X.env :: X.outer) (hf : X.env.frame = some X.env.locals) (nodup : X.N.Nodup) (tk : Takes X out)
    (hb : ∀ (W : WX) (pn : List (Addr × Obj)) (xe : Value → Shared → Prop), Takes (X.tr pn xe) W → PassesOwn (model X.prog X.w) X.A X.env xe → PSs (X.tr pn xe) body (tb W))
    (hh : MixOk X (h0 :: hds) l) : PS X (.Try body (h0 :: hds) [] [] pos) (fun D σ H => tb (wMix X.K out D l) D σ H) := by
  refine ⟨fun pins s σ H D I h => ?_⟩
  have ok := I.ok
  have frames : X.A.frames = some (X.env :: X.outer) := by rw [ok.frames, hs]
  refine wpAny_Try_except ?_
  refine wpAny_mono ((hb (wMix X.K out D l) (X.pn ++ pins) (fun e s1 => wpAny (model X.prog X.w) X.A (noteFrame e X.env) (fun _ s2 => wpAny (model X.prog X.w) X.A (setFlight e none) (fun _ s3 =>
    wpAny (model X.prog X.w) X.A (handleBy e X.env (h0 :: hds)) (SP X pins D) X.xe s3) X.xe s2) X.xe s1) (fun u s' air => ?_) PassesOwn.looking).run [] s σ H D (I.toTry _) h) (fun f s1 sp => ?_) (fun e s1 he => he)
  · obtain ⟨a, B, sI, pins', σ', H', cls, d, rfl, J', nb, up, sky, na, os, ag, wish⟩ := air
    have J : Inv X pins σ' H' sI := J'.ofTry ok
    rw [hs] at sky
    show wpAny (model X.prog X.w) X.A (noteFrame (.ref a) X.env) _ _ _
    refine Sky.land Zc.steady frames hf sky fun h3 fl3 up3 => ?_
    have J3 : Inv X pins σ' H' { s' with heap := h3 } := J.landed nb fl3.1 (up.trans up3) os ag
    obtain ⟨oe3, vs3, at3, z3, d3⟩ := fl3.there
    have inAir : a ∉ frs (X.env :: X.outer) := fun hm => by
      obtain ⟨_, o', e', hnf⟩ := fl3.2.2.1.mem hm
      rw [at3] at e'
      cases e'
      exact hnf _ d3
    have nL : a ≠ X.env.locals := fun z => inAir (List.mem_filterMap.mpr ⟨X.env, List.mem_cons_self, by rw [hf, z]⟩)
    have nF : a ∉ X.fs := fun hm => by
      obtain ⟨e, he, q⟩ := List.mem_filterMap.mp hm
      exact inAir (List.mem_filterMap.mpr ⟨e, List.mem_cons_of_mem _ he, q⟩)
    have S3 := J3.suite at3 d3 na nL nF
    have clauses : ∀ {hds' : List ExceptHandler} {l' : List Clause}, MixOk X hds' l' → wMix X.K out D l' cls d σ' H' →
        wpAny (model X.prog X.w) X.A (handleBy (.ref a) X.env hds') (SP X pins D) X.xe { s' with heap := h3 } := by
      intro hds' l' hk
      induction hk with
      | nil =>
        intro wish'
        refine wpAny_handleBy_nil ?_
        obtain ⟨_, _, _, oe, vs, T, oT, ts', he, hz, hd, h1, hr⟩ := id fl3
        unfold PySem.passOn
        refine wpAny_bind (wpAny_field he hd h1 ?_)
        rw [if_neg (show ¬ ((Value.ref T == Value.none) = true) from by simp)]
        have on : wpAny (model X.prog X.w) X.A (setFlight (.ref a) X.env.frame) (fun _ s4 => wpAny (model X.prog X.w) X.A (throw (.ref a) : Sem Flow) (SP X pins D) X.xe s4) X.xe { s' with heap := h3 } := by
          rw [hf]
          refine HandSPX.setFlight_upZ fl3 fun h4 hh4 up4 => wpAny_throw (tk _ _ ?_)
          exact ⟨a, B, sI, pins, σ', H', cls, d, rfl, J, nb, (up.trans up3).trans up4, .inr (.inr (by rw [hs]; exact hh4)), na, os, ag, wish'⟩
        first
          | exact wpAny_bind (wpAny_pure (wpAny_bind on))
          | exact wpAny_bind on
      | @cons x nm c st suite np pp hds2 l2 names named bodyOk rest ih =>
        intro wish'
        obtain ⟨b, hb1, yes, no⟩ := wish'
        refine wpAny_handleBy_cons (codeAny_handlers_test ?_) (by intro q; cases q)
        have LT : PySem.W.Looks (model X.prog X.w) h3 (typeOf (.ref a)) cls := fun A Q E s k q => wpAny_typeOf_ref (k _ _ at3) (by rw [z3.1]; exact q)
        have LM := PySem.W.exm_one (M := model X.prog X.w) (J3.kIn) LT hb1
        have test : ∀ {Q : Value → Shared → Prop} {E : Value → Shared → Prop}, Q c.cls { s' with heap := h3 } → wpAny (model X.prog X.w) (X.A.mark (some (.ref a))) (eval (.Name x np) X.env) Q E { s' with heap := h3 } := fun {Q E} q => by
          obtain ⟨hg, hdbg, hm | ⟨hm, hv, hnn⟩⟩ := names
          · exact ld_glob (X := X.suite a ((a, oe3) :: (X.pn ++ pins))) S3 hg hm q hdbg
          · exact ld_blt (X := X.suite a ((a, oe3) :: (X.pn ++ pins))) S3 hg hm hv q hnn hdbg
        refine test (LM.here ?_)
        cases b with
        | false =>
          show wpAny _ X.A (handleBy (.ref a) X.env hds2) _ _ _
          exact ih (no rfl)
        | true =>
          have go := yes rfl a na
          obtain ⟨ccls, slot, cts⟩ := c
          cases nm with
          | none =>
            cases slot with
            | some i => exact named.elim
            | none =>
              refine codeAny_handlers_suite ?_
              refine HandSPX.lands_againZ fl3 fun h4 fl4 up4 => ?_
              have J4 : Inv X pins σ' H' { s' with heap := h4 } := J.landed nb fl4.1 ((up.trans up3).trans up4) os ag
              obtain ⟨oe4, vs4, at4, z4, d4⟩ := fl4.there
              refine wpAny_mono ((bodyOk a oe4 cls d (X.pn ++ pins) z4 ⟨_, d4⟩).run [] _ _ H' _ (J4.suite at4 d4 na nL nF) go) (fun f s6 sp => ?_) (fun _ _ z => False.elim z)
              cases f with
              | ret u =>
                obtain ⟨_, _, _, S6, r6, q6⟩ := sp
                exact ⟨_, _, _, S6.unsuite ok, r6, q6⟩
              | next =>
                obtain ⟨_, _, S6, q6⟩ := sp
                exact ⟨_, _, S6.unsuite ok, q6⟩
              | brk =>
                obtain ⟨_, _, S6, q6⟩ := sp
                exact ⟨_, _, S6.unsuite ok, q6⟩
              | cont =>
                obtain ⟨_, _, S6, q6⟩ := sp
                exact ⟨_, _, S6.unsuite ok, q6⟩
          | some n =>
            cases slot with
            | none => exact named.elim
            | some i =>
              obtain ⟨ni, nl⟩ := named
              refine codeAny_handlers_suite_as ?_
              refine HandSPX.lands_againZ fl3 fun h4 fl4 up4 => ?_
              have J4 : Inv X pins σ' H' { s' with heap := h4 } := J.landed nb fl4.1 ((up.trans up3).trans up4) os ag
              obtain ⟨oe4, vs4, at4, z4, d4⟩ := fl4.there
              refine store_ok (X := X.suite a ((a, oe4) :: (X.pn ++ pins))) (v := .ref a) (J4.suite at4 d4 na nL nF) nodup ni (.inl nl) rfl (fun s5 S5 => ?_) (.inr nl)
              refine wpAny_mono ((bodyOk a oe4 cls d (X.pn ++ pins) z4 ⟨_, d4⟩).run [] s5 _ H' _ S5 go) (fun f s6 sp => ?_) (fun _ _ z => False.elim z)
              have leave : ∀ {σ6 : L2.St} {H6 : Hp} {Q : Shared → Prop}, Inv (X.suite a ((a, oe4) :: (X.pn ++ pins))) [] σ6 H6 s6 → (∀ s7, Inv X pins (σ6.set i none) H6 s7 → Q s7) →
                  wpAny (model X.prog X.w) X.A (do bindName X.env n .none; unbindBehindTheSuite X.env n pp) (fun _ s7 => Q s7) X.xe s6 := fun {σ6 H6 Q} S6 hq => gone_ok (S6.unsuite ok) nodup ni nl hq
              cases f with
              | ret u =>
                obtain ⟨_, _, _, S6, r6, q6⟩ := sp
                exact leave S6 fun s7 J7 => ⟨_, _, _, J7, r6, q6⟩
              | next =>
                obtain ⟨_, _, S6, q6⟩ := sp
                exact leave S6 fun s7 J7 => ⟨_, _, J7, q6⟩
              | brk =>
                obtain ⟨_, _, S6, q6⟩ := sp
                exact leave S6 fun s7 J7 => ⟨_, _, J7, q6⟩
              | cont =>
                obtain ⟨_, _, S6, q6⟩ := sp
                exact leave S6 fun s7 J7 => ⟨_, _, J7, q6⟩
    exact clauses hh wish
  · cases f with
    | ret u =>
      obtain ⟨v, σ', H', J', r, q⟩ := sp
      exact ⟨v, σ', H', J'.ofTry ok, r, q⟩
    | next =>
      obtain ⟨σ', H', J', q⟩ := sp
      exact wpAny_execs_nil ⟨σ', H', J'.ofTry ok, q⟩
    | brk =>
      obtain ⟨σ', H', J', q⟩ := sp
      exact ⟨σ', H', J'.ofTry ok, q⟩
    | cont =>
      obtain ⟨σ', H', J', q⟩ := sp
      exact ⟨σ', H', J'.ofTry ok, q⟩
end
end XX

/-! what a list of tuples tells: the tuples above it; the least ones of lists that tell the same are the same -/
namespace M7
/-- above one of them -/
abbrev Up (L : List (List Nat)) (t : List Nat) : Prop := ∃ k ∈ L, fitB k t = true
abbrev Len (d : Nat) (L : List (List Nat)) : Prop := ∀ t ∈ L, t.length = d
theorem min_true {A : List (List Nat)} {p : List Nat} : minB A p = true ↔ ∀ q ∈ A, fitB q p = true → q = p := by
  constructor
  · intro h q hq hf
    cases e : decide (q = p) with
    | true => exact of_decide_eq_true e
    | false =>
      have := min_false.mpr ⟨q, hq, of_decide_eq_false e, hf⟩
      rw [h] at this
      cases this
  · intro h
    cases e : minB A p with
    | true => rfl
    | false =>
      obtain ⟨q, h1, h2, h3⟩ := min_false.mp e
      exact absurd (h q h1 h3) h2
theorem mem_least {L : List (List Nat)} {x : List Nat} : x ∈ leastN L ↔ x ∈ L ∧ ∀ q ∈ L, fitB q x = true → q = x := by
  unfold leastN
  rw [List.mem_filter, mem_canon, min_true]
  constructor
  · rintro ⟨h1, h2⟩
    exact ⟨h1, fun q hq => h2 q (mem_canon.mpr hq)⟩
  · rintro ⟨h1, h2⟩
    exact ⟨h1, fun q hq => h2 q (mem_canon.mp hq)⟩
theorem asc_least {d : Nat} {L : List (List Nat)} (h : Len d L) : Asc (leastN L) := (asc_canon h).filter _
theorem len_least {d : Nat} {L : List (List Nat)} (h : Len d L) : Len d (leastN L) := fun t ht => h t (mem_least.mp ht).1
theorem up_least {d : Nat} {L : List (List Nat)} (h : Len d L) {t : List Nat} : Up (leastN L) t ↔ Up L t := by
  constructor
  · rintro ⟨k, hk, hf⟩
    exact ⟨k, (mem_least.mp hk).1, hf⟩
  · rintro ⟨k, hk, hf⟩
    have hd : ∀ y ∈ canonN L, y.length = d := fun y hy => h y (mem_canon.mp hy)
    obtain ⟨m, h1, h2, h3⟩ := below hd k.sum k (Nat.le_refl _) (mem_canon.mpr hk)
    exact ⟨m, List.mem_filter.mpr ⟨h1, h2⟩, fit_trans (by rw [h k hk, hd m h1]) h3 hf⟩
theorem least_sub {d : Nat} {L M : List (List Nat)} (hL : Len d L) (hM : Len d M) (h : ∀ t, t.length = d → (Up L t ↔ Up M t)) {x : List Nat} (hx : x ∈ leastN L) : x ∈ leastN M := by
  obtain ⟨h1, h2⟩ := mem_least.mp hx
  have hxd := hL x h1
  -- whatever of M lies below x is x
  have key : ∀ m ∈ M, fitB m x = true → m = x := fun m hm hf => by
    obtain ⟨l, hl, hlm⟩ := (h m (hM m hm)).mpr ⟨m, hm, fit_refl m⟩
    have e := h2 l hl (fit_trans (by rw [hM m hm, hL l hl]) hlm hf)
    subst e
    exact (fit_anti (by rw [hM m hm, hxd]) hlm hf).symm
  obtain ⟨m, hm, hf⟩ := (h x hxd).mp ⟨x, h1, fit_refl x⟩
  have e := key m hm hf
  subst e
  exact mem_least.mpr ⟨hm, key⟩
/-- lists that tell the same have the same least ones -/
theorem least_ext {d : Nat} {L M : List (List Nat)} (hL : Len d L) (hM : Len d M) (h : ∀ t, t.length = d → (Up L t ↔ Up M t)) : leastN L = leastN M :=
  asc_unique (asc_least hL) (asc_least hM) fun x => ⟨least_sub hL hM h, least_sub hM hL fun t ht => (h t ht).symm⟩
theorem up_app {L M : List (List Nat)} {t : List Nat} : Up (L ++ M) t ↔ Up L t ∨ Up M t := by
  constructor
  · rintro ⟨k, hk, hf⟩
    rcases List.mem_append.mp hk with h | h
    · exact .inl ⟨k, h, hf⟩
    · exact .inr ⟨k, h, hf⟩
  · rintro (⟨k, hk, hf⟩ | ⟨k, hk, hf⟩)
    · exact ⟨k, List.mem_append_left _ hk, hf⟩
    · exact ⟨k, List.mem_append_right _ hk, hf⟩
/-- each of the one with each of the other -/
abbrev eachF (f : Nat → Nat → Nat) (L M : List (List Nat)) : List (List Nat) := L.flatMap fun t => M.map fun u => List.zipWith f t u
theorem up_each {f : Nat → Nat → Nat} {L M : List (List Nat)} {t : List Nat} : Up (eachF f L M) t ↔ ∃ a ∈ L, ∃ b ∈ M, fitB (List.zipWith f a b) t = true := by
  constructor
  · rintro ⟨k, hk, hf⟩
    obtain ⟨a, ha, h2⟩ := List.mem_flatMap.mp hk
    obtain ⟨b, hb, rfl⟩ := List.mem_map.mp h2
    exact ⟨a, ha, b, hb, hf⟩
  · rintro ⟨a, ha, b, hb, hf⟩
    exact ⟨_, List.mem_flatMap.mpr ⟨a, ha, List.mem_map.mpr ⟨b, hb, rfl⟩⟩, hf⟩
theorem len_each {f : Nat → Nat → Nat} {d : Nat} {L M : List (List Nat)} (hL : Len d L) (hM : Len d M) : Len d (eachF f L M) := fun t ht => by
  obtain ⟨a, ha, h2⟩ := List.mem_flatMap.mp ht
  obtain ⟨b, hb, rfl⟩ := List.mem_map.mp h2
  rw [List.length_zipWith, hL a ha, hM b hb, Nat.min_self]
/-- f grows in both places -/
structure Grows (f : Nat → Nat → Nat) : Prop where
  mono : ∀ a b c e, a ≤ c → b ≤ e → f a b ≤ f c e
theorem grows_add : Grows (· + ·) := ⟨fun _ _ _ _ h k => Nat.add_le_add h k⟩
theorem grows_max : Grows max := ⟨fun a b c e h k => by omega⟩
theorem zip_fit {f : Nat → Nat → Nat} (g : Grows f) : ∀ {a b c e : List Nat}, c.length = a.length → b.length = a.length → e.length = a.length → fitB a c = true → fitB b e = true → fitB (List.zipWith f a b) (List.zipWith f c e) = true
  | [], _, _, _, _, _, _, _, _ => by simp [fitB]
  | _ :: _, [], _, _, _, h, _, _, _ => by simp at h
  | _ :: _, _ :: _, [], _, h, _, _, _, _ => by simp at h
  | _ :: _, _ :: _, _ :: _, [], _, _, h, _, _ => by simp at h
  | x :: a, y :: b, z :: c, v :: e, h1, h2, h3, k1, k2 => by
    rw [fit_cons] at k1 k2
    show fitB (f x y :: List.zipWith f a b) (f z v :: List.zipWith f c e) = true
    rw [fit_cons]
    exact ⟨g.mono _ _ _ _ k1.1 k2.1, zip_fit g (by simpa using h1) (by simpa using h2) (by simpa using h3) k1.2 k2.2⟩
/-- least ones may be taken before or behind -/
theorem each_least {f : Nat → Nat → Nat} (g : Grows f) {d : Nat} {L M : List (List Nat)} (hL : Len d L) (hM : Len d M) : leastN (eachF f (leastN L) (leastN M)) = leastN (eachF f L M) := by
  refine least_ext (len_each (len_least hL) (len_least hM)) (len_each hL hM) fun t ht => ?_
  rw [up_each, up_each]
  constructor
  · rintro ⟨a, ha, b, hb, hf⟩
    exact ⟨a, (mem_least.mp ha).1, b, (mem_least.mp hb).1, hf⟩
  · rintro ⟨a, ha, b, hb, hf⟩
    obtain ⟨a', ha', fa⟩ := (up_least hL).mpr ⟨a, ha, fit_refl a⟩
    obtain ⟨b', hb', fb⟩ := (up_least hM).mpr ⟨b, hb, fit_refl b⟩
    have la := len_least hL a' ha'
    have lb := len_least hM b' hb'
    have l1 := hL a ha
    have l2 := hM b hb
    exact ⟨a', ha', b', hb', fit_trans (by rw [List.length_zipWith, List.length_zipWith, la, lb, l1, l2]) (zip_fit g (by rw [la, l1]) (by rw [la, lb]) (by rw [la, l2]) fa fb) hf⟩
theorem app_least {d : Nat} {L M : List (List Nat)} (hL : Len d L) (hM : Len d M) : leastN (leastN L ++ leastN M) = leastN (L ++ M) := by
  refine least_ext (d := d) (fun t ht => ?_) (fun t ht => ?_) fun t ht => ?_
  · rcases List.mem_append.mp ht with h | h
    · exact len_least hL t h
    · exact len_least hM t h
  · rcases List.mem_append.mp ht with h | h
    · exact hL t h
    · exact hM t h
  · rw [up_app, up_app, up_least hL, up_least hM]
theorem least_least {d : Nat} {L : List (List Nat)} (hL : Len d L) : leastN (leastN L) = leastN L := least_ext (len_least hL) hL fun t _ => up_least hL
end M7

/-! sums, meets and products of what lists tell: laws of arithmetic -/
namespace M7
theorem zip_comm {f : Nat → Nat → Nat} (h : ∀ a b, f a b = f b a) : ∀ a b : List Nat, List.zipWith f a b = List.zipWith f b a
  | [], [] => rfl
  | [], _ :: _ => rfl
  | _ :: _, [] => rfl
  | x :: a, y :: b => by
    show f x y :: List.zipWith f a b = f y x :: List.zipWith f b a
    rw [h x y, zip_comm h a b]
theorem zip_assoc {f : Nat → Nat → Nat} (h : ∀ a b c, f (f a b) c = f a (f b c)) : ∀ a b c : List Nat, List.zipWith f (List.zipWith f a b) c = List.zipWith f a (List.zipWith f b c)
  | [], _, _ => rfl
  | _ :: _, [], _ => rfl
  | _ :: _, _ :: _, [] => rfl
  | x :: a, y :: b, z :: c => by
    show f (f x y) z :: List.zipWith f (List.zipWith f a b) c = f x (f y z) :: List.zipWith f a (List.zipWith f b c)
    rw [h x y z, zip_assoc h a b c]
theorem each_comm {f : Nat → Nat → Nat} (h : ∀ a b, f a b = f b a) {d : Nat} {L M : List (List Nat)} (hL : Len d L) (hM : Len d M) : leastN (eachF f L M) = leastN (eachF f M L) := by
  refine least_ext (len_each hL hM) (len_each hM hL) fun t _ => ?_
  rw [up_each, up_each]
  constructor
  · rintro ⟨a, ha, b, hb, hf⟩
    exact ⟨b, hb, a, ha, by rw [zip_comm h b a]; exact hf⟩
  · rintro ⟨a, ha, b, hb, hf⟩
    exact ⟨b, hb, a, ha, by rw [zip_comm h b a]; exact hf⟩
theorem each_assoc {f : Nat → Nat → Nat} (h : ∀ a b c, f (f a b) c = f a (f b c)) {d : Nat} {L M N : List (List Nat)} (hL : Len d L) (hM : Len d M) (hN : Len d N) : leastN (eachF f (eachF f L M) N) = leastN (eachF f L (eachF f M N)) := by
  refine least_ext (len_each (len_each hL hM) hN) (len_each hL (len_each hM hN)) fun t _ => ?_
  rw [up_each, up_each]
  constructor
  · rintro ⟨p, hp, c, hc, hf⟩
    obtain ⟨a, ha, h2⟩ := List.mem_flatMap.mp hp
    obtain ⟨b, hb, rfl⟩ := List.mem_map.mp h2
    exact ⟨a, ha, _, List.mem_flatMap.mpr ⟨b, hb, List.mem_map.mpr ⟨c, hc, rfl⟩⟩, by rw [← zip_assoc h]; exact hf⟩
  · rintro ⟨a, ha, p, hp, hf⟩
    obtain ⟨b, hb, h2⟩ := List.mem_flatMap.mp hp
    obtain ⟨c, hc, rfl⟩ := List.mem_map.mp h2
    exact ⟨_, List.mem_flatMap.mpr ⟨a, ha, List.mem_map.mpr ⟨b, hb, rfl⟩⟩, c, hc, by rw [zip_assoc h]; exact hf⟩
theorem each_dist {f : Nat → Nat → Nat} {d : Nat} {L M N : List (List Nat)} (hL : Len d L) (hM : Len d M) (hN : Len d N) : leastN (eachF f L (M ++ N)) = leastN (eachF f L M ++ eachF f L N) := by
  have hMN : Len d (M ++ N) := fun t ht => (List.mem_append.mp ht).elim (hM t) (hN t)
  refine least_ext (len_each hL hMN) (fun t ht => (List.mem_append.mp ht).elim (len_each hL hM t) (len_each hL hN t)) fun t _ => ?_
  rw [up_app, up_each, up_each, up_each]
  constructor
  · rintro ⟨a, ha, b, hb, hf⟩
    rcases List.mem_append.mp hb with hb | hb
    · exact .inl ⟨a, ha, b, hb, hf⟩
    · exact .inr ⟨a, ha, b, hb, hf⟩
  · rintro (⟨a, ha, b, hb, hf⟩ | ⟨a, ha, b, hb, hf⟩)
    · exact ⟨a, ha, b, List.mem_append_left _ hb, hf⟩
    · exact ⟨a, ha, b, List.mem_append_right _ hb, hf⟩
theorem app_comm {d : Nat} {L M : List (List Nat)} (hL : Len d L) (hM : Len d M) : leastN (L ++ M) = leastN (M ++ L) :=
  least_ext (fun t ht => (List.mem_append.mp ht).elim (hL t) (hM t)) (fun t ht => (List.mem_append.mp ht).elim (hM t) (hL t)) fun t _ => by
    rw [up_app, up_app]
    exact Or.comm
theorem app_self {d : Nat} {L : List (List Nat)} (hL : Len d L) : leastN (L ++ L) = leastN L :=
  least_ext (fun t ht => (List.mem_append.mp ht).elim (hL t) (hL t)) hL fun t _ => by
    rw [up_app]
    exact or_self_iff
/-- above both -/
theorem max_fit : ∀ {a b t : List Nat}, b.length = a.length → t.length = a.length → (fitB (List.zipWith max a b) t = true ↔ fitB a t = true ∧ fitB b t = true)
  | [], [], [], _, _ => by simp [fitB]
  | [], _ :: _, _, h, _ => by simp at h
  | [], [], _ :: _, _, h => by simp at h
  | _ :: _, [], _, h, _ => by simp at h
  | _ :: _, _ :: _, [], _, h => by simp at h
  | x :: a, y :: b, z :: t, h1, h2 => by
    show fitB (max x y :: List.zipWith max a b) (z :: t) = true ↔ _
    rw [fit_cons, fit_cons, fit_cons, max_fit (by simpa using h1) (by simpa using h2)]
    constructor
    · rintro ⟨h, h3, h4⟩
      exact ⟨⟨by omega, h3⟩, by omega, h4⟩
    · rintro ⟨⟨h3, h4⟩, h5, h6⟩
      exact ⟨by omega, h4, h6⟩
/-- what a meet tells is what both tell -/
theorem up_meet {d : Nat} {L M : List (List Nat)} (hL : Len d L) (hM : Len d M) {t : List Nat} (ht : t.length = d) : Up (eachF max L M) t ↔ Up L t ∧ Up M t := by
  rw [up_each]
  constructor
  · rintro ⟨a, ha, b, hb, hf⟩
    obtain ⟨h1, h2⟩ := (max_fit (by rw [hM b hb, hL a ha]) (by rw [ht, hL a ha])).mp hf
    exact ⟨⟨a, ha, h1⟩, b, hb, h2⟩
  · rintro ⟨⟨a, ha, h1⟩, b, hb, h2⟩
    exact ⟨a, ha, b, hb, (max_fit (by rw [hM b hb, hL a ha]) (by rw [ht, hL a ha])).mpr ⟨h1, h2⟩⟩
end M7

/-! lots whose members are least: few, low, of one length; the laws in that form -/
namespace M7
structure Lt (d n m : Nat) (L : List (List Nat)) : Prop where
  len : Len d L
  low : ∀ t ∈ L, ∀ e ∈ t, e ≤ m
  few : L.length ≤ n
  own : leastN L = L
variable {d n m k j : Nat} {L M N : List (List Nat)} {f : Nat → Nat → Nat}
theorem least_short (L : List (List Nat)) : (leastN L).length ≤ L.length := Nat.le_trans (List.length_filter_le _ _) (canon_len L)
theorem Lt.of (h1 : Len d L) (h2 : ∀ t ∈ L, ∀ e ∈ t, e ≤ m) (h3 : L.length ≤ n) : Lt d n m (leastN L) := ⟨len_least h1, fun t ht => h2 t (mem_least.mp ht).1, Nat.le_trans (least_short L) h3, least_least h1⟩
theorem len_app (a : Len d L) (b : Len d M) : Len d (L ++ M) := fun t ht => (List.mem_append.mp ht).elim (a t) (b t)
theorem low_app (a : ∀ t ∈ L, ∀ e ∈ t, e ≤ m) (b : ∀ t ∈ M, ∀ e ∈ t, e ≤ m) : ∀ t ∈ L ++ M, ∀ e ∈ t, e ≤ m := fun t ht => (List.mem_append.mp ht).elim (a t) (b t)
theorem Lt.add (a : Lt d n m L) (b : Lt d k m M) : Lt d (n + k) m (leastN (L ++ M)) := .of (len_app a.len b.len) (low_app a.low b.low) (by
  rw [List.length_append]
  exact Nat.add_le_add a.few b.few)
structure Op (f : Nat → Nat → Nat) : Prop where
  grows : Grows f
  comm : ∀ a b, f a b = f b a
  assoc : ∀ a b c, f (f a b) c = f a (f b c)
  low : ∀ a b, f a b ≤ a + b
  zero : ∀ a, f a 0 = a
theorem op_add : Op (· + ·) := ⟨grows_add, Nat.add_comm, Nat.add_assoc, fun _ _ => Nat.le_refl _, fun _ => rfl⟩
theorem op_max : Op max := ⟨grows_max, Nat.max_comm, Nat.max_assoc, fun a b => by omega, fun a => by omega⟩
theorem zip_low (hf : Op f) : ∀ {t u : List Nat}, (∀ e ∈ t, e ≤ m) → (∀ e ∈ u, e ≤ k) → ∀ e ∈ List.zipWith f t u, e ≤ m + k
  | [], _, _, _, e, h => by simp at h
  | _ :: _, [], _, _, e, h => by simp at h
  | a :: t, b :: u, h1, h2, e, h => by
    rcases List.mem_cons.mp (show e ∈ f a b :: List.zipWith f t u from h) with h | h
    · have := hf.low a b
      have := h1 a List.mem_cons_self
      have := h2 b List.mem_cons_self
      omega
    · exact zip_low hf (fun e h => h1 e (List.mem_cons_of_mem _ h)) (fun e h => h2 e (List.mem_cons_of_mem _ h)) e h
theorem low_each (hf : Op f) (a : ∀ t ∈ L, ∀ e ∈ t, e ≤ m) (b : ∀ t ∈ M, ∀ e ∈ t, e ≤ k) : ∀ t ∈ eachF f L M, ∀ e ∈ t, e ≤ m + k := fun t ht => by
  obtain ⟨p, hp, h2⟩ := List.mem_flatMap.mp ht
  obtain ⟨u, hu, rfl⟩ := List.mem_map.mp h2
  exact zip_low hf (a p hp) (b u hu)
theorem count_each : ∀ L : List (List Nat), (eachF f L M).length = L.length * M.length
  | [] => by simp [eachF]
  | t :: L => by
    have := count_each L
    simp only [eachF] at this ⊢
    rw [List.flatMap_cons, List.length_append, this, List.length_map, List.length_cons, Nat.succ_mul, Nat.add_comm]
theorem Lt.each (hf : Op f) (a : Lt d n m L) (b : Lt d k j M) : Lt d (n * k) (m + j) (leastN (eachF f L M)) := .of (len_each a.len b.len) (low_each hf a.low b.low) (by
  rw [count_each]
  exact Nat.mul_le_mul a.few b.few)
theorem Lt.more {n' m' : Nat} (a : Lt d n m L) (h : n ≤ n') (h2 : m ≤ m') : Lt d n' m' L := ⟨a.len, fun t ht e he => Nat.le_trans (a.low t ht e he) h2, Nat.le_trans a.few h, a.own⟩
/-! ### the laws -/
theorem l_add_assoc {n1 n2 n3 m1 m2 m3 : Nat} (a : Lt d n1 m1 L) (b : Lt d n2 m2 M) (c : Lt d n3 m3 N) : leastN (leastN (L ++ M) ++ N) = leastN (L ++ leastN (M ++ N)) := by
  have h1 := app_least (len_app a.len b.len) c.len
  have h2 := app_least a.len (len_app b.len c.len)
  rw [c.own] at h1
  rw [a.own] at h2
  rw [h1, h2, List.append_assoc]
theorem l_each_assoc {n1 n2 n3 m1 m2 m3 : Nat} (hf : Op f) (a : Lt d n1 m1 L) (b : Lt d n2 m2 M) (c : Lt d n3 m3 N) : leastN (eachF f (leastN (eachF f L M)) N) = leastN (eachF f L (leastN (eachF f M N))) := by
  have h1 := each_least hf.grows (len_each (f := f) a.len b.len) c.len
  have h2 := each_least hf.grows a.len (len_each (f := f) b.len c.len)
  rw [c.own] at h1
  rw [a.own] at h2
  rw [h1, h2, each_assoc hf.assoc a.len b.len c.len]
theorem l_dist {n1 n2 n3 m1 m2 m3 : Nat} (hf : Op f) (a : Lt d n1 m1 L) (b : Lt d n2 m2 M) (c : Lt d n3 m3 N) : leastN (eachF f L (leastN (M ++ N))) = leastN (leastN (eachF f L M) ++ leastN (eachF f L N)) := by
  have h1 := each_least hf.grows a.len (len_app b.len c.len)
  rw [a.own] at h1
  rw [h1, app_least (len_each a.len b.len) (len_each a.len c.len), each_dist a.len b.len c.len]
theorem l_none {n1 m1 : Nat} (a : Lt d n1 m1 L) : leastN (L ++ leastN []) = L := by
  show leastN (L ++ []) = L
  rw [List.append_nil]
  exact a.own
abbrev z0 (d : Nat) : List Nat := List.replicate d 0
theorem least_z (d : Nat) : leastN [z0 d] = [z0 d] := by
  have e : minB [z0 d] (z0 d) = true := min_true.mpr fun q hq _ => List.mem_singleton.mp hq
  show List.filter (minB [z0 d]) [z0 d] = _
  rw [List.filter_cons_of_pos e]
  rfl
theorem zip_z (hf : Op f) : ∀ t : List Nat, List.zipWith f t (z0 t.length) = t
  | [] => rfl
  | a :: t => by
    show f a 0 :: List.zipWith f t (z0 t.length) = _
    rw [hf.zero, zip_z hf t]
theorem each_z (hf : Op f) : ∀ {L : List (List Nat)}, Len d L → eachF f L [z0 d] = L
  | [], _ => rfl
  | t :: L, h => by
    show List.zipWith f t (z0 d) :: eachF f L [z0 d] = _
    rw [each_z hf fun t ht => h t (List.mem_cons_of_mem _ ht)]
    have e := h t List.mem_cons_self
    subst e
    rw [zip_z hf]
theorem l_every {n1 m1 : Nat} (hf : Op f) (a : Lt d n1 m1 L) : leastN (eachF f L (leastN [z0 d])) = L := by
  rw [least_z, each_z hf a.len]
  exact a.own
theorem fit_z : ∀ t : List Nat, fitB (z0 t.length) t = true
  | [] => rfl
  | a :: t => fit_cons.mpr ⟨Nat.zero_le _, fit_z t⟩
theorem len_z (d : Nat) : Len d [z0 d] := fun t ht => by
  rw [List.mem_singleton.mp ht]
  exact List.length_replicate
theorem l_all {n1 m1 : Nat} (a : Lt d n1 m1 L) : leastN (L ++ leastN [z0 d]) = leastN [z0 d] := by
  rw [least_z]
  refine (least_ext (len_app a.len (len_z d)) (len_z d) fun t ht => ?_).trans (least_z d)
  have h : Up [z0 d] t := ⟨z0 d, List.mem_singleton.mpr rfl, by rw [← ht]; exact fit_z t⟩
  rw [up_app]
  exact ⟨fun _ => h, fun _ => .inr h⟩
theorem each_nil : ∀ L : List (List Nat), eachF f L [] = []
  | [] => rfl
  | _ :: L => each_nil L
theorem l_nothing (L : List (List Nat)) : leastN (eachF f L (leastN [])) = leastN [] := by
  show leastN (eachF f L []) = _
  rw [each_nil]
theorem l_twice {n1 m1 : Nat} (a : Lt d n1 m1 L) : leastN (L ++ L) = L := by
  rw [app_self a.len]
  exact a.own
theorem l_self {n1 m1 : Nat} (a : Lt d n1 m1 L) : leastN (eachF max L L) = L := by
  rw [show leastN (eachF max L L) = leastN L from least_ext (len_each a.len a.len) a.len fun t ht => by rw [up_meet a.len a.len ht, and_self]]
  exact a.own
/-! ### members -/
abbrev inB (L : List (List Nat)) (t : List Nat) : Bool := L.any fun k => fitB k t
theorem in_up {L : List (List Nat)} {t : List Nat} : inB L t = true ↔ Up L t := by
  rw [inB, List.any_eq_true]
theorem in_add (hL : Len d L) (hM : Len d M) (t : List Nat) : inB (leastN (L ++ M)) t = (inB L t || inB M t) := by
  rw [Bool.eq_iff_iff, Bool.or_eq_true, in_up, in_up, in_up, up_least (len_app hL hM), up_app]
theorem in_meet (hL : Len d L) (hM : Len d M) {t : List Nat} (ht : t.length = d) : inB (leastN (eachF max L M)) t = (inB L t && inB M t) := by
  rw [Bool.eq_iff_iff, Bool.and_eq_true, in_up, in_up, in_up, up_least (len_each hL hM), up_meet hL hM ht]
theorem fit_left : ∀ {a b : List Nat}, b.length = a.length → fitB a (List.zipWith (· + ·) a b) = true
  | [], _, _ => by simp [fitB]
  | _ :: _, [], h => by simp at h
  | x :: a, y :: b, h => fit_cons.mpr ⟨Nat.le_add_right _ _, fit_left (by simpa using h)⟩
theorem fit_right : ∀ {a b : List Nat}, b.length = a.length → fitB b (List.zipWith (· + ·) a b) = true
  | [], [], _ => rfl
  | [], _ :: _, h => by simp at h
  | _ :: _, [], h => by simp at h
  | x :: a, y :: b, h => fit_cons.mpr ⟨Nat.le_add_left _ _, fit_right (by simpa using h)⟩
theorem in_made (hL : Len d L) (hM : Len d M) {t : List Nat} (ht : t ∈ leastN (eachF (· + ·) L M)) : inB (leastN (eachF max L M)) t = true := by
  have h := (mem_least.mp ht).1
  have hl := len_each hL hM t h
  rw [in_meet hL hM hl, Bool.and_eq_true, in_up, in_up]
  obtain ⟨p, hp, h2⟩ := List.mem_flatMap.mp h
  obtain ⟨u, hu, rfl⟩ := List.mem_map.mp h2
  exact ⟨⟨p, hp, fit_left (by rw [hL p hp, hM u hu])⟩, u, hu, fit_right (by rw [hL p hp, hM u hu])⟩
end M7

/-! quotients and powers of lots by their least members -/
namespace M8
open M7
abbrev addN (a b : List Nat) : List Nat := List.zipWith (· + ·) a b
abbrev subN (a b : List Nat) : List Nat := List.zipWith (· - ·) a b
/-- the members without t -/
abbrev qN (L : List (List Nat)) (t : List Nat) : List (List Nat) := L.map fun u => subN u t
theorem fit_sub : ∀ {u t s : List Nat}, t.length = u.length → s.length = u.length → (fitB (subN u t) s = true ↔ fitB u (addN s t) = true)
  | [], _, _, _, _ => by simp [fitB, subN]
  | a :: u, [], _, h, _ => by simp at h
  | a :: u, _ :: _, [], _, h => by simp at h
  | a :: u, b :: t, c :: s, h1, h2 => by
    have ih := fit_sub (u := u) (t := t) (s := s) (by simpa using h1) (by simpa using h2)
    show (decide (a - b ≤ c) && fitB (subN u t) s) = true ↔ (decide (a ≤ c + b) && fitB u (addN s t)) = true
    rw [Bool.and_eq_true, Bool.and_eq_true, ih, decide_eq_true_iff, decide_eq_true_iff]
    exact and_congr_left fun _ => by omega
variable {d : Nat} {L M : List (List Nat)} {t u s : List Nat}
theorem len_add (ht : t.length = d) (hu : u.length = d) : (addN t u).length = d := by rw [List.length_zipWith]; omega
theorem len_sub (ht : t.length = d) (hu : u.length = d) : (subN t u).length = d := by rw [List.length_zipWith]; omega
theorem len_q (hL : Len d L) (ht : t.length = d) : Len d (qN L t) := fun v hv => by
  obtain ⟨u, hu, rfl⟩ := List.mem_map.mp hv
  exact len_sub (hL u hu) ht
theorem up_q (hL : Len d L) (ht : t.length = d) (hs : s.length = d) : Up (qN L t) s ↔ Up L (addN s t) := by
  constructor
  · rintro ⟨k, hk, hf⟩
    obtain ⟨u, hu, rfl⟩ := List.mem_map.mp hk
    exact ⟨u, hu, (fit_sub (by rw [ht, hL u hu]) (by rw [hs, hL u hu])).mp hf⟩
  · rintro ⟨u, hu, hf⟩
    exact ⟨_, List.mem_map_of_mem (f := fun u => subN u t) hu, (fit_sub (by rw [ht, hL u hu]) (by rw [hs, hL u hu])).mpr hf⟩
theorem add_assoc3 : addN (addN s u) t = addN s (addN t u) := by
  exact (zip_assoc (f := (· + ·)) Nat.add_assoc s u t).trans (congrArg (addN s) (zip_comm Nat.add_comm u t))
theorem q_q (hL : Len d L) (ht : t.length = d) (hu : u.length = d) : leastN (qN (leastN (qN L t)) u) = leastN (qN L (addN t u)) := by
  have h1 := len_least (len_q hL ht)
  refine least_ext (len_q h1 hu) (len_q hL (len_add ht hu)) fun s hs => ?_
  rw [up_q h1 hu hs, up_least (len_q hL ht), up_q hL ht (len_add hs hu), up_q hL (len_add ht hu) hs, add_assoc3]
theorem q_least (hL : Len d L) (ht : t.length = d) : leastN (qN (leastN L) t) = leastN (qN L t) :=
  least_ext (len_q (len_least hL) ht) (len_q hL ht) fun s hs => by rw [up_q (len_least hL) ht hs, up_q hL ht hs, up_least hL]
theorem q_add (hL : Len d L) (hM : Len d M) (ht : t.length = d) : leastN (qN (leastN (L ++ M)) t) = leastN (leastN (qN L t) ++ leastN (qN M t)) := by
  rw [q_least (len_app hL hM) ht, app_least (len_q hL ht) (len_q hM ht)]
  exact least_ext (len_q (len_app hL hM) ht) (len_app (len_q hL ht) (len_q hM ht)) fun s hs => by rw [up_q (len_app hL hM) ht hs, up_app, up_app, up_q hL ht hs, up_q hM ht hs]
theorem q_meet (hL : Len d L) (hM : Len d M) (ht : t.length = d) : leastN (qN (leastN (eachF max L M)) t) = leastN (eachF max (leastN (qN L t)) (leastN (qN M t))) := by
  have h3 := len_each (f := max) hL hM
  rw [q_least h3 ht, each_least grows_max (len_q hL ht) (len_q hM ht)]
  exact least_ext (len_q h3 ht) (len_each (len_q hL ht) (len_q hM ht)) fun s hs => by
    rw [up_q h3 ht hs, up_meet hL hM (len_add hs ht), up_meet (len_q hL ht) (len_q hM ht) hs, up_q hL ht hs, up_q hM ht hs]
theorem z_len : (z0 d).length = d := List.length_replicate
theorem z_addN : ∀ t : List Nat, addN (z0 t.length) t = t
  | [] => rfl
  | a :: t => by
    show (0 + a) :: addN (z0 t.length) t = a :: t
    rw [z_addN t, Nat.zero_add]
theorem in_q (hL : Len d L) (ht : t.length = d) (hs : s.length = d) : inB (leastN (qN L t)) s = inB L (addN s t) := by
  rw [Bool.eq_iff_iff, in_up, in_up, up_least (len_q hL ht), up_q hL ht hs]
theorem is_all (hL : Len d L) : leastN L = [z0 d] ↔ Up L (z0 d) := by
  constructor
  · intro h
    have : z0 d ∈ leastN L := by rw [h]; exact List.mem_singleton.mpr rfl
    exact ⟨_, (mem_least.mp this).1, fit_refl _⟩
  · rintro ⟨k, hk, hf⟩
    rw [← least_z d]
    refine least_ext hL (len_z d) fun s hs => ⟨fun _ => ⟨_, List.mem_singleton.mpr rfl, by rw [← hs]; exact fit_z s⟩, fun _ => ⟨k, hk, ?_⟩⟩
    exact fit_trans (u := z0 d) (by rw [z_len, hL k hk]) hf (by rw [← hs]; exact fit_z s)
theorem all_q (hL : Len d L) (ht : t.length = d) : decide (leastN (qN L t) = [z0 d]) = inB L t := by
  rw [Bool.eq_iff_iff, decide_eq_true_iff, is_all (len_q hL ht), in_up, up_q hL ht z_len]
  rw [show addN (z0 d) t = t by rw [← ht]; exact z_addN t]
theorem in_own (hL : Len d L) (ht : t.length = d) (hs : s ∈ L) : inB (leastN (qN L t)) s = true := by
  rw [in_q hL ht (hL s hs), in_up]
  exact ⟨s, hs, fit_left (by rw [ht, hL s hs])⟩
/-! ### powers -/
theorem least_canon (hL : Len d L) : leastN (canonN L) = leastN L :=
  least_ext (fun t ht => hL t (mem_canon.mp ht)) hL fun s _ => ⟨fun ⟨k, hk, h⟩ => ⟨k, mem_canon.mp hk, h⟩, fun ⟨k, hk, h⟩ => ⟨k, mem_canon.mpr hk, h⟩⟩
def pwN (d : Nat) (L : List (List Nat)) : Nat → List (List Nat)
  | 0 => [z0 d]
  | k + 1 => canonN (eachF (· + ·) (pwN d L k) L)
theorem len_pw (hL : Len d L) : ∀ k, Len d (pwN d L k)
  | 0 => len_z d
  | k + 1 => fun t ht => len_each (len_pw hL k) hL t (mem_canon.mp ht)
def wlN (d : Nat) (L : List (List Nat)) : Nat → List (List Nat)
  | 0 => [z0 d]
  | k + 1 => leastN (eachF (· + ·) (wlN d L k) L)
theorem wl_pw (hL : Len d L) (own : leastN L = L) : ∀ k, wlN d L k = leastN (pwN d L k)
  | 0 => (least_z d).symm
  | k + 1 => by
    show leastN (eachF (· + ·) (wlN d L k) L) = leastN (canonN _)
    rw [least_canon (len_each (len_pw hL k) hL), wl_pw hL own k]
    have h := each_least grows_add (len_pw hL k) hL
    rw [own] at h
    exact h
theorem wl_one (hL : Len d L) (own : leastN L = L) : wlN d L 1 = L := by
  show leastN (eachF (· + ·) [z0 d] L) = L
  rw [each_comm Nat.add_comm (len_z d) hL, each_z op_add hL, own]
theorem wl_two (hL : Len d L) (own : leastN L = L) : wlN d L 2 = leastN (eachF (· + ·) L L) := by
  show leastN (eachF (· + ·) (wlN d L 1) L) = _
  rw [wl_one hL own]
/-- words by their letters -/
def wdN (d : Nat) : Nat → List (List Nat) → List (List Nat)
  | 0, _ => [z0 d]
  | _ + 1, [] => []
  | k + 1, m :: L => (wdN d k (m :: L)).map (addN m) ++ wdN d (k + 1) L
termination_by k L => k + L.length
def cnt : Nat → Nat → Nat
  | 0, _ => 1
  | _ + 1, 0 => 0
  | k + 1, n + 1 => cnt k (n + 1) + cnt (k + 1) n
termination_by k n => k + n
theorem wd_len (d : Nat) : ∀ (k : Nat) (L : List (List Nat)), (wdN d k L).length = cnt k L.length
  | 0, _ => by rw [wdN, cnt]; rfl
  | _ + 1, [] => by rw [wdN]; show 0 = cnt _ 0; rw [cnt]
  | k + 1, m :: L => by
    rw [wdN, List.length_append, List.length_map, wd_len d k (m :: L), wd_len d (k + 1) L]
    show _ = cnt (k + 1) (L.length + 1)
    rw [cnt]
    rfl
termination_by k L => k + L.length
theorem wd_step (d : Nat) : ∀ (k : Nat) (L : List (List Nat)) (s m : List Nat), Len d L → s ∈ wdN d k L → m ∈ L → addN s m ∈ wdN d (k + 1) L
  | _, [], _, _, _, _, h => nomatch h
  | k, a :: L, s, m, hL, hs, hm => by
    rw [wdN]
    rcases List.mem_cons.mp hm with rfl | hm'
    · exact List.mem_append_left _ (List.mem_map.mpr ⟨s, hs, zip_comm Nat.add_comm m s⟩)
    · have hL' : Len d L := fun t ht => hL t (List.mem_cons_of_mem _ ht)
      cases k with
      | zero =>
        rw [wdN] at hs
        exact List.mem_append_right _ (wd_step d 0 L s m hL' (by rw [wdN]; exact hs) hm')
      | succ k =>
        have hs0 := hs
        rw [wdN] at hs
        rcases List.mem_append.mp hs with hs | hs
        · obtain ⟨s', hs', rfl⟩ := List.mem_map.mp hs
          refine List.mem_append_left _ (List.mem_map.mpr ⟨addN s' m, wd_step d k (a :: L) s' m hL hs' hm, ?_⟩)
          exact (zip_assoc Nat.add_assoc a s' m).symm
        · exact List.mem_append_right _ (wd_step d (k + 1) L s m hL' hs hm')
termination_by k L => k + L.length
theorem pw_wd (hL : Len d L) : ∀ k t, t ∈ pwN d L k → t ∈ wdN d k L
  | 0, t, h => by rw [wdN]; exact h
  | k + 1, t, h => by
    obtain ⟨s, hs, h⟩ := List.mem_flatMap.mp (mem_canon.mp h)
    obtain ⟨m, hm, rfl⟩ := List.mem_map.mp h
    exact wd_step d k L s m hL (pw_wd hL k s hs) hm
theorem nd_sub {α : Type} [DecidableEq α] : ∀ {l m : List α}, l.Nodup → (∀ x ∈ l, x ∈ m) → l.length ≤ m.length
  | [], _, _, _ => Nat.zero_le _
  | x :: l, m, h, sub => by
    obtain ⟨hx, hl⟩ := List.nodup_cons.mp h
    have ih := nd_sub (l := l) (m := m.erase x) hl fun y hy => (List.mem_erase_of_ne (fun e : y = x => hx (by rw [← e]; exact hy))).mpr (sub y (List.mem_cons_of_mem _ hy))
    have := List.length_erase_of_mem (sub x List.mem_cons_self)
    have pos := List.length_pos_of_mem (sub x List.mem_cons_self)
    rw [List.length_cons]
    omega
theorem cnt35 {k n : Nat} (hk : k ≤ 4) (hn : n ≤ 4) : cnt k n ≤ 35 := by
  have h : ∀ k ≤ 4, ∀ n ≤ 4, cnt k n ≤ 35 := by
    intro k hk n hn
    have e : k = 0 ∨ k = 1 ∨ k = 2 ∨ k = 3 ∨ k = 4 := by omega
    have e2 : n = 0 ∨ n = 1 ∨ n = 2 ∨ n = 3 ∨ n = 4 := by omega
    rcases e with rfl | rfl | rfl | rfl | rfl <;> rcases e2 with rfl | rfl | rfl | rfl | rfl <;> simp [cnt]
  exact h k hk n hn
theorem lt_irr : ∀ t : List Nat, ltN t t = false
  | [] => rfl
  | a :: t => by
    cases h : ltN (a :: t) (a :: t) with
    | false => rfl
    | true =>
      rcases lt_cons.mp h with z | ⟨_, z⟩
      · omega
      · rw [lt_irr t] at z
        cases z
theorem nd_asc {A : List (List Nat)} (h : Asc A) : A.Nodup := by
  rw [List.nodup_iff_pairwise_ne]
  exact List.Pairwise.imp (fun {a b} z e => by rw [e, lt_irr] at z; cases z) h
theorem pw_short (hL : Len d L) (h4 : L.length ≤ 4) {k : Nat} (hk : k ≤ 4) : (pwN d L k).length ≤ 35 := by
  refine Nat.le_trans ?_ (cnt35 hk h4)
  rw [← wd_len d k L]
  refine nd_sub ?_ (pw_wd hL k)
  cases k with
  | zero => exact List.nodup_cons.mpr ⟨fun h => (nomatch h), List.nodup_nil⟩
  | succ k => exact nd_asc (asc_canon (len_each (len_pw hL k) hL))
theorem wl_short (hL : Len d L) (own : leastN L = L) (h4 : L.length ≤ 4) {k : Nat} (hk : k ≤ 4) : (wlN d L k).length ≤ 35 := by
  rw [wl_pw hL own]
  exact Nat.le_trans (least_short _) (pw_short hL h4 hk)
/-- what is different of the next ones -/
theorem wl_next (hL : Len d L) (own : leastN L = L) (h4 : L.length ≤ 4) {k : Nat} (hk : k < 4) : (canonN (eachF (· + ·) (wlN d L k) L)).length ≤ 35 := by
  refine Nat.le_trans (nd_sub (nd_asc (asc_canon (len_each (by rw [wl_pw hL own]; exact len_least (len_pw hL k)) hL))) fun t ht => ?_) (pw_short hL h4 (k := k + 1) hk)
  refine mem_canon.mpr ?_
  obtain ⟨s, hs, h⟩ := List.mem_flatMap.mp (mem_canon.mp ht)
  rw [wl_pw hL own] at hs
  exact List.mem_flatMap.mpr ⟨s, (mem_least.mp hs).1, h⟩
theorem low_pw {m : Nat} (hl : ∀ t ∈ L, ∀ e ∈ t, e ≤ m) : ∀ k, ∀ t ∈ pwN d L k, ∀ e ∈ t, e ≤ k * m
  | 0, t, ht, e, he => by
    rw [List.mem_singleton.mp ht] at he
    have := List.eq_of_mem_replicate he
    omega
  | k + 1, t, ht, e, he => by
    have := low_each op_add (low_pw hl k) hl t (mem_canon.mp ht) e he
    rw [Nat.succ_mul]
    exact this
theorem low_wl {m : Nat} (hL : Len d L) (own : leastN L = L) (hl : ∀ t ∈ L, ∀ e ∈ t, e ≤ m) (k : Nat) : ∀ t ∈ wlN d L k, ∀ e ∈ t, e ≤ k * m := fun t ht => by
  rw [wl_pw hL own] at ht
  exact low_pw hl k t (mem_least.mp ht).1
theorem len_wl (hL : Len d L) (own : leastN L = L) (k : Nat) : Len d (wlN d L k) := by
  rw [wl_pw hL own]
  exact len_least (len_pw hL k)
end M8

namespace RS
open PySem PySem.Spec PyProof.Rows L2 L5
/-! ### sorted: a list of tuples of numbers, of any length, all unlike: the one list of them that ascends -/
theorem lt_int : ∀ {a b : List Nat}, M7.ltN a b = true → (a.map fun n => ((n : Nat) : Int)) < (b.map fun n => ((n : Nat) : Int))
  | [], [], h => by cases h
  | [], _ :: _, h => by simp
  | _ :: _, [], h => by cases h
  | x :: xs, y :: ys, h => by
    rw [List.map_cons, List.map_cons, List.cons_lt_cons_iff]
    rcases M7.lt_cons.mp h with h | ⟨h, g⟩
    · exact .inl (by omega)
    · exact .inr ⟨by omega, lt_int g⟩
theorem le_dec (p q : List Nat) : PySem.W.dataLe false encT p q = decide ((p.map fun n => ((n : Nat) : Int)) ≤ (q.map fun n => ((n : Nat) : Int))) := by
  have e : PySem.W.dataLe false encT = PySem.W.dataLe false (fun t : List Nat => PyData.list ((t.map fun n => ((n : Nat) : Int)).map .int)) := by
    funext p q
    rw [PySem.W.dataLe_eq, PySem.W.dataLe_eq]
    simp only [PySem.W.dataLt, encT, PySem.W.keyToks, List.map_map]
    rfl
  rw [e, PySem.W.dataLe_rows (fun t : List Nat => t.map fun n => ((n : Nat) : Int))]
theorem lt_le {p q : List Nat} (h : M7.ltN p q = true) : PySem.W.dataLe false encT p q = true := by
  rw [le_dec]
  exact decide_eq_true (List.not_lt.mp (fun g => List.lt_asymm g (lt_int h)))
theorem le_lt {p q : List Nat} (h : PySem.W.dataLe false encT p q = true) : M7.ltN q p = false := by
  cases e : M7.ltN q p with
  | false => rfl
  | true =>
    rw [le_dec] at h
    exact absurd (lt_int e) (List.not_lt.mpr (of_decide_eq_true h))
theorem asc_of {d : Nat} : ∀ {A : List (List Nat)}, (∀ t ∈ A, t.length = d) → A.Nodup → A.Pairwise (fun p q => PySem.W.dataLe false encT p q = true) → M7.Asc A
  | [], _, _, _ => .nil
  | t :: A, hd, hn, hp => by
    rw [List.nodup_cons] at hn
    rw [List.pairwise_cons] at hp
    refine List.pairwise_cons.mpr ⟨fun u hu => ?_, asc_of (fun u hu => hd u (List.mem_cons_of_mem _ hu)) hn.2 hp.2⟩
    rcases M7.lt_tri (t := t) (u := u) (by rw [hd t List.mem_cons_self, hd u (List.mem_cons_of_mem _ hu)]) (fun e => hn.1 (e ▸ hu)) with k | k
    · exact k
    · rw [le_lt (hp.1 u hu)] at k
      cases k
theorem sort_is {d : Nat} {L M : List (List Nat)} (hd : ∀ t ∈ L, t.length = d) (ha : M7.Asc M) (hp : L.Perm M) : L.mergeSort (PySem.W.dataLe false encT) = M := by
  have hn : L.Nodup := hp.nodup_iff.mpr (M8.nd_asc ha)
  have h1 : (L.mergeSort (PySem.W.dataLe false encT)).Perm L := List.mergeSort_perm L _
  have h2 : (L.mergeSort (PySem.W.dataLe false encT)).Pairwise (fun p q => PySem.W.dataLe false encT p q = true) := by
    have t := PySem.W.sortLe_total (PyProof.Rows.listOrd PyProof.Rows.itemOrd) false fun b => PySem.W.keyToks (encT b)
    exact List.pairwise_mergeSort t.trans (fun a b => by simpa using t.total a b) L
  exact M7.asc_unique (asc_of (d := d) (fun t ht => hd t (h1.mem_iff.mp ht)) (h1.nodup_iff.mpr hn) h2) ha fun x => (h1.trans hp).mem_iff
theorem each_tups {K : PySem.W.Frag} {H : Hp} : ∀ {rs : List Addr} {L : List (List Nat)} {us : List Value}, Tups K H rs L → Vals (rs.map V.ref) us → PySem.W.EachIs (fun v t => ∃ a, v = Value.ref a ∧ SqT K H a (nv t)) us L
  | _, _, _, .nil, .nil => .nil
  | _, _, _, .cons h t, .cons r r' => .cons ⟨_, r, h⟩ (each_tups t r')
theorem tups_each {K : PySem.W.Frag} {H : Hp} : ∀ {us : List Value} {L : List (List Nat)}, PySem.W.EachIs (fun v t => ∃ a, v = Value.ref a ∧ SqT K H a (nv t)) us L → ∃ rs : List Addr, Tups K H rs L ∧ Vals (rs.map V.ref) us
  | _, _, .nil => ⟨[], .nil, .nil⟩
  | _, _, .cons ⟨a, e, h⟩ t => by
    obtain ⟨rs, h1, h2⟩ := tups_each t
    exact ⟨a :: rs, .cons h h1, .cons e h2⟩
def rSortP (K : PySem.W.Frag) : List V → Hp → VK → Prop := fun vs H Q => ∃ (a : Addr) (rs : List Addr) (L M : List (List Nat)) (d : Nat), vs = [V.ref a] ∧ SqL K H a (rs.map V.ref) ∧ Tups K H rs L ∧ 1 ≤ d ∧ (∀ t ∈ L, t.length = d) ∧ M7.Asc M ∧ L.Perm M ∧
  ∀ (p : Addr) (qs : List Addr), H p = none → Tups K H qs M → Q (.ref p) (upd H p (.lst (qs.map V.ref)))
theorem cr_sortP {X : Cx} (hu : X.A.units + 64 < cLine) : CallR X (.builtin "sorted") (rSortP X.K) := by
  intro pins s σ H vs us Q I r h
  obtain ⟨a, rs, L, M, d, rfl, hs, hT, h1, hd, hasc, hpm, q⟩ := h
  obtain ⟨its, rv, hl, hz⟩ := I.list hs
  rw [Vals.ref1 r]
  have e1 := each_tups hT rv
  have e2 : PySem.W.EachIs (fun v t => ∃ as, Reads s.heap v (encT t) as) its L := e1.mono fun v t ⟨a, e, h⟩ => by
    obtain ⟨as, h'⟩ := Dp.reads I _ _ v (dp_tup h) e
    exact ⟨as, h'⟩
  have hlen : its.length = L.length := e1.length
  have hz' : L.length ≤ sizeLine := by
    rw [← hT.length, ← List.length_map (f := V.ref)]
    exact hz
  refine PySem.W.sorted_data hl.isList e1 e2 (PySem.W.AllAlike.of fun b b' => ?_) (.inl fun e he => ?_) hz' (fun b _ => ?_) fun out ho eo => ?_
  · have e3 : ∀ t : List Nat, encT t = .tuple ((t.map fun n => ((n : Nat) : Int)).map .int) := fun t => by
      rw [List.map_map]
      rfl
    rw [e3, e3]
    exact PySem.W.alike_ints _ _
  · obtain ⟨t, ht, rfl⟩ := List.mem_map.mp he
    cases t with
    | nil => have := hd _ ht; rw [List.length_nil] at this; omega
    | cons n t => exact ⟨_, _, rfl⟩
  · have g := can_nats b
    simp only [encT, PyData.depth, g.2]
    omega
  · rw [sort_is hd hasc hpm] at eo
    obtain ⟨qs, hq, rq⟩ := tups_each eo
    obtain ⟨ep, he'⟩ := PyProof.Rows.sortedAll_at s.heap its (List.toArray out)
    have hl2 : (qs.map V.ref).length ≤ sizeLine := by rw [List.length_map, hq.length, ← hpm.length_eq]; exact hz'
    exact ⟨.ref _, upd H (s.heap.objs.size + 1) (.lst (qs.map V.ref)), I.laid (t' := s.toks) (fun _ _ => PyProof.Rows.sortedAll_old) (Nat.le_succ _) ⟨hl2, out, ep, rq, he'⟩, rfl, q _ qs (I.hok.fresh (Nat.le_succ _)) hq⟩
end RS

/-! letter orders in plain Lean -/
namespace M50
open M7 M8
abbrev srt (l : List Nat) : List Nat := l.mergeSort fun a b => decide (a ≤ b)
theorem srt_perm (l : List Nat) : (srt l).Perm l := List.mergeSort_perm l _
theorem srt_asc (l : List Nat) : (srt l).Pairwise (· ≤ ·) := by
  have h := List.pairwise_mergeSort (le := fun a b : Nat => decide (a ≤ b)) (fun a b c h1 h2 => by simp at *; omega) (fun a b => by simp; omega) l
  exact h.imp fun h => by simpa using h
theorem asc_perm : ∀ {l m : List Nat}, l.Pairwise (· ≤ ·) → m.Pairwise (· ≤ ·) → l.Perm m → l = m
  | [], m, _, _, p => (List.Perm.nil_eq p)
  | x :: l, [], _, _, p => by have := p.length_eq; simp at this
  | x :: l, y :: m, h1, h2, p => by
    rw [List.pairwise_cons] at h1 h2
    have hx : x ∈ y :: m := p.subset List.mem_cons_self
    have hy : y ∈ x :: l := p.symm.subset List.mem_cons_self
    have e : x = y := by
      rcases List.mem_cons.mp hx with e | hx
      · exact e
      · rcases List.mem_cons.mp hy with e | hy
        · exact e.symm
        · have a := h1.1 y hy
          have b := h2.1 x hx
          omega
    subst e
    rw [asc_perm h1.2 h2.2 (List.Perm.cons_inv p)]
theorem srt_uniq {ys l : List Nat} (hp : ys.Perm l) (hs : ys.Pairwise (· ≤ ·)) : ys = srt l := asc_perm hs (srt_asc l) (hp.trans (srt_perm l).symm)
theorem srt_of_perm {l m : List Nat} (h : l.Perm m) : srt l = srt m := srt_uniq ((srt_perm l).trans h) (srt_asc l)
def ix1 : List Nat → Nat
  | [] => 0
  | x :: p => if x = 1 then 0 else ix1 p + 1
abbrev ixs (P : List (List Nat)) : List Nat := P.map ix1
abbrev allOne (P : List (List Nat)) : Bool := P.all fun p => p.sum == 1
/-- the letters behind one member, if there are such -/
def qsN (L : List (List Nat)) (t : List Nat) : Option (List Nat) := if allOne (leastN (qN L t)) = true then some (srt (ixs (leastN (qN L t)))) else none
theorem one_at : ∀ {p : List Nat}, p.sum = 1 → p[ix1 p]? = some 1 ∧ ∀ m, m < ix1 p → p[m]? ≠ some 1
  | [], h => by simp at h
  | 0 :: p, h => by
    have h' : p.sum = 1 := by simpa using h
    obtain ⟨a, b⟩ := one_at h'
    rw [show ix1 (0 :: p) = ix1 p + 1 from rfl]
    refine ⟨by rw [List.getElem?_cons_succ]; exact a, fun m hm => ?_⟩
    cases m with
    | zero => simp
    | succ m => rw [List.getElem?_cons_succ]; exact b m (by omega)
  | 1 :: p, h => by
    rw [show ix1 (1 :: p) = 0 from rfl]
    exact ⟨rfl, fun m hm => absurd hm (by omega)⟩
  | (n + 2) :: p, h => by rw [List.sum_cons] at h; omega
variable {d : Nat}
theorem qs_ext {L M : List (List Nat)} {t : List Nat} (hL : Len d L) (ht : t.length = d) (h : ∀ x, x ∈ L ↔ x ∈ M) : qsN L t = qsN M t := by
  have hM : Len d M := fun x hx => hL x ((h x).mpr hx)
  have e : leastN (qN L t) = leastN (qN M t) := least_ext (len_q hL ht) (len_q hM ht) fun s hs => by
    rw [up_q hL ht hs, up_q hM ht hs]
    exact ⟨fun ⟨k, hk, f⟩ => ⟨k, (h k).mp hk, f⟩, fun ⟨k, hk, f⟩ => ⟨k, (h k).mpr hk, f⟩⟩
  unfold qsN
  rw [e]
abbrev pick (M : List (List Nat)) (c : List Nat) : List (List Nat) := c.map fun i => M.getD i []
inductive Rch (M : List (List Nat)) : Nat → List Nat → Prop
  | zero : Rch M 0 []
  | step {k : Nat} {c : List Nat} {i : Nat} (h : Rch M k c) (hi : i < M.length) (hc : i ∉ c) (hq : (qsN (pick M c) (M.getD i [])).isSome = true) : Rch M (k + 1) (srt (c ++ [i]))
structure Idx (n k : Nat) (c : List Nat) : Prop where
  len : c.length = k
  nd : c.Nodup
  lt : ∀ i ∈ c, i < n
  asc : c.Pairwise (· ≤ ·)
theorem Idx.more {n k : Nat} {c : List Nat} {i : Nat} (h : Idx n k c) (hi : i < n) (hc : i ∉ c) : Idx n (k + 1) (srt (c ++ [i])) := by
  have p := srt_perm (c ++ [i])
  refine ⟨by rw [p.length_eq, List.length_append, h.len]; rfl, p.nodup_iff.mpr ?_, fun j hj => ?_, srt_asc _⟩
  · rw [List.nodup_append]
    refine ⟨h.nd, by simp, fun a ha b hb => ?_⟩
    rw [List.mem_singleton.mp hb]
    exact fun e => hc (e ▸ ha)
  · rcases List.mem_append.mp (p.mem_iff.mp hj) with hj | hj
    · exact h.lt j hj
    · rw [List.mem_singleton.mp hj]; exact hi
theorem Rch.idx {M : List (List Nat)} : ∀ {k : Nat} {c : List Nat}, Rch M k c → Idx M.length k c
  | _, _, .zero => ⟨rfl, List.nodup_nil, fun _ h => (nomatch h), List.Pairwise.nil⟩
  | _, _, .step h hi hc _ => h.idx.more hi hc
/-- each member but the first ones has letters behind those ahead -/
def Gd (o : List (List Nat)) : Prop := ∀ i t, o[i]? = some t → (qsN (o.take i) t).isSome = true
theorem Gd.more {o : List (List Nat)} {t : List Nat} (h : Gd o) (ht : (qsN o t).isSome = true) : Gd (o ++ [t]) := fun i u hu => by
  by_cases hi : i < o.length
  · rw [List.getElem?_append_left hi] at hu
    rw [List.take_append_of_le_length (by omega)]
    exact h i u hu
  · have hl := (List.getElem?_eq_some_iff.mp hu).1
    rw [List.length_append, List.length_singleton] at hl
    have e : i = o.length := by omega
    subst e
    rw [List.getElem?_append_right (Nat.le_refl _), Nat.sub_self] at hu
    rw [← Option.some.inj hu, List.take_left]
    exact ht
theorem getD_mem {M : List (List Nat)} {i : Nat} (h : i < M.length) : M.getD i [] ∈ M := by
  rw [List.getD_eq_getElem?_getD, List.getElem?_eq_getElem h]
  exact List.getElem_mem h
theorem pick_len {M : List (List Nat)} {c : List Nat} (hM : Len d M) (h : ∀ i ∈ c, i < M.length) : Len d (pick M c) := fun t ht => by
  obtain ⟨i, hi, rfl⟩ := List.mem_map.mp ht
  exact hM _ (getD_mem (h i hi))
theorem pick_step {M o : List (List Nat)} {c : List Nat} {i : Nat} (h : o.Perm (pick M c)) : (o ++ [M.getD i []]).Perm (pick M (srt (c ++ [i]))) := by
  have e : pick M (c ++ [i]) = pick M c ++ [M.getD i []] := by unfold pick; rw [List.map_append]; rfl
  exact (List.Perm.append_right _ h).trans (by rw [← e]; exact ((srt_perm (c ++ [i])).map _).symm)
theorem qs_perm {M o : List (List Nat)} {c : List Nat} {t : List Nat} (hM : Len d M) (hc : ∀ i ∈ c, i < M.length) (ht : t.length = d) (h : o.Perm (pick M c)) : qsN o t = qsN (pick M c) t :=
  (qs_ext (pick_len hM hc) ht fun x => h.mem_iff.symm).symm
theorem pick_all (M : List (List Nat)) : pick M (List.range M.length) = M := by
  refine List.ext_getElem (by rw [List.length_map, List.length_range]) fun i h1 h2 => ?_
  rw [List.getElem_map, List.getElem_range, List.getD_eq_getElem?_getD, List.getElem?_eq_getElem h2]
  rfl
/-- all that can be reached of a size -/
def subsN : Nat → List (List Nat)
  | 0 => [[]]
  | n + 1 => subsN n ++ (subsN n).map fun c => c ++ [n]
theorem mem_subs : ∀ {n k : Nat} {c : List Nat}, Idx n k c → c ∈ subsN n
  | 0, k, [], _ => List.mem_singleton.mpr rfl
  | 0, k, x :: c, h => absurd (h.lt x List.mem_cons_self) (by omega)
  | n + 1, k, c, h => by
    by_cases hn : n ∈ c
    · refine List.mem_append_right _ (List.mem_map.mpr ⟨c.erase n, mem_subs (k := k - 1) ⟨?_, h.nd.erase _, fun i hi => ?_, h.asc.sublist List.erase_sublist⟩, ?_⟩)
      · rw [List.length_erase_of_mem hn, h.len]
      · have h1 := h.lt i (List.mem_of_mem_erase hi)
        have h2 : i ≠ n := fun e => by rw [e] at hi; exact (h.nd.mem_erase_iff.mp hi).1 rfl
        omega
      · refine asc_perm (List.pairwise_append.mpr ⟨h.asc.sublist List.erase_sublist, List.pairwise_singleton _ _, fun a ha b hb => ?_⟩) h.asc ?_
        · rw [List.mem_singleton.mp hb]
          have := h.lt a (List.mem_of_mem_erase ha)
          omega
        · exact (List.perm_append_singleton _ _).trans (List.perm_cons_erase hn).symm
    · refine List.mem_append_left _ (mem_subs (k := k) ⟨h.len, h.nd, fun i hi => ?_, h.asc⟩)
      have h1 := h.lt i hi
      have h2 : i ≠ n := fun e => hn (e ▸ hi)
      omega
theorem subs_le : ∀ {n : Nat} {c : List Nat}, c ∈ subsN n → c.length ≤ n
  | 0, c, h => by rw [List.mem_singleton.mp h]; exact Nat.le_refl _
  | n + 1, c, h => by
    rcases List.mem_append.mp h with h | h
    · have := subs_le h
      omega
    · obtain ⟨e, he, rfl⟩ := List.mem_map.mp h
      have := subs_le he
      rw [List.length_append]
      show _ + 1 ≤ _
      omega
theorem subs_all : ∀ {n : Nat} {c : List Nat}, c ∈ subsN n → c.length = n → c = List.range n
  | 0, c, h, _ => List.mem_singleton.mp h
  | n + 1, c, h, hl => by
    rcases List.mem_append.mp h with h | h
    · have := subs_le h
      omega
    · obtain ⟨e, he, rfl⟩ := List.mem_map.mp h
      rw [List.length_append] at hl
      have hl' : e.length + 1 = n + 1 := hl
      rw [subs_all he (by omega), List.range_succ]
theorem idx_all {n : Nat} {c : List Nat} (h : Idx n n c) : c = List.range n := subs_all (mem_subs h) h.len
theorem subs_few : (List.range 7).all (fun n => (List.range 7).all fun k => Nat.ble ((subsN n).filter fun c => c.length == k).length 20) = true := by decide +kernel
theorem idx_few {n k : Nat} {L : List (List Nat)} (hn : n ≤ 6) (hk : k ≤ 6) (h : ∀ c ∈ L, Idx n k c) (nd : L.Nodup) : L.length ≤ 20 := by
  have a := List.all_eq_true.mp subs_few n (List.mem_range.mpr (by omega))
  have b := Nat.le_of_ble_eq_true (List.all_eq_true.mp a k (List.mem_range.mpr (by omega)))
  refine Nat.le_trans (nd_sub nd fun c hc => List.mem_filter.mpr ⟨mem_subs (h c hc), ?_⟩) b
  rw [(h c hc).len]
  exact beq_self_eq_true k
end M50

/-! dicts whose keys are tuples: list(d.values()), a written one -/
namespace WT
open PySem PySem.Spec PyProof.Rows L2 L5
/-! ### d.values() -/
def valsO (p d : Addr) : HO := .ext fun h => h.IsValuesView p d
theorem valsO_ok {P : Program} {w : World} {H : Hp} {h : Heap} {p d : Addr} (e : h.get? p = some { cls := .type "dict_values", data := .fields #[.ref d] }) : ObjOk P w H h p (valsO p d) :=
  ⟨⟨_, e, rfl, rfl⟩, ⟨_, e⟩, fun _ _ x k => by obtain ⟨o, ho, r⟩ := x; exact ⟨o, k o ho, r⟩⟩
section
variable {X : Cx}
def rValsT : V → List V → Hp → VK → Prop := fun x xs H Q => ∃ (a : Addr) (kvs : List (List L2.Key × V)), x = .ref a ∧ xs = [] ∧ H a = some (.dT kvs) ∧ ∀ p, H p = none → Q (.ref p) (upd H p (valsO p a))
theorem mt_valsT : MtR X "dict.values" rValsT := by
  intro pins s σ H x xs v us Q I rx rxs h
  obtain ⟨a, kvs, rfl, rfl, ha, q⟩ := h
  cases rx
  cases rxs
  obtain ⟨_, hd, _, _, o, es, ep, ho, hx, hdat, _⟩ := dt_of I.hok ha
  have raw : s.heap.DictRaw a es ep := ⟨o, ho, hx, hdat⟩
  refine call_meetsIn PySem.F.slot_dict_values raw.typeIs PySem.F.entry_dict_values (PySem.F.args_dict_values_1 _) (meets_dict_values_raw a hd) ⟨⟨es, ep, raw⟩, ?_⟩
  exact ⟨.ref s.heap.objs.size, _, I.laid (t' := s.toks) (fun b u e => Heap.get?_push_of_some _ e) (Nat.le_refl _) (valsO_ok (Heap.get?_push_size _ rfl)), rfl, q _ (I.hok.fresh (Nat.le_refl _))⟩
theorem kt_get {H : Hp} {kvs : List (List L2.Key × V)} {ks : List (List L2.Key × Addr × Value)} (pr : KT H kvs ks) : Vals (kvs.map (·.2)) (ks.map fun x => x.2.2) := by
  induction pr with
  | nil => exact .nil
  | cons h _ ih => exact .cons h.2.2 ih
/-- list(d.values()) -/
theorem call_list_vals (hc : X.calm = true) : CallR X (.type "list") (fun xs H Q => ∃ (p d : Addr) (kvs : List (List L2.Key × V)), xs = [V.ref p] ∧ H p = some (valsO p d) ∧ H d = some (.dT kvs) ∧ ∀ q, H q = none → Q (.ref q) (upd H q (.lst (kvs.map (·.2))))) := by
  intro pins s σ H xs us Q I r h
  obtain ⟨p, d, kvs, rfl, hp, hd, q⟩ := h
  rw [Vals.ref1 r]
  have hv : s.heap.IsValuesView p d := (show ObjOk X.prog X.w H s.heap p (valsO p d) from I.hok p _ hp).1
  obtain ⟨z, hs, ks, pr, o, es, ep, ho, hx, hdt, he, _⟩ := dt_of I.hok hd
  have raw : s.heap.DictRaw d es ep := ⟨o, ho, hx, hdt⟩
  have l1 : es.size = ks.length := size_of_entries he
  have l2 : kvs.length = ks.length := Paired.length pr
  refine PySem.W.kdl_call PySem.KdlSrc.rawValues (I.ok.hd hc) ⟨hv, raw⟩ (by omega) fun h' tk acc c kp e it => ?_
  have ea : acc.toList = ks.map fun x => x.2.2 := by
    have hl : acc.toList.length = ks.length := by rw [Array.length_toList, it.1]; exact l1
    refine List.ext_getElem (by rw [hl, List.length_map]) fun j h1 h2 => ?_
    obtain ⟨hi, hv2⟩ := it.2 j (acc.toList[j]) (by rw [← Array.getElem?_toList]; exact List.getElem?_eq_getElem h1)
    have hj : j < ks.length := by rw [← l1]; exact hi
    have qe : es[j]? = some (entryOfKey (tupleKind (mixKind X.prog X.w)) ks[j]) := by
      rw [entry_at he j, List.getElem?_eq_getElem hj]
      rfl
    rw [Array.getElem?_eq_getElem hi] at qe
    rw [hv2, Option.some.inj qe, List.getElem_map]
    rfl
  refine ⟨.ref s.heap.objs.size, _, I.laid (t' := tk) (o := .lst (kvs.map (·.2))) kp (Nat.le_refl _) ⟨by rw [List.length_map]; exact z, acc.toList, c, by rw [ea]; exact kt_get pr, by rw [Array.toArray_toList]; exact e⟩, rfl, q _ (I.hok.fresh (Nat.le_refl _))⟩
end
/-! ### {t: v, ..}, each key a tuple -/
/-- a pair of a display: the key, where its tuple stands, the value -/
abbrev Pt := List L2.Key × Addr × V
def putsT (kvs : List (List L2.Key × V)) (ps : List Pt) : List (List L2.Key × V) := ps.foldl (fun acc p => putK acc p.1 p.2.2) kvs
theorem puts_len : ∀ (ps : List Pt) (kvs : List (List L2.Key × V)), (putsT kvs ps).length ≤ kvs.length + ps.length
  | [], kvs => Nat.le_refl _
  | p :: r, kvs => by
    have h1 := puts_len r (putK kvs p.1 p.2.2)
    have h2 := length_putK kvs p.1 p.2.2
    show (putsT (putK kvs p.1 p.2.2) r).length ≤ _
    rw [List.length_cons]
    omega
def KeysAt (H : Hp) (ps : List Pt) : Prop := ∀ p ∈ ps, H p.2.1 = some (.tup (p.1.map kV))
theorem carriesT {P : Program} {w : World} {H : Hp} {h : Heap} (ok : HOk P w H h) : ∀ {ps : List Pt} {ws : List (Value × Value)}, KeysAt H ps → VV (ps.map fun p => (V.ref p.2.1, p.2.2)) ws →
    ∃ rs : List (List L2.Key × Addr × Value), CarriesH (tupleKind (mixKind P w)) h ws rs ∧ ∀ (kvs : List (List L2.Key × V)) (xs : List (List L2.Key × Addr × Value)), KT H kvs xs → KT H (putsT kvs ps) (storedAllH xs rs)
  | [], ws, _, r => by
    rw [List.map_nil] at r
    cases r
    exact ⟨[], True.intro, fun _ _ k => k⟩
  | p :: ps, ws, hk, r => by
    rw [List.map_cons] at r
    cases r with
    | @cons _ b _ bs h t =>
      obtain ⟨rs, c, q⟩ := carriesT ok (ps := ps) (fun x hx => hk x (List.mem_cons_of_mem _ hx)) t
      obtain ⟨b1, b2⟩ := b
      obtain ⟨h1, h2⟩ := h
      have e1 : b1 = Value.ref p.2.1 := h1
      have hp := hk p List.mem_cons_self
      exact ⟨(p.1, p.2.1, b2) :: rs, ⟨e1, rfl, key_of ok hp, c⟩, fun kvs xs k => q _ _ (k.put p.1 hp h2)⟩
def tDispT (trs : List (TE × TE)) : TE := fun σ H Q => ∀ p, H p = none → tPairs trs σ (upd H p (.dT [])) fun ps H2 => H2 p = some (.dT []) ∧ ∃ kps : List Pt, ps = kps.map (fun x => (V.ref x.2.1, x.2.2)) ∧ KeysAt H2 kps ∧ kps.length ≤ 15 ∧ Q (.ref p) (upd H2 p (.dT (putsT [] kps)))
theorem pe_dispT {X : Cx} {pos : Pos} {keys : List (Option Expr)} {values : List Expr} {trs : List (TE × TE)} (hu : X.A.units + 64 < cLine) (h : PPs X pos keys values trs) (hall : keys.all (·.isSome) = true) (hl : keys.length = values.length) (h0 : keys ≠ [])
    (h15 : keys.length ≤ 15) : PE X (.Dict keys values pos) (tDispT trs) := by
  refine ⟨fun pins s σ H Q I q => ?_⟩
  have hn := I.hok.fresh (Nat.le_refl s.heap.objs.size)
  have I1 := I.laid (a := s.heap.objs.size) (o := .dT []) (h' := s.heap.push { cls := .type "dict", data := .dict #[] }) (t' := s.toks) (fun _ _ q => Heap.get?_push_of_some _ q) (Nat.le_refl _) (dt_empty s.heap I.big)
  have hpl := pairTrees_length keys values X.env pos hall hl
  have hne : pairTrees keys values X.env pos ≠ [] := fun e => h0 (List.length_eq_zero_iff.mp (by rw [← hpl, e]; rfl))
  rw [arm_eval_Dict, zip_pairTrees keys values X.env pos hall hl, dictDisplay_pairs _ hne (by omega)]
  refine wpAny_bind (wpAny_standAt (wpAny_bind (wpAny_subDictH (knd := tupleKind (mixKind X.prog X.w)) (show X.A.units < cLine by omega) (by rw [hpl]; exact h15) ?_)))
  refine thn (h.run pins _ σ _ _ I1 (q _ hn)) fun ws s2 ⟨ps, H2, I2, rel, e, kps, ep, hk, hk15, q2⟩ => ?_
  subst ep
  obtain ⟨rs, c, kt⟩ := carriesT I2.hok hk rel
  obtain ⟨z, hd, xs0, r0, dd⟩ := dt_of I2.hok e
  cases r0
  refine ⟨rs, c, dd, fun h' tk dd' hs => wpAny_pure ⟨.ref s.heap.objs.size, _, ?_, rfl, q2⟩⟩
  obtain ⟨o, es, epp, ho, hx, hdt, he, _, hnd⟩ := dd'
  have hz : (putsT [] kps).length ≤ sizeLine := by
    have h1 := puts_len kps []
    rw [List.length_nil] at h1
    rw [sizeLine_eq]
    omega
  refine d_write I2 (by rw [e]; exact True.intro) hs ⟨o, ho⟩ ⟨hz, hd, _, (kt [] [] .nil).keeps fun c ys ec => ?_, o, es, epp, ho, hx, hdt, he, hnd⟩
  rw [upd_ne (ne_of ec e (fun z => nomatch z))]
  exact ec
end WT

/-! sorted of anything whose items are gathered first: a tuple, a dict -/
namespace RS
open PySem PySem.Spec PyProof.Rows PySem.W PySem.Calls L2 L5
section
variable {prog : Program} {w : World} {A : Around} {E : Value → Shared → Prop} {s : Shared} {β : Type} {vs : List Value} {bs : List β} {enc : β → PyData} {R : Value → β → Prop}
theorem each_len {α β : Type} {R : α → β → Prop} : ∀ {l : List α} {m : List β}, EachIs R l m → l.length = m.length
  | _, _, .nil => rfl
  | _, _, .cons _ t => congrArg (· + 1) (each_len t)
theorem sorted_gathered {src : Value} {Q : Value → Shared → Prop} (hz : vs.length ≤ sizeLine)
    (gather : ∀ (T : List Value → Shared → Prop) (E' : Value → Shared → Prop), (∀ h' tk, (∀ b o, s.heap.get? b = some o → h'.get? b = some o) → T vs { s with heap := h', toks := tk }) → wpAny (model prog w) A.in1 (collect src) T E' s)
    (e : EachIs R vs bs) (er : EachIs (fun v b => Reads s.heap v (enc b) []) vs bs) (hal : AllAlike (bs.map enc)) (hk : Sortable (bs.map enc)) (hu : ∀ b, b ∈ bs → A.units + 2 + (enc b).depth < cLine)
    (h : ∀ (out : List Value) (h1 h' : Heap) (tk c : Nat), (∀ b o, s.heap.get? b = some o → h1.get? b = some o) → (∀ b o, h1.get? b = some o → h'.get? b = some o) → h'.get? h1.objs.size = some (seqObj "list" (List.toArray out) c) → EachIs R out (bs.mergeSort (dataLe false enc)) → Q (.ref h1.objs.size) { s with heap := h', toks := tk }) :
    wpAny (model prog w) A (call (.builtin "sorted") [src]) Q E s := by
  refine call_function_entry kind_sorted plain_sorted entry_sorted (args_sorted1 _) ?_
  unfold Builtin.«sorted»
  refine wpAny_bind (m := checkCount "sorted" 1 1 _) (wpAny_pure ?_)
  refine wpAny_bind (gather _ _ fun h1 tk1 k1 => ?_)
  refine wpAny_bind (wpAny_newList ?_ hz)
  have hL : (h1.push (seqObj "list" vs.toArray 0)).get? h1.objs.size = some (seqObj "list" vs.toArray 0) := Heap.get?_push_size _ rfl
  have k2 : ∀ b o, h1.get? b = some o → (h1.push (seqObj "list" vs.toArray 0)).get? b = some o := fun b o q => Heap.get?_push_of_some _ q
  refine wpAny_bind (wpAny_holding (list_sort_data (A := A.in1) (s := { s with heap := h1.push (seqObj "list" vs.toArray 0), toks := tk1 }) hL e (er.mono fun v b r => ⟨[], PyProof.Rows.Reads.keeps (fun b o q => k2 b o (k1 b o q)) r, by simp⟩) hal hk (by rw [← each_len e]; exact hz) (fun b hb => ?_) fun out ho eo => ?_))
  · have := hu b hb
    show A.units + 1 + 1 + _ < _
    omega
  · obtain ⟨c, hc⟩ := sortedHeap_at (out := out.toArray) hL
    exact wpAny_pure ⟨_, rfl, h out h1 _ _ c k1 (fun b o q => (sortedHeap_old (Nat.ne_of_lt (Heap.lt_size q)) (Heap.lt_size (k2 b o q))).trans (k2 b o q)) hc eo⟩
end
theorem reads_ints {h : Heap} : ∀ {t : List Nat} {us : List Value}, Vals (nv t) us → ReadsAll h us (t.map fun n => PyData.int ((n : Nat) : Int)) []
  | [], _, .nil => .nil
  | n :: t, _, .cons r r' => by
    obtain ⟨tk, rfl⟩ := r
    exact .cons (as := []) (bs := []) (.int _ tk) (reads_ints r')
section
variable {X : Cx} {pins : List (Addr × Obj)} {σ : L2.St} {H : Hp} {s : Shared}
theorem tup_reads (I : Inv X pins σ H s) {a : Addr} {t : List Nat} (h : SqT X.K H a (nv t)) : Reads s.heap (.ref a) (encT t) [] := by
  obtain ⟨its, rv, ⟨o, ho, hc, n, hd⟩, _⟩ := I.tuple h
  exact .tuple ho hc hd (by simpa using reads_ints rv)
theorem alike_nats (b b' : List Nat) : alike (encT b) (encT b') = true := by
  have e3 : ∀ t : List Nat, encT t = .tuple ((t.map fun n => ((n : Nat) : Int)).map .int) := fun t => by
    rw [List.map_map]
    rfl
  rw [e3, e3]
  exact alike_ints _ _
theorem each_read (I : Inv X pins σ H s) {us : List Value} {L : List (List Nat)} (h : EachIs (fun v t => ∃ a, v = Value.ref a ∧ SqT X.K H a (nv t)) us L) : EachIs (fun v t => Reads s.heap v (encT t) []) us L := h.mono fun v t ⟨a, e, h⟩ => by
  rw [e]
  exact tup_reads I h
theorem tup_small (t : List Nat) : (encT t).depth ≤ 1 := by
  have g := can_nats t
  simp only [encT, PyData.depth, g.2]
  omega
end
section
variable {X : Cx}
/-- sorted(t), t a tuple of tuples of numbers, all unlike -/
def rSortTT (K : PySem.W.Frag) : List V → Hp → VK → Prop := fun vs H Q => ∃ (a : Addr) (rs : List Addr) (L M : List (List Nat)) (d : Nat), vs = [V.ref a] ∧ SqT K H a (rs.map V.ref) ∧ Tups K H rs L ∧ 1 ≤ d ∧ (∀ t ∈ L, t.length = d) ∧ M7.Asc M ∧ L.Perm M ∧
  ∀ (p : Addr) (qs : List Addr), H p = none → Tups K H qs M → Q (.ref p) (upd H p (.lst (qs.map V.ref)))
theorem cr_sortTT (hu : X.A.units + 64 < cLine) : CallR X (.builtin "sorted") (rSortTT X.K) := by
  intro pins s σ H vs us Q I r h
  obtain ⟨a, rs, L, M, d, rfl, hs, hT, h1, hd, hasc, hpm, q⟩ := h
  obtain ⟨its, rv, ⟨o, ho, hc, n, hdt⟩, hz⟩ := I.tuple hs
  rw [Vals.ref1 r]
  have e1 := each_tups hT rv
  have hz' : its.length ≤ sizeLine := by rw [← rv.length]; exact hz
  refine sorted_gathered (vs := its) hz' (fun T E' hT' => wpAny_collect_seq a (.inr rfl) ho hc hdt (fun h' k => by simpa using hT' h' s.toks k) (by simpa using hz')) e1 (each_read I e1) (AllAlike.of alike_nats) (.inl fun e he => ?_) (fun b _ => ?_) fun out h1' h' tk c k1 k2 hp eo => ?_
  · obtain ⟨t, ht, rfl⟩ := List.mem_map.mp he
    cases t with
    | nil =>
      have := hd _ ht
      rw [List.length_nil] at this
      omega
    | cons n t => exact ⟨_, _, rfl⟩
  · have := tup_small b
    omega
  · rw [sort_is hd hasc hpm] at eo
    obtain ⟨qs, hq, rq⟩ := tups_each eo
    have hl2 : (qs.map V.ref).length ≤ sizeLine := by rw [List.length_map, hq.length, ← hpm.length_eq, ← hT.length, ← List.length_map (f := V.ref)]; exact hz
    have I1 : Inv X pins σ H { s with heap := h1', toks := tk } := I.kept k1
    exact ⟨.ref h1'.objs.size, upd H h1'.objs.size (.lst (qs.map V.ref)), I1.laid (t' := tk) k2 (Nat.le_refl _) ⟨hl2, out, c, rq, hp⟩, rfl, q _ qs (I1.hok.fresh (Nat.le_refl _)) hq⟩
theorem sort_nats (l : List Nat) : l.mergeSort (dataLe false fun n : Nat => PyData.int ((n : Nat) : Int)) = M50.srt l := by
  have e : dataLe false (fun n : Nat => PyData.int ((n : Nat) : Int)) = fun a b => decide (a ≤ b) := by
    rw [dataLe_int (fun n : Nat => ((n : Nat) : Int))]
    funext a b
    exact decide_eq_decide.mpr (by omega)
  rw [e]
theorem each_nats {us : List Value} : ∀ {t : List Nat} {us : List Value}, Vals (nv t) us → EachIs (fun v n => ∃ k, v = Value.int ((n : Nat) : Int) k) us t
  | [], _, .nil => .nil
  | n :: t, _, .cons r r' => .cons r (each_nats (us := []) r')
theorem nats_each : ∀ {us : List Value} {t : List Nat}, EachIs (fun v n => ∃ k, v = Value.int ((n : Nat) : Int) k) us t → Vals (nv t) us
  | _, _, .nil => .nil
  | _, _, .cons h t => .cons h (nats_each t)
/-- sorted(t), t a tuple of numbers -/
def rSortTN (K : PySem.W.Frag) : List V → Hp → VK → Prop := fun vs H Q => ∃ (a : Addr) (t : List Nat), vs = [V.ref a] ∧ SqT K H a (nv t) ∧ ∀ p, H p = none → Q (.ref p) (upd H p (.lst (nv (M50.srt t))))
theorem cr_sortTN (hu : X.A.units + 64 < cLine) : CallR X (.builtin "sorted") (rSortTN X.K) := by
  intro pins s σ H vs us Q I r h
  obtain ⟨a, t, rfl, hs, q⟩ := h
  obtain ⟨its, rv, ⟨o, ho, hc, n, hdt⟩, hz⟩ := I.tuple hs
  rw [Vals.ref1 r]
  have e1 := each_nats (us := []) rv
  have hz' : its.length ≤ sizeLine := by rw [← rv.length]; exact hz
  refine sorted_gathered (vs := its) (enc := fun n : Nat => PyData.int ((n : Nat) : Int)) hz' (fun T E' hT' => wpAny_collect_seq a (.inr rfl) ho hc hdt (fun h' k => by simpa using hT' h' s.toks k) (by simpa using hz')) e1 (e1.mono fun v n ⟨k, e⟩ => by rw [e]; exact .int _ k) (AllAlike.of fun b b' => rfl) (Sortable.others fun b => ⟨fun z => (nomatch z), fun _ z => (nomatch z)⟩) (fun b _ => ?_) fun out h1' h' tk c k1 k2 hp eo => ?_
  · simp only [PyData.depth]
    omega
  · rw [sort_nats] at eo
    have hl2 : (nv (M50.srt t)).length ≤ sizeLine := by
      rw [nv_len, (M50.srt_perm t).length_eq, ← nv_len]
      exact hz
    have I1 : Inv X pins σ H { s with heap := h1', toks := tk } := I.kept k1
    exact ⟨.ref h1'.objs.size, upd H h1'.objs.size (.lst (nv (M50.srt t))), I1.laid (t' := tk) k2 (Nat.le_refl _) ⟨hl2, out, c, nats_each eo, hp⟩, rfl, q _ (I1.hok.fresh (Nat.le_refl _))⟩
/-- sorted(t), t a list of numbers -/
def rSortLN (K : PySem.W.Frag) : List V → Hp → VK → Prop := fun vs H Q => ∃ (a : Addr) (t : List Nat), vs = [V.ref a] ∧ SqL K H a (nv t) ∧ ∀ p, H p = none → Q (.ref p) (upd H p (.lst (nv (M50.srt t))))
theorem cr_sortLN (hu : X.A.units + 64 < cLine) : CallR X (.builtin "sorted") (rSortLN X.K) := by
  intro pins s σ H vs us Q I r h
  obtain ⟨a, t, rfl, hs, q⟩ := h
  obtain ⟨its, rv, pl, hz⟩ := I.list hs
  obtain ⟨o, ho, hc, n, hdt⟩ := pl.isList
  rw [Vals.ref1 r]
  have e1 := each_nats (us := []) rv
  have hz' : its.length ≤ sizeLine := by rw [← rv.length]; exact hz
  refine sorted_gathered (vs := its) (enc := fun n : Nat => PyData.int ((n : Nat) : Int)) hz' (fun T E' hT' => wpAny_collect_seq a (.inl rfl) ho hc hdt (fun h' k => by simpa using hT' h' s.toks k) (by simpa using hz')) e1 (e1.mono fun v n ⟨k, e⟩ => by rw [e]; exact .int _ k) (AllAlike.of fun b b' => rfl) (Sortable.others fun b => ⟨fun z => (nomatch z), fun _ z => (nomatch z)⟩) (fun b _ => ?_) fun out h1' h' tk c k1 k2 hp eo => ?_
  · simp only [PyData.depth]
    omega
  · rw [sort_nats] at eo
    have hl2 : (nv (M50.srt t)).length ≤ sizeLine := by
      rw [nv_len, (M50.srt_perm t).length_eq, ← nv_len]
      exact hz
    have I1 : Inv X pins σ H { s with heap := h1', toks := tk } := I.kept k1
    exact ⟨.ref h1'.objs.size, upd H h1'.objs.size (.lst (nv (M50.srt t))), I1.laid (t' := tk) k2 (Nat.le_refl _) ⟨hl2, out, c, nats_each eo, hp⟩, rfl, q _ (I1.hok.fresh (Nat.le_refl _))⟩
end
end RS

/-! sorted(.., key=f) of anything whose items are gathered first -/
namespace RS
open PySem PySem.Spec PyProof.Rows PySem.W PySem.Calls L2 L5
section
variable {prog : Program} {w : World} {A : Around} {E : Value → Shared → Prop} {s : Shared} {β : Type} {vs : List Value} {bs : List β} {R : Value → β → Prop}
theorem sorted_key_gathered {src : Value} {q : Addr} {Q : Value → Shared → Prop} (k : β → PyData) (hz : vs.length ≤ sizeLine)
    (gather : ∀ (T : List Value → Shared → Prop) (E' : Value → Shared → Prop), (∀ h' tk, (∀ b o, s.heap.get? b = some o → h'.get? b = some o) → T vs { s with heap := h', toks := tk }) → wpAny (model prog w) A.in1 (collect src) T E' s)
    (e : EachIs R vs bs) (hal : AllAlike (bs.map k)) (hk : Sortable (bs.map k)) (hu : ∀ b, b ∈ bs → A.units + 2 + (k b).depth < cLine)
    (turn : ∀ (v : Value) (x : β), R v x → x ∈ bs → ∀ (h : Heap) (tk : Nat), (∀ b o, s.heap.get? b = some o → h.get? b = some o) →
      wpAny (model prog w) A.in1.in1 (call (.ref q) [v]) (KeyPure (k x) { s with heap := h, toks := tk }) (fun _ _ => False) { s with heap := h, toks := tk })
    (h : ∀ (out : List Value) (h1 h' : Heap) (tk c : Nat), (∀ b o, s.heap.get? b = some o → h1.get? b = some o) → (∀ b o, h1.get? b = some o → h'.get? b = some o) → h'.get? h1.objs.size = some (seqObj "list" (List.toArray out) c) → out.length = bs.length → EachIs R out (bs.mergeSort (dataLe false k)) → Q (.ref h1.objs.size) { s with heap := h', toks := tk }) :
    wpAny (model prog w) A (call (.builtin "sorted") [src] [(Str.ofString "key", .ref q)]) Q E s := by
  refine call_function_entry_kw kind_sorted plain_sorted entry_sorted (PyProof.Rows.ksk_s1 _ _) ?_
  unfold Builtin.«sorted»
  refine wpAny_bind (m := checkCount "sorted" 1 1 _) (wpAny_pure ?_)
  refine wpAny_bind (gather _ _ fun h1 tk1 k1 => ?_)
  refine wpAny_bind (wpAny_newList ?_ hz)
  have hL : (h1.push (seqObj "list" vs.toArray 0)).get? h1.objs.size = some (seqObj "list" vs.toArray 0) := Heap.get?_push_size _ rfl
  have k2 : ∀ b o, h1.get? b = some o → (h1.push (seqObj "list" vs.toArray 0)).get? b = some o := fun b o q => Heap.get?_push_of_some _ q
  refine wpAny_bind (wpAny_holding (list_sort_key_data (A := A.in1) (s := { s with heap := h1.push (seqObj "list" vs.toArray 0), toks := tk1 }) k hL e hal hk (by rw [← each_len e]; exact hz) (fun b hb => ?_) (PyProof.Rows.ksk_l1 _ _) (PyProof.Rows.ksk_t1 _ _)
    (fun v x r hx h2 tk2 kb => turn v x r hx h2 tk2 fun b o e => kb b o (Nat.ne_of_lt (Heap.lt_size (k1 b o e))) (k2 b o (k1 b o e))) fun out c h2 tk2 kb ho hlen eo => ?_))
  · have := hu b hb
    show A.units + 1 + 1 + _ < _
    omega
  · exact wpAny_pure ⟨_, rfl, h out h1 _ _ c k1 (fun b o e => kb b o (Nat.ne_of_lt (Heap.lt_size e)) (k2 b o e)) ho hlen eo⟩
end
end RS

/-! key=lambda t: (len(t), t), t a tuple of numbers -/
namespace LK
open PySem PySem.Spec PyProof.Rows PySem.W PySem.Calls L2 L5
/-- (how many, the numbers) -/
def encK (t : List Nat) : PyData := .tuple [.int ((t.length : Nat) : Int), encT t]
def sc2 (x : Str) : Scope := { kind := .function, names := [(x, .local), ("len", .globalImplicit)], isGenerator := false, isCoroutine := false, more := [] }
def body2 (x : Str) (p1 p2 p3 p4 p5 : Pos) : Expr := .Tuple [.Call (.Name "len" p1) [.Name x p2] [] p3, .Name x p4] 0 p5
section
variable {X : Cx} {pins : List (Addr × Obj)} {σ : L2.St} {H : Hp} {s : Shared} {A : Around}
theorem lamk_turn (I : Inv X pins σ H s) {f c' a : Addr} {x q : Str} {params : Arguments} {pm ctv : Value} {p1 p2 p3 p4 p5 : Pos} {t : List Nat}
    (hf : s.heap.get? f = some (kla_obj "<lambda>" q params (body2 x p1 p2 p3 p4 p5) (sc2 x) [] pm c' ctv)) (hc : ∃ (oc : Obj) (vs : Array Value) (tk : Tok), s.heap.get? c' = some oc ∧ oc.data = .fields vs ∧ vs[1]? = some (.str q tk))
    (hbind : ∀ v, bindArgs (kla_fn "<lambda>" q params (body2 x p1 p2 p3 p4 p5) (sc2 x) [] pm (.ref c') ctv) ⟨[v], []⟩ = pure [(x, v)]) (hl : X.mg "len" = none) (hx : (x == ("__debug__" : Str)) = false) (hxl : (("len" : Str) == x) = false) (hd : A.depth < recursionLimit)
    (ha : SqT X.K H a (nv t)) (h : Heap) (tk : Nat) (kp : ∀ b o, s.heap.get? b = some o → h.get? b = some o) :
    wpAny (model X.prog X.w) A (call (.ref f) [.ref a]) (KeyPure (encK t) { s with heap := h, toks := tk }) (fun _ _ => False) { s with heap := h, toks := tk } := by
  have I' : Inv X pins σ H { s with heap := h, toks := tk } := I.kept kp
  obtain ⟨oc, vs, tk', hoc, hdc, hvc⟩ := hc
  obtain ⟨its, rv, pl, hz⟩ := I'.tuple ha
  obtain ⟨mb, hb1, hb2⟩ := I'.mod.blt
  have hlen := rv.length
  have n63 := line63
  refine wpAny_call ?_
  refine kla_callFunE hd (kp _ _ hf) rfl rfl rfl rfl ⟨c', oc, vs, tk', rfl, kp _ _ hoc, hdc, hvc⟩ ?_
  rw [hbind]
  refine wpAny_pure (wpAny_newFunctionEnv (fun y hy => ?_) (fun y hy => ?_) (fun h₁ hns hsb => ⟨I'.nolimit.fresh _ hsb, ?_⟩) rfl)
  · rcases List.mem_cons.mp (show y ∈ [(x, NameKind.local), (("len" : Str), .globalImplicit)] from hy) with rfl | hy
    · simp
    · rw [List.mem_singleton.mp hy]
      simp
  · rw [List.mem_singleton.mp hy]
    show List.lookup x [(x, NameKind.local), (("len" : Str), .globalImplicit)] = _
    simp [List.lookup]
  have k1 : ∀ b o, h.get? b = some o → h₁.get? b = some o := fun b o e => hsb.extBut b o (Nat.ne_of_lt (Heap.lt_size e)) (Heap.get?_push_of_some _ e)
  have I1 : Inv X pins σ H { s with heap := h₁, toks := tk + 1 } := I.kept fun b o e => k1 b o (kp b o e)
  refine kla_codeExpr ?_
  generalize hE : newEnv (sc2 x) _ _ _ _ _ _ _ _ = env
  have e1 : env.scope.kind = .function := by rw [← hE]; rfl
  have e2 : env.kindOf "len" = some .globalImplicit := by
    rw [← hE]
    show List.lookup ("len" : Str) [(x, NameKind.local), (("len" : Str), .globalImplicit)] = _
    simp [List.lookup, hxl]
  have e3 : env.kindOf x = some .local := by
    rw [← hE]
    show List.lookup x [(x, NameKind.local), (("len" : Str), .globalImplicit)] = _
    simp [List.lookup]
  have e4 : env.globals = mainGlobals := by rw [← hE]; rfl
  have e5 : env.builtins = builtinsNs := by rw [← hE]; rfl
  have e6 : env.locals = h.objs.size := by rw [← hE]; rfl
  have var : ∀ (p : Pos) (h2 : Heap) (tk2 : Nat) (Q : Value → Shared → Prop) (E : Value → Shared → Prop), (∀ b o, h₁.get? b = some o → h2.get? b = some o) → Q (.ref a) { s with heap := h2, toks := tk2 } → wpAny (model X.prog X.w) (A.deeper env) (eval (.Name x p) env) Q E { s with heap := h2, toks := tk2 } :=
    fun p h2 tk2 Q E k2 hq => wpAny_Name (wpAny_loadName_local e1 e3 (by rw [e6]; exact hns.keeps k2) (by simp [List.lookup]) hq) hx
  unfold body2
  refine wpAny_Tuple_spliced ?_
  refine spliced_cons (wpAny_Call_Name_kw (Name_function_global e1 e2 (loadGlobal_builtin (by rw [e4]; exact I1.mod.glob.keeps I1.bk) hl (by rw [e5]; exact hb1.keeps I1.bk) ((hb2 _ (by decide)).trans boot_len) ?_) (by decide)))
  refine callWith_builtin1 (var p2 _ _ _ _ (fun _ _ e => e) ?_)
  obtain ⟨its1, rv1, pl1, hz1⟩ := I1.tuple ha
  have hlen1 := rv1.length
  refine len_tuple pl1 (by simp only [List.size_toArray] <;> omega) ?_
  refine spliced_cons (var p4 _ _ _ _ (fun _ _ e => e) (spliced_nil ⟨by show 2 ≤ sizeLine; decide, ?_⟩))
  refine ⟨_, _, rfl, fun b o e => Heap.get?_push_of_some _ (k1 b o e), ?_⟩
  have I2 : Inv X pins σ H { s with heap := h₁.push { cls := .type "tuple", data := .seq [Value.int (its1.toArray.size : Int) (tk + 1 + 1), .ref a].toArray }, toks := tk + 1 + 1 } := I.kept fun b o e => Heap.get?_push_of_some _ (k1 b o (kp b o e))
  refine .tuple (Heap.get?_push_size _ rfl) rfl rfl ?_
  have r1 := RS.tup_reads I2 ha
  have en : ((its1.toArray.size : Nat) : Int) = ((t.length : Nat) : Int) := by rw [List.size_toArray, ← hlen1, nv_len]
  refine .cons (as := []) (bs := []) ?_ (.cons (as := []) (bs := []) r1 .nil)
  rw [en]
  exact .int _ _
end
end LK

namespace LK
open PySem PySem.Spec PyProof.Rows PySem.W PySem.Calls L2 L5 LamX
/-! ### orders of tuples of numbers -/
theorem perm_eq {α : Type} {R : α → α → Prop} (anti : ∀ a b, R a b → R b a → a = b) : ∀ {l m : List α}, l.Perm m → l.Pairwise R → m.Pairwise R → l = m
  | [], m, h, _, _ => (List.nil_perm.mp h).symm
  | a :: l, [], h, _, _ => absurd (List.perm_nil.mp h) (by simp)
  | a :: l, b :: m, h, h1, h2 => by
    rw [List.pairwise_cons] at h1 h2
    have e : a = b := by
      rcases List.mem_cons.mp (h.mem_iff.mp List.mem_cons_self) with e | ha
      · exact e
      · rcases List.mem_cons.mp (h.mem_iff.mpr List.mem_cons_self) with e | hb
        · exact e.symm
        · exact anti a b (h1.1 b hb) (h2.1 a ha)
    subst e
    rw [perm_eq anti ((List.perm_cons a).mp h) h1.2 h2.2]
/-- a way to write a tuple as data, that tells the tuple -/
structure Enc (k : List Nat → PyData) : Prop where
  inj : ∀ a b, keyToks (k a) = keyToks (k b) → a = b
theorem toks_nats : ∀ (a b : List Nat) (l m : List (Int ⊕ List Nat)), keyToksAll (a.map fun n => PyData.int ((n : Nat) : Int)) ++ l = keyToksAll (b.map fun n => PyData.int ((n : Nat) : Int)) ++ m → a = b
  | [], [], _, _, _ => rfl
  | [], _ :: _, _, _, h => by simp [keyToksAll, keyToks] at h
  | _ :: _, [], _, _, h => by simp [keyToksAll, keyToks] at h
  | x :: a, y :: b, l, m, h => by
    simp only [List.map_cons, keyToksAll, keyToks, List.cons_append, List.nil_append, List.cons.injEq, true_and] at h
    obtain ⟨h1, h2⟩ := h
    have h1' : ((x : Nat) : Int) = ((y : Nat) : Int) := by simpa using h1
    rw [toks_nats a b l m h2, show x = y by omega]
theorem encT_inj : Enc encT := ⟨fun a b h => by
  refine toks_nats a b [] [] ?_
  rw [List.append_nil, List.append_nil]
  simpa only [encT, keyToks] using h⟩
theorem encK_inj : Enc encK := ⟨fun a b h => by
  simp only [encK, keyToks, keyToksAll, List.cons_append, List.nil_append, List.cons.injEq, true_and] at h
  refine encT_inj.inj a b ?_
  exact List.append_cancel_right h.2⟩
def srt (k : List Nat → PyData) (L : List (List Nat)) : List (List Nat) := L.mergeSort (dataLe false k)
theorem srt_perm (k : List Nat → PyData) (L : List (List Nat)) : (srt k L).Perm L := List.mergeSort_perm L _
theorem srt_asc (k : List Nat → PyData) (L : List (List Nat)) : (srt k L).Pairwise fun p q => dataLe false k p q = true := by
  have t := sortLe_total (PyProof.Rows.listOrd PyProof.Rows.itemOrd) false fun b => keyToks (k b)
  exact List.pairwise_mergeSort t.trans (fun a b => by simpa using t.total a b) L
theorem le_anti {k : List Nat → PyData} (h : Enc k) (a b : List Nat) (h1 : dataLe false k a b = true) (h2 : dataLe false k b a = true) : a = b := by
  rw [dataLe_eq] at h1 h2
  simp only [cond_false, Bool.not_eq_true'] at h1 h2
  exact h.inj a b (PyProof.Rows.lex_total (O := PyProof.Rows.itemOrd) _ _ h2 h1)
theorem srt_eq {k : List Nat → PyData} (h : Enc k) {L M : List (List Nat)} (p : L.Perm M) : srt k L = srt k M :=
  perm_eq (le_anti h) ((srt_perm k L).trans (p.trans (srt_perm k M).symm)) (srt_asc k L) (srt_asc k M)
theorem srt_is {k : List Nat → PyData} (h : Enc k) {L M : List (List Nat)} (p : L.Perm M) (hM : M.Pairwise fun p q => dataLe false k p q = true) : srt k L = M :=
  perm_eq (le_anti h) ((srt_perm k L).trans p) (srt_asc k L) hM
theorem alike_K (b b' : List Nat) : alike (encK b) (encK b') = true := by
  have h := RS.alike_nats b b'
  simp only [encT, alike] at h
  simp only [encK, encT, alike, alikeAll, h, Bool.and_self, Bool.and_true]
theorem small_K (t : List Nat) : (encK t).depth ≤ 3 := by
  have g := can_nats t
  simp only [encK, encT, PyData.depth, PyData.depthAll, g.2]
  omega
/-! ### dicts with tuples of numbers as keys -/
def tK (t : List Nat) : List Key := t.map fun n => Sum.inl ((n : Nat) : Int)
theorem tK_kV (t : List Nat) : (tK t).map kV = nv t := by
  simp only [tK, nv, List.map_map]
  all_goals rfl
theorem tK_inj : ∀ {a b : List Nat}, tK a = tK b → a = b
  | [], [], _ => rfl
  | [], _ :: _, h => by cases h
  | _ :: _, [], h => by cases h
  | x :: a, y :: b, h => by
    rw [tK, tK, List.map_cons, List.map_cons] at h
    injection h with h1 h2
    injection h1 with h1
    rw [tK_inj (a := a) (b := b) h2, show x = y by omega]
/-- the dict's keys are the tuples L -/
def KeysL (kvs : List (List Key × V)) (L : List (List Nat)) : Prop := kvs.map (·.1) = L.map tK
/-- tuples of numbers, each one tracked as it stands -/
inductive TupsU (H : Hp) : List Addr → List (List Nat) → Prop
  | nil : TupsU H [] []
  | cons {a : Addr} {t : List Nat} {rs : List Addr} {L : List (List Nat)} : H a = some (.tup (nv t)) → TupsU H rs L → TupsU H (a :: rs) (t :: L)
theorem TupsU.tups {K : PySem.W.Frag} {H : Hp} : ∀ {rs : List Addr} {L : List (List Nat)}, TupsU H rs L → Tups K H rs L
  | _, _, .nil => .nil
  | _, _, .cons h t => .cons (SqT.of h) t.tups
theorem TupsU.length {H : Hp} : ∀ {rs : List Addr} {L : List (List Nat)}, TupsU H rs L → rs.length = L.length
  | _, _, .nil => rfl
  | _, _, .cons _ t => congrArg (· + 1) t.length
theorem TupsU.mono {H H' : Hp} (e : ∀ b xs, H b = some (.tup xs) → H' b = some (.tup xs)) : ∀ {rs : List Addr} {L : List (List Nat)}, TupsU H rs L → TupsU H' rs L
  | _, _, .nil => .nil
  | _, _, .cons h t => .cons (e _ _ h) (t.mono e)
theorem TupsU.app {H : Hp} : ∀ {rs qs : List Addr} {L M : List (List Nat)}, TupsU H rs L → TupsU H qs M → TupsU H (rs ++ qs) (L ++ M)
  | _, _, _, _, .nil, k => k
  | _, _, _, _, .cons h t, k => .cons h (t.app k)
def RU (H : Hp) (v : Value) (t : List Nat) : Prop := ∃ a, v = Value.ref a ∧ H a = some (.tup (nv t))
theorem each_U {H : Hp} : ∀ {rs : List Addr} {L : List (List Nat)} {us : List Value}, TupsU H rs L → Vals (rs.map V.ref) us → EachIs (RU H) us L
  | _, _, _, .nil, .nil => .nil
  | _, _, _, .cons h t, .cons r r' => .cons ⟨_, r, h⟩ (each_U t r')
theorem U_each {H : Hp} : ∀ {us : List Value} {L : List (List Nat)}, EachIs (RU H) us L → ∃ rs : List Addr, TupsU H rs L ∧ Vals (rs.map V.ref) us
  | _, _, .nil => ⟨[], .nil, .nil⟩
  | _, _, .cons ⟨a, e, h⟩ t => by
    obtain ⟨rs, h1, h2⟩ := U_each t
    exact ⟨a :: rs, .cons h h1, .cons e h2⟩
theorem tups_keys {H : Hp} : ∀ {kvs : List (List Key × V)} {L : List (List Nat)} {bs : List Addr}, KeysL kvs L → IsKeys H kvs bs → TupsU H bs L
  | [], [], _, _, .nil => .nil
  | [], _ :: _, _, h, _ => by cases h
  | _ :: _, [], _, h, _ => by cases h
  | p :: kvs, t :: L, _, h, .cons e r => by
    unfold KeysL at h
    rw [List.map_cons, List.map_cons] at h
    injection h with h1 h2
    refine .cons ?_ (tups_keys (kvs := kvs) h2 r)
    rw [← tK_kV, ← h1]
    exact e
section
variable {X : Cx}
def tSortL (T : List (Addr × Str)) (K : PySem.W.Frag) (te : TE) : TE := fun σ H Q => te σ H fun v H1 => ∃ (d : Addr) (L : List (List Nat)) (kvs : List (List Key × V)), v = .ref d ∧ H1 d = some (.dT kvs) ∧ KeysL kvs L ∧ Tabs T H1 ∧
  ∀ (H2 : Hp) (p : Addr) (qs : List Addr), ExtN H1 H2 → Tabs T H2 → H2 p = none → TupsU H2 qs (srt encK L) → Q (.ref p) (upd H2 p (.lst (qs.map V.ref)))
/-- sorted(d, key=lambda t: (len(t), t)), d a dict with tuples of numbers as keys -/
theorem pe_sortedLam {T : List (Addr × Str)} {e : Expr} {te : TE} {c P : Addr} {x : Str} {params : Arguments} {p p1 p2 p3 p4 p5 lpos kpos pos : Pos} (hc : X.calm = true) (hu : X.A.units + 64 < cLine) (hdp : X.A.depth < recursionLimit) (hg : Gl X "sorted") (hm : X.mg "sorted" = none) (hl : X.mg "len" = none) (he : PE X e te)
    (TB : TabB X.base X.mg c P) (hcode : X.env.code = .ref c) (hmT : (P, X.env.qual ++ "<lambda>") ∈ T) (hT : ∀ p ∈ T, p.1 = P → p.2 = X.env.qual ++ "<lambda>") (hdef : defaultsOf params X.env = ([], []))
    (hbind : ∀ (q : Str) (pm cv ctv v : Value), bindArgs (kla_fn "<lambda>" q params (body2 x p1 p2 p3 p4 p5) (sc2 x) [] pm cv ctv) ⟨[v], []⟩ = pure [(x, v)]) (hx : (x == ("__debug__" : Str)) = false) (hxl : (("len" : Str) == x) = false)
    (hst : backTo pos (starEach [e] X.env) = (false, eval e X.env) :: backTo pos (starEach [] X.env) := by rfl) (hpl : (backTo pos (starEach [e] X.env)).any (·.1) = false := by rfl) :
    PE X (.Call (.Name "sorted" p) [e] [⟨some "key", .Lambda params (body2 x p1 p2 p3 p4 p5) (sc2 x) lpos, kpos⟩] pos) (tSortL T X.K te) := by
  refine ⟨fun pins s σ H Q I h => ?_⟩
  refine wpAny_Call_Name_kw (ld_blt I hg hm boot_sorted ?_ (by decide) (by decide))
  refine PyProof.Rows.callWith_kw ?_ hst hpl rfl rfl
  rw [hst]
  refine spliced_cons (thn (he.run pins s σ H _ I h) fun u s1 ⟨v, H1, I1, r1, d, L, kvs, ev, hd, hk, T1, q⟩ => ?_)
  subst ev
  obtain rfl : u = Value.ref d := r1
  refine spliced_nil ?_
  show wpAny _ _ (evalAll ((do let v ← eval (.Lambda params (body2 x p1 p2 p3 p4 p5) (sc2 x) lpos) X.env; standAt pos; pure v) :: [])) _ _ s1
  refine wpAny_evalAll_cons (wpAny_bind ?_)
  refine lam_make2 I1 TB hcode hmT hT T1 hdef (fun y hy e => ?_) fun f c' pm ctv H2 s2 I2 eN T2 hf hfn hfr hco => ?_
  · rcases List.mem_cons.mp (show y ∈ [(x, NameKind.local), (("len" : Str), .globalImplicit)] from hy) with rfl | hy
    · cases e
    · rw [List.mem_singleton.mp hy] at e
      cases e
  refine wpAny_bind (wpAny_standAt (wpAny_pure (wpAny_evalAll_nil ?_)))
  show wpAny _ _ (call (.builtin "sorted") [.ref d] [(Str.ofString "key", .ref f)]) _ _ s2
  have hd2 : H2 d = some (.dT kvs) := eN d _ hd (fun _ z => by cases z)
  obtain ⟨z, hs, ks, pr, o, es, ep, ho, hxo, hdt, hen, hn⟩ := (show ObjOk X.prog X.w H2 s2.heap d (.dT kvs) from I2.hok d _ hd2)
  have l1 : es.size = ks.length := size_of_entries hen
  have l2 : kvs.length = ks.length := Paired.length pr
  have hkeys : TupsU H2 (ks.map fun x => x.2.1) L := tups_keys hk (isKeys_of pr)
  have e1 := each_U hkeys (vals_refs (ks.map fun x => x.2.1))
  have hz' : ((ks.map fun x => x.2.1).map Value.ref).length ≤ sizeLine := by rw [List.length_map, List.length_map]; omega
  have hco2 := I2.hok c' _ hco
  obtain ⟨hrec, _, _⟩ := hco2
  refine RS.sorted_key_gathered (vs := (ks.map fun x => x.2.1).map Value.ref) encK hz' (fun Tr E' hT' => ?_) e1 (AllAlike.of alike_K) (Sortable.tuples fun b => ⟨_, _, rfl⟩) (fun b _ => ?_) (fun v t hv _ h tk kp => ?_) fun out h1 h' tk c2 k1 k2 hp ho2 eo => ?_
  · refine kdu_collect (kdl_raw hs hxo hdt) (I2.ok.hd hc) ho (by omega) fun h' tk acc hk' hacc => ?_
    have ea : acc.toList = (ks.map fun x => x.2.1).map Value.ref := by
      have hlen : acc.toList.length = ks.length := by rw [Array.length_toList, hacc.1]; exact l1
      apply List.ext_getElem?
      intro j
      rw [List.map_map, List.getElem?_map]
      cases hj : acc.toList[j]? with
      | none =>
        have := List.getElem?_eq_none_iff.mp hj
        rw [List.getElem?_eq_none (by omega)]
        rfl
      | some v =>
        obtain ⟨en, e0, hv⟩ := hacc.2 j v (by rw [← Array.getElem?_toList]; exact hj)
        have qe := entry_at hen j
        rw [e0] at qe
        cases hb : ks[j]? with
        | none =>
          rw [hb] at qe
          exact nomatch (show some en = none from qe)
        | some b =>
          rw [hb] at qe
          have e2 : en = entryOfKey (tupleKind (mixKind X.prog X.w)) b := Option.some.inj qe
          rw [hv, e2]
          rfl
    rw [ea]
    exact hT' h' tk hk'
  · have := small_K b
    omega
  · obtain ⟨a, rfl, ha⟩ := hv
    have hf' : s2.heap.get? f = some (kla_obj "<lambda>" (X.env.qual ++ "<lambda>") params (body2 x p1 p2 p3 p4 p5) (sc2 x) [] pm c' ctv) := hf
    exact lamk_turn (A := X.A.in1.in1) I2 hf' hrec (hbind _ _ _ _) hl hx hxl hdp (SqT.of ha) h tk kp
  · obtain ⟨qs, hq, rq⟩ := U_each eo
    have hl2 : (qs.map V.ref).length ≤ sizeLine := by
      rw [List.length_map, hq.length, (List.mergeSort_perm L _).length_eq, ← hkeys.length, List.length_map]
      omega
    have I3 : Inv X pins σ H2 { s2 with heap := h1, toks := tk } := I2.kept k1
    exact ⟨.ref h1.objs.size, upd H2 h1.objs.size (.lst (qs.map V.ref)), I3.laid (t' := tk) k2 (Nat.le_refl _) ⟨hl2, out, c2, rq, hp⟩, rfl, q H2 _ qs eN T2 (I3.hok.fresh (Nat.le_refl _)) hq⟩
end
end LK

namespace LK
open PySem PySem.Spec PyProof.Rows PySem.W PySem.Calls L2 L5 LamX
section
variable {prog : Program} {w : World} {A : Around} {E : Value → Shared → Prop} {s : Shared} {vs : List Value}
/-- sorted of what has at most one item -/
theorem sorted_few {src : Value} {Q : Value → Shared → Prop} (h1 : vs.length ≤ 1)
    (gather : ∀ (T : List Value → Shared → Prop) (E' : Value → Shared → Prop), (∀ h' tk, (∀ b o, s.heap.get? b = some o → h'.get? b = some o) → T vs { s with heap := h', toks := tk }) → wpAny (model prog w) A.in1 (collect src) T E' s)
    (h : ∀ (g h' : Heap) (tk c : Nat), (∀ b o, s.heap.get? b = some o → g.get? b = some o) → (∀ b o, g.get? b = some o → h'.get? b = some o) → h'.get? g.objs.size = some (seqObj "list" vs.toArray c) → Q (.ref g.objs.size) { s with heap := h', toks := tk }) :
    wpAny (model prog w) A (call (.builtin "sorted") [src]) Q E s := by
  have hz : vs.length ≤ sizeLine := Nat.le_trans h1 (by decide)
  refine call_function_entry kind_sorted plain_sorted entry_sorted (args_sorted1 _) ?_
  unfold Builtin.«sorted»
  refine wpAny_bind (m := checkCount "sorted" 1 1 _) (wpAny_pure ?_)
  refine wpAny_bind (gather _ _ fun g tk1 k1 => ?_)
  refine wpAny_bind (wpAny_newList ?_ hz)
  have hL : (g.push (seqObj "list" vs.toArray 0)).get? g.objs.size = some (seqObj "list" vs.toArray 0) := Heap.get?_push_size _ rfl
  refine wpAny_bind (wpAny_holding (wpAny_call_entry slot_list_sort ⟨_, hL, rfl⟩ entry_list_sort ?_ (PyProof.Rows.args_list_sort _)))
  refine SrtO.list_sort_ord (s := { s with heap := g.push (seqObj "list" vs.toArray 0), toks := tk1 }) (ltv := fun _ _ => false) ⟨(fun _ _ h => by cases h), (fun _ _ _ _ _ => rfl)⟩ hL hz (fun h2 => absurd h2 (by omega)) fun out hs hb => ⟨_, rfl, ?_⟩
  have eo : out = vs := by
    have hp := hb.perm
    match vs, h1, hp with
    | [], _, hp => exact List.perm_nil.mp hp
    | [v], _, hp => exact List.perm_singleton.mp hp
  subst eo
  obtain ⟨c, hc⟩ := sortedHeap_at (out := out.toArray) hL
  exact wpAny_pure ⟨_, rfl, h g _ _ c k1 (fun b o q => (sortedHeap_old (Nat.ne_of_lt (Heap.lt_size q)) (Heap.lt_size (Heap.get?_push_of_some _ q))).trans (Heap.get?_push_of_some _ q)) hc⟩
end
section
variable {X : Cx}
/-- sorted(l), l a list of tuples of numbers of any lengths -/
def rSortAny (K : PySem.W.Frag) : List V → Hp → VK → Prop := fun vs H Q => ∃ (a : Addr) (rs : List Addr) (L : List (List Nat)), vs = [V.ref a] ∧ SqL K H a (rs.map V.ref) ∧ TupsU H rs L ∧ ((∀ t ∈ L, t ≠ []) ∨ L.length ≤ 1) ∧
  ∀ (p : Addr) (qs : List Addr), H p = none → TupsU H qs (srt encT L) → Q (.ref p) (upd H p (.lst (qs.map V.ref)))
theorem cr_sortAny (hu : X.A.units + 64 < cLine) : CallR X (.builtin "sorted") (rSortAny X.K) := by
  intro pins s σ H vs us Q I r h
  obtain ⟨a, rs, L, rfl, hs, hT, hL, q⟩ := h
  obtain ⟨its, rv, pl, hz⟩ := I.list hs
  obtain ⟨o, ho, hc, n, hdt⟩ := pl.isList
  rw [Vals.ref1 r]
  have e1 := each_U hT rv
  have hz' : its.length ≤ sizeLine := by rw [← rv.length]; exact hz
  have gat : ∀ (T : List Value → Shared → Prop) (E' : Value → Shared → Prop), (∀ h' tk, (∀ b o, s.heap.get? b = some o → h'.get? b = some o) → T its { s with heap := h', toks := tk }) → wpAny (model X.prog X.w) X.A.in1 (collect (.ref a)) T E' s := fun T E' hT' =>
    wpAny_collect_seq a (.inl rfl) ho hc hdt (fun h' k => by simpa using hT' h' s.toks k) (by simpa using hz')
  have lenL : its.length = L.length := e1.length
  rcases hL with hL | hL
  · refine RS.sorted_gathered (vs := its) (enc := encT) hz' gat e1 (e1.mono fun v t ⟨a, e, h⟩ => by rw [e]; exact RS.tup_reads I (SqT.of h)) (AllAlike.of RS.alike_nats) (.inl fun e he => ?_) (fun b _ => ?_) fun out h1' h' tk c k1 k2 hp eo => ?_
    · obtain ⟨t, ht, rfl⟩ := List.mem_map.mp he
      cases t with
      | nil => exact absurd rfl (hL _ ht)
      | cons n t => exact ⟨_, _, rfl⟩
    · have := RS.tup_small b
      omega
    · obtain ⟨qs, hq, rq⟩ := U_each eo
      have hl2 : (qs.map V.ref).length ≤ sizeLine := by rw [List.length_map, hq.length, (List.mergeSort_perm L _).length_eq, ← lenL]; exact hz'
      have I1 : Inv X pins σ H { s with heap := h1', toks := tk } := I.kept k1
      exact ⟨.ref h1'.objs.size, upd H h1'.objs.size (.lst (qs.map V.ref)), I1.laid (t' := tk) k2 (Nat.le_refl _) ⟨hl2, out, c, rq, hp⟩, rfl, q _ qs (I1.hok.fresh (Nat.le_refl _)) hq⟩
  · refine sorted_few (vs := its) (by omega) gat fun g h' tk c k1 k2 hp => ?_
    have I1 : Inv X pins σ H { s with heap := g, toks := tk } := I.kept k1
    have eL : srt encT L = L := srt_is encT_inj (List.Perm.refl _) (by
      match L, hL with
      | [], _ => exact .nil
      | [t], _ => exact List.pairwise_singleton _ _)
    exact ⟨.ref g.objs.size, upd H g.objs.size (.lst (rs.map V.ref)), I1.laid (t' := tk) k2 (Nat.le_refl _) ⟨hz, its, c, rv, hp⟩, rfl, q _ rs (I1.hok.fresh (Nat.le_refl _)) (by rw [eL]; exact hT)⟩
/-- pairs (how many, the tuple) -/
inductive Prs (K : PySem.W.Frag) (H : Hp) : List Addr → List (List Nat) → Prop
  | nil : Prs K H [] []
  | cons {r b : Addr} {t : List Nat} {rs : List Addr} {L : List (List Nat)} : SqT K H r [.int ((t.length : Nat) : Int), .ref b] → H b = some (.tup (nv t)) → Prs K H rs L → Prs K H (r :: rs) (t :: L)
theorem Prs.length {K : PySem.W.Frag} {H : Hp} : ∀ {rs : List Addr} {L : List (List Nat)}, Prs K H rs L → rs.length = L.length
  | _, _, .nil => rfl
  | _, _, .cons _ _ r => congrArg (· + 1) r.length
def RPr (K : PySem.W.Frag) (H : Hp) (v : Value) (t : List Nat) : Prop := ∃ a b, v = Value.ref a ∧ SqT K H a [.int ((t.length : Nat) : Int), .ref b] ∧ H b = some (.tup (nv t))
theorem prs_each {K : PySem.W.Frag} {H : Hp} : ∀ {rs : List Addr} {L : List (List Nat)} {us : List Value}, Prs K H rs L → Vals (rs.map V.ref) us → EachIs (RPr K H) us L
  | _, _, _, .nil, .nil => .nil
  | _, _, _, .cons h1 h2 t, .cons r r' => .cons ⟨_, _, r, h1, h2⟩ (prs_each t r')
theorem each_prs {K : PySem.W.Frag} {H : Hp} : ∀ {us : List Value} {L : List (List Nat)}, EachIs (RPr K H) us L → ∃ rs : List Addr, Prs K H rs L ∧ Vals (rs.map V.ref) us
  | _, _, .nil => ⟨[], .nil, .nil⟩
  | _, _, .cons ⟨a, b, e, h, h'⟩ t => by
    obtain ⟨rs, h1, h2⟩ := each_prs t
    exact ⟨a :: rs, .cons h h' h1, .cons e h2⟩
def rSortPrs (K : PySem.W.Frag) : List V → Hp → VK → Prop := fun vs H Q => ∃ (a : Addr) (rs : List Addr) (L : List (List Nat)), vs = [V.ref a] ∧ SqL K H a (rs.map V.ref) ∧ Prs K H rs L ∧
  ∀ (p : Addr) (qs : List Addr), H p = none → Prs K H qs (srt encK L) → Q (.ref p) (upd H p (.lst (qs.map V.ref)))
theorem cr_sortPrs (hu : X.A.units + 64 < cLine) : CallR X (.builtin "sorted") (rSortPrs X.K) := by
  intro pins s σ H vs us Q I r h
  obtain ⟨a, rs, L, rfl, hs, hT, q⟩ := h
  obtain ⟨its, rv, pl, hz⟩ := I.list hs
  obtain ⟨o, ho, hc, n, hdt⟩ := pl.isList
  rw [Vals.ref1 r]
  have e1 := prs_each hT rv
  have hz' : its.length ≤ sizeLine := by rw [← rv.length]; exact hz
  have lenL : its.length = L.length := e1.length
  have e2 : EachIs (fun v t => Reads s.heap v (encK t) []) its L := e1.mono fun v t ⟨a, b, e, h1, h2⟩ => by
    subst e
    obtain ⟨it2, rv2, ⟨o2, ho2, hc2, n2, hd2⟩, _⟩ := I.tuple h1
    cases rv2 with
    | cons r1 r2 =>
      cases r2 with
      | cons r3 r4 =>
        cases r4
        obtain ⟨tk, rfl⟩ := r1
        cases r3
        refine .tuple ho2 hc2 hd2 ?_
        exact .cons (as := []) (bs := []) (.int _ tk) (.cons (as := []) (bs := []) (RS.tup_reads I (SqT.of h2)) .nil)
  refine RS.sorted_gathered (vs := its) (enc := encK) hz' (fun T E' hT' => wpAny_collect_seq a (.inl rfl) ho hc hdt (fun h' k => by simpa using hT' h' s.toks k) (by simpa using hz')) e1 e2 (AllAlike.of alike_K) (Sortable.tuples fun b => ⟨_, _, rfl⟩) (fun b _ => ?_) fun out h1' h' tk c k1 k2 hp eo => ?_
  · have := small_K b
    omega
  · obtain ⟨qs, hq, rq⟩ := each_prs eo
    have hl2 : (qs.map V.ref).length ≤ sizeLine := by rw [List.length_map, hq.length, (List.mergeSort_perm L _).length_eq, ← lenL]; exact hz'
    have I1 : Inv X pins σ H { s with heap := h1', toks := tk } := I.kept k1
    exact ⟨.ref h1'.objs.size, upd H h1'.objs.size (.lst (qs.map V.ref)), I1.laid (t' := tk) k2 (Nat.le_refl _) ⟨hl2, out, c, rq, hp⟩, rfl, q _ qs (I1.hok.fresh (Nat.le_refl _)) hq⟩
end
section
variable {H H' : Hp}
theorem TupsU.same (s : ∀ b o, H b = some o → H' b = some o) {rs : List Addr} {L : List (List Nat)} (h : TupsU H rs L) : TupsU H' rs L := h.mono fun b xs e => s b _ e
theorem TupsU.ext (s : LamX.ExtN H H') {rs : List Addr} {L : List (List Nat)} (h : TupsU H rs L) : TupsU H' rs L := h.mono fun b xs e => s b _ e fun _ z => by cases z
theorem TupsU.get : ∀ {rs : List Addr} {L : List (List Nat)} {i : Nat} {v : V}, TupsU H rs L → (rs.map V.ref)[i]? = some v → ∃ a t, v = .ref a ∧ rs[i]? = some a ∧ L[i]? = some t ∧ H a = some (.tup (nv t))
  | _, _, _, _, .nil, e => by simp at e
  | _, _, 0, _, .cons h _, e => by simp at e; subst e; exact ⟨_, _, rfl, rfl, rfl, h⟩
  | _, _, i + 1, v, .cons _ t, e => by
    obtain ⟨a, u, h1, h2, h3, h4⟩ := TupsU.get (i := i) (v := v) t (by simpa using e)
    exact ⟨a, u, h1, by simpa using h2, by simpa using h3, h4⟩
theorem TupsU.take : ∀ {rs : List Addr} {L : List (List Nat)} (k : Nat), TupsU H rs L → TupsU H (rs.take k) (L.take k)
  | _, _, 0, _ => by rw [List.take_zero, List.take_zero]; exact .nil
  | _, _, k + 1, .nil => by rw [List.take_nil, List.take_nil]; exact .nil
  | _, _, k + 1, .cons h t => by rw [List.take_succ_cons, List.take_succ_cons]; exact .cons h (TupsU.take k t)
theorem TupsU.drop : ∀ {rs : List Addr} {L : List (List Nat)} (k : Nat), TupsU H rs L → TupsU H (rs.drop k) (L.drop k)
  | _, _, 0, h => by rw [List.drop_zero, List.drop_zero]; exact h
  | _, _, k + 1, .nil => by rw [List.drop_nil, List.drop_nil]; exact .nil
  | _, _, k + 1, .cons h t => by rw [List.drop_succ_cons, List.drop_succ_cons]; exact TupsU.drop k t
end
end LK

/-! families of sets of corners -/
namespace M38
open LK L5
abbrev Asc (t : List Nat) : Prop := t.Pairwise (· < ·)
def smaller (t : List Nat) : List (List Nat) := (List.range t.length).map fun i => t.take i ++ t.drop (i + 1)
theorem mem_smaller {t u : List Nat} : u ∈ smaller t ↔ ∃ i, i < t.length ∧ u = t.take i ++ t.drop (i + 1) := by
  unfold smaller
  rw [List.mem_map]
  constructor
  · rintro ⟨i, hi, rfl⟩
    exact ⟨i, List.mem_range.mp hi, rfl⟩
  · rintro ⟨i, hi, rfl⟩
    exact ⟨i, List.mem_range.mpr hi, rfl⟩
theorem smaller_len {t u : List Nat} (h : u ∈ smaller t) : u.length + 1 = t.length := by
  obtain ⟨i, hi, rfl⟩ := mem_smaller.mp h
  rw [List.length_append, List.length_take, List.length_drop]
  omega
theorem smaller_sub {t u : List Nat} (h : u ∈ smaller t) : u.Sublist t := by
  obtain ⟨i, hi, rfl⟩ := mem_smaller.mp h
  have h1 : (t.drop (i + 1)).Sublist (t.drop i) := by
    rw [← List.drop_drop]
    exact List.drop_sublist _ _
  have h2 := (List.Sublist.refl (t.take i)).append h1
  rw [List.take_append_drop] at h2
  exact h2
theorem smaller_cons {a : Nat} {t u : List Nat} (h : u ∈ smaller t) : a :: u ∈ smaller (a :: t) := by
  obtain ⟨i, hi, rfl⟩ := mem_smaller.mp h
  exact mem_smaller.mpr ⟨i + 1, by rw [List.length_cons]; omega, rfl⟩
theorem between : ∀ {u t : List Nat}, u.Sublist t → u.length < t.length → ∃ w, w.Sublist t ∧ u ∈ smaller w
  | _, _, .slnil, h => absurd h (by simp)
  | _, _, .cons (l₁ := u) (l₂ := t) a s, _ => ⟨a :: u, s.cons_cons a, mem_smaller.mpr ⟨0, by simp, by simp⟩⟩
  | _, _, .cons_cons (l₁ := u) (l₂ := t) a s, h => by
    obtain ⟨w, h1, h2⟩ := between s (by simpa using h)
    exact ⟨a :: w, h1.cons_cons a, smaller_cons h2⟩
theorem closed_down {S : List (List Nat)} (h : ∀ t ∈ S, ∀ u ∈ smaller t, u ∈ S) : ∀ (k : Nat) (t u : List Nat), t ∈ S → u.Sublist t → t.length - u.length = k → u ∈ S
  | 0, t, u, ht, hs, hk => by
    have := hs.length_le
    rw [hs.eq_of_length (by omega)]
    exact ht
  | k + 1, t, u, ht, hs, hk => by
    obtain ⟨w, h1, h2⟩ := between hs (by omega)
    have := smaller_len h2
    exact h w (closed_down h k t w ht h1 (by omega)) u h2
theorem closed_sub {S : List (List Nat)} (h : ∀ t ∈ S, ∀ u ∈ smaller t, u ∈ S) {t u : List Nat} (ht : t ∈ S) (hs : u.Sublist t) : u ∈ S := closed_down h _ t u ht hs rfl
/-! ### ascending tuples -/
theorem sub_of_mem : ∀ {m t : List Nat}, Asc t → Asc m → (∀ x ∈ t, x ∈ m) → t.Sublist m
  | [], [], _, _, _ => .slnil
  | [], x :: t, _, _, h => absurd (h x List.mem_cons_self) (by simp)
  | y :: m, [], _, _, _ => List.nil_sublist _
  | y :: m, x :: t, ht, hm, h => by
    rw [Asc, List.pairwise_cons] at ht hm
    by_cases e : x = y
    · subst e
      refine (sub_of_mem ht.2 hm.2 fun z hz => ?_).cons_cons x
      rcases List.mem_cons.mp (h z (List.mem_cons_of_mem _ hz)) with e | hz'
      · have := ht.1 z hz
        omega
      · exact hz'
    · have hx : x ∈ m := (List.mem_cons.mp (h x List.mem_cons_self)).resolve_left e
      have hlt := hm.1 x hx
      refine (sub_of_mem (List.pairwise_cons.mpr ht) hm.2 fun z hz => ?_).cons y
      rcases List.mem_cons.mp (h z hz) with e | hz'
      · subst e
        rcases List.mem_cons.mp hz with e | hz
        · exact absurd e.symm (by omega)
        · have := ht.1 z hz
          omega
      · exact hz'
theorem mem_of_sub {m t : List Nat} (h : t.Sublist m) : ∀ x ∈ t, x ∈ m := fun x hx => h.subset hx
def On (n : Nat) (t : List Nat) : Prop := Asc t ∧ ∀ x ∈ t, x < n
theorem On.sub {n : Nat} {t m : List Nat} (h : On n m) (s : t.Sublist m) : On n t := ⟨h.1.sublist s, fun x hx => h.2 x (s.subset hx)⟩
theorem On.mono {n k : Nat} {t : List Nat} (h : On n t) (hk : n ≤ k) : On k t := ⟨h.1, fun x hx => Nat.lt_of_lt_of_le (h.2 x hx) hk⟩
theorem asc_snoc {t : List Nat} {x : Nat} : Asc (t ++ [x]) ↔ Asc t ∧ ∀ y ∈ t, y < x := by
  rw [Asc, List.pairwise_append]
  constructor
  · rintro ⟨h1, _, h3⟩
    exact ⟨h1, fun y hy => h3 y hy x (by simp)⟩
  · rintro ⟨h1, h2⟩
    exact ⟨h1, List.pairwise_singleton _ _, fun y hy z hz => by
      rw [List.mem_singleton.mp hz]
      exact h2 y hy⟩
def subs : Nat → List (List Nat)
  | 0 => [[]]
  | n + 1 => subs n ++ (subs n).map (· ++ [n])
theorem mem_subs : ∀ {n : Nat} {t : List Nat}, t ∈ subs n ↔ On n t
  | 0, t => by
    constructor
    · intro h
      rw [List.mem_singleton.mp h]
      exact ⟨.nil, fun x hx => nomatch hx⟩
    · intro h
      cases t with
      | nil => exact List.mem_singleton.mpr rfl
      | cons x t => exact absurd (h.2 x List.mem_cons_self) (by omega)
  | n + 1, t => by
    show t ∈ subs n ++ (subs n).map (· ++ [n]) ↔ _
    rw [List.mem_append, List.mem_map, mem_subs]
    constructor
    · rintro (h | ⟨u, hu, rfl⟩)
      · exact h.mono (Nat.le_succ n)
      · have hu := mem_subs.mp hu
        refine ⟨asc_snoc.mpr ⟨hu.1, hu.2⟩, fun x hx => ?_⟩
        rcases List.mem_append.mp hx with hx | hx
        · exact Nat.lt_succ_of_lt (hu.2 x hx)
        · rw [List.mem_singleton.mp hx]
          exact Nat.lt_succ_self n
    · intro h
      rcases List.eq_nil_or_concat t with e | ⟨u, x, e⟩
      · exact .inl ⟨h.1, fun x hx => by rw [e] at hx; cases hx⟩
      · rw [List.concat_eq_append] at e
        subst e
        obtain ⟨h1, h2⟩ := asc_snoc.mp h.1
        have hx := h.2 x (by simp)
        by_cases e : x = n
        · subst e
          exact .inr ⟨u, mem_subs.mpr ⟨h1, h2⟩, rfl⟩
        · refine .inl ⟨h.1, fun y hy => ?_⟩
          rcases List.mem_append.mp hy with hy | hy
          · have := h2 y hy
            omega
          · rw [List.mem_singleton.mp hy]
            omega
theorem nodup_map_inj {α β : Type} {f : α → β} (hf : ∀ a b, f a = f b → a = b) : ∀ {l : List α}, l.Nodup → (l.map f).Nodup
  | [], _ => .nil
  | a :: l, h => by
    rw [List.nodup_cons] at h
    rw [List.map_cons, List.nodup_cons]
    refine ⟨fun hm => ?_, nodup_map_inj hf h.2⟩
    obtain ⟨b, hb, e⟩ := List.mem_map.mp hm
    exact h.1 (hf b a e ▸ hb)
theorem nodup_subs : ∀ n, (subs n).Nodup
  | 0 => by simp [subs]
  | n + 1 => by
    show (subs n ++ (subs n).map (· ++ [n])).Nodup
    rw [List.nodup_append]
    refine ⟨nodup_subs n, nodup_map_inj (fun a b e => List.append_cancel_right e) (nodup_subs n), fun a ha b hb e => ?_⟩
    obtain ⟨u, _, rfl⟩ := List.mem_map.mp hb
    have := (mem_subs.mp ha).2 n (by rw [e]; simp)
    omega
theorem len_subs : ∀ n, (subs n).length = 2 ^ n
  | 0 => rfl
  | n + 1 => by
    show (subs n ++ (subs n).map (· ++ [n])).length = _
    rw [List.length_append, List.length_map, len_subs n, Nat.pow_succ]
    omega
theorem len_le {α : Type} [DecidableEq α] : ∀ {l m : List α}, l.Nodup → (∀ x ∈ l, x ∈ m) → l.length ≤ m.length
  | [], _, _, _ => Nat.zero_le _
  | x :: l, m, h, sub => by
    obtain ⟨hx, hl⟩ := List.nodup_cons.mp h
    have ih := len_le (l := l) (m := m.erase x) hl fun y hy => (List.mem_erase_of_ne (fun e : y = x => hx (by rw [← e]; exact hy))).mpr (sub y (List.mem_cons_of_mem _ hy))
    have h1 := List.length_erase_of_mem (sub x List.mem_cons_self)
    have h2 := List.length_pos_of_mem (sub x List.mem_cons_self)
    rw [List.length_cons]
    omega
theorem few {n : Nat} {L : List (List Nat)} (hn : n ≤ 8) (h : L.Nodup) (hL : ∀ t ∈ L, On n t) : L.length ≤ 256 := by
  have h1 := len_le h fun t ht => mem_subs.mpr ((hL t ht).mono hn)
  rw [len_subs] at h1
  exact h1
theorem on_len {n : Nat} {t : List Nat} (h : On n t) : t.length ≤ n := by
  have h1 := len_le (h.1.imp fun h => Nat.ne_of_lt h : t.Nodup) (m := List.range n) fun x hx => List.mem_range.mpr (h.2 x hx)
  rwa [List.length_range] at h1
/-! ### families -/
def Down (G : List (List Nat)) (t : List Nat) : Prop := ∃ m ∈ G, t.Sublist m
/-- S: all sets below those of G, by their sizes, then as tuples -/
structure Fam (G S : List (List Nat)) : Prop where
  nd : S.Nodup
  asc : S.Pairwise fun p q => PySem.W.dataLe false encK p q = true
  mem : ∀ t, t ∈ S ↔ Down G t
theorem perm_of_mem {α : Type} [DecidableEq α] {l m : List α} (h1 : l.Nodup) (h2 : m.Nodup) (h : ∀ x, x ∈ l ↔ x ∈ m) : l.Perm m := by
  rw [List.perm_iff_count]
  intro x
  rw [h1.count, h2.count]
  simp only [h x]
theorem Fam.uniq {G G' S S' : List (List Nat)} (h : Fam G S) (h' : Fam G' S') (e : ∀ t, Down G t ↔ Down G' t) : S = S' :=
  perm_eq (le_anti encK_inj) (perm_of_mem h.nd h'.nd fun t => (h.mem t).trans ((e t).trans (h'.mem t).symm)) h.asc h'.asc
theorem fam_srt {G L : List (List Nat)} (h1 : L.Nodup) (h2 : ∀ t, t ∈ L ↔ Down G t) : Fam G (srt encK L) := ⟨(srt_perm encK L).nodup_iff.mpr h1, srt_asc encK L, fun t => (srt_perm encK L).mem_iff.trans (h2 t)⟩
theorem Fam.closed {G S : List (List Nat)} (h : Fam G S) {t u : List Nat} (ht : t ∈ S) (hs : u.Sublist t) : u ∈ S := by
  obtain ⟨m, hm, h1⟩ := (h.mem t).mp ht
  exact (h.mem u).mpr ⟨m, hm, hs.trans h1⟩
theorem Fam.on {n : Nat} {G S : List (List Nat)} (h : Fam G S) (hG : ∀ t ∈ G, On n t) : ∀ t ∈ S, On n t := fun t ht => by
  obtain ⟨m, hm, h1⟩ := (h.mem t).mp ht
  exact (hG m hm).sub h1
/-- what the loop keeps: found, waiting -/
structure Loop (n : Nat) (G L ws : List (List Nat)) : Prop where
  nd : L.Nodup
  inL : ∀ t ∈ L, Down G t
  inW : ∀ t ∈ ws, Down G t
  all : ∀ g ∈ G, g ∈ L ∨ g ∈ ws
  cl : ∀ t ∈ L, ∀ u ∈ smaller t, u ∈ L ∨ u ∈ ws
theorem Loop.start (n : Nat) (G : List (List Nat)) : Loop n G [] G := ⟨.nil, fun _ h => (nomatch h), fun t h => ⟨t, h, List.Sublist.refl t⟩, fun _ h => .inr h, fun _ h => (nomatch h)⟩
theorem Loop.skip {n : Nat} {G L ws : List (List Nat)} {t : List Nat} (h : Loop n G L (ws ++ [t])) (ht : t ∈ L) : Loop n G L ws := by
  have f : ∀ u, u ∈ L ∨ u ∈ ws ++ [t] → u ∈ L ∨ u ∈ ws := fun u hu => by
    rcases hu with hu | hu
    · exact .inl hu
    · rcases List.mem_append.mp hu with hu | hu
      · exact .inr hu
      · rw [List.mem_singleton.mp hu]
        exact .inl ht
  exact ⟨h.nd, h.inL, fun u hu => h.inW u (List.mem_append_left _ hu), fun g hg => f g (h.all g hg), fun u hu v hv => f v (h.cl u hu v hv)⟩
theorem Loop.new {n : Nat} {G L ws : List (List Nat)} {t : List Nat} (h : Loop n G L (ws ++ [t])) (ht : t ∉ L) : Loop n G (L ++ [t]) (ws ++ smaller t) := by
  have dt := h.inW t (by simp)
  have f : ∀ u, u ∈ L ∨ u ∈ ws ++ [t] → u ∈ L ++ [t] ∨ u ∈ ws ++ smaller t := fun u hu => by
    rcases hu with hu | hu
    · exact .inl (List.mem_append_left _ hu)
    · rcases List.mem_append.mp hu with hu | hu
      · exact .inr (List.mem_append_left _ hu)
      · exact .inl (List.mem_append_right _ hu)
  refine ⟨?_, fun u hu => ?_, fun u hu => ?_, fun g hg => f g (h.all g hg), fun u hu v hv => ?_⟩
  · rw [List.nodup_append]
    exact ⟨h.nd, by simp, fun a ha b hb e => ht (by rw [List.mem_singleton.mp hb] at e; exact e ▸ ha)⟩
  · rcases List.mem_append.mp hu with hu | hu
    · exact h.inL u hu
    · rw [List.mem_singleton.mp hu]
      exact dt
  · rcases List.mem_append.mp hu with hu | hu
    · exact h.inW u (List.mem_append_left _ hu)
    · obtain ⟨m, hm, h1⟩ := dt
      exact ⟨m, hm, (smaller_sub hu).trans h1⟩
  · rcases List.mem_append.mp hu with hu | hu
    · exact f v (h.cl u hu v hv)
    · rw [List.mem_singleton.mp hu] at hv
      exact .inr (List.mem_append_right _ hv)
theorem Loop.done {n : Nat} {G L : List (List Nat)} (h : Loop n G L []) : Fam G (srt encK L) := by
  have cl : ∀ t ∈ L, ∀ u ∈ smaller t, u ∈ L := fun t ht u hu => (h.cl t ht u hu).resolve_right (by simp)
  refine fam_srt h.nd fun t => ⟨h.inL t, fun ⟨m, hm, hs⟩ => ?_⟩
  exact closed_sub cl ((h.all m hm).resolve_right (by simp)) hs
theorem smaller_many {n : Nat} {t : List Nat} (hn : n ≤ 8) (h : On n t) : (smaller t).length ≤ 8 := by
  have := on_len h
  unfold smaller
  rw [List.length_map, List.length_range]
  omega
/-! ### the greatest ones -/
def cov (S : List (List Nat)) (t : List Nat) : Bool := S.any fun u => decide (t ∈ smaller u)
def sbB (t u : List Nat) : Bool := t.all fun x => decide (x ∈ u)
def lcov (S : List (List Nat)) (t : List Nat) : Bool := S.any fun u => decide (t.length < u.length) && sbB t u
theorem cov_iff {S : List (List Nat)} {t : List Nat} : cov S t = true ↔ ∃ u ∈ S, t ∈ smaller u := by
  unfold cov
  simp
theorem sbB_iff {t u : List Nat} : sbB t u = true ↔ ∀ x ∈ t, x ∈ u := by
  unfold sbB
  simp
theorem lcov_iff {S : List (List Nat)} {t : List Nat} : lcov S t = true ↔ ∃ u ∈ S, t.length < u.length ∧ ∀ x ∈ t, x ∈ u := by
  unfold lcov
  simp [sbB_iff]
theorem cov_eq {n : Nat} {G S : List (List Nat)} (h : Fam G S) (hG : ∀ t ∈ G, On n t) {t : List Nat} (ht : t ∈ S) : cov S t = lcov S t := by
  have on := h.on hG
  rw [Bool.eq_iff_iff, cov_iff, lcov_iff]
  constructor
  · rintro ⟨u, hu, hs⟩
    have := smaller_len hs
    exact ⟨u, hu, by omega, mem_of_sub (smaller_sub hs)⟩
  · rintro ⟨u, hu, hl, hm⟩
    obtain ⟨w, h1, h2⟩ := between (sub_of_mem (on t ht).1 (on u hu).1 hm) hl
    exact ⟨w, h.closed hu h1, h2⟩
def tops (S : List (List Nat)) : List (List Nat) := S.filter fun t => !cov S t
def gr (S : List (List Nat)) : List (List Nat) := srt encT (tops S)
theorem mem_tops {S : List (List Nat)} {t : List Nat} : t ∈ tops S ↔ t ∈ S ∧ cov S t = false := by
  unfold tops
  rw [List.mem_filter, Bool.not_eq_true']
theorem mem_gr {S : List (List Nat)} {t : List Nat} : t ∈ gr S ↔ t ∈ S ∧ cov S t = false := (srt_perm _ _).mem_iff.trans mem_tops
theorem tops_ok {G S : List (List Nat)} (h : Fam G S) : (∀ t ∈ tops S, t ≠ []) ∨ (tops S).length ≤ 1 := by
  by_cases e : [] ∈ tops S
  · refine .inr ?_
    have h1 := (mem_tops.mp e).2
    have all : ∀ t ∈ S, t = [] := fun t ht => by
      by_cases z : t = []
      · exact z
      · have hl : ([] : List Nat).length < t.length := List.length_pos_iff.mpr z
        obtain ⟨w, h2, h3⟩ := between (List.nil_sublist t) hl
        have := cov_iff.mpr ⟨w, h.closed ht h2, h3⟩
        rw [h1] at this
        cases this
    have := len_le (l := tops S) (m := [[]]) (h.nd.filter _) fun t ht => by rw [all t (mem_tops.mp ht).1]; simp
    simpa using this
  · exact .inl fun t ht z => e (z ▸ ht)
theorem under {n : Nat} {G S : List (List Nat)} (h : Fam G S) (hG : ∀ t ∈ G, On n t) : ∀ (k : Nat) (t : List Nat), t ∈ S → n - t.length = k → ∃ g ∈ gr S, t.Sublist g := by
  have on := h.on hG
  intro k
  induction k using Nat.strongRecOn with
  | ind k ih =>
    intro t ht hk
    cases e : cov S t with
    | false => exact ⟨t, mem_gr.mpr ⟨ht, e⟩, List.Sublist.refl t⟩
    | true =>
      obtain ⟨u, hu, hs⟩ := cov_iff.mp e
      have h1 := smaller_len hs
      have h2 := on_len (on u hu)
      obtain ⟨g, hg, h3⟩ := ih (n - u.length) (by omega) u hu rfl
      exact ⟨g, hg, (smaller_sub hs).trans h3⟩
theorem down_gr {n : Nat} {G S : List (List Nat)} (h : Fam G S) (hG : ∀ t ∈ G, On n t) (t : List Nat) : Down G t ↔ Down (gr S) t := by
  rw [← h.mem t]
  constructor
  · intro ht
    obtain ⟨g, hg, hs⟩ := under h hG _ t ht rfl
    exact ⟨g, hg, hs⟩
  · rintro ⟨g, hg, hs⟩
    exact h.closed (mem_gr.mp hg).1 hs
theorem gr_inj {n n' : Nat} {G S G' S' : List (List Nat)} (h : Fam G S) (hG : ∀ t ∈ G, On n t) (h' : Fam G' S') (hG' : ∀ t ∈ G', On n' t) : S = S' ↔ gr S = gr S' := by
  constructor
  · intro e
    rw [e]
  · intro e
    exact h.uniq h' fun t => by rw [down_gr h hG t, down_gr h' hG' t, e]
/-- more sets of the family, in another sequence -/
theorem more_same {G S M : List (List Nat)} (h : Fam G S) (h1 : ∀ g ∈ G, g ∈ M) (h2 : ∀ t ∈ M, t ∈ S) (t : List Nat) : Down M t ↔ Down G t := by
  constructor
  · rintro ⟨m, hm, hs⟩
    exact (h.mem t).mp (h.closed (h2 m hm) hs)
  · rintro ⟨m, hm, hs⟩
    exact ⟨m, h1 m hm, hs⟩
/-! ### the law's own -/
def lall (n : Nat) (G : List (List Nat)) : List (List Nat) := (subs n).filter fun t => G.any fun m => sbB t m
theorem lall_fam {n : Nat} {G : List (List Nat)} (hG : ∀ t ∈ G, On n t) : Fam G (srt encK (lall n G)) := by
  refine fam_srt ((nodup_subs n).filter _) fun t => ?_
  unfold lall
  rw [List.mem_filter, mem_subs, List.any_eq_true]
  constructor
  · rintro ⟨h1, m, hm, h2⟩
    exact ⟨m, hm, sub_of_mem h1.1 (hG m hm).1 (sbB_iff.mp h2)⟩
  · rintro ⟨m, hm, hs⟩
    exact ⟨(hG m hm).sub hs, m, hm, sbB_iff.mpr (mem_of_sub hs)⟩
theorem srt_lcov {n : Nat} {G S : List (List Nat)} (h : Fam G S) (hG : ∀ t ∈ G, On n t) : srt encT (S.filter fun t => !lcov S t) = gr S := by
  unfold gr tops
  have : (S.filter fun t => !lcov S t) = S.filter fun t => !cov S t := List.filter_congr fun t ht => by rw [cov_eq h hG ht]
  rw [this]
theorem Fam.nil {S : List (List Nat)} (h : Fam [] S) : S = [] := List.eq_nil_iff_forall_not_mem.mpr fun t ht => by
  obtain ⟨m, hm, _⟩ := (h.mem t).mp ht
  cases hm
theorem Fam.ne {G S : List (List Nat)} (h : Fam G S) (hG : G ≠ []) : S ≠ [] := by
  obtain ⟨g, hg⟩ := List.exists_mem_of_ne_nil G hG
  intro e
  have := (h.mem g).mpr ⟨g, hg, List.Sublist.refl g⟩
  rw [e] at this
  cases this
end M38

namespace M38
open LK L5
def Gc : List (List Nat) := [[0, 1], [1, 2], [2, 3], [0, 3]]
def Sc : List (List Nat) := [[], [0], [1], [2], [3], [0, 1], [0, 3], [1, 2], [2, 3]]
theorem f_c : srt encK (lall 4 Gc) = Sc := srt_is encK_inj (by decide +kernel) (by decide +kernel)
theorem g_c : gr Sc = [[0, 1], [0, 3], [1, 2], [2, 3]] := srt_is encT_inj (by decide +kernel) (by decide +kernel)
def G1 : List (List Nat) := [[2], [0, 1], [1]]
theorem f_1 : gr (srt encK (lall 3 G1)) = [[0, 1], [2]] := by
  rw [show srt encK (lall 3 G1) = [[], [0], [1], [2], [0, 1]] from srt_is encK_inj (by decide +kernel) (by decide +kernel)]
  exact srt_is encT_inj (by decide +kernel) (by decide +kernel)
theorem f_2 : gr (srt encK (lall 3 [[]])) = [[]] := by
  rw [show srt encK (lall 3 [[]]) = [[]] from srt_is encK_inj (by decide +kernel) (by decide +kernel)]
  exact srt_is encT_inj (by decide +kernel) (by decide +kernel)
theorem f_3 : gr (srt encK (lall 2 [])) = [] := by
  rw [show srt encK (lall 2 []) = [] from srt_is encK_inj (by decide +kernel) (by decide +kernel)]
  exact srt_is encT_inj (by decide +kernel) (by decide +kernel)
theorem f_4 : srt encK (lall 2 [[1], [0]]) = [[], [0], [1]] := srt_is encK_inj (by decide +kernel) (by decide +kernel)
theorem on_by {n : Nat} {t : List Nat} (h : (decide (t.Pairwise (· < ·)) && t.all (fun x => decide (x < n))) = true) : On n t := by
  rw [Bool.and_eq_true, decide_eq_true_iff, List.all_eq_true] at h
  exact ⟨h.1, fun x hx => of_decide_eq_true (h.2 x hx)⟩
theorem ons_by {n : Nat} {G : List (List Nat)} (h : G.all (fun t => (decide (t.Pairwise (· < ·)) && t.all (fun x => decide (x < n)))) = true) : ∀ t ∈ G, On n t := fun t ht => on_by (List.all_eq_true.mp h t ht)
end M38

/-! families of sets: what lies within some corners, what is left around a member -/
namespace M38
open LK L5
theorem asc_ext {a b : List Nat} (ha : Asc a) (hb : Asc b) (h : ∀ x, x ∈ a ↔ x ∈ b) : a = b := by
  have h1 := sub_of_mem ha hb fun x hx => (h x).mp hx
  have h2 := sub_of_mem hb ha fun x hx => (h x).mpr hx
  exact h1.eq_of_length_le h2.length_le
/-- both together -/
def un (n : Nat) (a b : List Nat) : List Nat := (List.range n).filter fun x => decide (x ∈ a) || decide (x ∈ b)
def mns (u m : List Nat) : List Nat := u.filter fun x => !decide (x ∈ m)
def comm (a b : List Nat) : List Nat := a.filter fun x => decide (x ∈ b)
theorem asc_range (n : Nat) : Asc (List.range n) := List.pairwise_lt_range
theorem on_range (n : Nat) : On n (List.range n) := ⟨asc_range n, fun x hx => List.mem_range.mp hx⟩
theorem mem_un {n : Nat} {a b : List Nat} {x : Nat} : x ∈ un n a b ↔ x < n ∧ (x ∈ a ∨ x ∈ b) := by
  unfold un
  rw [List.mem_filter, List.mem_range, Bool.or_eq_true, decide_eq_true_iff, decide_eq_true_iff]
theorem on_un (n : Nat) (a b : List Nat) : On n (un n a b) := (on_range n).sub List.filter_sublist
theorem mem_mns {u m : List Nat} {x : Nat} : x ∈ mns u m ↔ x ∈ u ∧ x ∉ m := by
  unfold mns
  rw [List.mem_filter, Bool.not_eq_true', decide_eq_false_iff_not]
theorem mns_sub (u m : List Nat) : (mns u m).Sublist u := List.filter_sublist
theorem mem_comm {a b : List Nat} {x : Nat} : x ∈ comm a b ↔ x ∈ a ∧ x ∈ b := by
  unfold comm
  rw [List.mem_filter, decide_eq_true_iff]
theorem comm_sub (a b : List Nat) : (comm a b).Sublist a := List.filter_sublist
/-- sorted(a + b), nothing in both -/
theorem srt_un {n : Nat} {a b : List Nat} (ha : On n a) (hb : On n b) (hd : ∀ x ∈ b, x ∉ a) : M50.srt (a ++ b) = un n a b := by
  refine (M50.srt_uniq (perm_of_mem ((on_un n a b).1.imp fun h => Nat.ne_of_lt h) ?_ fun x => ?_) ((on_un n a b).1.imp fun h => Nat.le_of_lt h)).symm
  · rw [List.nodup_append]
    exact ⟨ha.1.imp fun h => Nat.ne_of_lt h, hb.1.imp fun h => Nat.ne_of_lt h, fun x hx y hy e => hd y hy (e ▸ hx)⟩
  · rw [mem_un, List.mem_append]
    exact ⟨fun h => h.2, fun h => ⟨h.elim (ha.2 x) (hb.2 x), h⟩⟩
def rst (S : List (List Nat)) (c : List Nat) : List (List Nat) := S.filter fun t => sbB t c
def lnk (S : List (List Nat)) (m : List Nat) : List (List Nat) := (S.filter fun u => sbB m u).map fun u => mns u m
def lk (S : List (List Nat)) (m : List Nat) : List (List Nat) := srt encK (lnk S m)
def dsj (v m : List Nat) : Bool := (comm v m).isEmpty
/-- the link's members, as the law tells them -/
def llk (S : List (List Nat)) (m : List Nat) : List (List Nat) := S.filter fun v => dsj v m && decide (M50.srt (m ++ v) ∈ S)
theorem dsj_iff {v m : List Nat} : dsj v m = true ↔ ∀ x ∈ v, x ∉ m := by
  unfold dsj
  rw [List.isEmpty_iff, List.eq_nil_iff_forall_not_mem]
  exact ⟨fun h x hx hm => h x (mem_comm.mpr ⟨hx, hm⟩), fun h x hx => h x (mem_comm.mp hx).1 (mem_comm.mp hx).2⟩
/-- a family's members, in their order -/
structure Cl (n : Nat) (S : List (List Nat)) : Prop where
  nd : S.Nodup
  on : ∀ t ∈ S, On n t
  cl : ∀ {t u : List Nat}, t ∈ S → u.Sublist t → u ∈ S
  as : S.Pairwise fun p q => PySem.W.dataLe false encK p q = true
theorem Cl.fam {n : Nat} {S : List (List Nat)} (h : Cl n S) : Fam S S := ⟨h.nd, h.as, fun t => ⟨fun ht => ⟨t, ht, List.Sublist.refl t⟩, fun ⟨m, hm, hs⟩ => h.cl hm hs⟩⟩
theorem cl_of {n : Nat} {L : List (List Nat)} (nd : L.Nodup) (on : ∀ t ∈ L, On n t) (cl : ∀ t u, t ∈ L → u.Sublist t → u ∈ L) : Cl n (srt encK L) :=
  ⟨(srt_perm encK L).nodup_iff.mpr nd, fun t ht => on t ((srt_perm encK L).mem_iff.mp ht), fun {t u} ht hu => (srt_perm encK L).mem_iff.mpr (cl t u ((srt_perm encK L).mem_iff.mp ht) hu), srt_asc encK L⟩
theorem Cl.ext {n n' : Nat} {S S' : List (List Nat)} (h : Cl n S) (h' : Cl n' S') (e : ∀ t, t ∈ S ↔ t ∈ S') : S = S' := perm_eq (le_anti encK_inj) (perm_of_mem h.nd h'.nd e) h.as h'.as
theorem Cl.few {n : Nat} {S : List (List Nat)} (h : Cl n S) (hn : n ≤ 8) : S.length ≤ 256 := M38.few hn h.nd h.on
theorem Cl.nil (n : Nat) : Cl n [] := ⟨.nil, fun _ h => (nomatch h), fun h _ => (nomatch h), .nil⟩
theorem mem_rst {S : List (List Nat)} {c t : List Nat} : t ∈ rst S c ↔ t ∈ S ∧ ∀ x ∈ t, x ∈ c := by
  unfold rst
  rw [List.mem_filter, sbB_iff]
theorem Cl.rst {n : Nat} {S : List (List Nat)} (h : Cl n S) (c : List Nat) : Cl n (rst S c) :=
  ⟨h.nd.sublist List.filter_sublist, fun t ht => h.on t (mem_rst.mp ht).1, fun {t u} ht hu => mem_rst.mpr ⟨h.cl (mem_rst.mp ht).1 hu, fun x hx => (mem_rst.mp ht).2 x (hu.subset hx)⟩, h.as.sublist List.filter_sublist⟩
theorem Cl.srt_rst {n : Nat} {S : List (List Nat)} (h : Cl n S) (c : List Nat) : srt encK (M38.rst S c) = M38.rst S c := srt_is encK_inj (List.Perm.refl _) (h.rst c).as
theorem nodup_on {α β : Type} {f : α → β} : ∀ {l : List α}, (∀ a ∈ l, ∀ b ∈ l, f a = f b → a = b) → l.Nodup → (l.map f).Nodup
  | [], _, _ => .nil
  | a :: l, hf, h => by
    rw [List.nodup_cons] at h
    rw [List.map_cons, List.nodup_cons]
    refine ⟨fun hm => ?_, nodup_on (fun x hx y hy => hf x (List.mem_cons_of_mem _ hx) y (List.mem_cons_of_mem _ hy)) h.2⟩
    obtain ⟨b, hb, e⟩ := List.mem_map.mp hm
    have := hf b (List.mem_cons_of_mem _ hb) a List.mem_cons_self e
    exact h.1 (this ▸ hb)
theorem un_mns {n : Nat} {u m : List Nat} (hu : On n u) (h : ∀ x ∈ m, x ∈ u) : un n m (mns u m) = u := by
  refine asc_ext (on_un n m _).1 hu.1 fun x => ?_
  rw [mem_un, mem_mns]
  constructor
  · rintro ⟨_, h1 | h1⟩
    · exact h x h1
    · exact h1.1
  · intro hx
    refine ⟨hu.2 x hx, ?_⟩
    by_cases e : x ∈ m
    · exact .inl e
    · exact .inr ⟨hx, e⟩
theorem mns_un {n : Nat} {v m : List Nat} (hv : On n v) (h : ∀ x ∈ v, x ∉ m) : mns (un n m v) m = v := by
  refine asc_ext ((on_un n m v).1.sublist (mns_sub _ _)) hv.1 fun x => ?_
  rw [mem_mns, mem_un]
  exact ⟨fun ⟨h1, h2⟩ => h1.2.resolve_left h2, fun hx => ⟨⟨hv.2 x hx, .inr hx⟩, h x hx⟩⟩
theorem Cl.mem_lnk {n : Nat} {S : List (List Nat)} (h : Cl n S) {m : List Nat} (hm : On n m) {v : List Nat} : v ∈ lnk S m ↔ On n v ∧ (∀ x ∈ v, x ∉ m) ∧ un n m v ∈ S := by
  unfold lnk
  rw [List.mem_map]
  constructor
  · rintro ⟨u, hu, rfl⟩
    rw [List.mem_filter, sbB_iff] at hu
    have ou := h.on u hu.1
    exact ⟨ou.sub (mns_sub u m), fun x hx => (mem_mns.mp hx).2, by rw [un_mns ou hu.2]; exact hu.1⟩
  · rintro ⟨h1, h2, h3⟩
    refine ⟨un n m v, List.mem_filter.mpr ⟨h3, sbB_iff.mpr fun x hx => mem_un.mpr ⟨hm.2 x hx, .inl hx⟩⟩, mns_un h1 h2⟩
theorem un_sub {n : Nat} {m v w : List Nat} (h : w.Sublist v) : (un n m w).Sublist (un n m v) := sub_of_mem (on_un n m w).1 (on_un n m v).1 fun x hx => by
  rw [mem_un] at hx ⊢
  exact ⟨hx.1, hx.2.imp id fun k => h.subset k⟩
theorem Cl.lnk_nd {n : Nat} {S : List (List Nat)} (h : Cl n S) {m : List Nat} (hm : On n m) : (lnk S m).Nodup := by
  refine nodup_on (fun a ha b hb e => ?_) (h.nd.sublist List.filter_sublist)
  rw [List.mem_filter, sbB_iff] at ha hb
  rw [← un_mns (h.on a ha.1) ha.2, ← un_mns (h.on b hb.1) hb.2, e]
theorem Cl.lk {n : Nat} {S : List (List Nat)} (h : Cl n S) {m : List Nat} (hm : On n m) : Cl n (lk S m) :=
  cl_of (h.lnk_nd hm) (fun t ht => ((h.mem_lnk hm).mp ht).1) fun t u ht hu => by
    have k := (h.mem_lnk hm).mp ht
    exact (h.mem_lnk hm).mpr ⟨k.1.sub hu, fun x hx => k.2.1 x (hu.subset hx), h.cl k.2.2 (un_sub hu)⟩
theorem Cl.mem_lk {n : Nat} {S : List (List Nat)} (h : Cl n S) {m : List Nat} (hm : On n m) {v : List Nat} : v ∈ M38.lk S m ↔ On n v ∧ (∀ x ∈ v, x ∉ m) ∧ un n m v ∈ S := (srt_perm encK _).mem_iff.trans (h.mem_lnk hm)
theorem Cl.lk_llk {n : Nat} {S : List (List Nat)} (h : Cl n S) {m : List Nat} (hm : On n m) : M38.lk S m = llk S m := by
  refine perm_eq (le_anti encK_inj) (perm_of_mem (h.lk hm).nd (h.nd.sublist List.filter_sublist) fun v => ?_) (h.lk hm).as (h.as.sublist List.filter_sublist)
  rw [h.mem_lk hm]
  unfold llk
  rw [List.mem_filter, Bool.and_eq_true, decide_eq_true_iff, dsj_iff]
  constructor
  · rintro ⟨h1, h2, h3⟩
    refine ⟨h.cl h3 (sub_of_mem h1.1 (on_un n m v).1 fun x hx => mem_un.mpr ⟨h1.2 x hx, .inr hx⟩), h2, ?_⟩
    rw [srt_un hm h1 h2]
    exact h3
  · rintro ⟨h1, h2, h3⟩
    rw [srt_un hm (h.on v h1) h2] at h3
    exact ⟨h.on v h1, h2, h3⟩
/-! what the law asks -/
theorem Cl.rst2 {n : Nat} {S : List (List Nat)} (h : Cl n S) (a b : List Nat) : M38.rst (M38.rst S a) b = M38.rst S (comm a b) :=
  ((h.rst a).rst b).ext (h.rst _) fun t => by
    rw [mem_rst, mem_rst, mem_rst, and_assoc]
    refine and_congr_right fun _ => ⟨fun ⟨h1, h2⟩ x hx => mem_comm.mpr ⟨h1 x hx, h2 x hx⟩, fun h1 => ⟨fun x hx => (mem_comm.mp (h1 x hx)).1, fun x hx => (mem_comm.mp (h1 x hx)).2⟩⟩
theorem Cl.rst_all {n : Nat} {S : List (List Nat)} (h : Cl n S) : M38.rst S (List.range n) = S :=
  (h.rst _).ext h fun t => by
    rw [mem_rst]
    exact ⟨fun k => k.1, fun k => ⟨k, fun x hx => List.mem_range.mpr ((h.on t k).2 x hx)⟩⟩
theorem on_nil (n : Nat) : On n [] := ⟨.nil, fun _ h => (nomatch h)⟩
theorem Cl.lk_nil {n : Nat} {S : List (List Nat)} (h : Cl n S) : M38.lk S [] = S :=
  (h.lk (on_nil n)).ext h fun v => by
    rw [h.mem_lk (on_nil n)]
    have e : ∀ v, On n v → un n [] v = v := fun v hv => asc_ext (on_un n [] v).1 hv.1 fun x => by
      rw [mem_un]
      exact ⟨fun k => k.2.resolve_left (by simp), fun k => ⟨hv.2 x k, .inr k⟩⟩
    exact ⟨fun ⟨h1, _, h3⟩ => by rwa [e v h1] at h3, fun k => ⟨h.on v k, fun _ _ z => (nomatch z), by rwa [e v (h.on v k)]⟩⟩
theorem Cl.nil_mem {n : Nat} {S : List (List Nat)} (h : Cl n S) {m : List Nat} (hm : m ∈ S) : [] ∈ M38.lk S m :=
  (h.mem_lk (h.on m hm)).mpr ⟨on_nil n, fun _ z => (nomatch z), by
    rw [show un n m [] = m from asc_ext (on_un n m []).1 (h.on m hm).1 fun x => by
      rw [mem_un]
      exact ⟨fun k => k.2.resolve_right (by simp), fun k => ⟨(h.on m hm).2 x k, .inl k⟩⟩]
    exact hm⟩
theorem Cl.un_in {n : Nat} {S : List (List Nat)} (h : Cl n S) {a b : List Nat} (ha : On n a) (hb : b ∈ M38.lk S a) : un n a b ∈ S := ((h.mem_lk ha).mp hb).2.2
theorem Cl.lk2 {n : Nat} {S : List (List Nat)} (h : Cl n S) {a b : List Nat} (ha : On n a) (hb : b ∈ M38.lk S a) : M38.lk (M38.lk S a) b = M38.lk S (un n a b) := by
  have kb := (h.mem_lk ha).mp hb
  refine ((h.lk ha).lk kb.1).ext (h.lk (on_un n a b)) fun v => ?_
  rw [(h.lk ha).mem_lk kb.1, h.mem_lk (on_un n a b), h.mem_lk ha]
  have e : un n a (un n b v) = un n (un n a b) v := asc_ext (on_un n _ _).1 (on_un n _ _).1 fun x => by
    simp only [mem_un]
    constructor
    · rintro ⟨h0, h1 | ⟨_, h1 | h1⟩⟩
      · exact ⟨h0, .inl ⟨h0, .inl h1⟩⟩
      · exact ⟨h0, .inl ⟨h0, .inr h1⟩⟩
      · exact ⟨h0, .inr h1⟩
    · rintro ⟨h0, ⟨_, h1 | h1⟩ | h1⟩
      · exact ⟨h0, .inl h1⟩
      · exact ⟨h0, .inr ⟨h0, .inl h1⟩⟩
      · exact ⟨h0, .inr ⟨h0, .inr h1⟩⟩
  constructor
  · rintro ⟨h1, h2, _, h4, h5⟩
    refine ⟨h1, fun x hx hm => ?_, e ▸ h5⟩
    rcases (mem_un.mp hm).2 with k | k
    · exact h4 x (mem_un.mpr ⟨h1.2 x hx, .inr hx⟩) k
    · exact h2 x hx k
  · rintro ⟨h1, h2, h3⟩
    refine ⟨h1, fun x hx hm => h2 x hx (mem_un.mpr ⟨h1.2 x hx, .inr hm⟩), on_un n b v, fun x hx hm => ?_, e ▸ h3⟩
    rcases (mem_un.mp hx).2 with k | k
    · exact kb.2.1 x k hm
    · exact h2 x k (mem_un.mpr ⟨h1.2 x k, .inl hm⟩)
theorem Cl.rst_lk {n : Nat} {S : List (List Nat)} (h : Cl n S) {a c : List Nat} (ha : On n a) (hc : ∀ x ∈ a, x ∈ c) : M38.lk (M38.rst S c) a = M38.rst (M38.lk S a) (mns c a) := by
  refine ((h.rst c).lk ha).ext ((h.lk ha).rst _) fun v => ?_
  rw [(h.rst c).mem_lk ha, mem_rst, mem_rst, h.mem_lk ha]
  constructor
  · rintro ⟨h1, h2, h3, h4⟩
    exact ⟨⟨h1, h2, h3⟩, fun x hx => mem_mns.mpr ⟨h4 x (mem_un.mpr ⟨h1.2 x hx, .inr hx⟩), h2 x hx⟩⟩
  · rintro ⟨⟨h1, h2, h3⟩, h4⟩
    refine ⟨h1, h2, h3, fun x hx => ?_⟩
    rcases (mem_un.mp hx).2 with k | k
    · exact hc x k
    · exact (mem_mns.mp (h4 x k)).1
/-! the written family -/
theorem d_1 : gr (rst Sc [0, 2, 3]) = [[0, 3], [2, 3]] := by
  rw [show rst Sc [0, 2, 3] = [[], [0], [2], [3], [0, 3], [2, 3]] by decide +kernel]
  exact srt_is encT_inj (by decide +kernel) (by decide +kernel)
theorem l_1 : lk Sc [1] = [[], [0], [2]] := srt_is encK_inj (by decide +kernel) (by decide +kernel)
theorem d_2 : gr (lk Sc [1]) = [[0], [2]] := by
  rw [l_1]
  exact srt_is encT_inj (by decide +kernel) (by decide +kernel)
theorem d_3 : gr (lk Sc [0, 1]) = [[]] := by
  rw [show lk Sc [0, 1] = [[]] from srt_is encK_inj (by decide +kernel) (by decide +kernel)]
  exact srt_is encT_inj (by decide +kernel) (by decide +kernel)
theorem d_4 : gr (rst [] [1]) = [] := srt_is encT_inj (by decide +kernel) (by decide +kernel)
end M38

namespace K39
open PySem PySem.Spec PyProof.Rows L2 RZ L5 XX LK M38
/-! ### the text by places -/
def topS (i : Nat) : Stmt := PySem.Challenge.pw_pureladders_k39_whole_restricted_familie.main.body.getD i (.Pass ⟨0, 0, 0, 0⟩)
abbrev s_is_number : Stmt := topS 7
abbrev N_is_number : List Str := ["value"]
theorem sc_is_number : FnScope N_is_number ["value"] (defScope s_is_number) := ⟨rfl, rfl, rfl, by decide +kernel, rfl, by decide +kernel, by decide +kernel⟩
abbrev s_is_within : Stmt := topS 8
abbrev N_is_within : List Str := ["value", "least", "most"]
theorem sc_is_within : FnScope N_is_within ["value", "least", "most"] (defScope s_is_within) := ⟨rfl, rfl, rfl, by decide +kernel, rfl, by decide +kernel, by decide +kernel⟩
abbrev s_check_within : Stmt := topS 9
abbrev N_check_within : List Str := ["value", "least", "most"]
theorem sc_check_within : FnScope N_check_within ["value", "least", "most"] (defScope s_check_within) := ⟨rfl, rfl, rfl, by decide +kernel, rfl, by decide +kernel, by decide +kernel⟩
abbrev s_is_set : Stmt := topS 11
abbrev N_is_set : List Str := ["value", "many", "corner", "low", "high"]
theorem sc_is_set : FnScope N_is_set ["value", "many"] (defScope s_is_set) := ⟨rfl, rfl, rfl, by decide +kernel, rfl, by decide +kernel, by decide +kernel⟩
abbrev s_ordered : Stmt := topS 12
abbrev N_ordered : List Str := ["sets"]
theorem sc_ordered : FnScope N_ordered ["sets"] (defScope s_ordered) := ⟨rfl, rfl, rfl, by decide +kernel, rfl, by decide +kernel, by decide +kernel⟩
abbrev s_smaller_sets : Stmt := topS 13
abbrev N_smaller_sets : List Str := ["chosen", "at"]
theorem sc_smaller_sets : FnScope N_smaller_sets ["chosen"] (defScope s_smaller_sets) := ⟨rfl, rfl, rfl, by decide +kernel, rfl, by decide +kernel, by decide +kernel⟩
abbrev s_all_within : Stmt := topS 14
abbrev N_all_within : List Str := ["sets", "found", "waiting", "chosen"]
theorem sc_all_within : FnScope N_all_within ["sets"] (defScope s_all_within) := ⟨rfl, rfl, rfl, by decide +kernel, rfl, by decide +kernel, by decide +kernel⟩
abbrev s_greatest_sets : Stmt := topS 15
abbrev N_greatest_sets : List Str := ["sets", "covered", "chosen", "smaller"]
theorem sc_greatest_sets : FnScope N_greatest_sets ["sets"] (defScope s_greatest_sets) := ⟨rfl, rfl, rfl, by decide +kernel, rfl, by decide +kernel, by decide +kernel⟩
abbrev s_is_inside : Stmt := topS 16
abbrev N_is_inside : List Str := ["chosen", "other", "corner"]
theorem sc_is_inside : FnScope N_is_inside ["chosen", "other"] (defScope s_is_inside) := ⟨rfl, rfl, rfl, by decide +kernel, rfl, by decide +kernel, by decide +kernel⟩
abbrev s_sets_inside : Stmt := topS 17
abbrev N_sets_inside : List Str := ["sets", "outer", "chosen"]
theorem sc_sets_inside : FnScope N_sets_inside ["sets", "outer"] (defScope s_sets_inside) := ⟨rfl, rfl, rfl, by decide +kernel, rfl, by decide +kernel, by decide +kernel⟩
abbrev s_link_sets : Stmt := topS 18
abbrev N_link_sets : List Str := ["sets", "member", "around", "chosen", "corner"]
theorem sc_link_sets : FnScope N_link_sets ["sets", "member"] (defScope s_link_sets) := ⟨rfl, rfl, rfl, by decide +kernel, rfl, by decide +kernel, by decide +kernel⟩
abbrev s_family_text : Stmt := topS 20
abbrev N_family_text : List Str := ["corners", "members", "words", "chosen"]
theorem sc_family_text : FnScope N_family_text ["corners", "members"] (defScope s_family_text) := ⟨rfl, rfl, rfl, by decide +kernel, rfl, by decide +kernel, by decide +kernel⟩
abbrev s_set_text : Stmt := topS 21
abbrev N_set_text : List Str := ["chosen", "corner"]
theorem sc_set_text : FnScope N_set_text ["chosen"] (defScope s_set_text) := ⟨rfl, rfl, rfl, by decide +kernel, rfl, by decide +kernel, by decide +kernel⟩
abbrev s_are_sets : Stmt := topS 26
abbrev N_are_sets : List Str := ["value", "corners", "chosen"]
theorem sc_are_sets : FnScope N_are_sets ["value", "corners"] (defScope s_are_sets) := ⟨rfl, rfl, rfl, by decide +kernel, rfl, by decide +kernel, by decide +kernel⟩
abbrev s_made_family : Stmt := topS 27
abbrev N_made_family : List Str := ["corners", "sets", "family"]
theorem sc_made_family : FnScope N_made_family ["corners", "sets"] (defScope s_made_family) := ⟨rfl, rfl, rfl, by decide +kernel, rfl, by decide +kernel, by decide +kernel⟩
abbrev s_w_pot : Stmt := topS 29
abbrev N_w_pot : List Str := ["_law_script", "_law_at", "_law_cell", "_law_great", "_law_mixed"]
theorem sc_w_pot : FnScope N_w_pot ["_law_script", "_law_at"] (defScope s_w_pot) := ⟨rfl, rfl, rfl, by decide +kernel, rfl, by decide +kernel, by decide +kernel⟩
abbrev s_w_dip : Stmt := topS 30
abbrev N_w_dip : List Str := ["_law_pot_here", "_law_total", "_law_found", "_law_one", "_law_two"]
theorem sc_w_dip : FnScope N_w_dip ["_law_pot_here", "_law_total"] (defScope s_w_dip) := ⟨rfl, rfl, rfl, by decide +kernel, rfl, by decide +kernel, by decide +kernel⟩
abbrev s_w_pick : Stmt := topS 31
abbrev N_w_pick : List Str := ["_law_pot_here", "_law_items"]
theorem sc_w_pick : FnScope N_w_pick ["_law_pot_here", "_law_items"] (defScope s_w_pick) := ⟨rfl, rfl, rfl, by decide +kernel, rfl, by decide +kernel, by decide +kernel⟩
abbrev s_w_subsets : Stmt := topS 32
abbrev N_w_subsets : List Str := ["_law_size", "_law_found", "_law_corner", "_law_one"]
theorem sc_w_subsets : FnScope N_w_subsets ["_law_size"] (defScope s_w_subsets) := ⟨rfl, rfl, rfl, by decide +kernel, rfl, by decide +kernel, by decide +kernel⟩
abbrev s_w_inside : Stmt := topS 33
abbrev N_w_inside : List Str := ["_law_one", "_law_other", "_law_corner"]
theorem sc_w_inside : FnScope N_w_inside ["_law_one", "_law_other"] (defScope s_w_inside) := ⟨rfl, rfl, rfl, by decide +kernel, rfl, by decide +kernel, by decide +kernel⟩
abbrev s_w_sets : Stmt := topS 34
abbrev N_w_sets : List Str := ["_law_pot_here", "_law_size", "_law_sort", "_law_every", "_law_found", "_law_turn"]
theorem sc_w_sets : FnScope N_w_sets ["_law_pot_here", "_law_size"] (defScope s_w_sets) := ⟨rfl, rfl, rfl, by decide +kernel, rfl, by decide +kernel, by decide +kernel⟩
abbrev s_w_all : Stmt := topS 35
abbrev N_w_all : List Str := ["_law_size", "_law_sets_here", "_law_found", "_law_one", "_law_other", "_law_many"]
theorem sc_w_all : FnScope N_w_all ["_law_size", "_law_sets_here"] (defScope s_w_all) := ⟨rfl, rfl, rfl, by decide +kernel, rfl, by decide +kernel, by decide +kernel⟩
abbrev s_w_link : Stmt := topS 36
abbrev N_w_link : List Str := ["_law_members", "_law_one", "_law_found", "_law_other", "_law_corner"]
theorem sc_w_link : FnScope N_w_link ["_law_members", "_law_one"] (defScope s_w_link) := ⟨rfl, rfl, rfl, by decide +kernel, rfl, by decide +kernel, by decide +kernel⟩
abbrev s_w_common : Stmt := topS 37
abbrev N_w_common : List Str := ["_law_one", "_law_other", "_law_corner"]
theorem sc_w_common : FnScope N_w_common ["_law_one", "_law_other"] (defScope s_w_common) := ⟨rfl, rfl, rfl, by decide +kernel, rfl, by decide +kernel, by decide +kernel⟩
abbrev s_w_right : Stmt := topS 38
abbrev N_w_right : List Str := ["_law_pot_here", "_law_size", "_law_sets_here", "_law_members", "_law_family", "_law_first", "_law_second", "_law_within", "_law_one", "_law_link_here", "_law_more", "_law_rest", "_law_corner"]
theorem sc_w_right : FnScope N_w_right ["_law_pot_here"] (defScope s_w_right) := ⟨rfl, rfl, rfl, by decide +kernel, rfl, by decide +kernel, by decide +kernel⟩
abbrev s_law : Stmt := topS 39
abbrev N_law : List Str := ["_law_script", "_law_spot", "_law_pot_here", "_law_turn", "_law_circle", "_law_told"]
theorem sc_law : FnScope N_law ["_law_script"] (defScope s_law) := ⟨rfl, rfl, rfl, by decide +kernel, rfl, by decide +kernel, by decide +kernel⟩
abbrev FamilyS : Stmt := topS 25
abbrev s_init : Stmt := inClass FamilyS 0
abbrev N_init : List Str := ["self", "corners", "members"]
theorem sc_init : FnScope N_init ["self", "corners", "members"] (defScope s_init) := ⟨rfl, rfl, rfl, by decide +kernel, rfl, by decide +kernel, by decide +kernel⟩
abbrev s_res : Stmt := inClass FamilyS 5
abbrev N_res : List Str := ["self", "corners"]
theorem sc_res : FnScope N_res ["self", "corners"] (defScope s_res) := ⟨rfl, rfl, rfl, by decide +kernel, rfl, by decide +kernel, by decide +kernel⟩
abbrev s_link : Stmt := inClass FamilyS 6
abbrev N_link : List Str := ["self", "member"]
theorem sc_link : FnScope N_link ["self", "member"] (defScope s_link) := ⟨rfl, rfl, rfl, by decide +kernel, rfl, by decide +kernel, by decide +kernel⟩
abbrev s_has : Stmt := inClass FamilyS 8
abbrev N_has : List Str := ["self", "value"]
theorem sc_has : FnScope N_has ["self", "value"] (defScope s_has) := ⟨rfl, rfl, rfl, by decide +kernel, rfl, by decide +kernel, by decide +kernel⟩
abbrev s_eq : Stmt := inClass FamilyS 9
abbrev N_eq : List Str := ["self", "other"]
theorem sc_eq : FnScope N_eq ["self", "other"] (defScope s_eq) := ⟨rfl, rfl, rfl, by decide +kernel, rfl, by decide +kernel, by decide +kernel⟩
abbrev s_len : Stmt := inClass FamilyS 11
abbrev N_len : List Str := ["self"]
theorem sc_len : FnScope N_len ["self"] (defScope s_len) := ⟨rfl, rfl, rfl, by decide +kernel, rfl, by decide +kernel, by decide +kernel⟩
abbrev s_iter : Stmt := inClass FamilyS 12
abbrev N_iter : List Str := ["self"]
theorem sc_iter : FnScope N_iter ["self"] (defScope s_iter) := ⟨rfl, rfl, rfl, by decide +kernel, rfl, by decide +kernel, by decide +kernel⟩
abbrev s_str : Stmt := inClass FamilyS 13
abbrev N_str : List Str := ["self"]
theorem sc_str : FnScope N_str ["self"] (defScope s_str) := ⟨rfl, rfl, rfl, by decide +kernel, rfl, by decide +kernel, by decide +kernel⟩
abbrev s_corners : Stmt := inClass FamilyS 1
abbrev N_corners : List Str := ["self"]
theorem sc_corners : FnScope N_corners ["self"] (defScope s_corners) := ⟨rfl, rfl, rfl, by decide +kernel, rfl, by decide +kernel, by decide +kernel⟩
/-! ### what the top has written -/
/-- a maker of lambdas: its code object is known -/
structure FunC (K : PySem.W.Frag) (x qual : Str) (st : Stmt) (f : Addr) (fd : FuncData) (c : Addr) : Prop where
  ex : ∃ (oc : Value) (od : Option Addr) (kV doc pm : Value) (an : Option Addr) (ct : Value) (osl : Array (Option Value)),
    fd = PySem.W.fnOf x qual (defArgs st) (defBody st) (defScope st) .none kV doc pm an (.ref c) ct ∧ K.lookup f = some ⟨oc, od, .func fd, osl⟩ ∧ PySem.W.codeIn K (.ref c) qual = true
structure Txt (K : PySem.W.Frag) (mg : Str → Option Value) where
  a_is_number : Addr
  d_is_number : FuncData
  F_is_number : Fun K "is_number" "is_number" s_is_number a_is_number d_is_number
  b_is_number : Binds K d_is_number ["value"] []
  m_is_number : mg "is_number" = some (.ref a_is_number)
  a_is_within : Addr
  d_is_within : FuncData
  F_is_within : Fun K "is_within" "is_within" s_is_within a_is_within d_is_within
  b_is_within : Binds K d_is_within ["value", "least", "most"] []
  m_is_within : mg "is_within" = some (.ref a_is_within)
  a_check_within : Addr
  d_check_within : FuncData
  F_check_within : Fun K "check_within" "check_within" s_check_within a_check_within d_check_within
  b_check_within : Binds K d_check_within ["value", "least", "most"] []
  m_check_within : mg "check_within" = some (.ref a_check_within)
  a_is_set : Addr
  d_is_set : FuncData
  F_is_set : Fun K "is_set" "is_set" s_is_set a_is_set d_is_set
  b_is_set : Binds K d_is_set ["value", "many"] []
  m_is_set : mg "is_set" = some (.ref a_is_set)
  a_ordered : Addr
  d_ordered : FuncData
  F_ordered : Fun K "ordered" "ordered" s_ordered a_ordered d_ordered
  c_ordered : Addr
  G_ordered : FunC K "ordered" "ordered" s_ordered a_ordered d_ordered c_ordered
  b_ordered : Binds K d_ordered ["sets"] []
  m_ordered : mg "ordered" = some (.ref a_ordered)
  a_smaller_sets : Addr
  d_smaller_sets : FuncData
  F_smaller_sets : Fun K "smaller_sets" "smaller_sets" s_smaller_sets a_smaller_sets d_smaller_sets
  b_smaller_sets : Binds K d_smaller_sets ["chosen"] []
  m_smaller_sets : mg "smaller_sets" = some (.ref a_smaller_sets)
  a_all_within : Addr
  d_all_within : FuncData
  F_all_within : Fun K "all_within" "all_within" s_all_within a_all_within d_all_within
  b_all_within : Binds K d_all_within ["sets"] []
  m_all_within : mg "all_within" = some (.ref a_all_within)
  a_greatest_sets : Addr
  d_greatest_sets : FuncData
  F_greatest_sets : Fun K "greatest_sets" "greatest_sets" s_greatest_sets a_greatest_sets d_greatest_sets
  b_greatest_sets : Binds K d_greatest_sets ["sets"] []
  m_greatest_sets : mg "greatest_sets" = some (.ref a_greatest_sets)
  a_is_inside : Addr
  d_is_inside : FuncData
  F_is_inside : Fun K "is_inside" "is_inside" s_is_inside a_is_inside d_is_inside
  b_is_inside : Binds K d_is_inside ["chosen", "other"] []
  m_is_inside : mg "is_inside" = some (.ref a_is_inside)
  a_sets_inside : Addr
  d_sets_inside : FuncData
  F_sets_inside : Fun K "sets_inside" "sets_inside" s_sets_inside a_sets_inside d_sets_inside
  b_sets_inside : Binds K d_sets_inside ["sets", "outer"] []
  m_sets_inside : mg "sets_inside" = some (.ref a_sets_inside)
  a_link_sets : Addr
  d_link_sets : FuncData
  F_link_sets : Fun K "link_sets" "link_sets" s_link_sets a_link_sets d_link_sets
  b_link_sets : Binds K d_link_sets ["sets", "member"] []
  m_link_sets : mg "link_sets" = some (.ref a_link_sets)
  a_family_text : Addr
  d_family_text : FuncData
  F_family_text : Fun K "family_text" "family_text" s_family_text a_family_text d_family_text
  b_family_text : Binds K d_family_text ["corners", "members"] []
  m_family_text : mg "family_text" = some (.ref a_family_text)
  a_set_text : Addr
  d_set_text : FuncData
  F_set_text : Fun K "set_text" "set_text" s_set_text a_set_text d_set_text
  b_set_text : Binds K d_set_text ["chosen"] []
  m_set_text : mg "set_text" = some (.ref a_set_text)
  a_are_sets : Addr
  d_are_sets : FuncData
  F_are_sets : Fun K "are_sets" "are_sets" s_are_sets a_are_sets d_are_sets
  b_are_sets : Binds K d_are_sets ["value", "corners"] []
  m_are_sets : mg "are_sets" = some (.ref a_are_sets)
  a_made_family : Addr
  d_made_family : FuncData
  F_made_family : Fun K "made_family" "made_family" s_made_family a_made_family d_made_family
  b_made_family : Binds K d_made_family ["corners", "sets"] []
  m_made_family : mg "made_family" = some (.ref a_made_family)
  a_w_pot : Addr
  d_w_pot : FuncData
  F_w_pot : Fun K "_law_pot" "_law_pot" s_w_pot a_w_pot d_w_pot
  b_w_pot : Binds K d_w_pot ["_law_script", "_law_at"] []
  m_w_pot : mg "_law_pot" = some (.ref a_w_pot)
  a_w_dip : Addr
  d_w_dip : FuncData
  F_w_dip : Fun K "_law_dip" "_law_dip" s_w_dip a_w_dip d_w_dip
  b_w_dip : Binds K d_w_dip ["_law_pot_here", "_law_total"] []
  m_w_dip : mg "_law_dip" = some (.ref a_w_dip)
  a_w_pick : Addr
  d_w_pick : FuncData
  F_w_pick : Fun K "_law_pick" "_law_pick" s_w_pick a_w_pick d_w_pick
  b_w_pick : Binds K d_w_pick ["_law_pot_here", "_law_items"] []
  m_w_pick : mg "_law_pick" = some (.ref a_w_pick)
  a_w_subsets : Addr
  d_w_subsets : FuncData
  F_w_subsets : Fun K "_law_subsets" "_law_subsets" s_w_subsets a_w_subsets d_w_subsets
  b_w_subsets : Binds K d_w_subsets ["_law_size"] []
  m_w_subsets : mg "_law_subsets" = some (.ref a_w_subsets)
  a_w_inside : Addr
  d_w_inside : FuncData
  F_w_inside : Fun K "_law_inside" "_law_inside" s_w_inside a_w_inside d_w_inside
  b_w_inside : Binds K d_w_inside ["_law_one", "_law_other"] []
  m_w_inside : mg "_law_inside" = some (.ref a_w_inside)
  a_w_sets : Addr
  d_w_sets : FuncData
  F_w_sets : Fun K "_law_sets" "_law_sets" s_w_sets a_w_sets d_w_sets
  b_w_sets : Binds K d_w_sets ["_law_pot_here", "_law_size"] []
  m_w_sets : mg "_law_sets" = some (.ref a_w_sets)
  a_w_all : Addr
  d_w_all : FuncData
  F_w_all : Fun K "_law_all" "_law_all" s_w_all a_w_all d_w_all
  b_w_all : Binds K d_w_all ["_law_size", "_law_sets_here"] []
  m_w_all : mg "_law_all" = some (.ref a_w_all)
  a_w_link : Addr
  d_w_link : FuncData
  F_w_link : Fun K "_law_link" "_law_link" s_w_link a_w_link d_w_link
  b_w_link : Binds K d_w_link ["_law_members", "_law_one"] []
  m_w_link : mg "_law_link" = some (.ref a_w_link)
  a_w_common : Addr
  d_w_common : FuncData
  F_w_common : Fun K "_law_common" "_law_common" s_w_common a_w_common d_w_common
  b_w_common : Binds K d_w_common ["_law_one", "_law_other"] []
  m_w_common : mg "_law_common" = some (.ref a_w_common)
  a_w_right : Addr
  d_w_right : FuncData
  F_w_right : Fun K "_law_right" "_law_right" s_w_right a_w_right d_w_right
  b_w_right : Binds K d_w_right ["_law_pot_here"] []
  m_w_right : mg "_law_right" = some (.ref a_w_right)
  a_law : Addr
  d_law : FuncData
  F_law : Fun K "law" "law" s_law a_law d_law
  b_law : Binds K d_law ["_law_script"] []
  m_law : mg "law" = some (.ref a_law)
  z_isinstance : mg "isinstance" = none
  z_int : mg "int" = none
  z_bool : mg "bool" = none
  z_tuple : mg "tuple" = none
  z_all : mg "all" = none
  z_zip : mg "zip" = none
  z_len : mg "len" = none
  z_sorted : mg "sorted" = none
  z_range : mg "range" = none
  z_list : mg "list" = none
  z_str : mg "str" = none
  z_abs : mg "abs" = none
  z_max : mg "max" = none
  z_set : mg "set" = none
  z_min : mg "min" = none
  z_ValueError : mg "ValueError" = none
  z_IndexError : mg "IndexError" = none
  z_iter : mg "iter" = none
  z_property : mg "property" = none
  t_MAX_CORNERS : Nat
  c_MAX_CORNERS : mg "MAX_CORNERS" = some (.int 8 t_MAX_CORNERS)
  t_MAX_GIVEN : Nat
  c_MAX_GIVEN : mg "MAX_GIVEN" = some (.int 256 t_MAX_GIVEN)
end K39

namespace K39
open PySem PySem.Spec PyProof.Rows L2 RZ L5 XX LK M38
section
variable {K : PySem.W.Frag} {H H' : Hp}
/-! ### values of any kind -/
/-- an entry: some i where it is an integer, no bool -/
inductive El (K : PySem.W.Frag) (H : Hp) : V → Option Int → Prop
  | int (i : Int) : El K H (.int i) (some i)
  | bl (b : Bool) : El K H (.bl b) none
  | non : El K H .non none
  | str (x : Str) : El K H (.str x) none
  | tup {a : Addr} {xs : List V} (h : SqT K H a xs) : El K H (.ref a) none
theorem El.same (s : Same H H') {v : V} {o : Option Int} (h : El K H v o) : El K H' v o := by
  cases h with
  | int i => exact .int i
  | bl b => exact .bl b
  | non => exact .non
  | str x => exact .str x
  | tup h => exact .tup (same_sqt s h)
theorem El.isi {v : V} {o : Option Int} (h : El K H v o) : ∃ t bi bb, TyX K H v t ∧ PySem.W.kitOne K t (.type "int") = some bi ∧ PySem.W.kitOne K t (.type "bool") = some bb ∧ o.isSome = (bi && !bb) ∧ ∀ i, o = some i → v = .int i := by
  cases h with
  | int i => exact ⟨_, true, false, .base (.int i), kit_ty (by decide +kernel), kit_ty (by decide +kernel), rfl, fun j e => by cases e; rfl⟩
  | bl b => exact ⟨_, true, true, .base (.bl b), kit_ty (by decide +kernel), kit_ty (by decide +kernel), rfl, fun j e => by cases e⟩
  | non => exact ⟨_, false, false, .base .non, kit_ty (by decide +kernel), kit_ty (by decide +kernel), rfl, fun j e => by cases e⟩
  | str x => exact ⟨_, false, false, .base (.str x), kit_ty (by decide +kernel), kit_ty (by decide +kernel), rfl, fun j e => by cases e⟩
  | tup h => exact ⟨_, false, false, sqt_ty h, kit_ty (by decide +kernel), kit_ty (by decide +kernel), rfl, fun j e => by cases e⟩
abbrev Els (K : PySem.W.Frag) (H : Hp) : List V → List (Option Int) → Prop := Paired (El K H)
theorem Els.same (s : Same H H') : ∀ {vs : List V} {os : List (Option Int)}, Els K H vs os → Els K H' vs os
  | _, _, .nil => .nil
  | _, _, .cons h t => .cons (h.same s) (Els.same s t)
theorem Els.length : ∀ {vs : List V} {os : List (Option Int)}, Els K H vs os → vs.length = os.length
  | _, _, .nil => rfl
  | _, _, .cons _ t => congrArg (· + 1) (Els.length t)
theorem Els.get : ∀ {vs : List V} {os : List (Option Int)} {i : Nat} {v : V}, Els K H vs os → vs[i]? = some v → ∃ o, os[i]? = some o ∧ El K H v o
  | _, _, _, _, .nil, e => by simp at e
  | _, _, 0, _, .cons h _, e => by simp at e; subst e; exact ⟨_, rfl, h⟩
  | _, _, i + 1, v, .cons _ t, e => by
    obtain ⟨u, h1, h2⟩ := Els.get (i := i) (v := v) t (by simpa using e)
    exact ⟨u, by simpa using h1, h2⟩
theorem Els.app : ∀ {vs us : List V} {os ps : List (Option Int)}, Els K H vs os → Els K H us ps → Els K H (vs ++ us) (os ++ ps)
  | _, _, _, _, .nil, s => s
  | _, _, _, _, .cons r t, s => .cons r (Els.app t s)
theorem els_nv : ∀ t : List Nat, Els K H (nv t) (t.map fun n => some ((n : Nat) : Int))
  | [] => .nil
  | n :: t => .cons (.int _) (els_nv t)
/-- a value: some os where it is a tuple -/
inductive Va (K : PySem.W.Frag) (H : Hp) : V → Option (List (Option Int)) → Prop
  | tup {a : Addr} {vs : List V} {os : List (Option Int)} (h : SqT K H a vs) (e : Els K H vs os) (hl : vs.length ≤ 1000) : Va K H (.ref a) (some os)
  | lst {a : Addr} {xs : List V} (h : SqL K H a xs) : Va K H (.ref a) none
  | dic {a : Addr} (h : H a = some (.dK [])) : Va K H (.ref a) none
  | non : Va K H .non none
  | int (i : Int) : Va K H (.int i) none
  | str (x : Str) : Va K H (.str x) none
  | own {a C dx : Addr} {fs : List (Str × V)} (h : H a = some (.ins C dx fs)) (t : ∀ H' : Hp, H' a = some (.ins C dx fs) → TyX K H' (.ref a) (.ref C)) (k : PySem.W.kitOne K (.ref C) (.type "tuple") = some false) : Va K H (.ref a) none
theorem same_sql {a : Addr} {xs : List V} (e : Same H H') (h : SqL K H a xs) : SqL K H' a xs := by
  rcases h with (h | ⟨o, h⟩) | h
  · exact .inl (.inl (e _ _ h))
  · exact .inl (.inr ⟨o, e _ _ h⟩)
  · exact .inr h
theorem sql_ty {a : Addr} {xs : List V} (h : SqL K H a xs) : TyX K H (.ref a) (.type "list") := by
  rcases h with (h | ⟨o, h⟩) | ⟨o, its, n, e, c, _⟩
  · exact .base (.lst h)
  · exact .base (.frz h)
  · exact .kList e c
theorem Va.same (s : Same H H') {v : V} {d : Option (List (Option Int))} (h : Va K H v d) : Va K H' v d := by
  cases h with
  | tup h e hl => exact .tup (same_sqt s h) (e.same s) hl
  | lst h => exact .lst (same_sql s h)
  | dic h => exact .dic (s _ _ h)
  | non => exact .non
  | int i => exact .int i
  | str x => exact .str x
  | own h t k => exact .own (s _ _ h) t k
theorem Va.isi {v : V} {d : Option (List (Option Int))} (h : Va K H v d) : ∃ t, TyX K H v t ∧ PySem.W.kitOne K t (.type "tuple") = some d.isSome := by
  cases h with
  | tup h e hl => exact ⟨_, sqt_ty h, kit_ty (show kitB "tuple" "tuple" = some true by decide +kernel)⟩
  | lst h => exact ⟨_, sql_ty h, kit_ty (by decide +kernel)⟩
  | dic h => exact ⟨_, .base (.dK h), kit_ty (by decide +kernel)⟩
  | non => exact ⟨_, .base .non, kit_ty (by decide +kernel)⟩
  | int i => exact ⟨_, .base (.int i), kit_ty (by decide +kernel)⟩
  | str x => exact ⟨_, .base (.str x), kit_ty (by decide +kernel)⟩
  | own h t k => exact ⟨_, t _ h, k⟩
theorem Va.get {v : V} {os : List (Option Int)} (h : Va K H v (some os)) : ∃ a vs, v = .ref a ∧ SqT K H a vs ∧ Els K H vs os ∧ vs.length ≤ 1000 := by
  cases h with
  | tup h e hl => exact ⟨_, _, rfl, h, e, hl⟩
/-! ### what the program asks of them -/
def inB (o : Option Int) (a b : Int) : Bool := match o with
  | some i => decide (a ≤ i) && decide (i ≤ b)
  | none => false
def areB (d : Option (List (Option Int))) (n m : Int) : Bool := match d with
  | some os => decide (((os.length : Nat) : Int) = n) && os.all fun o => inB o 0 m
  | none => false
def anyB (d : Option (List (Option Int))) : Bool := match d with
  | some os => decide (1 ≤ os.length) && decide (os.length ≤ 8) && areB d ((os.length : Nat) : Int) 60
  | none => false
def Prod60 (t : List Nat) : Prop := 1 ≤ t.length ∧ t.length ≤ 8 ∧ ∀ e ∈ t, e ≤ 60
theorem els_nat : ∀ {vs : List V} {os : List (Option Int)}, Els K H vs os → (os.all fun o => inB o 0 60) = true → ∃ u : List Nat, vs = nv u ∧ os = (u.map fun n => some ((n : Nat) : Int)) ∧ ∀ e ∈ u, e ≤ 60
  | _, _, .nil, _ => ⟨[], rfl, rfl, fun _ h => nomatch h⟩
  | _, _, .cons h t, ha => by
    rw [List.all_cons, Bool.and_eq_true] at ha
    obtain ⟨u, rfl, rfl, hu⟩ := els_nat t ha.2
    cases h with
    | int i =>
      have h1 : (decide ((0 : Int) ≤ i) && decide (i ≤ 60)) = true := ha.1
      rw [Bool.and_eq_true] at h1
      have h2 := of_decide_eq_true h1.1
      have h3 := of_decide_eq_true h1.2
      refine ⟨i.toNat :: u, ?_, ?_, fun e he => ?_⟩
      · show _ = V.int _ :: nv u
        rw [show ((i.toNat : Nat) : Int) = i by omega]
      · show _ = some _ :: _
        rw [show ((i.toNat : Nat) : Int) = i by omega]
      · rcases List.mem_cons.mp he with rfl | he
        · omega
        · exact hu e he
    | bl b => cases ha.1
    | non => cases ha.1
    | str x => cases ha.1
    | tup h => cases ha.1
theorem are_get {v : V} {d : Option (List (Option Int))} {n : Nat} (h : Va K H v d) (e : areB d ((n : Nat) : Int) 60 = true) : ∃ r u, v = .ref r ∧ SqT K H r (nv u) ∧ u.length = n ∧ (∀ e ∈ u, e ≤ 60) ∧ d = some (u.map fun n => some ((n : Nat) : Int)) := by
  cases d with
  | none => cases e
  | some os =>
    obtain ⟨a, vs, rfl, hT, hE, _⟩ := h.get
    have e' : (decide (((os.length : Nat) : Int) = ((n : Nat) : Int)) && os.all fun o => inB o 0 60) = true := e
    rw [Bool.and_eq_true] at e'
    obtain ⟨u, rfl, rfl, hu⟩ := els_nat hE e'.2
    have hl := of_decide_eq_true e'.1
    rw [List.length_map] at hl
    exact ⟨a, u, rfl, hT, by omega, hu, rfl⟩
theorem are_prod {t : List Nat} (h : ∀ e ∈ t, e ≤ 60) : areB (some (t.map fun n => some ((n : Nat) : Int))) ((t.length : Nat) : Int) 60 = true := by
  refine Bool.and_eq_true_iff.mpr ⟨decide_eq_true (by rw [List.length_map]), List.all_eq_true.mpr fun o ho => ?_⟩
  obtain ⟨n, hn, rfl⟩ := List.mem_map.mp ho
  have := h n hn
  show (decide ((0 : Int) ≤ ((n : Nat) : Int)) && decide (((n : Nat) : Int) ≤ 60)) = true
  rw [decide_eq_true (show (0 : Int) ≤ ((n : Nat) : Int) by omega), decide_eq_true (show ((n : Nat) : Int) ≤ 60 by omega)]
  rfl
theorem va_prod {a : Addr} {t : List Nat} (h : SqT K H a (nv t)) (hl : t.length ≤ 1000) : Va K H (.ref a) (some (t.map fun n => some ((n : Nat) : Int))) := .tup h (els_nv t) (by rw [nv_len]; exact hl)
end
end K39

namespace K39
open PySem PySem.Spec PyProof.Rows L2 RZ L5 XX LK M38
theorem take_more {α : Type} {l : List α} {i : Nat} {x : α} (h : l[i]? = some x) : l.take (i + 1) = l.take i ++ [x] := by
  rw [List.take_add_one, h]
  rfl
section
variable {P : Program} {w : World} {K : PySem.W.Frag} {mg : Str → Option Value} {base : Heap}
/-! ### is_number, is_within, are_exponents, check_within, of any value -/
def sp_num (K : PySem.W.Frag) : Sp := fun vs H Q _ => ∃ v o, vs = [v] ∧ El K H v o ∧ Q (.bl o.isSome) H
theorem ok_num (T : Txt K mg) : FnOk P w K mg base CX0 1 T.a_is_number T.d_is_number ["value"] (sp_num K) := by
  refine T.F_is_number.ok sc_is_number (fun vs H Q E h => ?_) (fun cdv A outer s H vs Q E hr h => ?_)
  · obtain ⟨v, o, rfl, _⟩ := h
    rfl
  · obtain ⟨v, o, rfl, he, q⟩ := h
    refine ⟨_, pss_one (ps_ret (pe_and (pe_callB call_isi (by rfl) T.z_isinstance boot_isinstance (pa_cons (pv 0) (pa_cons (pe_bltn (v := .ty "int") (by rfl) T.z_int boot_int rfl) pa_nil)))
      (pe_one (pe_not (pe_callB call_isi (by rfl) T.z_isinstance boot_isinstance (pa_cons (pv 0) (pa_cons (pe_bltn (v := .ty "bool") (by rfl) T.z_bool boot_bool rfl) pa_nil))))))), ?_⟩
    obtain ⟨t, bi, bb, ty, e1, e2, e3, _⟩ := he.isi
    refine ⟨_, rfl, _, _, _, _, bi, rfl, .ty _, ty, e1, bi, rfl, ?_⟩
    cases bi with
    | true =>
      refine iteT ⟨_, rfl, _, _, _, _, bb, rfl, .ty _, ty, e2, bb, rfl, ?_⟩
      rw [e3] at q
      exact q
    | false =>
      refine iteF ?_
      rw [e3] at q
      exact q
def sp_within (K : PySem.W.Frag) : Sp := fun vs H Q _ => ∃ v o, ∃ a b : Int, vs = [v, .int a, .int b] ∧ El K H v o ∧ Q (.bl (inB o a b)) H
theorem ok_within (T : Txt K mg) : FnOk P w K mg base CX0 2 T.a_is_within T.d_is_within ["value", "least", "most"] (sp_within K) := by
  refine T.F_is_within.ok sc_is_within (fun vs H Q E h => ?_) (fun cdv A outer s H vs Q E hr h => ?_)
  · obtain ⟨v, o, a, b, rfl, _⟩ := h
    rfl
  · obtain ⟨v, o, a, b, rfl, he, q⟩ := h
    refine ⟨_, pss_one (ps_ret (pe_and (pe_call (ok_num T) hr (by rfl) T.m_is_number T.F_is_number.kp T.b_is_number .nil pass0 (pa_cons (pv 0) pa_nil)) (pe_one (pe_chain op_le op_le (pv 1) (pv 0) (pv 2))))), ?_⟩
    refine ⟨_, rfl, v, o, rfl, he, o.isSome, rfl, ?_⟩
    cases o with
    | none => exact iteF q
    | some i =>
      obtain ⟨_, _, _, _, _, _, _, e⟩ := he.isi
      obtain rfl := e i rfl
      refine iteT ?_
      refine ⟨_, rfl, _, rfl, _, _, rfl, rfl, _, rfl, ite2 (fun c => ?_) (fun c => ?_)⟩
      · refine ⟨_, rfl, _, _, rfl, rfl, ?_⟩
        have q' : Q (.bl (decide (a ≤ i) && decide (i ≤ b))) H := q
        rw [c] at q'
        exact q'
      · have q' : Q (.bl (decide (a ≤ i) && decide (i ≤ b))) H := q
        rw [Bool.eq_false_iff.mpr c] at q'
        exact q'
def sp_checkw : Sp := fun vs H Q _ => ∃ i a b : Int, vs = [.int i, .int a, .int b] ∧ a ≤ i ∧ i ≤ b ∧ Q .non H
theorem ok_checkw (T : Txt K mg) : FnOk P w K mg base CX0 3 T.a_check_within T.d_check_within ["value", "least", "most"] sp_checkw := by
  refine T.F_check_within.ok sc_check_within (fun vs H Q E h => ?_) (fun cdv A outer s H vs Q E hr h => ?_)
  · obtain ⟨i, a, b, rfl, _⟩ := h
    rfl
  · obtain ⟨i, a, b, rfl, h1, h2, q⟩ := h
    refine ⟨_, pss_one (ps_if (pt_not (pt_val (pe_call (ok_within T) hr (by rfl) T.m_is_within T.F_is_within.kp T.b_is_within .nil pass0 (pa_cons (pv 0) (pa_cons (pv 1) (pa_cons (pv 2) pa_nil)))))) (pss_one ps_never) pss_nil), ?_⟩
    refine ⟨_, rfl, _, rfl, _, rfl, _, some i, a, b, rfl, .int i, true, ?_, iteF q⟩
    refine congrArg V.bl ?_
    show (decide (a ≤ i) && decide (i ≤ b)) = true
    rw [decide_eq_true h1, decide_eq_true h2]
    rfl
end
end K39

namespace K39
open PySem PySem.Spec PyProof.Rows L2 RZ L5 XX LK M38
section
variable {P : Program} {w : World} {K : PySem.W.Frag} {mg : Str → Option Value} {base : Heap}
/-! ### a comprehension over zip of two tuples of one length -/
abbrev lcTurn (D : Addr) (g : TG) (tt : TT) (te : TE) (vs : List Nat) (σ : L2.St) (Nx : Hp → Prop) (v : V) (H : Hp) : Prop := g v (wipe σ vs) H fun σ2 H2 => wipe σ2 vs = wipe σ vs ∧ tt σ2 H2 fun b H3 =>
  if b = true then te σ2 H3 fun y H4 => ∃ acc, H4 D = some (.lst acc) ∧ acc.length < sizeLine ∧ Nx (upd H4 D (.lst (acc ++ [y]))) else Nx H3
theorem lc_zipT {a b : Addr} {xs ys : List V} {g : TG} {tt : TT} {te : TE} {vs : List Nat} {σ : L2.St} {H1 : Hp} {D : Addr} {Qd : Hp → Prop} (hl : xs.length = ys.length) (Pv : Nat → Hp → Prop) (h0 : Pv 0 (upd H1 D (.lst []))) (hq : ∀ i H, Pv i H → SqT K H a xs ∧ SqT K H b ys)
    (hs : ∀ (i : Nat) (x y : V) (T : Addr) (H : Hp), xs[i]? = some x → ys[i]? = some y → Pv i H → H T = none → lcTurn D g tt te vs σ (Pv (i + 1)) (.ref T) (upd H T (.tup [x, y]))) (hd : ∀ H, Pv xs.length H → Qd H) :
    ∃ W : Nat → Nat → Hp → Prop, (∃ m, W 0 m (upd H1 D (.lst []))) ∧ ∀ i m H0, W i m H0 →
      ((ItzT K a b).stop i H0 ∧ Qd H0) ∨ ((ItzT K a b).go i H0 ∧ ∃ Nx : Hp → Prop, (∀ H', Nx H' → ∃ m', m' < m ∧ W (i + 1) m' H') ∧ ∀ v H', (ItzT K a b).yld i H0 v H' → lcTurn D g tt te vs σ Nx v H') := by
  refine ⟨fun i m H => i + m = xs.length ∧ Pv i H, ⟨xs.length, Nat.zero_add _, h0⟩, fun i m H0 hw => ?_⟩
  obtain ⟨em, pi⟩ := hw
  obtain ⟨ta, tb⟩ := hq i H0 pi
  cases m with
  | zero =>
    have ei : i = xs.length := em
    subst ei
    exact .inl ⟨⟨xs, ys, ta, tb, Or.inl (Nat.le_refl _)⟩, hd H0 pi⟩
  | succ m =>
    have i1 : i < xs.length := by omega
    have i2 : i < ys.length := hl ▸ i1
    refine .inr ⟨⟨xs, ys, _, _, ta, tb, List.getElem?_eq_getElem i1, List.getElem?_eq_getElem i2⟩, Pv (i + 1), fun H' p => ⟨m, Nat.lt_succ_self m, by omega, p⟩, fun v H' out => ?_⟩
    obtain ⟨T, _, _, rfl, free, rfl, fx, fy⟩ := out
    exact hs i _ _ T H0 (fx xs ta) (fy ys tb) pi free
theorem getD_at {t : List Nat} {i : Nat} (h : i < t.length) : t[i]? = some (t.getD i 0) := by
  rw [List.getD_eq_getElem?_getD, List.getElem?_eq_getElem h]
  rfl
theorem nv_take (t : List Nat) (k : Nat) : nv (t.take k) = (nv t).take k := List.map_take
theorem cut_to (xs : List V) (k : Nat) (h : k ≤ xs.length) : cutV xs none (some (k : Int)) = xs.take k := by
  unfold cutV
  rw [show HT.sIx xs.length xs.length (some (k : Int)) = min k xs.length from HT.sIx_nat xs.length xs.length k, HT.sIx_none, Nat.min_eq_left h]
  rfl
/-! ### tuple rules whose answer is told alike in all cases -/
def rCatB (K : PySem.W.Frag) : R2 := fun x y H Q => ∃ a b xs ys, x = .ref a ∧ y = .ref b ∧ SqT K H a xs ∧ SqT K H b ys ∧ xs.length + ys.length ≤ sizeLine ∧ ∀ H' z, Same H H' → SqT K H' z (xs ++ ys) → Q (.ref z) H'
theorem op_catB {X : Cx} : OpR X (binaryOp .Add) (rCatB X.K) := by
  intro pins s σ H x y v u Q I rx ry h
  obtain ⟨a, b, xs, ys, rfl, rfl, hx, hy, hz, q⟩ := h
  refine op_catA pins s σ H _ _ v u Q I rx ry ⟨a, b, xs, ys, rfl, rfl, hx, hy, hz, fun e => ?_, fun _ e => ?_, fun _ _ p hp => q _ p (same_new hp _) (SqT.of upd_same)⟩
  · subst e
    exact q H b (Same.refl H) hy
  · subst e
    rw [List.append_nil] at q
    exact q H a (Same.refl H) hx
def rSlB (K : PySem.W.Frag) : V → Option Int → Option Int → Hp → VK → Prop := fun x lo hi H Q => ∃ a xs, x = .ref a ∧ SqT K H a xs ∧ ∀ H' z, Same H H' → SqT K H' z (cutV xs lo hi) → Q (.ref z) H'
theorem sl_tupB {X : Cx} : SlR X (rSlB X.K) := by
  intro pins s σ H x v vl vu lo hi sl Q I rx hs pl pu h
  obtain ⟨a, xs, rfl, hx, q⟩ := h
  refine sl_tupA pins s σ H _ v vl vu lo hi sl Q I rx hs pl pu ⟨a, xs, rfl, hx, fun e => ?_, fun _ p hp => q _ p (same_new hp _) (SqT.of upd_same)⟩
  have e2 : cutV xs lo hi = xs := by
    unfold cutV
    rw [e.1, e.2]
    exact List.take_length
  rw [e2] at q
  exact q H a (Same.refl H) hx
/-! ### all but the pail stands -/
def Bar (p : Addr) (H H' : Hp) : Prop := ∀ b o, b ≠ p → H b = some o → H' b = some o
theorem Bar.trans {p : Addr} {A B C : Hp} (a : Bar p A B) (b : Bar p B C) : Bar p A C := fun c o n h => b c o n (a c o n h)
theorem Bar.same {p : Addr} {A B : Hp} (a : Same A B) : Bar p A B := fun c o _ h => a c o h
theorem Bar.upd {p : Addr} {A : Hp} {o : HO} : Bar p A (upd A p o) := fun c u n h => by
  rw [upd_ne n]
  exact h
theorem passG {X : Cx} : Passes (CX X.prog X.w) X E0 := fun _ _ _ _ _ _ _ c => by
  obtain ⟨_, _, _, _, _, _, _, _, _, _, _, _, no⟩ := c
  exact no.elim
theorem nostop : NoStop K E0 := fun _ _ _ no => no.elim
theorem ref_get {rs : List Addr} {i : Nat} {x : V} (h : (rs.map V.ref)[i]? = some x) : ∃ a, rs[i]? = some a ∧ x = .ref a := by
  rw [List.getElem?_map] at h
  cases e : rs[i]? with
  | none =>
    rw [e] at h
    cases h
  | some n =>
    rw [e] at h
    exact ⟨n, rfl, (Option.some.inj h).symm⟩
end
section
variable {P : Program} {w : World} {K : PySem.W.Frag} {mg : Str → Option Value} {base : Heap}
/-! ### the law's own draws -/
abbrev pailO (g x c : Int) : HO := .lst [.int g, .int x, .int c]
theorem mpos {j : Int} (h : (0 : Int) < j) : (0 : Int) < j := h
theorem PE.weak {X : Cx} {e : Expr} {t t' : TE} (h : PE X e t) (i : ∀ σ H Q, t' σ H Q → t σ H Q) : PE X e t' := ⟨fun pins s σ H Q I h' => h.run pins s σ H Q I (i σ H Q h')⟩
end
end K39

namespace K39
open PySem PySem.Spec PyProof.Rows L2 RZ L5 XX LK M38
section
variable {P : Program} {w : World} {K : PySem.W.Frag} {mg : Str → Option Value} {base : Heap}
def sp_pot (K : PySem.W.Frag) : Sp := fun vs H Q _ => ∃ (a : Addr) (ns : List Int) (k : Nat), vs = [.ref a, .int ((k : Nat) : Int)] ∧ SqL K H a (ns.map V.int) ∧ k < 1000 ∧ ∀ (H' : Hp) (r : Addr) (g x c : Int), Same H H' → H r = none → H' r = some (pailO g x c) → Q (.ref r) H'
theorem ok_pot (T : Txt K mg) : FnOk P w K mg base CX0 1 T.a_w_pot T.d_w_pot ["_law_script", "_law_at"] (sp_pot K) := by
  refine T.F_w_pot.ok sc_w_pot (fun vs H Q E h => ?_) (fun cdv A outer s H vs Q E hr h => ?_)
  · obtain ⟨a, ns, k, rfl, _⟩ := h
    rfl
  · obtain ⟨a, ns, k, rfl, hS, hk, q⟩ := h
    refine ⟨_, (pss_cons (ps_set (i := 2) sc_w_pot.nd rfl (Or.inl rfl) (PE.weak (t' := fun σ' H' Q' => σ' = start N_w_pot [.ref a, .int ((k : Nat) : Int)] ∧ H' = H ∧ ∀ i : Int, Q' (.int i) H) (pe_ifExp (pt_cmpR op_lt (pv 1) (pe_callB call_len_seq (by rfl) T.z_len boot_len (pa_cons (pv 0) pa_nil)) (nomark _)) (pe_ix ix_list (pv 0) (pv 1) (fun _ _ => rfl)) (pe_op op_add (pe_op op_mul pe_int (pv 1)) pe_int)) ?imp))
      (pss_cons (ps_set (i := 3) sc_w_pot.nd rfl (Or.inl rfl) (pe_op op_mod (pe_callTy call_int1 (by rfl) T.z_int boot_int (pa_cons (pe_callB call_abs (by rfl) T.z_abs boot_abs (pa_cons (pv 2) pa_nil)) pa_nil)) (pe_op op_powW (pe_op op_pow pe_int pe_int) pe_int)))
      (pss_cons (ps_set (i := 4) sc_w_pot.nd rfl (Or.inl rfl) (pe_op op_add (pe_op op_add (pe_op op_add (pe_op op_mul (pe_op op_mod (pe_callTy call_int1 (by rfl) T.z_int boot_int (pa_cons (pv 3) pa_nil)) pe_int) pe_int) (pe_op op_mul pe_int (pv 1))) (pe_op op_mul pe_int (pe_callTy call_int1 (by rfl) T.z_int boot_int (pa_cons (pe_cmpR op_lt (pv 2) pe_int (nomark _)) pa_nil)))) pe_int))
      (pss_one (ps_ret (pe_lst (pa_cons (pe_callB (call_max2 rfl) (by rfl) T.z_max (by decide +kernel) (pa_cons pe_int (pa_cons (pe_op op_add (pe_op op_sub (pv 3) (pe_op op_pow pe_int pe_int)) pe_int) pa_nil))) (pa_cons (pe_op op_mod (pe_callTy call_int1 (by rfl) T.z_int boot_int (pa_cons (pv 4) pa_nil)) pe_int) (pa_cons pe_int pa_nil))))))))), ?_⟩
    case imp =>
      rintro σ' H' Q' ⟨rfl, rfl, h⟩
      refine ⟨_, rfl, _, rfl, a, _, rfl, .inl hS, _, _, rfl, rfl, _, rfl, ite2 (fun c => ?_) (fun c => ?_)⟩
      · have c' := of_decide_eq_true c
        rw [List.length_map] at c'
        have hlt : k < ns.length := by omega
        refine ⟨_, rfl, _, rfl, a, _, _, .int ns[k], rfl, rfl, hS, atI_nat (by rw [List.getElem?_map, List.getElem?_eq_getElem hlt] <;> rfl), ?_⟩
        exact h _
      · exact ⟨_, rfl, _, _, rfl, rfl, .inl ⟨by decide, by decide⟩, _, _, rfl, rfl, h _⟩
    refine ⟨rfl, rfl, fun cell => ?_⟩
    refine ⟨_, rfl, _, rfl, .inl ⟨_, rfl, _, _, rfl, rfl, ⟨by decide, by decide, by decide⟩, _, _, rfl, rfl, ⟨by decide, by decide +kernel⟩, _, _, rfl, rfl, Int.pow_pos (Int.pow_pos (by decide)), ?_⟩⟩
    refine ⟨_, rfl, .inl ⟨_, rfl, _, _, rfl, rfl, mpos (by decide), _, _, rfl, rfl, .inr ⟨by decide, by decide⟩, _, rfl, _, _, rfl, rfl, .inl ⟨by decide, by decide⟩, _, _, rfl, rfl, _, rfl, _, _, rfl, rfl, .inr ⟨_, rfl, _, _, rfl, rfl, .inl ⟨by decide, by decide⟩, _, _, rfl, rfl, _, _, rfl, rfl, ?_⟩⟩⟩
    refine ⟨_, rfl, _, _, rfl, rfl, ⟨by decide, by decide, by decide⟩, _, _, rfl, rfl, _, _, rfl, rfl, _, _, rfl, _, rfl, .inl ⟨_, rfl, _, _, rfl, rfl, mpos (by decide), ?_⟩⟩
    refine ⟨by show 3 ≤ sizeLine; decide, fun z hz => ?_⟩
    exact q _ z _ _ _ (same_new hz _) hz upd_same
abbrev rDip (H : Hp) (p : Addr) (m : Int) (Q : VK) : Prop := ∀ g x c r : Int, 0 ≤ r → r < m → Q (.int r) (upd H p (pailO g x c))
def sp_dip : Sp := fun vs H Q _ => ∃ (p : Addr) (m g x c : Int), vs = [.ref p, .int m] ∧ H p = some (pailO g x c) ∧ 0 < m ∧ m < 1073741824 ∧ rDip H p m Q
theorem ok_dip (T : Txt K mg) : FnOk P w K mg base CX0 1 T.a_w_dip T.d_w_dip ["_law_pot_here", "_law_total"] sp_dip := by
  refine T.F_w_dip.ok sc_w_dip (fun vs H Q E h => ?_) (fun cdv A outer s H vs Q E hr h => ?_)
  · obtain ⟨p, m, g, x, c, rfl, _⟩ := h
    rfl
  · obtain ⟨p, m, g, x, c, rfl, hp, h0, h1, q⟩ := h
    refine ⟨_, (pss_cons (ps_if (pt_cmpR op_gt (pe_ix ix_list (pv 0) pe_int (fun _ _ => rfl)) pe_int (nomark _)) (pss_cons (ps_set (i := 2) sc_w_dip.nd rfl (Or.inl rfl) (pe_op op_mod (pe_callTy call_int1 (by rfl) T.z_int boot_int (pa_cons (pe_ix ix_list (pv 0) pe_int (fun _ _ => rfl)) pa_nil)) (pv 1)))
      (pss_cons (ps_asg (pe_op op_fdiv (pe_ix ix_list (pv 0) pe_int (fun _ _ => rfl)) (pv 1)) (pg_sub (pv 0) pe_int set_list))
      (pss_one (ps_ret (pv 2))))) pss_nil)
      (pss_cons (ps_asg (pe_op op_add (pe_ix ix_list (pv 0) pe_int (fun _ _ => rfl)) pe_int) (pg_sub (pv 0) pe_int set_list))
      (pss_cons (ps_set (i := 3) sc_w_dip.nd rfl (Or.inl rfl) (pe_op op_mod (pe_callTy call_int1 (by rfl) T.z_int boot_int (pa_cons (pe_op op_add (pe_ix ix_list (pv 0) pe_int (fun _ _ => rfl)) (pe_op op_mul pe_int (pe_ix ix_list (pv 0) pe_int (fun _ _ => rfl)))) pa_nil)) pe_int))
      (pss_cons (ps_set (i := 4) sc_w_dip.nd rfl (Or.inl rfl) (pe_op op_add (pe_op op_mul (pe_op op_mod (pe_callTy call_int1 (by rfl) T.z_int boot_int (pa_cons (pe_op op_mul (pv 3) (pv 3)) pa_nil)) pe_int) (pv 3)) (pe_op op_mul pe_int (pe_ix ix_list (pv 0) pe_int (fun _ _ => rfl)))))
      (pss_one (ps_ret (pe_op op_mod (pe_callTy call_int1 (by rfl) T.z_int boot_int (pa_cons (pe_op op_fdiv (pe_op op_mod (pe_callTy call_int1 (by rfl) T.z_int boot_int (pa_cons (pv 4) pa_nil)) pe_int) pe_int) pa_nil)) (pv 1)))))))), ?_⟩
    have a0 : atI [V.int g, V.int x, V.int c] (0 : Int) = some (.int g) := rfl
    refine ⟨_, rfl, p, _, _, _, rfl, rfl, SqL.of hp, a0, _, _, rfl, rfl, _, rfl, ite2 (fun d => ?_) (fun d => ?_)⟩
    · refine ⟨_, rfl, p, _, _, _, rfl, rfl, SqL.of hp, a0, .inl ⟨_, rfl, _, rfl, _, _, rfl, rfl, h0, ?_⟩⟩
      refine ⟨_, rfl, p, _, _, _, rfl, rfl, SqL.of hp, a0, _, rfl, _, _, rfl, rfl, ⟨h0, h1⟩, ?_⟩
      refine ⟨_, rfl, p, _, _, 0, rfl, rfl, hp, rfl, ?_⟩
      exact ⟨_, rfl, q _ _ _ _ (Int.emod_nonneg _ (by omega)) (Int.emod_lt_of_pos _ h0)⟩
    · have a2 : atI [V.int g, V.int x, V.int c] (2 : Int) = some (.int c) := rfl
      refine ⟨_, rfl, p, _, _, _, rfl, rfl, SqL.of hp, a2, _, _, rfl, rfl, _, rfl, p, _, _, 2, rfl, rfl, hp, rfl, ?_⟩
      have hp' : (upd H p (.lst [V.int g, V.int x, V.int (c + 1)])) p = some (.lst [V.int g, V.int x, V.int (c + 1)]) := upd_same
      have b1 : atI [V.int g, V.int x, V.int (c + 1)] (1 : Int) = some (.int x) := rfl
      have b2 : atI [V.int g, V.int x, V.int (c + 1)] (2 : Int) = some (.int (c + 1)) := rfl
      refine ⟨_, rfl, p, _, _, _, rfl, rfl, SqL.of hp', b1, _, rfl, p, _, _, _, rfl, rfl, SqL.of hp', b2, _, _, rfl, rfl, .inl ⟨by decide, by decide⟩, _, _, rfl, rfl, .inl ⟨_, rfl, _, _, rfl, rfl, mpos (by decide), ?_⟩⟩
      have r0 := Int.emod_nonneg (x + 1000213 * (c + 1)) (show (2305843009213693951 : Int) ≠ 0 by decide)
      have r1 := Int.emod_lt_of_pos (x + 1000213 * (c + 1)) (show (0 : Int) < 2305843009213693951 by decide)
      generalize (x + 1000213 * (c + 1)) % 2305843009213693951 = one at r0 r1 ⊢
      refine ⟨_, rfl, _, rfl, _, _, rfl, rfl, .inl ⟨by omega, by omega⟩, .inl ⟨_, rfl, _, _, rfl, rfl, mpos (by decide), ?_⟩⟩
      have m0 := Int.emod_nonneg (one * one) (show (2305843009213693907 : Int) ≠ 0 by decide)
      have m1 := Int.emod_lt_of_pos (one * one) (show (0 : Int) < 2305843009213693907 by decide)
      generalize one * one % 2305843009213693907 = two at m0 m1 ⊢
      refine ⟨_, rfl, _, _, rfl, rfl, .inl ⟨by omega, by omega⟩, _, rfl, p, _, _, _, rfl, rfl, SqL.of hp', b2, _, _, rfl, rfl, .inl ⟨by decide, by decide⟩, _, _, rfl, rfl, ?_⟩
      refine ⟨_, rfl, .inl ⟨_, rfl, _, _, rfl, rfl, mpos (by decide), _, _, rfl, rfl, ⟨by decide, by decide⟩, .inl ⟨_, rfl, _, rfl, _, _, rfl, rfl, h0, ?_⟩⟩⟩
      exact q _ _ _ _ (Int.emod_nonneg _ (by omega)) (Int.emod_lt_of_pos _ h0)
end
end K39

namespace K39
open PySem PySem.Spec PyProof.Rows L2 RZ L5 XX LK M38
section
variable {P : Program} {w : World} {K : PySem.W.Frag} {mg : Str → Option Value} {base : Heap}
/-! ### a comprehension over zip of two tuples of one length -/
/-! ### tuple rules whose answer is told alike in all cases -/
/-! ### all but the pail stands -/
end
section
variable {P : Program} {w : World} {K : PySem.W.Frag} {mg : Str → Option Value} {base : Heap}
/-! ### the law's own draws -/
def sp_some (K : PySem.W.Frag) : Sp := fun vs H Q _ => ∃ (p a : Addr) (xs : List V) (g x c : Int), vs = [.ref p, .ref a] ∧ H p = some (pailO g x c) ∧ a ≠ p ∧ SqL K H a xs ∧ xs ≠ [] ∧ xs.length ≤ 1000 ∧ ∀ g x c v, v ∈ xs → Q v (upd H p (pailO g x c))
theorem ok_some (T : Txt K mg) : FnOk P w K mg base CX0 2 T.a_w_pick T.d_w_pick ["_law_pot_here", "_law_items"] (sp_some K) := by
  refine T.F_w_pick.ok sc_w_pick (fun vs H Q E h => ?_) (fun cdv A outer s H vs Q E hr h => ?_)
  · obtain ⟨p, a, xs, g, x, c, rfl, _⟩ := h
    rfl
  · obtain ⟨p, a, xs, g, x, c, rfl, hp, hne, hS, hn, hz, q⟩ := h
    refine ⟨_, pss_one (ps_ret (pe_ix ix_list (pv 1) (pe_call (ok_dip T) hr (by rfl) T.m_w_dip T.F_w_dip.kp T.b_w_dip .nil pass0 (pa_cons (pv 0) (pa_cons (pe_callB call_len_seq (by rfl) T.z_len boot_len (pa_cons (pv 1) pa_nil)) pa_nil))) (fun _ _ => rfl))), ?_⟩
    have hpos : 0 < xs.length := List.length_pos_iff.mpr hn
    refine ⟨_, rfl, _, rfl, _, rfl, a, _, rfl, .inl hS, p, _, g, x, c, rfl, hp, by omega, by omega, fun g' x' c' r h0 h1 => ?_⟩
    have hlt : r.toNat < xs.length := by omega
    refine ⟨a, xs, r, xs[r.toNat], rfl, rfl, sql_updL hne hS, ?_, q _ _ _ _ (List.getElem_mem hlt)⟩
    have := atI_nat (xs := xs) (List.getElem?_eq_getElem hlt)
    rw [show ((r.toNat : Nat) : Int) = r by omega] at this
    exact this
end
end K39

/-! sorted of a list of tuples of ints, of unlike lengths, none of them empty -/
namespace TM
open PySem PyProof.Rows TS
/-- the place of a tuple of up to m ints in [0, B) in the order of tuples -/
def cod (B : Int) : Nat → List Int → Int
  | 0, _ => 0
  | _ + 1, [] => 0
  | m + 1, d :: r => (d + 1) * (B + 1) ^ m + cod B m r
theorem cod_bd {B : Int} (hB : 0 ≤ B) : ∀ (m : Nat) (ns : List Int), Bd B ns → 0 ≤ cod B m ns ∧ cod B m ns < (B + 1) ^ m
  | 0, ns, _ => by
    constructor
    · show (0 : Int) ≤ 0; exact Int.le_refl _
    · show (0 : Int) < (B + 1) ^ 0
      rw [Int.pow_zero]; decide
  | m + 1, [], _ => by
    constructor
    · show (0 : Int) ≤ 0; exact Int.le_refl _
    · show (0 : Int) < (B + 1) ^ (m + 1)
      exact Int.pow_pos (by omega)
  | m + 1, d :: r, h => by
    obtain ⟨c0, c1⟩ := cod_bd hB m r h.tail
    obtain ⟨d0, d1⟩ := h.head
    show 0 ≤ (d + 1) * (B + 1) ^ m + cod B m r ∧ (d + 1) * (B + 1) ^ m + cod B m r < (B + 1) ^ (m + 1)
    rw [Int.pow_succ]
    exact num1 c0 c1 (by omega) (by omega)
theorem cod_nil {B : Int} (hB : 0 ≤ B) (m : Nat) {d : Int} {r : List Int} (h : Bd B (d :: r)) : cod B (m + 1) [] < cod B (m + 1) (d :: r) := by
  obtain ⟨c0, _⟩ := cod_bd hB m r h.tail
  obtain ⟨d0, d1⟩ := h.head
  show (0 : Int) < (d + 1) * (B + 1) ^ m + cod B m r
  have p : 0 < (d + 1) * (B + 1) ^ m := Int.mul_pos (by omega) (Int.pow_pos (by omega))
  omega
theorem cod_lt {B : Int} (hB : 0 ≤ B) (m : Nat) {d e : Int} {r q : List Int} (hr : Bd B r) (hq : Bd B q) (h : d < e) : cod B (m + 1) (d :: r) < cod B (m + 1) (e :: q) := by
  obtain ⟨c0, c1⟩ := cod_bd hB m r hr
  obtain ⟨g0, g1⟩ := cod_bd hB m q hq
  show (d + 1) * (B + 1) ^ m + cod B m r < (e + 1) * (B + 1) ^ m + cod B m q
  exact num2 c0 c1 g0 (by omega)
theorem cod_same {B : Int} (m : Nat) {d : Int} {r q : List Int} : cod B (m + 1) (d :: r) < cod B (m + 1) (d :: q) ↔ cod B m r < cod B m q := by
  show (d + 1) * (B + 1) ^ m + cod B m r < (d + 1) * (B + 1) ^ m + cod B m q ↔ _
  generalize (d + 1) * (B + 1) ^ m = X
  constructor <;> intro z <;> omega
/-- unlike tuples have unlike places -/
theorem cod_inj {B : Int} (hB : 0 ≤ B) : ∀ (m : Nat) {ns ms : List Int}, Bd B ns → Bd B ms → ns.length ≤ m → ms.length ≤ m → cod B m ns = cod B m ms → ns = ms
  | 0, [], [], _, _, _, _, _ => rfl
  | 0, _ :: _, _, _, _, h, _, _ => by simp at h
  | 0, [], _ :: _, _, _, _, h, _ => by simp at h
  | m + 1, [], [], _, _, _, _, _ => rfl
  | m + 1, [], e :: q, _, h2, _, _, h => by
    have := cod_nil hB m h2
    omega
  | m + 1, d :: r, [], h1, _, _, _, h => by
    have := cod_nil hB m h1
    omega
  | m + 1, d :: r, e :: q, h1, h2, l1, l2, h => by
    rcases Int.lt_trichotomy d e with z | z | z
    · have := cod_lt hB m h1.tail h2.tail z
      omega
    · subst z
      have hc : cod B m r = cod B m q := by
        have h' : (d + 1) * (B + 1) ^ m + cod B m r = (d + 1) * (B + 1) ^ m + cod B m q := h
        omega
      rw [cod_inj hB m h1.tail h2.tail (by simpa using l1) (by simpa using l2) hc]
    · have := cod_lt hB m h2.tail h1.tail z
      omega
section
variable {prog : Program} {w : World} {A : Around} {E : Value → Shared → Prop} {s : Shared} {Q : Bool → Shared → Prop}
theorem lex_mixed {B : Int} (hB : 0 ≤ B) {b fin : Bool} {xs ys : List Value} {ns ms : List Int} (m i : Nat) (hx : IntsAre xs ns) (hy : IntsAre ys ms) (h1 : Bd B ns) (h2 : Bd B ms) (l1 : ns.length ≤ m) (l2 : ms.length ≤ m)
    (hf : fin = decide (ns.length < ms.length)) (h : Q (decide (cod B m ns < cod B m ms)) s) : PySem.W.KatLex prog w A b fin Q (xs.zip ys) i s := by
  induction hx generalizing ys ms i m with
  | nil =>
    cases hy with
    | nil =>
      have e : decide (cod B m [] < cod B m []) = fin := by rw [hf, decide_eq_false (Int.lt_irrefl _)]; rfl
      rw [e] at h
      exact PySem.W.kat_nil h
    | @cons q u ys ms hy =>
      obtain ⟨k, rfl⟩ : ∃ k, m = k + 1 := ⟨m - 1, by simp at l2; omega⟩
      have e : decide (cod B (k + 1) [] < cod B (k + 1) (q :: ms)) = fin := by
        rw [hf, decide_eq_true (cod_nil hB k h2)]
        exact (decide_eq_true (by simp)).symm
      rw [e] at h
      exact PySem.W.kat_nil h
  | @cons p t xs ns hx ih =>
    obtain ⟨k, rfl⟩ : ∃ k, m = k + 1 := ⟨m - 1, by simp at l1; omega⟩
    cases hy with
    | nil =>
      have e : decide (cod B (k + 1) (p :: ns) < cod B (k + 1) []) = fin := by
        have := cod_nil hB k h1
        rw [hf, decide_eq_false (by omega)]
        exact (decide_eq_false (by simp)).symm
      rw [e] at h
      exact PySem.W.kat_nil h
    | @cons q u ys ms hy =>
      show PySem.W.KatLex prog w A b fin Q ((Value.int p t, Value.int q u) :: xs.zip ys) i s
      refine PySem.W.kat_cons (wpAny_eqBool_int ?_)
      by_cases e : p = q
      · subst e
        rw [beq_self_eq_true]
        have d : decide (cod B (k + 1) (p :: ns) < cod B (k + 1) (p :: ms)) = decide (cod B k ns < cod B k ms) := decide_eq_decide.mpr (cod_same k)
        rw [d] at h
        refine PySem.W.kat_yes ?_
        exact ih k (i + 1) hy h1.tail h2.tail (by simpa using l1) (by simpa using l2) (by rw [hf]; exact decide_eq_decide.mpr (by simp)) h
      · rw [show (p == q) = false from beq_eq_false_iff_ne.mpr e]
        refine PySem.W.kat_no (oneLt_ints _ ?_)
        have d : decide (cod B (k + 1) (p :: ns) < cod B (k + 1) (q :: ms)) = decide (p < q) := by
          refine decide_eq_decide.mpr ⟨fun x => ?_, fun x => cod_lt hB k h1.tail h2.tail x⟩
          rcases Int.lt_trichotomy p q with y | y | y
          · exact y
          · exact absurd y e
          · have := cod_lt hB k h2.tail h1.tail y
            omega
        rw [d] at h
        exact h
end
/-- what is sorted: tuples of 1 to m ints each in [0, B) -/
def TupsM (h : Heap) (m : Nat) (B : Int) (vs : List Value) : Prop := ∀ v, v ∈ vs → ∃ ns, TupInts h v ns ∧ 1 ≤ ns.length ∧ ns.length ≤ m ∧ Bd B ns
theorem TupsM.keeps {h h' : Heap} {m : Nat} {B : Int} {vs : List Value} (x : TupsM h m B vs) (k : ∀ b o, h.get? b = some o → o.cls = .type "tuple" → h'.get? b = some o) : TupsM h' m B vs := fun v hv =>
  let ⟨ns, t, r⟩ := x v hv; ⟨ns, t.keeps k, r⟩
theorem firsts_mixed {h : Heap} {m : Nat} {B : Int} : ∀ vs : List Value, TupsM h m B vs → ∃ fs, PySem.W.KatTups h vs fs ∧ fs.length = vs.length ∧ ∀ f, f ∈ fs → ∃ n t, f = Value.int n t
  | [], _ => ⟨[], PySem.W.KatTups.nil, rfl, fun f hf => by simp at hf⟩
  | v :: vs, x => by
    obtain ⟨fs, k, hl, hi⟩ := firsts_mixed vs fun u hu => x u (List.mem_cons_of_mem _ hu)
    obtain ⟨ns, ⟨a, xs, rfl, ⟨o, ho, hc, n, hdt⟩, i⟩, hn, _⟩ := x v (List.mem_cons_self ..)
    obtain ⟨y, ys, e⟩ : ∃ y ys, xs.toList = y :: ys := by
      cases q : xs.toList with
      | nil =>
        rw [q] at i
        have l := i.length
        rw [List.length_nil] at l
        omega
      | cons y ys => exact ⟨y, ys, rfl⟩
    obtain ⟨m, t, hy⟩ := i.all y (by rw [e]; exact List.mem_cons_self ..)
    refine ⟨y :: fs, PySem.W.KatTups.cons ho hc hdt ?_ k, by simp [hl], ?_⟩
    · have z := congrArg (fun l : List Value => l[0]?) e
      simpa using z
    · intro f hf
      rcases List.mem_cons.mp hf with rfl | hf
      · exact ⟨m, t, hy⟩
      · exact hi f hf
section
variable {prog : Program} {w : World} {A : Around} {E : Value → Shared → Prop} {s : Shared}
theorem kind_mixed {m : Nat} {B : Int} {vs : List Value} (hB : 0 ≤ B) (h2 : 2 ≤ vs.length) (x : TupsM s.heap m B vs) (r : Value → Int) (hr : ∀ v, v ∈ vs → ∀ ns, TupInts s.heap v ns → r v = cod B m ns) (Q : SortKind → Shared → Prop)
    (h : ∀ κ, Cmp prog w A s κ (pairsOf vs) r → Q κ s) : wpAny (model prog w) A (keyKind' vs.toArray) Q E s := by
  obtain ⟨fs, k, hl, hi⟩ := firsts_mixed vs x
  refine PySem.W.kat_kind (T := Value.type "int") k (by omega) (fun f hf => ?_) rfl (h _ ?_)
  · obtain ⟨n, t, rfl⟩ := hi f hf
    exact PySem.W.Looks.of_pure rfl
  · intro p q hp hq Q' E' hQ
    rw [pairsOf_toList] at hp hq
    obtain ⟨ns, tp, _, lp, bp⟩ := x _ (mem_zip_self hp).2
    obtain ⟨ms, tq, _, lq, bq⟩ := x _ (mem_zip_self hq).2
    have ep := hr _ (mem_zip_self hp).2 _ tp
    have eq2 := hr _ (mem_zip_self hq).2 _ tq
    have hQ' : Q' (decide (cod B m ns < cod B m ms)) s := by
      have z : decide (r p.1 < r q.1) = decide (cod B m ns < cod B m ms) := by rw [ep, eq2]
      rw [← z]; exact hQ
    obtain ⟨a, xs, e1, ⟨o, ho, hc, n, hdt⟩, i⟩ := tp
    obtain ⟨a', ys, e2, ⟨o', ho', hc', n', hdt'⟩, i'⟩ := tq
    rw [e1, e2]
    refine PySem.W.kat_lt ho hdt ho' hdt' ?_
    have l1 := i.length
    have l2 := i'.length
    rw [Array.length_toList] at l1 l2
    exact lex_mixed hB m 0 i i' bp bq lp lq (by rw [l1, l2]) hQ'
theorem sort_mixed {a : Addr} {vs : List Value} {n m : Nat} {B : Int} {P : PySem.Fin → Shared → Prop} (ho : s.heap.get? a = some (seqObj "list" vs.toArray n)) (h64 : vs.length < 64) (hB : 0 ≤ B) (x : TupsM s.heap m B vs)
    (r : Value → Int) (hr : ∀ v, v ∈ vs → ∀ ns, TupInts s.heap v ns → r v = cod B m ns)
    (h : ∀ out : Array Value, out.toList.Perm vs → out.toList.Pairwise (fun u v => r u ≤ r v) → P (.done (.ret .none)) { s with heap := sortedHeap s.heap a vs out }) :
    wpAny (model prog w) A (Builtin.«list.sort» ⟨[.ref a], []⟩) P E s := by
  have keep : ∀ b o, s.heap.get? b = some o → o.cls = .type "tuple" → (midHeap s.heap a vs).get? b = some o := fun b o e hc => by
    refine midHeap_old ?_ e
    rintro rfl
    rw [ho] at e
    have e' : seqObj "list" vs.toArray n = o := Option.some.inj e
    rw [← e'] at hc
    have c' : Value.type "list" = Value.type "tuple" := hc
    injection c' with c''
    exact absurd c'' (by decide)
  refine SK.plain_sort (r := r) ho h64 (fun h2 Q hQ => ?_) fun ps out h1 h2 h3 => ?_
  · refine kind_mixed (s := { s with heap := midHeap s.heap a vs }) hB h2 (x.keeps keep) r (fun v hv ns t => ?_) Q hQ
    obtain ⟨ns0, t0, _⟩ := x v hv
    have e : ns = ns0 := t.ints.symm.trans (t0.keeps keep).ints
    rw [e]
    exact hr v hv ns0 t0
  · obtain ⟨p, o⟩ := out_rank h1 h2 h3
    exact h out p o
theorem sorted_mixed {l : Addr} {vs : List Value} {m : Nat} {B : Int} {Q : Value → Shared → Prop} (hl : s.heap.IsList l vs.toArray) (h64 : vs.length < 64) (hB : 0 ≤ B) (x : TupsM s.heap m B vs)
    (h : ∀ out : Array Value, out.toList.Perm vs → out.toList.Pairwise (fun u v => cod B m (intsOf s.heap u) ≤ cod B m (intsOf s.heap v)) → Q (.ref (s.heap.objs.size + 1)) { s with heap := sortedAll s.heap vs out }) :
    wpAny (model prog w) A (call (.builtin "sorted") [.ref l]) Q E s := by
  refine Calls.call_function_entry kind_sorted plain_sorted entry_sorted (args_sorted1 _) ?_
  unfold Builtin.«sorted»
  refine wpAny_bind (m := checkCount "sorted" 1 1 _) (wpAny_pure ?_)
  refine wpAny_bind (collect_list hl ?_ (by rw [sizeLine_eq]; omega))
  refine wpAny_bind (wpAny_newList ?_ (by rw [sizeLine_eq]; omega))
  have hsz : ((s.heap.push (seqObj "list" #[] 0)).update s.heap.objs.size (Obj.mapSeq (· ++ vs.toArray))).objs.size = s.heap.objs.size + 1 := by
    rw [Heap.size_update, size_push']
  have hoL : (((s.heap.push (seqObj "list" #[] 0)).update s.heap.objs.size (Obj.mapSeq (· ++ vs.toArray))).push (seqObj "list" vs.toArray 0)).get? (s.heap.objs.size + 1) = some (seqObj "list" vs.toArray 0) := by
    rw [← hsz]; exact Heap.get?_push_size _ rfl
  have keep : ∀ b o, s.heap.get? b = some o → o.cls = .type "tuple" → (((s.heap.push (seqObj "list" #[] 0)).update s.heap.objs.size (Obj.mapSeq (· ++ vs.toArray))).push (seqObj "list" vs.toArray 0)).get? b = some o := fun b o q _ => by
    have hlt : b < s.heap.objs.size := Heap.lt_size q
    rw [Heap.get?_push_ne _ _ _ (by rw [hsz]; exact Nat.ne_of_lt (Nat.lt_succ_of_lt hlt)), Heap.get?_update_ne _ _ _ _ (Nat.ne_of_lt hlt), Heap.get?_push_ne _ _ _ (Nat.ne_of_lt hlt)]
    exact q
  show wpAny _ _ _ _ _ { s with heap := ((s.heap.push (seqObj "list" #[] 0)).update s.heap.objs.size (Obj.mapSeq (· ++ vs.toArray))).push (seqObj "list" vs.toArray 0) }
  rw [hsz]
  refine wpAny_bind (wpAny_holding (wpAny_call_entry slot_list_sort ⟨_, hoL, rfl⟩ entry_list_sort (sort_mixed hoL h64 hB (x.keeps keep) (fun v => cod B m (intsOf s.heap v)) (fun v hv ns t => ?_) fun out a1 a2 => ⟨_, rfl, ?_⟩) (args_list_sort _)))
  · obtain ⟨ns0, t0, _⟩ := x v hv
    have e : ns = ns0 := t.ints.symm.trans (t0.keeps keep).ints
    rw [e]
    show cod B m (intsOf s.heap v) = cod B m ns0
    rw [t0.ints]
  · exact wpAny_pure ⟨_, rfl, h out a1 a2⟩
end
end TM
namespace L2
open PySem PySem.Spec PyProof.Rows
section
variable {X : Cx}
def rSortM (K : PySem.W.Frag) (m : Nat) (B : Int) : List V → Hp → VK → Prop := fun vs H Q => ∃ (a : Addr) (xs : List V), vs = [V.ref a] ∧ SqL K H a xs ∧ xs.length < 64 ∧ (∀ x ∈ xs, ∃ ns, TupI K H x ns ∧ 1 ≤ ns.length ∧ ns.length ≤ m ∧ TS.Bd B ns) ∧
  ∀ (ys : List V) (p : Addr), ys.Perm xs → ys.Pairwise (fun x y => ∀ n k, TupI K H x n → TupI K H y k → TM.cod B m n ≤ TM.cod B m k) → H p = none → Q (.ref p) (upd H p (.lst ys))
theorem cr_sortM {m : Nat} {B : Int} (hB : 0 ≤ B) : CallR X (.builtin "sorted") (rSortM X.K m B) := by
  intro pins s σ H vs us Q I r h
  obtain ⟨a, xs, rfl, hs, h64, hx, q⟩ := h
  obtain ⟨its, rv, hl, hz⟩ := I.list hs
  rw [Vals.ref1 r]
  obtain ⟨e1, e2⟩ := bkV_refs rv fun x m => by
    obtain ⟨ns, ⟨t, e, _⟩, _⟩ := hx x m
    exact ⟨t, e⟩
  refine TM.sorted_mixed (m := m) (B := B) hl.isList (by rw [← rv.length]; exact h64) hB (fun v hv => ?_) fun out h1 h2 => ?_
  · obtain ⟨t, rfl⟩ := e2 v hv
    have hm : V.ref t ∈ xs := by
      rw [e1]
      exact List.mem_map.mpr ⟨_, hv, rfl⟩
    obtain ⟨ns, ⟨t', e, ht⟩, hn, hb⟩ := hx _ hm
    cases e
    exact ⟨ns, tupI_raw I ht, hn, hb⟩
  · obtain ⟨ep, he'⟩ := PyProof.Rows.sortedAll_at s.heap its out
    have h3 : ∀ u ∈ out.toList, ∃ a, u = Value.ref a := fun u hu => e2 u (h1.mem_iff.mp hu)
    have hp : (out.toList.map bkV).Perm xs := by
      rw [e1]
      exact h1.map bkV
    have hlen : (out.toList.map bkV).length ≤ sizeLine := by
      rw [hp.length_eq]
      exact hz
    refine ⟨.ref _, upd H (s.heap.objs.size + 1) (.lst (out.toList.map bkV)), I.laid (t' := s.toks) (fun _ _ => PyProof.Rows.sortedAll_old) (Nat.le_succ _) ⟨hlen, out.toList, ep, bkV_vals h3, he'⟩, rfl, q _ _ hp ?_ (I.hok.fresh (Nat.le_succ _))⟩
    rw [List.pairwise_map]
    refine List.Pairwise.imp (fun {u v} huv n m hn hm => ?_) h2
    obtain ⟨t, et, ht⟩ := hn
    obtain ⟨t', et', ht'⟩ := hm
    have eu := bkV_ref et
    have ev := bkV_ref et'
    have i1 : TS.intsOf s.heap u = n := by
      rw [eu]
      exact (tupI_raw I ht).ints
    have i2 : TS.intsOf s.heap v = m := by
      rw [ev]
      exact (tupI_raw I ht').ints
    rw [← i1, ← i2]
    exact huv
end
end L2

/-! general words: values of any kind, zips, bars, comparisons -/
namespace Gv
open PySem PySem.Spec PyProof.Rows L2 RZ L5
section
variable {K : PySem.W.Frag} {H H' : Hp}
inductive El (K : PySem.W.Frag) (H : Hp) : V → Option Int → Prop
  | int (i : Int) : El K H (.int i) (some i)
  | bl (b : Bool) : El K H (.bl b) none
  | non : El K H .non none
  | str (x : Str) (h : PyData.strOk x = true) : El K H (.str x) none
  | tup {a : Addr} {t : List Int} (h : SqT K H a (t.map V.int)) : El K H (.ref a) none
theorem El.same (s : Same H H') {v : V} {o : Option Int} (h : El K H v o) : El K H' v o := by
  cases h with
  | int i => exact .int i
  | bl b => exact .bl b
  | non => exact .non
  | str x h => exact .str x h
  | tup h => exact .tup (same_sqt s h)
theorem El.isi {v : V} {o : Option Int} (h : El K H v o) : ∃ t bi bb, TyX K H v t ∧ PySem.W.kitOne K t (.type "int") = some bi ∧ PySem.W.kitOne K t (.type "bool") = some bb ∧ o.isSome = (bi && !bb) ∧ ∀ i, o = some i → v = .int i := by
  cases h with
  | int i => exact ⟨_, true, false, .base (.int i), kit_ty (by decide +kernel), kit_ty (by decide +kernel), rfl, fun j e => by cases e; rfl⟩
  | bl b => exact ⟨_, true, true, .base (.bl b), kit_ty (by decide +kernel), kit_ty (by decide +kernel), rfl, fun j e => by cases e⟩
  | non => exact ⟨_, false, false, .base .non, kit_ty (by decide +kernel), kit_ty (by decide +kernel), rfl, fun j e => by cases e⟩
  | str x _ => exact ⟨_, false, false, .base (.str x), kit_ty (by decide +kernel), kit_ty (by decide +kernel), rfl, fun j e => by cases e⟩
  | tup h => exact ⟨_, false, false, sqt_ty h, kit_ty (by decide +kernel), kit_ty (by decide +kernel), rfl, fun j e => by cases e⟩
abbrev Els (K : PySem.W.Frag) (H : Hp) : List V → List (Option Int) → Prop := Paired (El K H)
theorem Els.same (s : Same H H') : ∀ {vs : List V} {os : List (Option Int)}, Els K H vs os → Els K H' vs os
  | _, _, .nil => .nil
  | _, _, .cons h t => .cons (h.same s) (Els.same s t)
theorem Els.length : ∀ {vs : List V} {os : List (Option Int)}, Els K H vs os → vs.length = os.length
  | _, _, .nil => rfl
  | _, _, .cons _ t => congrArg (· + 1) (Els.length t)
theorem Els.get : ∀ {vs : List V} {os : List (Option Int)} {i : Nat} {v : V}, Els K H vs os → vs[i]? = some v → ∃ o, os[i]? = some o ∧ El K H v o
  | _, _, _, _, .nil, e => by simp at e
  | _, _, 0, _, .cons h _, e => by simp at e; subst e; exact ⟨_, rfl, h⟩
  | _, _, i + 1, v, .cons _ t, e => by
    obtain ⟨u, h1, h2⟩ := Els.get (i := i) (v := v) t (by simpa using e)
    exact ⟨u, by simpa using h1, h2⟩
theorem Els.app : ∀ {vs us : List V} {os ps : List (Option Int)}, Els K H vs os → Els K H us ps → Els K H (vs ++ us) (os ++ ps)
  | _, _, _, _, .nil, s => s
  | _, _, _, _, .cons r t, s => .cons r (Els.app t s)
theorem els_nv : ∀ t : List Nat, Els K H (nv t) (t.map fun n => some ((n : Nat) : Int))
  | [] => .nil
  | n :: t => .cons (.int _) (els_nv t)
inductive Va (K : PySem.W.Frag) (H : Hp) : V → Option (List (Option Int)) → Prop
  | tup {a : Addr} {vs : List V} {os : List (Option Int)} (h : SqT K H a vs) (e : Els K H vs os) (hl : vs.length ≤ 1000) : Va K H (.ref a) (some os)
  | lst {a : Addr} {xs : List V} (h : SqL K H a xs) : Va K H (.ref a) none
  | dic {a : Addr} (h : H a = some (.dK [])) : Va K H (.ref a) none
  | non : Va K H .non none
  | int (i : Int) : Va K H (.int i) none
  | str (x : Str) : Va K H (.str x) none
  | own {a C dx : Addr} {fs : List (Str × V)} (h : H a = some (.ins C dx fs)) (t : ∀ H' : Hp, H' a = some (.ins C dx fs) → TyX K H' (.ref a) (.ref C)) (k : PySem.W.kitOne K (.ref C) (.type "tuple") = some false) : Va K H (.ref a) none
theorem same_sql {a : Addr} {xs : List V} (e : Same H H') (h : SqL K H a xs) : SqL K H' a xs := by
  rcases h with (h | ⟨o, h⟩) | h
  · exact .inl (.inl (e _ _ h))
  · exact .inl (.inr ⟨o, e _ _ h⟩)
  · exact .inr h
theorem sql_ty {a : Addr} {xs : List V} (h : SqL K H a xs) : TyX K H (.ref a) (.type "list") := by
  rcases h with (h | ⟨o, h⟩) | ⟨o, its, n, e, c, _⟩
  · exact .base (.lst h)
  · exact .base (.frz h)
  · exact .kList e c
theorem Va.same (s : Same H H') {v : V} {d : Option (List (Option Int))} (h : Va K H v d) : Va K H' v d := by
  cases h with
  | tup h e hl => exact .tup (same_sqt s h) (e.same s) hl
  | lst h => exact .lst (same_sql s h)
  | dic h => exact .dic (s _ _ h)
  | non => exact .non
  | int i => exact .int i
  | str x => exact .str x
  | own h t k => exact .own (s _ _ h) t k
theorem Va.isi {v : V} {d : Option (List (Option Int))} (h : Va K H v d) : ∃ t, TyX K H v t ∧ PySem.W.kitOne K t (.type "tuple") = some d.isSome := by
  cases h with
  | tup h e hl => exact ⟨_, sqt_ty h, kit_ty (show kitB "tuple" "tuple" = some true by decide +kernel)⟩
  | lst h => exact ⟨_, sql_ty h, kit_ty (by decide +kernel)⟩
  | dic h => exact ⟨_, .base (.dK h), kit_ty (by decide +kernel)⟩
  | non => exact ⟨_, .base .non, kit_ty (by decide +kernel)⟩
  | int i => exact ⟨_, .base (.int i), kit_ty (by decide +kernel)⟩
  | str x => exact ⟨_, .base (.str x), kit_ty (by decide +kernel)⟩
  | own h t k => exact ⟨_, t _ h, k⟩
theorem Va.get {v : V} {os : List (Option Int)} (h : Va K H v (some os)) : ∃ a vs, v = .ref a ∧ SqT K H a vs ∧ Els K H vs os ∧ vs.length ≤ 1000 := by
  cases h with
  | tup h e hl => exact ⟨_, _, rfl, h, e, hl⟩
def inB (o : Option Int) (a b : Int) : Bool := match o with
  | some i => decide (a ≤ i) && decide (i ≤ b)
  | none => false
theorem va_prod {a : Addr} {t : List Nat} (h : SqT K H a (nv t)) (hl : t.length ≤ 1000) : Va K H (.ref a) (some (t.map fun n => some ((n : Nat) : Int))) := .tup h (els_nv t) (by rw [nv_len]; exact hl)
theorem take_more {α : Type} {l : List α} {i : Nat} {x : α} (h : l[i]? = some x) : l.take (i + 1) = l.take i ++ [x] := by
  rw [List.take_add_one, h]
  rfl
abbrev lcTurn (D : Addr) (g : TG) (tt : TT) (te : TE) (vs : List Nat) (σ : L2.St) (Nx : Hp → Prop) (v : V) (H : Hp) : Prop := g v (wipe σ vs) H fun σ2 H2 => wipe σ2 vs = wipe σ vs ∧ tt σ2 H2 fun b H3 =>
  if b = true then te σ2 H3 fun y H4 => ∃ acc, H4 D = some (.lst acc) ∧ acc.length < sizeLine ∧ Nx (upd H4 D (.lst (acc ++ [y]))) else Nx H3
theorem lc_zipT {a b : Addr} {xs ys : List V} {g : TG} {tt : TT} {te : TE} {vs : List Nat} {σ : L2.St} {H1 : Hp} {D : Addr} {Qd : Hp → Prop} (hl : xs.length = ys.length) (Pv : Nat → Hp → Prop) (h0 : Pv 0 (upd H1 D (.lst []))) (hq : ∀ i H, Pv i H → SqT K H a xs ∧ SqT K H b ys)
    (hs : ∀ (i : Nat) (x y : V) (T : Addr) (H : Hp), xs[i]? = some x → ys[i]? = some y → Pv i H → H T = none → lcTurn D g tt te vs σ (Pv (i + 1)) (.ref T) (upd H T (.tup [x, y]))) (hd : ∀ H, Pv xs.length H → Qd H) :
    ∃ W : Nat → Nat → Hp → Prop, (∃ m, W 0 m (upd H1 D (.lst []))) ∧ ∀ i m H0, W i m H0 →
      ((ItzT K a b).stop i H0 ∧ Qd H0) ∨ ((ItzT K a b).go i H0 ∧ ∃ Nx : Hp → Prop, (∀ H', Nx H' → ∃ m', m' < m ∧ W (i + 1) m' H') ∧ ∀ v H', (ItzT K a b).yld i H0 v H' → lcTurn D g tt te vs σ Nx v H') := by
  refine ⟨fun i m H => i + m = xs.length ∧ Pv i H, ⟨xs.length, Nat.zero_add _, h0⟩, fun i m H0 hw => ?_⟩
  obtain ⟨em, pi⟩ := hw
  obtain ⟨ta, tb⟩ := hq i H0 pi
  cases m with
  | zero =>
    have ei : i = xs.length := em
    subst ei
    exact .inl ⟨⟨xs, ys, ta, tb, Or.inl (Nat.le_refl _)⟩, hd H0 pi⟩
  | succ m =>
    have i1 : i < xs.length := by omega
    have i2 : i < ys.length := hl ▸ i1
    refine .inr ⟨⟨xs, ys, _, _, ta, tb, List.getElem?_eq_getElem i1, List.getElem?_eq_getElem i2⟩, Pv (i + 1), fun H' p => ⟨m, Nat.lt_succ_self m, by omega, p⟩, fun v H' out => ?_⟩
    obtain ⟨T, _, _, rfl, free, rfl, fx, fy⟩ := out
    exact hs i _ _ T H0 (fx xs ta) (fy ys tb) pi free
theorem getD_at {t : List Nat} {i : Nat} (h : i < t.length) : t[i]? = some (t.getD i 0) := by
  rw [List.getD_eq_getElem?_getD, List.getElem?_eq_getElem h]
  rfl
theorem nv_take (t : List Nat) (k : Nat) : nv (t.take k) = (nv t).take k := List.map_take
theorem cut_to (xs : List V) (k : Nat) (h : k ≤ xs.length) : cutV xs none (some (k : Int)) = xs.take k := by
  unfold cutV
  rw [show HT.sIx xs.length xs.length (some (k : Int)) = min k xs.length from HT.sIx_nat xs.length xs.length k, HT.sIx_none, Nat.min_eq_left h]
  rfl
def rCatB (K : PySem.W.Frag) : R2 := fun x y H Q => ∃ a b xs ys, x = .ref a ∧ y = .ref b ∧ SqT K H a xs ∧ SqT K H b ys ∧ xs.length + ys.length ≤ sizeLine ∧ ∀ H' z, Same H H' → SqT K H' z (xs ++ ys) → Q (.ref z) H'
theorem op_catB {X : Cx} : OpR X (binaryOp .Add) (rCatB X.K) := by
  intro pins s σ H x y v u Q I rx ry h
  obtain ⟨a, b, xs, ys, rfl, rfl, hx, hy, hz, q⟩ := h
  refine op_catA pins s σ H _ _ v u Q I rx ry ⟨a, b, xs, ys, rfl, rfl, hx, hy, hz, fun e => ?_, fun _ e => ?_, fun _ _ p hp => q _ p (same_new hp _) (SqT.of upd_same)⟩
  · subst e
    exact q H b (Same.refl H) hy
  · subst e
    rw [List.append_nil] at q
    exact q H a (Same.refl H) hx
def rSlB (K : PySem.W.Frag) : V → Option Int → Option Int → Hp → VK → Prop := fun x lo hi H Q => ∃ a xs, x = .ref a ∧ SqT K H a xs ∧ ∀ H' z, Same H H' → SqT K H' z (cutV xs lo hi) → Q (.ref z) H'
theorem sl_tupB {X : Cx} : SlR X (rSlB X.K) := by
  intro pins s σ H x v vl vu lo hi sl Q I rx hs pl pu h
  obtain ⟨a, xs, rfl, hx, q⟩ := h
  refine sl_tupA pins s σ H _ v vl vu lo hi sl Q I rx hs pl pu ⟨a, xs, rfl, hx, fun e => ?_, fun _ p hp => q _ p (same_new hp _) (SqT.of upd_same)⟩
  have e2 : cutV xs lo hi = xs := by
    unfold cutV
    rw [e.1, e.2]
    exact List.take_length
  rw [e2] at q
  exact q H a (Same.refl H) hx
def Bar (p : Addr) (H H' : Hp) : Prop := ∀ b o, b ≠ p → H b = some o → H' b = some o
theorem Bar.trans {p : Addr} {A B C : Hp} (a : Bar p A B) (b : Bar p B C) : Bar p A C := fun c o n h => b c o n (a c o n h)
theorem Bar.same {p : Addr} {A B : Hp} (a : Same A B) : Bar p A B := fun c o _ h => a c o h
theorem Bar.upd {p : Addr} {A : Hp} {o : HO} : Bar p A (upd A p o) := fun c u n h => by
  rw [upd_ne n]
  exact h
theorem passG {X : Cx} : Passes (CX X.prog X.w) X E0 := fun _ _ _ _ _ _ _ c => by
  obtain ⟨_, _, _, _, _, _, _, _, _, _, _, _, no⟩ := c
  exact no.elim
theorem nostop : NoStop K E0 := fun _ _ _ no => no.elim
theorem ref_get {rs : List Addr} {i : Nat} {x : V} (h : (rs.map V.ref)[i]? = some x) : ∃ a, rs[i]? = some a ∧ x = .ref a := by
  rw [List.getElem?_map] at h
  cases e : rs[i]? with
  | none =>
    rw [e] at h
    cases h
  | some n =>
    rw [e] at h
    exact ⟨n, rfl, (Option.some.inj h).symm⟩
theorem mpos {j : Int} (h : (0 : Int) < j) : (0 : Int) < j := h
theorem same_back {H H' : Hp} (s : Same H H') {r : Addr} (h : H' r = none) : H r = none := s.free h
theorem PE.weak {X : Cx} {e : Expr} {t t' : TE} (h : PE X e t) (i : ∀ σ H Q, t' σ H Q → t σ H Q) : PE X e t' := ⟨fun pins s σ H Q I h' => h.run pins s σ H Q I (i σ H Q h')⟩
theorem PT.weak' {X : Cx} {e : Expr} {t t' : TT} (h : PT X e t) (i : ∀ σ H Q, t' σ H Q → t σ H Q) : PT X e t' := ⟨fun pins s σ H Q I h' => h.run pins s σ H Q I (i σ H Q h')⟩
theorem PS.weak' {X : Cx} {st : Stmt} {t t' : TS} (h : PS X st t) (i : ∀ D σ H, t' D σ H → t D σ H) : PS X st t' := ⟨fun pins s σ H D I h' => h.run pins s σ H D I (i D σ H h')⟩
theorem PS.ex {X : Cx} {st : Stmt} {α : Type} {t : α → TS} (h : ∀ x, PS X st (t x)) : PS X st (fun D σ H => ∃ x, t x D σ H) := ⟨fun pins s σ H D I ⟨x, h'⟩ => (h x).run pins s σ H D I h'⟩
theorem shaped_bool (b : Bool) : SeqAt.shaped (.bool b) = true := by cases b <;> decide +kernel
theorem eqv_bool (b : Bool) : PyData.eqv (.bool b) (.bool b) = true := by cases b <;> decide +kernel
theorem dp_ints {K : PySem.W.Frag} {H : Hp} : ∀ l : List Int, DpAll K H (l.map V.int) (l.map PyData.int)
  | [] => .nil
  | i :: l => .cons (.int i) (dp_ints l)
theorem can_ints : ∀ l : List Int, PyData.canLayAll0 (l.map PyData.int) = true ∧ PyData.depthAll (l.map PyData.int) = 0
  | [] => by simp [PyData.canLayAll0, PyData.depthAll]
  | i :: l => by
    obtain ⟨h1, h2⟩ := can_ints l
    constructor
    · rw [List.map_cons, PyData.canLayAll0, h1]
      simp [PyData.canLay0]
    · rw [List.map_cons, PyData.depthAll, h2]
      simp [PyData.depth]
theorem shaped_intsT (l : List Int) : SeqAt.shaped (.tuple (l.map PyData.int)) = true := by
  obtain ⟨h1, h2⟩ := can_ints l
  simp [SeqAt.shaped, PyData.canLay0, PyData.depth, h1, h2]
theorem eqv_intsT (l : List Int) : PyData.eqv (.tuple (l.map PyData.int)) (.tuple (l.map PyData.int)) = true := SeqAt.eqv_refl _ (by
  simp only [PyData.canLay0]
  exact (can_ints l).1)
theorem eqvAll_nats : ∀ t u : List Nat, PyData.eqvAll (t.map fun n => PyData.int ((n : Nat) : Int)) (u.map fun n => PyData.int ((n : Nat) : Int)) = decide (t = u)
  | [], [] => by simp [PyData.eqvAll]
  | [], _ :: _ => by simp [PyData.eqvAll]
  | _ :: _, [] => by simp [PyData.eqvAll]
  | a :: t, b :: u => by
    simp only [List.map_cons, PyData.eqvAll, PyData.eqv, eqvAll_nats t u]
    rw [show (((a : Nat) : Int) == ((b : Nat) : Int)) = decide (a = b) by
      rw [Bool.eq_iff_iff, beq_iff_eq, decide_eq_true_iff]
      omega, ← Bool.decide_and]
    exact decide_eq_decide.mpr (by simp)
theorem eqv_tupE (t u : List Nat) : PyData.eqv (encT t) (encT u) = decide (t = u) := by
  simp only [encT, PyData.eqv]
  exact eqvAll_nats t u
theorem tups_get {H : Hp} {rs : List Addr} {L : List (List Nat)} {i : Nat} {x : V} (hT : Tups K H rs L) (h : (rs.map V.ref)[i]? = some x) : ∃ a t, x = .ref a ∧ rs[i]? = some a ∧ L[i]? = some t ∧ SqT K H a (nv t) := by
  obtain ⟨a, ha, rfl⟩ := ref_get h
  obtain ⟨t, ht, hs⟩ := hT.get ha
  exact ⟨a, t, rfl, ha, ht, hs⟩
theorem any_take_step {l : List Bool} {i : Nat} {b : Bool} (h : l[i]? = some b) : (l.take (i + 1)).any id = ((l.take i).any id || b) := by
  rw [take_more h, List.any_append]
  simp
theorem any_drop {l : List Bool} {i : Nat} (h : (l.take i).any id = true) : l.any id = true := by
  rw [← List.take_append_drop i l, List.any_append, h, Bool.true_or]
theorem eqvAll_tups : ∀ L M : List (List Nat), PyData.eqvAll (L.map encT) (M.map encT) = decide (L = M)
  | [], [] => by simp [PyData.eqvAll]
  | [], _ :: _ => by simp [PyData.eqvAll]
  | _ :: _, [] => by simp [PyData.eqvAll]
  | t :: L, u :: M => by
    rw [List.map_cons, List.map_cons, PyData.eqvAll, eqv_tupE, eqvAll_tups L M, ← Bool.decide_and]
    exact decide_eq_decide.mpr (by simp)
theorem shaped_tupsT (L : List (List Nat)) : SeqAt.shaped (.tuple (L.map encT)) = true := by
  have h := can_tups L
  unfold SeqAt.shaped
  simp only [PyData.canLay0, PyData.depth, h.1, Bool.true_and]
  exact decide_eq_true (by omega)
theorem eqv_tupsSame (L : List (List Nat)) : PyData.eqv (.tuple (L.map encT)) (.tuple (L.map encT)) = true := SeqAt.eqv_refl _ (by
  simp only [PyData.canLay0]
  exact (can_tups L).1)
theorem shaped_natsL (t : List Nat) : SeqAt.shaped (.list (t.map fun n => PyData.int ((n : Nat) : Int))) = true := by
  have g := can_nats t
  unfold SeqAt.shaped
  simp only [PyData.canLay0, PyData.depth, g.1, g.2, Bool.true_and]
  exact decide_eq_true (by omega)
theorem eqv_nilL (l : List PyData) : PyData.eqv (.list l) (.list []) = decide (l = []) := by
  cases l with
  | nil => decide +kernel
  | cons a b =>
    rw [decide_eq_false (List.cons_ne_nil a b)]
    rfl
theorem sorted_one : ∀ {a b : List Int}, a.Perm b → a.Pairwise (· ≤ ·) → b.Pairwise (· ≤ ·) → a = b
  | [], b, p, _, _ => (List.nil_perm.mp p).symm
  | x :: a, [], p, _, _ => absurd p.length_eq (by simp)
  | x :: a, y :: b, p, ha, hb => by
    obtain ⟨a1, a2⟩ := List.pairwise_cons.mp ha
    obtain ⟨b1, b2⟩ := List.pairwise_cons.mp hb
    have e : x = y := by
      have h1 : x ∈ y :: b := p.mem_iff.mp List.mem_cons_self
      have h2 : y ∈ x :: a := p.mem_iff.mpr List.mem_cons_self
      rcases List.mem_cons.mp h1 with h1 | h1
      · exact h1
      · rcases List.mem_cons.mp h2 with h2 | h2
        · exact h2.symm
        · have := b1 x h1
          have := a1 y h2
          omega
    subst e
    rw [sorted_one (List.perm_cons x |>.mp p) a2 b2]
theorem bar_updL {p D : Addr} {o : HO} {H H' : Hp} (b : Bar p H H') (hD : H D = none) : Bar p H (upd H' D o) := fun c u n h => by
  rw [upd_ne (ne_of_none h hD)]
  exact b c u n h
theorem nat_of {i : Int} (h0 : 0 ≤ i) : ∃ n : Nat, i = ((n : Nat) : Int) := ⟨i.toNat, by omega⟩
theorem sqt_but {H H' : Hp} {z a : Addr} {xs ys : List V} (hz : H z = some (.lst ys)) (st : ∀ b o, b ≠ z → H b = some o → H' b = some o) (h : SqT K H a xs) : SqT K H' a xs := by
  have ne : ∀ {o : HO}, H a = some o → o ≠ .lst ys → a ≠ z := fun {o} e n k => by
    rw [k, hz] at e
    exact n (Option.some.inj e).symm
  rcases h with (h | ⟨o, h⟩) | h
  · exact .inl (.inl (st _ _ (ne h fun k => nomatch k) h))
  · exact .inl (.inr ⟨o, st _ _ (ne h fun k => nomatch k) h⟩)
  · exact .inr h
theorem tups_but {H H' : Hp} {z : Addr} {ys : List V} (hz : H z = some (.lst ys)) (st : ∀ b o, b ≠ z → H b = some o → H' b = some o) : ∀ {rs : List Addr} {L : List (List Nat)}, Tups K H rs L → Tups K H' rs L
  | _, _, .nil => .nil
  | _, _, .cons h t => .cons (sqt_but hz st h) (tups_but hz st t)
theorem all_take_step {l : List Bool} {i : Nat} {b : Bool} (h : l[i]? = some b) : (l.take (i + 1)).all id = ((l.take i).all id && b) := by
  rw [take_more h, List.all_append]
  show _ = _
  simp
end
end Gv

/-! tuples of ints, zips of unlike lengths -/
namespace Gv
open PySem PySem.Spec PyProof.Rows L2 RZ L5
section
variable {K : PySem.W.Frag} {H H' : Hp}
abbrev iv (t : List Int) : List V := t.map V.int
theorem iv_len (t : List Int) : (iv t).length = t.length := List.length_map _
theorem iv_app (t u : List Int) : iv (t ++ u) = iv t ++ iv u := List.map_append
theorem iv_get {t : List Int} {i : Nat} {x : V} (h : (iv t)[i]? = some x) : ∃ n, t[i]? = some n ∧ x = .int n := by
  rw [List.getElem?_map] at h
  cases e : t[i]? with
  | none => rw [e] at h; cases h
  | some n => rw [e] at h; exact ⟨n, rfl, (Option.some.inj h).symm⟩
theorem iv_at {t : List Int} {i : Nat} {n : Int} (h : t[i]? = some n) : atI (iv t) (i : Int) = some (.int n) := atI_nat (by rw [List.getElem?_map, h] <;> rfl)
theorem els_iv : ∀ t : List Int, Els K H (iv t) (t.map some)
  | [] => .nil
  | n :: t => .cons (.int n) (els_iv t)
theorem va_iv {a : Addr} {t : List Int} (h : SqT K H a (iv t)) (hl : t.length ≤ 1000) : Va K H (.ref a) (some (t.map some)) := .tup h (els_iv t) (by rw [iv_len]; exact hl)
def intsO (os : List (Option Int)) : List Int := os.map fun o => o.getD 0
theorem ints_back (t : List Int) : intsO (t.map some) = t := by
  unfold intsO
  rw [List.map_map]
  exact (List.map_congr_left fun n _ => rfl).trans (List.map_id _)
theorem els_all {f : Option Int → Bool} (hf : f none = false) : ∀ {vs : List V} {os : List (Option Int)}, Els K H vs os → os.all f = true → vs = iv (intsO os) ∧ os = (intsO os).map some
  | _, _, .nil, _ => ⟨rfl, rfl⟩
  | _, _, .cons (b := o) h t, ha => by
    rw [List.all_cons, Bool.and_eq_true] at ha
    obtain ⟨e1, e2⟩ := els_all hf t ha.2
    cases o with
    | none => rw [hf] at ha; exact absurd ha.1 Bool.false_ne_true
    | some i =>
      obtain ⟨_, _, _, _, _, _, _, e⟩ := h.isi
      obtain rfl := e i rfl
      refine ⟨?_, ?_⟩
      · show _ = V.int i :: iv (intsO _)
        rw [← e1]
      · show _ = some i :: (intsO _).map some
        rw [← e2]
/-! ### many tuples -/
def TupsI (K : PySem.W.Frag) (H : Hp) : List Addr → List (List Int) → Prop := Paired fun a t => SqT K H a (iv t)
theorem TupsI.same (e : Same H H') : ∀ {rs : List Addr} {L : List (List Int)}, TupsI K H rs L → TupsI K H' rs L
  | _, _, .nil => .nil
  | _, _, .cons h t => .cons (same_sqt e h) (TupsI.same e t)
theorem TupsI.updL {p : Addr} {ys : List V} {o : HO} (hp : H p = some (.lst ys)) : ∀ {rs : List Addr} {L : List (List Int)}, TupsI K H rs L → TupsI K (upd H p o) rs L
  | _, _, .nil => .nil
  | _, _, .cons h t => .cons (sqt_updL hp h) (TupsI.updL hp t)
theorem TupsI.length : ∀ {rs : List Addr} {L : List (List Int)}, TupsI K H rs L → rs.length = L.length
  | _, _, .nil => rfl
  | _, _, .cons _ t => congrArg (· + 1) (TupsI.length t)
theorem TupsI.app : ∀ {rs qs : List Addr} {L M : List (List Int)}, TupsI K H rs L → TupsI K H qs M → TupsI K H (rs ++ qs) (L ++ M)
  | _, _, _, _, .nil, s => s
  | _, _, _, _, .cons r t, s => .cons r (TupsI.app t s)
theorem tupsI_get {rs : List Addr} {L : List (List Int)} {i : Nat} {x : V} (hT : TupsI K H rs L) (h : (rs.map V.ref)[i]? = some x) : ∃ a t, x = .ref a ∧ rs[i]? = some a ∧ L[i]? = some t ∧ SqT K H a (iv t) := by
  obtain ⟨a, ha, rfl⟩ := ref_get h
  refine ⟨a, ?_⟩
  have key : ∀ {rs : List Addr} {L : List (List Int)} {i : Nat}, TupsI K H rs L → rs[i]? = some a → ∃ t, L[i]? = some t ∧ SqT K H a (iv t) := fun {rs L} => by
    induction rs generalizing L with
    | nil => intro i _ e; simp at e
    | cons r rs ih =>
      intro i hT e
      cases hT with
      | cons hh tt =>
        cases i with
        | zero =>
          have e2 : r = a := by simpa using e
          subst e2
          exact ⟨_, rfl, hh⟩
        | succ i =>
          obtain ⟨u, h1, h2⟩ := ih (i := i) tt (by simpa using e)
          exact ⟨u, by simpa using h1, h2⟩
  obtain ⟨t, h1, h2⟩ := key hT ha
  exact ⟨t, rfl, ha, h1, h2⟩
abbrev encI (t : List Int) : PyData := .tuple (t.map PyData.int)
theorem dp_tupI {a : Addr} {t : List Int} (h : SqT K H a (iv t)) : Dp K H (.ref a) (encI t) := .tup h (dp_ints t)
theorem dp_tupsI : ∀ {rs : List Addr} {L : List (List Int)}, TupsI K H rs L → DpAll K H (rs.map V.ref) (L.map encI)
  | _, _, .nil => .nil
  | _, _, .cons h t => .cons (dp_tupI h) (dp_tupsI t)
end
theorem can_tupsI : ∀ L : List (List Int), PyData.canLayAll0 (L.map encI) = true ∧ PyData.depthAll (L.map encI) ≤ 1
  | [] => by simp [PyData.canLayAll0, PyData.depthAll]
  | t :: L => by
    obtain ⟨h1, h2⟩ := can_tupsI L
    obtain ⟨h3, h4⟩ := can_ints t
    constructor
    · rw [List.map_cons, PyData.canLayAll0, h1, PyData.canLay0, h3]
      rfl
    · rw [List.map_cons, PyData.depthAll, PyData.depth, h4]
      omega
theorem shaped_tupsIT (L : List (List Int)) : SeqAt.shaped (.tuple (L.map encI)) = true := by
  obtain ⟨h1, h2⟩ := can_tupsI L
  simp [SeqAt.shaped, PyData.canLay0, PyData.depth, h1]
  omega
theorem shaped_tupsIL (L : List (List Int)) : SeqAt.shaped (.list (L.map encI)) = true := by
  obtain ⟨h1, h2⟩ := can_tupsI L
  simp [SeqAt.shaped, PyData.canLay0, PyData.depth, h1]
  omega
theorem eqvAll_ints : ∀ t u : List Int, PyData.eqvAll (t.map PyData.int) (u.map PyData.int) = decide (t = u)
  | [], [] => by simp [PyData.eqvAll]
  | [], _ :: _ => by simp [PyData.eqvAll]
  | _ :: _, [] => by simp [PyData.eqvAll]
  | a :: t, b :: u => by
    rw [List.map_cons, List.map_cons, PyData.eqvAll, eqvAll_ints t u]
    have e : PyData.eqv (.int a) (.int b) = decide (a = b) := by
      simp only [PyData.eqv]
      rfl
    rw [e, ← Bool.decide_and]
    exact decide_eq_decide.mpr ⟨fun h => by rw [h.1, h.2], fun h => by cases h; exact ⟨rfl, rfl⟩⟩
theorem eqv_tupIE (t u : List Int) : PyData.eqv (encI t) (encI u) = decide (t = u) := by
  simp only [PyData.eqv]
  exact eqvAll_ints t u
theorem eqv_tupsIT (L : List (List Int)) : PyData.eqv (.tuple (L.map encI)) (.tuple (L.map encI)) = true := SeqAt.eqv_refl _ (by
  simp only [PyData.canLay0]
  exact (can_tupsI L).1)
section
variable {K : PySem.W.Frag} {H H' : Hp}
/-! ### a comprehension over zip of two tuples -/
theorem lc_zipM {a b : Addr} {xs ys : List V} {g : TG} {tt : TT} {te : TE} {vs : List Nat} {σ : L2.St} {H1 : Hp} {D : Addr} {Qd : Hp → Prop} (n : Nat) (hn : n = min xs.length ys.length) (Pv : Nat → Hp → Prop) (h0 : Pv 0 (upd H1 D (.lst []))) (hq : ∀ i H, Pv i H → SqT K H a xs ∧ SqT K H b ys)
    (hs : ∀ (i : Nat) (x y : V) (T : Addr) (H : Hp), xs[i]? = some x → ys[i]? = some y → Pv i H → H T = none → lcTurn D g tt te vs σ (Pv (i + 1)) (.ref T) (upd H T (.tup [x, y]))) (hd : ∀ H, Pv n H → Qd H) :
    ∃ W : Nat → Nat → Hp → Prop, (∃ m, W 0 m (upd H1 D (.lst []))) ∧ ∀ i m H0, W i m H0 →
      ((ItzT K a b).stop i H0 ∧ Qd H0) ∨ ((ItzT K a b).go i H0 ∧ ∃ Nx : Hp → Prop, (∀ H', Nx H' → ∃ m', m' < m ∧ W (i + 1) m' H') ∧ ∀ v H', (ItzT K a b).yld i H0 v H' → lcTurn D g tt te vs σ Nx v H') := by
  refine ⟨fun i m H => i + m = n ∧ Pv i H, ⟨n, Nat.zero_add _, h0⟩, fun i m H0 hw => ?_⟩
  obtain ⟨em, pi⟩ := hw
  obtain ⟨ta, tb⟩ := hq i H0 pi
  cases m with
  | zero =>
    have ei : i = n := em
    subst ei
    exact .inl ⟨⟨xs, ys, ta, tb, by omega⟩, hd H0 pi⟩
  | succ m =>
    have i1 : i < xs.length := by omega
    have i2 : i < ys.length := by omega
    refine .inr ⟨⟨xs, ys, _, _, ta, tb, List.getElem?_eq_getElem i1, List.getElem?_eq_getElem i2⟩, Pv (i + 1), fun H' p => ⟨m, Nat.lt_succ_self m, by omega, p⟩, fun v H' out => ?_⟩
    obtain ⟨T, _, _, rfl, free, rfl, fx, fy⟩ := out
    exact hs i _ _ T H0 (fx xs ta) (fy ys tb) pi free
/-! ### pairs of ints -/
abbrev zbI (f : Int → Int → Bool) (t u : List Int) : List Bool := List.zipWith f t u
theorem zbI_get {f : Int → Int → Bool} {t u : List Int} {i : Nat} {n m : Int} (h1 : t[i]? = some n) (h2 : u[i]? = some m) : (zbI f t u)[i]? = some (f n m) := by
  rw [List.getElem?_zipWith, h1, h2]
theorem zbI_len {f : Int → Int → Bool} {t u : List Int} : (zbI f t u).length = min t.length u.length := List.length_zipWith
theorem cut_tailI (u : List Int) : cutV (iv u) (some 1) none = iv (u.drop 1) := by
  unfold cutV
  rw [show HT.sIx (iv u).length 0 (some 1) = min 1 (iv u).length from HT.sIx_nat _ _ 1, HT.sIx_none]
  cases u with
  | nil => rfl
  | cons a r =>
    show List.take _ (List.drop (min 1 (r.length.succ)) _) = _
    rw [iv_len]
    show List.take (r.length + 1 - min 1 (r.length + 1)) (List.drop (min 1 (r.length + 1)) (V.int _ :: iv r)) = iv r
    rw [show min 1 (r.length + 1) = 1 by omega]
    show List.take r.length (iv r) = iv r
    exact List.take_of_length_le (by rw [iv_len]; exact Nat.le_refl _)
theorem cut_toI (u : List Int) (k : Nat) (h : k ≤ u.length) : cutV (iv u) none (some (k : Int)) = iv (u.take k) := by
  rw [cut_to _ _ (by rw [iv_len]; exact h)]
  exact List.map_take.symm
theorem cut_fromI (u : List Int) (k : Nat) : cutV (iv u) (some (k : Int)) none = iv (u.drop k) := by
  unfold cutV
  rw [show HT.sIx (iv u).length 0 (some (k : Int)) = min k (iv u).length from HT.sIx_nat _ _ k, HT.sIx_none]
  by_cases h : k ≤ u.length
  · rw [iv_len, Nat.min_eq_left h, List.take_of_length_le (by rw [List.length_drop, iv_len]; exact Nat.le_refl _)]
    exact List.map_drop.symm
  · rw [iv_len, Nat.min_eq_right (by omega), Nat.sub_self, List.take_zero, List.drop_of_length_le (show u.length ≤ k by omega)]
    rfl
theorem cut_initI (u : List Int) : cutV (iv u) none (some (-1)) = iv (u.take (u.length - 1)) := by
  unfold cutV
  rw [HT.sIx_none, List.drop_zero, iv_len]
  show List.take _ _ = List.map _ _
  rw [List.map_take]
  congr 1
  show (if (-1 : Int) < 0 then ((-1 : Int) + ((u.length : Nat) : Int)).toNat else min (-1 : Int).toNat u.length) - 0 = _
  rw [if_pos (by decide)]
  omega
end
end Gv

namespace K39
open PySem PySem.Spec PyProof.Rows L2 RZ L5 XX LK M38
section
variable {K : PySem.W.Frag} {H H' : Hp}
theorem hu_of {k : Nat} {A : Around} (hr : Room k A) : A.units + 1 < cLine := by have := hr.un; omega
theorem ext_sqt {a : Addr} {xs : List V} (e : LamX.ExtN H H') (h : SqT K H a xs) : SqT K H' a xs := by
  rcases h with (h | ⟨o, h⟩) | h
  · exact .inl (.inl (e _ _ h fun _ z => nomatch z))
  · exact .inl (.inr ⟨o, e _ _ h fun _ z => nomatch z⟩)
  · exact .inr h
theorem ext_sql {a : Addr} {xs : List V} (e : LamX.ExtN H H') (h : SqL K H a xs) : SqL K H' a xs := by
  rcases h with (h | ⟨o, h⟩) | h
  · exact .inl (.inl (e _ _ h fun _ z => nomatch z))
  · exact .inl (.inr ⟨o, e _ _ h fun _ z => nomatch z⟩)
  · exact .inr h
theorem ext_of (s : Same H H') : LamX.ExtN H H' := .of s
end
/-! ### is_set, of any value -/
def ltO : Option Int → Option Int → Bool
  | some a, some b => decide (a < b)
  | _, _ => false
def zipO (os : List (Option Int)) : List Bool := List.zipWith ltO os (os.drop 1)
def setB (d : Option (List (Option Int))) (n : Int) : Bool := match d with
  | some os => (os.all fun o => inB o 0 (n - 1)) && (zipO os).all id
  | none => false
abbrev som (t : List Nat) : List (Option Int) := t.map fun n => some ((n : Nat) : Int)
theorem els_natM {K : PySem.W.Frag} {H : Hp} {m : Int} : ∀ {vs : List V} {os : List (Option Int)}, Els K H vs os → (os.all fun o => inB o 0 m) = true → ∃ u : List Nat, vs = nv u ∧ os = som u ∧ ∀ e ∈ u, ((e : Nat) : Int) ≤ m
  | _, _, .nil, _ => ⟨[], rfl, rfl, fun _ h => nomatch h⟩
  | _, _, .cons h t, ha => by
    rw [List.all_cons, Bool.and_eq_true] at ha
    obtain ⟨u, rfl, rfl, hu⟩ := els_natM t ha.2
    cases h with
    | int i =>
      have h1 : (decide ((0 : Int) ≤ i) && decide (i ≤ m)) = true := ha.1
      rw [Bool.and_eq_true] at h1
      have h2 := of_decide_eq_true h1.1
      have h3 := of_decide_eq_true h1.2
      refine ⟨i.toNat :: u, ?_, ?_, fun e he => ?_⟩
      · show _ = V.int _ :: nv u
        rw [show ((i.toNat : Nat) : Int) = i by omega]
      · show _ = some _ :: _
        rw [show ((i.toNat : Nat) : Int) = i by omega]
      · rcases List.mem_cons.mp he with rfl | he
        · omega
        · exact hu e he
    | bl b => cases ha.1
    | non => cases ha.1
    | str x => cases ha.1
    | tup h => cases ha.1
theorem zipO_asc : ∀ {t : List Nat}, (zipO (som t)).all id = true ↔ Asc t
  | [] => by simp [zipO, som]
  | [a] => by simp [zipO, som]
  | a :: b :: t => by
    have ih := zipO_asc (t := b :: t)
    have e : (zipO (som (a :: b :: t))) = decide (((a : Nat) : Int) < ((b : Nat) : Int)) :: zipO (som (b :: t)) := rfl
    rw [e, List.all_cons, Bool.and_eq_true, ih]
    show decide _ = true ∧ _ ↔ _
    rw [decide_eq_true_iff]
    constructor
    · rintro ⟨h1, h2⟩
      rw [Asc, List.pairwise_cons]
      refine ⟨fun x hx => ?_, h2⟩
      rcases List.mem_cons.mp hx with rfl | hx
      · omega
      · have := (List.pairwise_cons.mp h2).1 x hx
        omega
    · intro h
      rw [Asc, List.pairwise_cons] at h
      exact ⟨by have := h.1 b List.mem_cons_self; omega, h.2⟩
theorem setB_on {n : Nat} {t : List Nat} : setB (some (som t)) ((n : Nat) : Int) = true ↔ On n t := by
  show ((som t).all _ && (zipO (som t)).all id) = true ↔ _
  rw [Bool.and_eq_true, zipO_asc, List.all_eq_true]
  constructor
  · rintro ⟨h1, h2⟩
    refine ⟨h2, fun x hx => ?_⟩
    have h3 : (decide ((0 : Int) ≤ ((x : Nat) : Int)) && decide (((x : Nat) : Int) ≤ ((n : Nat) : Int) - 1)) = true := h1 _ (List.mem_map.mpr ⟨x, hx, rfl⟩)
    rw [Bool.and_eq_true] at h3
    have := of_decide_eq_true h3.2
    omega
  · intro h
    refine ⟨fun o ho => ?_, h.1⟩
    obtain ⟨x, hx, rfl⟩ := List.mem_map.mp ho
    have := h.2 x hx
    show (decide ((0 : Int) ≤ ((x : Nat) : Int)) && decide (((x : Nat) : Int) ≤ ((n : Nat) : Int) - 1)) = true
    rw [decide_eq_true (show (0 : Int) ≤ ((x : Nat) : Int) by omega), decide_eq_true (show ((x : Nat) : Int) ≤ ((n : Nat) : Int) - 1 by omega)]
    rfl
theorem zipN_get {t : List Nat} {i : Nat} {x y : Nat} (h1 : t[i]? = some x) (h2 : (t.drop 1)[i]? = some y) : (zipO (som t))[i]? = some (decide (((x : Nat) : Int) < ((y : Nat) : Int))) := by
  unfold zipO som
  rw [List.getElem?_zipWith, List.getElem?_map, h1, ← List.map_drop, List.getElem?_map, h2]
  rfl
section
variable {P : Program} {w : World} {K : PySem.W.Frag} {mg : Str → Option Value} {base : Heap}
def sp_isset (K : PySem.W.Frag) : Sp := fun vs H Q _ => ∃ v d, ∃ n : Int, vs = [v, .int n] ∧ Va K H v d ∧ ∀ H', Same H H' → Q (.bl (setB d n)) H'
theorem ok_isset (T : Txt K mg) : FnOk P w K mg base CX0 3 T.a_is_set T.d_is_set ["value", "many"] (sp_isset K) := by
  refine T.F_is_set.ok sc_is_set (fun vs H Q E h => ?_) (fun cdv A outer s H vs Q E hr h => ?_)
  · obtain ⟨v, d, n, rfl, _⟩ := h
    rfl
  · obtain ⟨v, d, n, rfl, hv, q⟩ := h
    refine ⟨_, (pss_cons (ps_if (PW.pt (pw_or (pt_not (pt_val (pe_callB call_isi (by rfl) T.z_isinstance boot_isinstance (pa_cons (pv 0) (pa_cons (pe_bltn (v := .ty "tuple") (by rfl) T.z_tuple boot_tuple rfl) pa_nil))))) (pw_or1 (pt_not (pt_val (pe_callB (cr_all rfl) (by rfl) T.z_all (by decide +kernel) (pa_cons (pe_lc (own := [("corner", 2)]) (g := gName 2) (tt := tYes) rfl sc_is_set.nd (pi_tup (pv 0)) (blkOk_by (own := [("corner", 2)]) (N := N_is_set) (sc := defScope s_is_set) (by decide +kernel)) (fun _ _ _ _ _ => (pg_name (i := 2) sc_is_set.nd rfl (Or.inl rfl))) (fun _ _ _ _ _ => pts_nil) (fun _ _ _ _ _ => (pe_call  (ok_within T) (hr.mono (by decide)) (by rfl) T.m_is_within T.F_is_within.kp T.b_is_within .nil pass0 (pa_cons (pv 2) (pa_cons pe_int (pa_cons (pe_op op_sub (pv 1) pe_int) pa_nil)))))) pa_nil))))))) (pss_one (ps_ret pe_bl)) pss_nil)
      (pss_one (ps_ret (pe_callB (cr_all rfl) (by rfl) T.z_all (by decide +kernel) (pa_cons (pe_lc (own := [("low", 3), ("high", 4)]) (g := gTup K 2 (gCons (gName 3) (gCons (gName 4) gNil))) (tt := tYes) rfl sc_is_set.nd (pi_zipA (by rfl) T.z_zip (pa_cons (pv 0) (pa_cons (pe_slice sl_tupB (pv 0) (po_some pe_int) po_none) pa_nil))) (blkOk_by (own := [("low", 3), ("high", 4)]) (N := N_is_set) (sc := defScope s_is_set) (by decide +kernel)) (fun _ _ _ _ _ => (pg_tup (by rfl) (pgs_cons (pg_name (i := 3) sc_is_set.nd rfl (Or.inl rfl)) (pgs_cons (pg_name (i := 4) sc_is_set.nd rfl (Or.inl rfl)) pgs_nil)))) (fun _ _ _ _ _ => pts_nil) (fun _ _ _ _ _ => (pe_cmpR op_lt (pv 3) (pv 4) (nomark _)))) pa_nil))))), ?_⟩
    obtain ⟨t, ty, et⟩ := hv.isi
    refine ⟨_, rfl, _, _, _, _, _, rfl, .ty _, ty, et, _, rfl, ?_⟩
    cases d with
    | none => exact iteT (q H (Same.refl H))
    | some os =>
      obtain ⟨p, xs, rfl, hT, hE, hz⟩ := hv.get
      have hlen := hE.length
      refine iteF ⟨_, rfl, p, rfl, ⟨_, hT⟩, fun D hD => ?_⟩
      have s1 : Same H (upd H D (.lst [])) := same_new hD _
      refine lc_tup (K := K) (a := p) (xs := xs) (fun i H' => Same H H' ∧ H' D = some (.lst (((os.take i).map fun o => inB o 0 (n - 1)).map V.bl))) ⟨s1, upd_same⟩ (fun i H' _ h => same_sqt h.1 hT) (fun i x H' hi h => ?_) (fun H' h => ?_)
      · obtain ⟨sm, eD⟩ := h
        obtain ⟨o, ho, hx⟩ := hE.get hi
        have hlt : i < xs.length := (List.getElem?_eq_some_iff.mp hi).1
        refine ⟨rfl, _, rfl, _, rfl, _, _, rfl, rfl, x, o, _, _, rfl, hx.same sm, ?_⟩
        refine ⟨_, eD, by rw [List.length_map, List.length_map, List.length_take]; exact sizeK (by omega), same_updL sm hD, ?_⟩
        rw [upd_same, take_more ho, List.map_append, List.map_append]
        rfl
      · obtain ⟨sm, eD⟩ := h
        rw [hlen, List.take_length] at eD
        refine ⟨D, _, rfl, SqL.of eD, ?_⟩
        cases ha : (os.map fun o => inB o 0 (n - 1)).all id with
        | false =>
          have e1 : setB (some os) n = false := by
            show (_ && _) = _
            rw [List.all_map] at ha
            rw [show (os.all fun o => inB o 0 (n - 1)) = false from ha]
            rfl
          rw [e1] at q
          exact ⟨_, rfl, iteT (q H' sm)⟩
        | true =>
          rw [List.all_map] at ha
          obtain ⟨u, rfl, rfl, hu⟩ := els_natM hE ha
          have e1 : setB (some (som u)) n = (zipO (som u)).all id := by
            show (_ && _) = _
            rw [show ((som u).all fun o => inB o 0 (n - 1)) = true from ha]
            rfl
          rw [e1] at q
          have hT' := same_sqt sm hT
          refine ⟨_, rfl, iteF ⟨_, rfl, _, rfl, _, rfl, p, _, rfl, hT', fun H2 z s2 hz2 => ?_⟩⟩
          have ec : cutV (nv u) (some 1) none = nv (u.drop 1) := by
            have := Gv.cut_fromI (u.map fun n => ((n : Nat) : Int)) 1
            have e2 : ∀ t : List Nat, Gv.iv (t.map fun n => ((n : Nat) : Int)) = nv t := fun t => by
              show (t.map _).map V.int = _
              rw [List.map_map]
              rfl
            rw [← List.map_drop, e2, e2] at this
            exact this
          rw [ec] at hz2
          refine ⟨p, z, nv u, nv (u.drop 1), rfl, .inr ⟨same_sqt s2 hT', hz2, fun D2 hD2 => ?_⟩⟩
          rw [nv_len] at hz hlen
          have s3 := same_new hD2 (.lst [])
          have zl : (zipO (som u)).length = min u.length (u.length - 1) := by
            unfold zipO som
            rw [List.length_zipWith, List.length_map, List.length_drop, List.length_map]
          refine Gv.lc_zipM (zipO (som u)).length (by rw [nv_len, nv_len, List.length_drop]; exact zl) (fun i H' => Same H2 H' ∧ H' D2 = some (.lst (((zipO (som u)).take i).map V.bl))) ⟨s3, upd_same⟩ (fun i H' hh => ⟨same_sqt (s2.trans hh.1) hT', same_sqt hh.1 hz2⟩) (fun i x y T' H4 hx hy hh hT4 => ?_) (fun H4 hh => ?_)
          · obtain ⟨s4, eD4⟩ := hh
            obtain ⟨a, ha', rfl⟩ := nv_get hx
            obtain ⟨b, hb', rfl⟩ := nv_get hy
            have s5 := same_new hT4 (.tup [V.int ((a : Nat) : Int), V.int ((b : Nat) : Int)])
            have st := zipN_get ha' hb'
            have hil : i < (zipO (som u)).length := (List.getElem?_eq_some_iff.mp st).1
            refine ⟨T', _, rfl, SqT.of upd_same, rfl, _, _, rfl, _, _, rfl, rfl, ?_⟩
            refine ⟨rfl, _, rfl, _, rfl, _, _, rfl, rfl, ?_⟩
            refine ⟨_, s5 _ _ eD4, by rw [List.length_map, List.length_take]; exact sizeK (by omega), same_updL (s4.trans s5) hD2, ?_⟩
            rw [upd_same, take_more st, List.map_append]
            rfl
          · obtain ⟨s4, eD4⟩ := hh
            rw [List.take_length] at eD4
            exact ⟨D2, _, rfl, SqL.of eD4, q _ (sm.trans (s2.trans s4))⟩
end
end K39

namespace LK
open PySem PySem.Spec PyProof.Rows PySem.W PySem.Calls L2 L5 LamX
section
variable {X : Cx}
def tSortLL (T : List (Addr × Str)) (K : PySem.W.Frag) (te : TE) : TE := fun σ H Q => te σ H fun v H1 => ∃ (d : Addr) (L : List (List Nat)) (rs : List Addr), v = .ref d ∧ H1 d = some (.lst (rs.map V.ref)) ∧ TupsU H1 rs L ∧ Tabs T H1 ∧
  ∀ (H2 : Hp) (p : Addr) (qs : List Addr), ExtN H1 H2 → Tabs T H2 → H2 p = none → TupsU H2 qs (srt encK L) → Q (.ref p) (upd H2 p (.lst (qs.map V.ref)))
/-- sorted(l, key=lambda t: (len(t), t)), l a list of tuples of numbers -/
theorem pe_sortedLamL {T : List (Addr × Str)} {e : Expr} {te : TE} {c P : Addr} {x : Str} {params : Arguments} {p p1 p2 p3 p4 p5 lpos kpos pos : Pos} (hc : X.calm = true) (hu : X.A.units + 64 < cLine) (hdp : X.A.depth < recursionLimit) (hg : Gl X "sorted") (hm : X.mg "sorted" = none) (hl : X.mg "len" = none) (he : PE X e te)
    (TB : TabB X.base X.mg c P) (hcode : X.env.code = .ref c) (hmT : (P, X.env.qual ++ "<lambda>") ∈ T) (hT : ∀ p ∈ T, p.1 = P → p.2 = X.env.qual ++ "<lambda>") (hdef : defaultsOf params X.env = ([], []))
    (hbind : ∀ (q : Str) (pm cv ctv v : Value), bindArgs (kla_fn "<lambda>" q params (body2 x p1 p2 p3 p4 p5) (sc2 x) [] pm cv ctv) ⟨[v], []⟩ = pure [(x, v)]) (hx : (x == ("__debug__" : Str)) = false) (hxl : (("len" : Str) == x) = false)
    (hst : backTo pos (starEach [e] X.env) = (false, eval e X.env) :: backTo pos (starEach [] X.env) := by rfl) (hpl : (backTo pos (starEach [e] X.env)).any (·.1) = false := by rfl) :
    PE X (.Call (.Name "sorted" p) [e] [⟨some "key", .Lambda params (body2 x p1 p2 p3 p4 p5) (sc2 x) lpos, kpos⟩] pos) (tSortLL T X.K te) := by
  refine ⟨fun pins s σ H Q I h => ?_⟩
  refine wpAny_Call_Name_kw (ld_blt I hg hm boot_sorted ?_ (by decide) (by decide))
  refine PyProof.Rows.callWith_kw ?_ hst hpl rfl rfl
  rw [hst]
  refine spliced_cons (thn (he.run pins s σ H _ I h) fun u s1 ⟨v, H1, I1, r1, d, L, rs, ev, hd, hk, T1, q⟩ => ?_)
  subst ev
  obtain rfl : u = Value.ref d := r1
  refine spliced_nil ?_
  show wpAny _ _ (evalAll ((do let v ← eval (.Lambda params (body2 x p1 p2 p3 p4 p5) (sc2 x) lpos) X.env; standAt pos; pure v) :: [])) _ _ s1
  refine wpAny_evalAll_cons (wpAny_bind ?_)
  refine lam_make2 I1 TB hcode hmT hT T1 hdef (fun y hy e => ?_) fun f c' pm ctv H2 s2 I2 eN T2 hf hfn hfr hco => ?_
  · rcases List.mem_cons.mp (show y ∈ [(x, NameKind.local), (("len" : Str), .globalImplicit)] from hy) with rfl | hy
    · cases e
    · rw [List.mem_singleton.mp hy] at e
      cases e
  refine wpAny_bind (wpAny_standAt (wpAny_pure (wpAny_evalAll_nil ?_)))
  show wpAny _ _ (call (.builtin "sorted") [.ref d] [(Str.ofString "key", .ref f)]) _ _ s2
  have hd2 : SqL X.K H2 d (rs.map V.ref) := SqL.of (eN d _ hd (fun _ z => by cases z))
  have hk2 : TupsU H2 rs L := hk.mono fun b xs e => eN b _ e (fun _ z => by cases z)
  obtain ⟨its, rv, pl, hz⟩ := I2.list hd2
  obtain ⟨o, ho, hc2, n, hdt⟩ := pl.isList
  have e1 := each_U hk2 rv
  have hz' : its.length ≤ sizeLine := by rw [← rv.length]; exact hz
  have lenL : its.length = L.length := e1.length
  have hco2 := I2.hok c' _ hco
  obtain ⟨hrec, _, _⟩ := hco2
  refine RS.sorted_key_gathered (vs := its) encK hz' (fun Tr E' hT' => ?_) e1 (AllAlike.of alike_K) (Sortable.tuples fun b => ⟨_, _, rfl⟩) (fun b _ => ?_) (fun v t hv _ h tk kp => ?_) fun out h1 h' tk c2 k1 k2 hp ho2 eo => ?_
  · exact wpAny_collect_seq d (.inl rfl) ho hc2 hdt (fun h' k => by simpa using hT' h' s2.toks k) (by simpa using hz')
  · have := small_K b
    omega
  · obtain ⟨a, rfl, ha⟩ := hv
    have hf' : s2.heap.get? f = some (kla_obj "<lambda>" (X.env.qual ++ "<lambda>") params (body2 x p1 p2 p3 p4 p5) (sc2 x) [] pm c' ctv) := hf
    exact lamk_turn (A := X.A.in1.in1) I2 hf' hrec (hbind _ _ _ _) hl hx hxl hdp (SqT.of ha) h tk kp
  · obtain ⟨qs, hq, rq⟩ := U_each eo
    have hl2 : (qs.map V.ref).length ≤ sizeLine := by
      rw [List.length_map, hq.length, (List.mergeSort_perm L _).length_eq, ← lenL]
      exact hz'
    have I3 : Inv X pins σ H2 { s2 with heap := h1, toks := tk } := I2.kept k1
    exact ⟨.ref h1.objs.size, upd H2 h1.objs.size (.lst (qs.map V.ref)), I3.laid (t' := tk) k2 (Nat.le_refl _) ⟨hl2, out, c2, rq, hp⟩, rfl, q H2 _ qs eN T2 (I3.hok.fresh (Nat.le_refl _)) hq⟩
end
end LK

namespace K39
open PySem PySem.Spec PyProof.Rows L2 RZ L5 XX LK M38
/-! ### the table of the lambda's code -/
abbrev tO : Addr := 106
abbrev qO : Str := "ordered.<locals>.<lambda>"
abbrev TBo : List (Addr × Str) := [(tO, qO)]
theorem uniqO : ∀ p ∈ TBo, p.1 = tO → p.2 = qO := fun p hp e => by
  rcases List.mem_cons.mp hp with rfl | hp
  · rfl
  cases hp
section
variable {K : PySem.W.Frag}
/-- t + u, both tracked as they stand -/
def rCatU : R2 := fun x y H Q => ∃ (a b : Addr) (xs ys : List V), x = .ref a ∧ y = .ref b ∧ H a = some (.tup xs) ∧ H b = some (.tup ys) ∧ xs.length + ys.length ≤ sizeLine ∧ ∀ (H' : Hp) (z : Addr), Same H H' → H' z = some (.tup (xs ++ ys)) → Q (.ref z) H'
theorem op_catU {X : Cx} : OpR X (binaryOp .Add) rCatU := by
  intro pins s σ H x y v u Q I rx ry h
  obtain ⟨a, b, xs, ys, rfl, rfl, hx, hy, hz, q⟩ := h
  refine op_catA pins s σ H _ _ v u Q I rx ry ⟨a, b, xs, ys, rfl, rfl, SqT.of hx, SqT.of hy, hz, fun e => ?_, fun _ e => ?_, fun _ _ p hp => q _ p (same_new hp _) upd_same⟩
  · subst e
    exact q H b (Same.refl H) hy
  · subst e
    rw [List.append_nil] at q
    exact q H a (Same.refl H) hx
theorem cut_lo (xs : List V) (x : Nat) (h : x ≤ xs.length) : cutV xs none (some ((x : Nat) : Int)) = xs.take x := by
  unfold cutV
  rw [HT.sIx_none, HT.sIx_nat]
  show List.take _ (xs.drop 0) = _
  rw [List.drop_zero]
  congr 1
  omega
theorem cut_hi (xs : List V) (x : Nat) (h : x ≤ xs.length) : cutV xs (some ((x : Nat) : Int)) none = xs.drop x := by
  unfold cutV
  rw [HT.sIx_none, HT.sIx_nat]
  rw [show min x xs.length = x by omega]
  exact List.take_of_length_le (by rw [List.length_drop]; exact Nat.le_refl _)
end
section
variable {P : Program} {w : World} {K : PySem.W.Frag} {mg : Str → Option Value} {base : Heap}
theorem FunC.okc {x qual : Str} {st : Stmt} {f c : Addr} {fd : FuncData} {N ps : List Str} {k : Nat} {sp : Sp} (F : FunC K x qual st f fd c) (S : FnScope N ps (defScope st)) (len : ∀ vs H Q E, sp vs H Q E → vs.length = ps.length)
    (hbody : ∀ (A : Around) (outer : List Env) (s : Shared) (H : Hp) (vs : List V) (Q : VK) (E : XK), Room k (A.deeper (envOfC qual (defScope st) s.heap.objs.size f (.ref c))) → sp vs H Q E →
      ∃ t, PSs (cxOf CX0 P w K mg base N qual (defScope st) f (.ref c) A outer s H E).nox (defBody st) t ∧ t { nx := fun _ H' => Q .non H', rt := Q } (start N vs) H) : FnOk P w K mg base CX0 (k + 1) f fd ps sp := by
  obtain ⟨oc, od, kV, doc, pm, an, ct, osl, rfl, lk, hcd⟩ := F.ex
  refine fn_of lk hcd S len fun A outer s H vs Q E hr hsp => ?_
  obtain ⟨t, h, q⟩ := hbody A outer s H vs Q E hr hsp
  exact ⟨t, h.nox, q⟩
theorem va_on {n : Nat} {H : Hp} {a : Addr} {t : List Nat} (h : SqT K H a (nv t)) (ht : On n t) (hn : n ≤ 8) : Va K H (.ref a) (some (som t)) := .tup h (els_nv t) (by rw [nv_len]; have := on_len ht; omega)
/-- the given sets at a -/
structure Giv (H : Hp) (K : PySem.W.Frag) (a : Addr) (rs : List Addr) (n : Nat) (G : List (List Nat)) : Prop where
  at_ : SqT K H a (rs.map V.ref)
  tup : TupsU H rs G
  on : ∀ t ∈ G, On n t
  few : G.length ≤ 256
theorem Giv.same {H H' : Hp} {a : Addr} {rs : List Addr} {n : Nat} {G : List (List Nat)} (s : Same H H') (g : Giv H K a rs n G) : Giv H' K a rs n G := ⟨same_sqt s g.at_, g.tup.same s, g.on, g.few⟩
theorem Giv.ext {H H' : Hp} {a : Addr} {rs : List Addr} {n : Nat} {G : List (List Nat)} (s : LamX.ExtN H H') (g : Giv H K a rs n G) : Giv H' K a rs n G := ⟨ext_sqt s g.at_, g.tup.ext s, g.on, g.few⟩
def sp_aresets (K : PySem.W.Frag) : Sp := fun vs H Q _ => ∃ (a : Addr) (rs : List Addr) (n : Nat) (G : List (List Nat)), vs = [.ref a, .int ((n : Nat) : Int)] ∧ Giv H K a rs n G ∧ n ≤ 8 ∧ ∀ H', Same H H' → Q (.bl true) H'
theorem ok_aresets (T : Txt K mg) : FnOk P w K mg base CX0 4 T.a_are_sets T.d_are_sets ["value", "corners"] (sp_aresets K) := by
  refine T.F_are_sets.ok sc_are_sets (fun vs H Q E h => ?_) (fun cdv A outer s H vs Q E hr h => ?_)
  · obtain ⟨a, rs, n, G, rfl, _⟩ := h
    rfl
  · obtain ⟨a, rs, n, G, rfl, g, hn, q⟩ := h
    refine ⟨_, (pss_cons (ps_if (PW.pt (pw_or (pt_not (pt_val (pe_callB call_isi (by rfl) T.z_isinstance boot_isinstance (pa_cons (pv 0) (pa_cons (pe_bltn (v := .ty "tuple") (by rfl) T.z_tuple boot_tuple rfl) pa_nil))))) (pw_or1 (pt_cmpR op_gt (pe_callB call_len_seq (by rfl) T.z_len boot_len (pa_cons (pv 0) pa_nil)) (pe_glob (v := .int 256) rfl T.c_MAX_GIVEN ⟨_, rfl⟩) (nomark _))))) (pss_one (ps_ret pe_bl)) pss_nil)
      (pss_one (ps_ret (pe_callB (cr_all rfl) (by rfl) T.z_all (by decide +kernel) (pa_cons (pe_lc (own := [("chosen", 2)]) (g := gName 2) (tt := tYes) rfl sc_are_sets.nd (pi_tup (pv 0)) (blkOk_by (own := [("chosen", 2)]) (N := N_are_sets) (sc := defScope s_are_sets) (by decide +kernel)) (fun _ _ _ _ _ => (pg_name (i := 2) sc_are_sets.nd rfl (Or.inl rfl))) (fun _ _ _ _ _ => pts_nil) (fun _ _ _ _ _ => (pe_call  (ok_isset T) (hr.mono (by decide)) (by rfl) T.m_is_set T.F_is_set.kp T.b_is_set .nil pass0 (pa_cons (pv 2) (pa_cons (pv 1) pa_nil))))) pa_nil))))), ?_⟩
    have hl := g.tup.length
    have hf := g.few
    refine ⟨_, rfl, _, _, _, _, true, rfl, .ty _, sqt_ty g.at_, kit_ty (by decide +kernel), true, rfl, iteF ?_⟩
    refine ⟨_, rfl, a, _, rfl, .inr g.at_, _, _, rfl, rfl, _, rfl, ?_⟩
    rw [List.length_map, decide_eq_false (show ¬ ((256 : Int) < ((rs.length : Nat) : Int)) by omega)]
    refine iteF ⟨_, rfl, a, rfl, ⟨_, g.at_⟩, fun D hD => ?_⟩
    have sD := same_new hD (.lst [])
    refine lc_tup (K := K) (a := a) (xs := rs.map V.ref) (fun i H' => Same H H' ∧ H' D = some (.lst ((List.replicate i true).map V.bl))) ⟨sD, upd_same⟩ (fun i H' _ hh => same_sqt hh.1 g.at_) (fun i x H' hi hh => ?_) (fun H' hh => ?_)
    · obtain ⟨s1, eD⟩ := hh
      obtain ⟨b, t, rfl, _, ht, hb⟩ := (g.tup.same s1).get hi
      have ilt : i < rs.length := by
        have := (List.getElem?_eq_some_iff.mp hi).1
        rwa [List.length_map] at this
      have on := g.on t (List.mem_of_getElem? ht)
      refine ⟨rfl, _, rfl, _, rfl, .ref b, _, _, rfl, va_on (SqT.of hb) on hn, fun H2 s2 => ?_⟩
      refine ⟨_, s2 _ _ eD, by rw [List.length_map, List.length_replicate]; exact sizeK (by omega), same_updL (s1.trans s2) hD, ?_⟩
      rw [setB_on.mpr on, upd_same, List.replicate_succ', List.map_append]
      rfl
    · obtain ⟨s1, eD⟩ := hh
      refine ⟨D, _, rfl, SqL.of eD, ?_⟩
      have e : (List.replicate (rs.map V.ref).length true).all id = true := by simp
      rw [e]
      exact q H' s1
def sp_sm (K : PySem.W.Frag) : Sp := fun vs H Q _ => ∃ (a : Addr) (t : List Nat), vs = [.ref a] ∧ SqT K H a (nv t) ∧ t.length ≤ 8 ∧ ∀ (H' : Hp) (z : Addr) (rs : List Addr), Same H H' → H z = none → H' z = some (.lst (rs.map V.ref)) → TupsU H' rs (smaller t) → Q (.ref z) H'
theorem ok_sm (T : Txt K mg) : FnOk P w K mg base CX0 1 T.a_smaller_sets T.d_smaller_sets ["chosen"] (sp_sm K) := by
  refine T.F_smaller_sets.ok sc_smaller_sets (fun vs H Q E h => ?_) (fun cdv A outer s H vs Q E hr h => ?_)
  · obtain ⟨a, t, rfl, _⟩ := h
    rfl
  · obtain ⟨a, t, rfl, hA, h8, q⟩ := h
    refine ⟨_, (pss_one (ps_ret (pe_lc (own := [("at", 1)]) (g := gName 1) (tt := tYes) rfl sc_smaller_sets.nd (pi_range1 rfl T.z_range (pa_cons (pe_callB call_len_seq (by rfl) T.z_len boot_len (pa_cons (pv 0) pa_nil)) pa_nil)) (blkOk_by (own := [("at", 1)]) (N := N_smaller_sets) (sc := defScope s_smaller_sets) (by decide +kernel)) (fun _ _ _ _ _ => (pg_name (i := 1) sc_smaller_sets.nd rfl (Or.inl rfl))) (fun _ _ _ _ _ => pts_nil) (fun _ _ _ _ _ => (pe_op op_catU (pe_slice (show SlR _ (rSlT K) from sl_tup) (pv 0) po_none (po_some (pv 1))) (pe_slice (show SlR _ (rSlT K) from sl_tup) (pv 0) (po_some (pe_op op_add (pv 1) pe_int)) po_none)))))), ?_⟩
    refine ⟨_, rfl, a, _, rfl, .inr hA, _, rfl, ?_⟩
    rw [nv_len]
    refine ⟨by omega, by omega, fun D hD => ?_⟩
    have sD := same_new hD (.lst [])
    refine lc_range (lo := 0) (n := ((t.length : Nat) : Int).toNat) (fun i H' => Same H H' ∧ ∃ rs : List Addr, H' D = some (.lst (rs.map V.ref)) ∧ TupsU H' rs ((List.range i).map fun i => t.take i ++ t.drop (i + 1))) ⟨sD, [], upd_same, .nil⟩ (fun i H1 hi hh => ?_) (fun H1 hh => ?_)
    · obtain ⟨s1, rs, eD, hT⟩ := hh
      have hi : i < t.length := by omega
      have hl := hT.length
      rw [List.length_map, List.length_range] at hl
      refine ⟨rfl, _, rfl, _, rfl, _, rfl, a, _, rfl, same_sqt s1 hA, ?_, fun z1 hz1 => ?_⟩
      · rw [Int.zero_add]
        intro e
        have := e.2
        rw [HT.sIx_nat, nv_len] at this
        omega
      have s2 := same_new hz1 (.tup (cutV (nv t) none (some (0 + ((i : Nat) : Int)))))
      have e1 : cutV (nv t) none (some (0 + ((i : Nat) : Int))) = nv (t.take i) := by
        rw [Int.zero_add, cut_lo _ i (by rw [nv_len]; omega), nv_take]
      refine ⟨_, rfl, _, rfl, _, _, rfl, rfl, _, rfl, a, _, rfl, same_sqt (s1.trans s2) hA, ?_, fun z2 hz2 => ?_⟩
      · rw [Int.zero_add]
        intro e
        have := e.1
        rw [show ((i : Nat) : Int) + 1 = ((i + 1 : Nat) : Int) from rfl, HT.sIx_nat, nv_len] at this
        omega
      have e2 : cutV (nv t) (some (0 + ((i : Nat) : Int) + 1)) none = nv (t.drop (i + 1)) := by
        rw [Int.zero_add, show ((i : Nat) : Int) + 1 = ((i + 1 : Nat) : Int) from rfl, cut_hi _ (i + 1) (by rw [nv_len]; omega)]
        exact List.map_drop.symm
      rw [e1] at hz2 s2 ⊢
      rw [e2]
      have s3 := same_new hz2 (.tup (nv (t.drop (i + 1))))
      refine ⟨z1, z2, _, _, rfl, rfl, s3 _ _ upd_same, upd_same, by rw [nv_len, nv_len, List.length_take, List.length_drop]; exact Nat.le_of_lt (sizeK (by omega)), fun H4 z4 s4 hz4 => ?_⟩
      have S4 := s2.trans (s3.trans s4)
      refine ⟨_, S4 _ _ eD, by rw [List.length_map]; exact sizeK (by omega), same_updL (s1.trans S4) hD, rs ++ [z4], by rw [upd_same, List.map_append]; rfl, ?_⟩
      rw [List.range_succ, List.map_append]
      refine TupsU.app ((hT.same S4).mono fun b xs e => ?_) (.cons ?_ .nil)
      · rw [upd_ne (fun z => by rw [z, S4 _ _ eD] at e; cases e)]
        exact e
      · rw [upd_ne (fun z => by rw [z, S4 _ _ eD] at hz4; cases hz4), hz4]
        show some (HO.tup _) = some (HO.tup _)
        unfold nv
        rw [← List.map_append]
    · obtain ⟨s1, rs, eD, hT⟩ := hh
      exact q H1 D rs s1 hD eD (by rw [show (((t.length : Nat) : Int).toNat) = t.length by omega] at hT; exact hT)
def sp_ord (K : PySem.W.Frag) : Sp := fun vs H Q _ => ∃ (d : Addr) (L : List (List Nat)) (kvs : List (List Key × V)), vs = [.ref d] ∧ H d = some (.dT kvs) ∧ KeysL kvs L ∧ LamX.Tabs TBo H ∧
  ∀ (H' : Hp) (z : Addr) (qs : List Addr), LamX.ExtN H H' → LamX.Tabs TBo H' → H' z = some (.tup (qs.map V.ref)) → TupsU H' qs (srt encK L) → Q (.ref z) H'
theorem ok_ord (T : Txt K mg) (TB : LamX.TabB base mg T.c_ordered tO) : FnOk P w K mg base CX0 3 T.a_ordered T.d_ordered ["sets"] (sp_ord K) := by
  refine T.G_ordered.okc sc_ordered (fun vs H Q E h => ?_) (fun A outer s H vs Q E hr h => ?_)
  · obtain ⟨d, L, kvs, rfl, _⟩ := h
    rfl
  · obtain ⟨d, L, kvs, rfl, hd, hk, tab, q⟩ := h
    refine ⟨_, pss_one (ps_ret (pe_callTy call_tuple_of (by rfl) T.z_tuple boot_tuple (pa_cons (pe_sortedLam (T := TBo) (c := T.c_ordered) (P := tO) (x := "chosen") rfl hr.units hr.depth (by rfl) T.z_sorted T.z_len (pv 0) TB rfl (show (tO, qO) ∈ TBo from List.mem_cons_self) uniqO (by rfl) (fun _ _ _ _ _ => by rfl) (by decide) (by decide)) pa_nil))), ?_⟩
    refine ⟨_, rfl, d, L, kvs, rfl, hd, hk, tab, fun H2 p qs e2 t2 hp hT => ?_⟩
    have s1 := same_new hp (.lst (qs.map V.ref))
    refine ⟨p, _, rfl, .inl ⟨SqL.of upd_same, fun l hl => ?_⟩⟩
    have s2 := same_new hl (.tup (qs.map V.ref))
    exact q _ l qs (e2.trans (ext_of (s1.trans s2))) ((t2.ext s1).ext s2) upd_same ((hT.same s1).same s2)
end
end K39

namespace K39
open PySem PySem.Spec PyProof.Rows L2 RZ L5 XX LK M38
/-! ### dicts that hold tuples, each with True -/
def tD (L : List (List Nat)) : List (List Key × V) := L.map fun t => (tK t, V.bl true)
theorem keys_tD (L : List (List Nat)) : KeysL (tD L) L := by
  unfold KeysL tD
  rw [List.map_map]
  rfl
theorem len_tD (L : List (List Nat)) : (tD L).length = L.length := List.length_map _
theorem val_tD (t : List Nat) : ∀ L : List (List Nat), valV (tD L) (tK t) = if t ∈ L then some (V.bl true) else none
  | [] => rfl
  | u :: L => by
    have ih := val_tD t L
    by_cases e : u = t
    · subst e
      rw [if_pos List.mem_cons_self]
      exact valV_pos (p := (tK u, V.bl true)) rfl
    · have e' : ¬ tK u = tK t := fun z => e (tK_inj z)
      rw [show tD (u :: L) = (tK u, V.bl true) :: tD L from rfl, valV_neg (p := (tK u, V.bl true)) e', ih]
      have : (t ∈ u :: L) ↔ t ∈ L := ⟨fun h => (List.mem_cons.mp h).resolve_left fun z => e z.symm, List.mem_cons_of_mem _⟩
      by_cases h : t ∈ L
      · rw [if_pos h, if_pos (this.mpr h)]
      · rw [if_neg h, if_neg (fun z => h (this.mp z))]
theorem put_tD (t : List Nat) (L : List (List Nat)) : putK (tD L) (tK t) (V.bl true) = if t ∈ L then tD L else tD (L ++ [t]) := by
  have h := val_tD t L
  unfold putK
  rw [valV_any, h]
  by_cases e : t ∈ L
  · rw [if_pos e, if_pos e]
    rw [if_pos (show (some (V.bl true)).isSome = true from rfl)]
    unfold tD
    rw [List.map_map]
    refine List.map_congr_left fun u _ => ?_
    show (if tK u = tK t then (tK u, V.bl true) else (tK u, V.bl true)) = _
    split <;> rfl
  · rw [if_neg e, if_neg e]
    rw [if_neg (show ¬ (none : Option V).isSome = true by simp)]
    unfold tD
    rw [List.map_append]
    rfl
theorem put_new {L : List (List Nat)} {t : List Nat} (h : t ∉ L) : putK (tD L) (tK t) (V.bl true) = tD (L ++ [t]) := by rw [put_tD, if_neg h]
theorem nv_key {H : Hp} {b : Addr} {t : List Nat} (h : H b = some (.tup (nv t))) : H b = some (.tup ((tK t).map kV)) := by rw [tK_kV]; exact h
theorem get_tD {H : Hp} {a b : Addr} {L : List (List Nat)} {t : List Nat} (h : H a = some (.dT (tD L))) (hb : H b = some (.tup (nv t))) : DGet H a (.ref b) (if t ∈ L then some (V.bl true) else none) := by
  rw [← val_tD t L]
  exact DGet.t h (nv_key hb)
theorem TupsU.snoc {H : Hp} : ∀ {rs : List Addr} {L : List (List Nat)}, TupsU H rs L → L ≠ [] → ∃ rs0 r L0 t, rs = rs0 ++ [r] ∧ L = L0 ++ [t] ∧ TupsU H rs0 L0 ∧ H r = some (.tup (nv t))
  | _, _, .nil, h => absurd rfl h
  | a :: rs, t :: L, .cons h k, _ => by
    by_cases e : L = []
    · subst e
      cases k
      exact ⟨[], a, [], t, rfl, rfl, .nil, h⟩
    · obtain ⟨rs0, r, L0, u, rfl, rfl, k1, k2⟩ := TupsU.snoc k e
      exact ⟨a :: rs0, r, t :: L0, u, rfl, rfl, .cons h k1, k2⟩
section
variable {P : Program} {w : World} {K : PySem.W.Frag} {mg : Str → Option Value} {base : Heap}
def AwP (n : Nat) (G : List (List Nat)) (H : Hp) (a f wl : Addr) : Nat → L2.St → Hp → Prop := fun M σ H1 => ∃ (v3 : Option V) (L ws : List (List Nat)) (rs : List Addr), σ = [some (.ref a), some (.ref f), some (.ref wl), v3] ∧ Same H H1 ∧ H1 f = some (.dT (tD L)) ∧
  H1 wl = some (.lst (rs.map V.ref)) ∧ TupsU H1 rs ws ∧ Loop n G L ws ∧ M = 9 * (256 - L.length) + ws.length ∧ M ≤ 9 * 256 + 256
def sp_allw (K : PySem.W.Frag) : Sp := fun vs H Q _ => ∃ (a : Addr) (rs : List Addr) (n : Nat) (G : List (List Nat)), vs = [.ref a] ∧ Giv H K a rs n G ∧ n ≤ 8 ∧ LamX.Tabs TBo H ∧
  ∀ (H' : Hp) (z : Addr) (qs : List Addr) (S : List (List Nat)), LamX.ExtN H H' → LamX.Tabs TBo H' → H' z = some (.tup (qs.map V.ref)) → TupsU H' qs S → Fam G S → Q (.ref z) H'
theorem ok_allw (T : Txt K mg) (TB : LamX.TabB base mg T.c_ordered tO) : FnOk P w K mg base CX0 4 T.a_all_within T.d_all_within ["sets"] (sp_allw K) := by
  refine T.F_all_within.ok sc_all_within (fun vs H Q E h => ?_) (fun cdv A outer s H vs Q E hr h => ?_)
  · obtain ⟨a, rs, n, G, rfl, _⟩ := h
    rfl
  · obtain ⟨a, rs, n, G, rfl, g, hn, tab, q⟩ := h
    refine ⟨_, (pss_cons (ps_set (i := 1) sc_all_within.nd rfl (Or.inl rfl) pe_dnewT)
      (pss_cons (ps_set (i := 2) sc_all_within.nd rfl (Or.inl rfl) (pe_callTy call_list_of (by rfl) T.z_list boot_list (pa_cons (pv 0) pa_nil)))
      (pss_cons (ps_while PassesOwn.never (pt_truth (pv 2) (fun _ => rfl))
      (pss_cons (ps_set (i := 3) sc_all_within.nd rfl (Or.inl rfl) (pe_bm0 PySem.F.plainAttrs_list PySem.F.slot_list_pop PySem.F.type_list_pop mt_pop (pv 2)))
      (pss_one (ps_if (pt_cmp (pc_dnotin (hu_of hr) (pv 3) (pv 1)) (by rfl)) (pss_cons (ps_dput (hu_of hr) (pv 1) (pv 3) pe_bl rfl)
      (pss_one (ps_expr (pe_bm PySem.F.plainAttrs_list PySem.F.slot_list_extend PySem.F.type_list_extend mt_extend (pv 2) (pa_cons (pe_call  (ok_sm T) (hr.mono (by decide)) (by rfl) T.m_smaller_sets T.F_smaller_sets.kp T.b_smaller_sets .nil pass0 (pa_cons (pv 3) pa_nil)) pa_nil))))) pss_nil))))
      (pss_one (ps_ret (pe_call  (ok_ord T TB) (hr.mono (by decide)) (by rfl) T.m_ordered T.F_ordered.kp T.b_ordered .nil pass0 (pa_cons (pv 1) pa_nil))))))), ?_⟩
    intro f hf0
    have sf := same_new hf0 (.dT [])
    refine ⟨_, rfl, a, _, rfl, .inr (same_sqt sf g.at_), fun l0 hl0 => ?_⟩
    have sl := same_new hl0 (.lst (rs.map V.ref))
    have S0 := sf.trans sl
    have e_f : (upd (upd H f (.dT [])) l0 (.lst (rs.map V.ref))) f = some (.dT (tD [])) := sl _ _ upd_same
    have e_l : (upd (upd H f (.dT [])) l0 (.lst (rs.map V.ref))) l0 = some (.lst (rs.map V.ref)) := upd_same
    have hl0' : H l0 = none := sf.free hl0
    generalize (upd (upd H f (.dT [])) l0 (.lst (rs.map V.ref))) = H0 at S0 e_f e_l ⊢
    have hfew := g.few
    refine ⟨AwP n G H a f l0, ⟨_, none, [], G, rs, rfl, S0, e_f, e_l, g.tup.same S0, Loop.start n G, rfl, by show 9 * 256 + _ ≤ _; omega⟩, ?_⟩
    rintro M σ H1 ⟨v3, L, ws, rs1, rfl, s1, h1f, h1w, h1t, lp, eM, hM⟩
    have hLn : ∀ t ∈ L, On n t := fun t ht => by
      obtain ⟨m, hm, hs⟩ := lp.inL t ht
      exact (g.on m hm).sub hs
    have hL256 := few hn lp.nd hLn
    refine ⟨_, rfl, _, .inl ⟨_, SqL.of h1w, rfl⟩, ?_⟩
    have hlen := h1t.length
    by_cases hne : ws = []
    · subst hne
      cases h1t
      refine iteF ⟨_, rfl, f, L, tD L, rfl, h1f, keys_tD L, tab.ext s1, fun H2 z qs e2 t2 hz hT => ?_⟩
      exact q H2 z qs _ ((ext_of s1).trans e2) t2 hz hT lp.done
    · obtain ⟨rs0, r, ws0, t, rfl, rfl, k1, k2⟩ := TupsU.snoc h1t hne
      rw [show (!((rs0 ++ [r]).map V.ref).isEmpty) = true by cases rs0 <;> rfl]
      refine iteT ⟨fun σ' H' => ∃ m', m' < M ∧ AwP n G H a f l0 m' σ' H', fun _ _ h => h, ?_⟩
      have hlast : ((rs0 ++ [r]).map V.ref)[((rs0 ++ [r]).map V.ref).length - 1]? = some (.ref r) := by
        rw [List.length_map, List.length_append, List.map_append, List.getElem?_append_right (by rw [List.length_map]; show _ ≤ _ + 1 - 1; omega)]
        rw [List.length_map, show rs0.length + [r].length - 1 - rs0.length = 0 by show _ + 1 - 1 - _ = 0; omega]
        rfl
      refine ⟨_, rfl, .inl ⟨rfl, _, SqL.of h1w⟩, l0, _, _, rfl, rfl, h1w, hlast, ?_⟩
      rw [show ((rs0 ++ [r]).map V.ref).dropLast = rs0.map V.ref by rw [List.map_append]; exact List.dropLast_concat]
      have n_fw : f ≠ l0 := fun z => by
        rw [z, h1w] at h1f
        cases h1f
      have nT : ∀ {b : Addr} {xs : List V}, H1 b = some (.tup xs) → b ≠ l0 := fun {b xs} e z => by
        rw [z, h1w] at e
        cases e
      have s2 : Same H (upd H1 l0 (.lst (rs0.map V.ref))) := same_updL s1 hl0'
      have h2f : (upd H1 l0 (.lst (rs0.map V.ref))) f = some (.dT (tD L)) := by rw [upd_ne n_fw]; exact h1f
      have h2w : (upd H1 l0 (.lst (rs0.map V.ref))) l0 = some (.lst (rs0.map V.ref)) := upd_same
      have h2t : TupsU (upd H1 l0 (.lst (rs0.map V.ref))) rs0 ws0 := k1.mono fun b xs e => by rw [upd_ne (nT e)]; exact e
      have h2r : (upd H1 l0 (.lst (rs0.map V.ref))) r = some (.tup (nv t)) := by rw [upd_ne (nT k2)]; exact k2
      rw [List.length_append] at eM
      have e1 : [t].length = 1 := rfl
      have ont : On n t := by
        obtain ⟨m, hm, hs⟩ := lp.inW t (by simp)
        exact (g.on m hm).sub hs
      generalize (upd H1 l0 (.lst (rs0.map V.ref))) = H2 at s2 h2f h2w h2t h2r ⊢
      by_cases hin : t ∈ L
      · refine ⟨_, rfl, _, rfl, f, _, rfl, get_tD h2f h2r, ?_⟩
        rw [if_pos hin]
        refine ⟨_, rfl, iteF ?_⟩
        exact ⟨_, by omega, some (.ref r), L, ws0, rs0, rfl, s2, h2f, h2w, h2t, lp.skip hin, rfl, by omega⟩
      · refine ⟨_, rfl, _, rfl, f, _, rfl, get_tD h2f h2r, ?_⟩
        rw [if_neg hin]
        refine ⟨_, rfl, iteT ?_⟩
        refine ⟨_, rfl, _, rfl, f, _, rfl, DPut.t h2f (nv_key h2r) (by rw [len_tD]; exact sizeK (by omega)), ?_⟩
        rw [put_new hin]
        have nT2 : ∀ {b : Addr} {xs : List V}, H2 b = some (.tup xs) → b ≠ f := fun {b xs} e z => by
          rw [z, h2f] at e
          cases e
        have s3 : Same H (upd H2 f (.dT (tD (L ++ [t])))) := same_updL s2 hf0
        have h3f : (upd H2 f (.dT (tD (L ++ [t])))) f = some (.dT (tD (L ++ [t]))) := upd_same
        have h3w : (upd H2 f (.dT (tD (L ++ [t])))) l0 = some (.lst (rs0.map V.ref)) := by rw [upd_ne (Ne.symm n_fw)]; exact h2w
        have h3t : TupsU (upd H2 f (.dT (tD (L ++ [t])))) rs0 ws0 := h2t.mono fun b xs e => by rw [upd_ne (nT2 e)]; exact e
        have h3r : (upd H2 f (.dT (tD (L ++ [t])))) r = some (.tup (nv t)) := by rw [upd_ne (nT2 h2r)]; exact h2r
        generalize (upd H2 f (.dT (tD (L ++ [t])))) = H3 at s3 h3f h3w h3t h3r ⊢
        have l8 := on_len ont
        have hsm := smaller_many hn ont
        have hnew := lp.new hin
        have hn2 : L.length + 1 ≤ 256 := by
          have := few hn hnew.nd fun u hu => by
            obtain ⟨m, hm, hs⟩ := hnew.inL u hu
            exact (g.on m hm).sub hs
          rwa [List.length_append] at this
        have l0len := h3t.length
        refine ⟨_, rfl, .inl ⟨rfl, _, SqL.of h3w⟩, _, rfl, r, t, rfl, SqT.of h3r, by omega, fun H4 z qs s4 hz hz4 hT4 => ?_⟩
        have hql := hT4.length
        have h4w := s4 _ _ h3w
        have nz : z ≠ l0 := fun e => by
          rw [e, h3w] at hz
          cases hz
        refine ⟨l0, z, _, _, rfl, rfl, h4w, hz4, by rw [List.length_map, List.length_map]; exact Nat.le_of_lt (sizeK (by omega)), ?_⟩
        have nT4 : ∀ {b : Addr} {xs : List V}, H4 b = some (.tup xs) → b ≠ l0 := fun {b xs} e z => by
          rw [z, h4w] at e
          cases e
        refine ⟨_, ?_, some (.ref r), L ++ [t], ws0 ++ smaller t, rs0 ++ qs, rfl, same_updL (s3.trans s4) hl0', by rw [upd_ne n_fw]; exact s4 _ _ h3f, by rw [upd_same, List.map_append],
          ((h3t.same s4).app hT4).mono fun b xs e => by rw [upd_ne (nT4 e)]; exact e, hnew, rfl, ?_⟩
        · rw [List.length_append, List.length_append]
          show 9 * (256 - (L.length + 1)) + _ < _
          omega
        · rw [List.length_append, List.length_append]
          show 9 * (256 - (L.length + 1)) + _ ≤ _
          omega
def sp_gr (K : PySem.W.Frag) : Sp := fun vs H Q _ => ∃ (a : Addr) (qs : List Addr) (n : Nat) (G S : List (List Nat)), vs = [.ref a] ∧ SqT K H a (qs.map V.ref) ∧ TupsU H qs S ∧ Fam G S ∧ (∀ t ∈ G, On n t) ∧ n ≤ 8 ∧
  ∀ (H' : Hp) (z : Addr) (rs : List Addr), Same H H' → H' z = some (.tup (rs.map V.ref)) → TupsU H' rs (gr S) → Q (.ref z) H'
theorem ok_gr (T : Txt K mg) : FnOk P w K mg base CX0 2 T.a_greatest_sets T.d_greatest_sets ["sets"] (sp_gr K) := by
  refine T.F_greatest_sets.ok sc_greatest_sets (fun vs H Q E h => ?_) (fun cdv A outer s H vs Q E hr h => ?_)
  · obtain ⟨a, qs, n, G, S, rfl, _⟩ := h
    rfl
  · obtain ⟨a, qs, n, G, S, rfl, hA, hT, hF, hG, hn, q⟩ := h
    refine ⟨_, (pss_cons (ps_set (i := 1) sc_greatest_sets.nd rfl (Or.inr rfl) pe_dnewT)
      (pss_cons (ps_for PassesOwn.never rfl (pi_tup (pv 0)) (pg_name (i := 2) sc_greatest_sets.nd rfl (Or.inl rfl))
      (pss_one (ps_for PassesOwn.never rfl (pi_list (pe_call  (ok_sm T) (hr.mono (by decide)) (by rfl) T.m_smaller_sets T.F_smaller_sets.kp T.b_smaller_sets .nil pass0 (pa_cons (pv 2) pa_nil))) (pg_name (i := 3) sc_greatest_sets.nd rfl (Or.inl rfl))
      (pss_one (ps_dput (hu_of hr) (pv 1) (pv 3) pe_bl rfl)))))
      (pss_one (ps_ret (pe_callTy call_tuple_of (by rfl) T.z_tuple boot_tuple (pa_cons (pe_callB (cr_sortAny hr.units) (by rfl) T.z_sorted boot_sorted (pa_cons (pe_lc (own := [("chosen", 2)]) (g := gName 2) rfl sc_greatest_sets.nd (pi_tup (pv 0)) (blkOk_by (own := [("chosen", 2)]) (N := N_greatest_sets) (sc := defScope s_greatest_sets) (by decide +kernel)) (fun _ _ _ _ _ => (pg_name (i := 2) sc_greatest_sets.nd rfl (Or.inl rfl))) (fun _ _ _ _ _ => pts_one (pt_cmp (pc_dnotin (hu_of hr) (pv 2) (pv 1)) (by rfl))) (fun _ _ _ _ _ => (pv 2))) pa_nil)) pa_nil)))))), ?_⟩
    intro f hf0
    have sf := same_new hf0 (.dT [])
    have e_f : (upd H f (.dT [])) f = some (.dT (tD [])) := upd_same
    generalize (upd H f (.dT [])) = H0 at sf e_f ⊢
    have on := hF.on hG
    have h256 := few hn hF.nd on
    have hql := hT.length
    refine ⟨_, rfl, a, rfl, ⟨_, same_sqt sf hA⟩, ?_⟩
    refine for_tup (K := K) (a := a) (xs := qs.map V.ref) (fun i σ H1 => ∃ (v2 v3 : Option V) (L : List (List Nat)), σ = [some (.ref a), some (.ref f), v2, v3] ∧ Same H H1 ∧ H1 f = some (.dT (tD L)) ∧ (∀ t, t ∈ L ↔ ∃ u ∈ S.take i, t ∈ smaller u) ∧ L.length ≤ 8 * i)
      ⟨none, none, [], rfl, sf, e_f, fun t => ⟨(fun h => nomatch h), (fun ⟨u, hu, _⟩ => by rw [List.take_zero] at hu; cases hu)⟩, Nat.le_refl _⟩ (fun i σ H1 _ ⟨_, _, _, _, s1, _⟩ => same_sqt s1 hA) (fun i x σ H1 hi hh => ?_) (fun σ H1 hh => ?_)
    · obtain ⟨v2, v3, L, rfl, s1, hf1, hm, hl⟩ := hh
      obtain ⟨r, t, rfl, _, ht, hr1⟩ := (hT.same s1).get hi
      have ilt : i < qs.length := by
        have := (List.getElem?_eq_some_iff.mp hi).1
        rwa [List.length_map] at this
      have ont := on t (List.mem_of_getElem? ht)
      have l8 := on_len ont
      have hsm := smaller_many hn ont
      refine ⟨_, rfl, r, t, rfl, SqT.of hr1, by omega, fun H2 z rs s2 hz hz2 hT2 => ?_⟩
      have hrl := hT2.length
      refine ⟨z, rfl, ⟨_, SqL.of hz2⟩, ?_⟩
      have nzf : z ≠ f := fun e => by
        rw [e, hf1] at hz
        cases hz
      refine for_list (K := K) (a := z) (xs := rs.map V.ref) (fun j σ H3 => ∃ (v3 : Option V) (L3 : List (List Nat)), σ = [some (.ref a), some (.ref f), some (.ref r), v3] ∧ Same H H3 ∧ (∀ b o, b ≠ f → H2 b = some o → H3 b = some o) ∧ H3 f = some (.dT (tD L3)) ∧ (∀ u, u ∈ L3 ↔ u ∈ L ∨ u ∈ (smaller t).take j) ∧ L3.length ≤ 8 * i + j)
        ⟨v3, L, rfl, s1.trans s2, fun _ _ _ e => e, s2 _ _ hf1, fun u => by rw [List.take_zero]; simp, hl⟩ (fun j σ H3 _ ⟨_, _, _, _, k3, _⟩ => SqL.of (k3 _ _ nzf hz2)) (fun j y σ H3 hj hh => ?_) (fun σ H3 hh => ?_)
      · obtain ⟨v3, L3, rfl, s3, k3, hf3, hm3, hl3⟩ := hh
        have nT3 : ∀ {b : Addr} {xs : List V}, H2 b = some (.tup xs) → b ≠ f := fun {b xs} e z => by
          rw [z, s2 _ _ hf1] at e
          cases e
        obtain ⟨b, u, rfl, _, hu, hb⟩ := (hT2.mono fun b xs e => k3 b _ (nT3 e) e).get hj
        have jlt : j < rs.length := by
          have := (List.getElem?_eq_some_iff.mp hj).1
          rwa [List.length_map] at this
        refine ⟨_, rfl, _, rfl, f, _, rfl, DPut.t hf3 (nv_key hb) (by rw [len_tD]; exact sizeK (by omega)), ?_⟩
        rw [put_tD]
        refine ⟨some (.ref b), if u ∈ L3 then L3 else L3 ++ [u], rfl, same_updL s3 hf0, fun c o hc e => by rw [upd_ne hc]; exact k3 c o hc e, by rw [upd_same]; split <;> rfl, fun v => ?_, ?_⟩
        · rw [take_more hu, List.mem_append, List.mem_singleton]
          split
          · rename_i hin
            rw [hm3]
            constructor
            · rintro (h | h)
              · exact .inl h
              · exact .inr (.inl h)
            · rintro (h | h | rfl)
              · exact .inl h
              · exact .inr h
              · exact (hm3 _).mp hin
          · rw [List.mem_append, List.mem_singleton, hm3]
            constructor
            · rintro ((h | h) | h)
              · exact .inl h
              · exact .inr (.inl h)
              · exact .inr (.inr h)
            · rintro (h | h | h)
              · exact .inl (.inl h)
              · exact .inl (.inr h)
              · exact .inr h
        · split
          · omega
          · rw [List.length_append]
            show _ + 1 ≤ _
            omega
      · obtain ⟨v3, L3, rfl, s3, k3, hf3, hm3, hl3⟩ := hh
        rw [List.length_map, hrl, List.take_length] at hm3
        rw [List.length_map] at hl3
        refine ⟨some (.ref r), v3, L3, rfl, s3, hf3, fun v => ?_, by omega⟩
        rw [hm3, hm, take_more ht]
        constructor
        · rintro (⟨u, hu, hv⟩ | hv)
          · exact ⟨u, List.mem_append_left _ hu, hv⟩
          · exact ⟨t, List.mem_append_right _ (List.mem_singleton.mpr rfl), hv⟩
        · rintro ⟨u, hu, hv⟩
          rcases List.mem_append.mp hu with hu | hu
          · exact .inl ⟨u, hu, hv⟩
          · rw [List.mem_singleton.mp hu] at hv
            exact .inr hv
    · obtain ⟨v2, v3, L, rfl, s1, hf1, hm, hl⟩ := hh
      rw [List.length_map, hql, List.take_length] at hm
      refine ⟨_, rfl, a, rfl, ⟨_, same_sqt s1 hA⟩, fun D hD => ?_⟩
      have sD := same_new hD (.lst [])
      refine lc_tup (K := K) (a := a) (xs := qs.map V.ref) (fun i H2 => Same H1 H2 ∧ ∃ rs : List Addr, H2 D = some (.lst (rs.map V.ref)) ∧ TupsU H2 rs ((S.take i).filter fun t => !cov S t)) ⟨sD, [], upd_same, .nil⟩ (fun i H2 _ hh => same_sqt (s1.trans hh.1) hA) (fun i x H2 hi hh => ?_) (fun H2 hh => ?_)
      · obtain ⟨s2, rs, eD, hTr⟩ := hh
        obtain ⟨r, t, rfl, _, ht, hr1⟩ := (hT.same (s1.trans s2)).get hi
        have hrl := hTr.length
        have hfl := List.length_filter_le (fun t => !cov S t) (S.take i)
        rw [List.length_take] at hfl
        have ec : (t ∈ L) ↔ cov S t = true := (hm t).trans cov_iff.symm
        refine ⟨rfl, _, rfl, _, rfl, f, _, rfl, get_tD (s2 _ _ hf1) hr1, _, rfl, ?_⟩
        cases hc : cov S t with
        | true =>
          rw [if_pos (ec.mpr hc)]
          refine iteF ⟨s2, rs, eD, ?_⟩
          rw [take_more ht, List.filter_append, List.filter_cons, if_neg (by rw [hc]; decide), List.filter_nil, List.append_nil]
          exact hTr
        | false =>
          rw [if_neg (show ¬ t ∈ L from fun h => by rw [ec.mp h] at hc; cases hc)]
          refine iteT ⟨_, rfl, _, eD, by rw [List.length_map]; exact sizeK (by omega), same_updL s2 hD, rs ++ [r], by rw [upd_same, List.map_append]; rfl, ?_⟩
          rw [take_more ht, List.filter_append, List.filter_cons, if_pos (by rw [hc]; rfl), List.filter_nil]
          have nT : ∀ {b : Addr} {xs : List V}, H2 b = some (.tup xs) → b ≠ D := fun {b xs} e z => by
            rw [z, eD] at e
            cases e
          refine TupsU.app (hTr.mono fun b xs e => by rw [upd_ne (nT e)]; exact e) (.cons ?_ .nil)
          rw [upd_ne (nT hr1)]
          exact hr1
      · obtain ⟨s2, rs, eD, hTr⟩ := hh
        rw [List.length_map, hql, List.take_length] at hTr
        refine ⟨D, rs, tops S, rfl, SqL.of eD, hTr, tops_ok hF, fun p zs hp hz => ?_⟩
        have s3 := same_new hp (.lst (zs.map V.ref))
        refine ⟨p, _, rfl, .inl ⟨SqL.of upd_same, fun l hl => ?_⟩⟩
        have s4 := same_new hl (.tup (zs.map V.ref))
        exact q _ l zs (s1.trans (s2.trans (s3.trans s4))) upd_same ((hz.same s3).same s4)
end
end K39

/-! == between two objects of one own class -/
namespace W7
open PySem PySem.W PySem.Calls PyProof.Rows
section
variable {prog : Program} {w : World} {A : Around} {E : Value → Shared → Prop} {s : Shared} {K : Frag} {x y C f : Addr} {ox oy : Obj} {od oe : Option Obj}
theorem cmp_same {op : CmpOp} {Q : Value → Shared → Prop} (room : A.units < cLine) (kin : K.In s.heap) (I : InstAt s.heap x ox C od) (J : InstAt s.heap y oy C oe)
    (at_ : findIn K (.ref C) (cmpInfo op).2.1 = some (some (.ref f))) (fn : isFn K (.ref f) = true) (h : wpAny (model prog w) A (call (.ref f) [.ref x, .ref y]) (PySem.W.CmpBack Q) E s) : wpAny (model prog w) A (richCompare op (.ref x) (.ref y)) Q E s := by
  have tried : wpAny (model prog w) A (tryCompare (.ref x) (cmpInfo op).2.1 (.ref y)) (fun r s' => ∃ v, r = some v ∧ Q v s') E s := by
    unfold tryCompare
    refine wpAny_bind (ifBound_K kin I at_ fn (wpAny_mono h (fun v s' hv => ?_) fun _ _ e => e))
    cases v <;> first | exact hv.elim | exact wpAny_pure ⟨_, rfl, hv⟩
  unfold richCompare
  simp only [oneThing_ref]
  refine wpAny_holding (wpAny_bind (wpAny_cRoomFor room (wpAny_bind (I.type.here (wpAny_bind (J.type.here ?_))))))
  have same : (Value.ref C != Value.ref C) = false := by simp
  simp only [same, Bool.false_eq_true, if_false]
  refine wpAny_bind (wpAny_pure ?_)
  simp only [Bool.false_eq_true, if_false]
  refine wpAny_bind (wpAny_mono tried (fun r s' got => ?_) fun _ _ e => e)
  obtain ⟨v, rfl, q⟩ := got
  exact wpAny_pure q
end
end W7
namespace W7
open PySem PySem.Spec PyProof.Rows L2
section
variable {X : Cx} {CX : CXT} {C f : Addr} {fd : FuncData} {ps : List Str} {sp : Sp} {k : Nat}
theorem op_eqOwn (at_ : PySem.W.findIn X.K (.ref C) "__eq__" = some (some (.ref f))) (fn : PySem.W.isFn X.K (.ref f) = true) (F : FnOk X.prog X.w X.K X.mg X.base CX k f fd ps sp) (hr : Room k X.A) (hb : Binds X.K fd ps []) (hx : Passes CX X E0) : OpR X (compareOp .Eq) (rOwn C sp) := by
  intro pins s σ H x y v u Q I rx ry h
  obtain ⟨a, b, dx, dy, fs, gs, rfl, rfl, ha, hb2, q⟩ := h
  obtain rfl : v = Value.ref a := rx
  obtain rfl : u = Value.ref b := ry
  obtain ⟨_, Oa, _⟩ := ins_get I.hok ha
  obtain ⟨_, Ja, _⟩ := Oa.look
  obtain ⟨_, Ob, _⟩ := ins_get I.hok hb2
  obtain ⟨_, Jb, _⟩ := Ob.look
  refine cmp_same (op := .Eq) (Nat.lt_of_le_of_lt (Nat.le_add_right _ _) hr.units) I.kIn Ja Jb at_ fn (wpAny_mono (run_fn (dvs := []) (ds := []) (vs := [.ref a, .ref b]) (us := [.ref a, .ref b]) (Q := Q) F hr hb .nil hx I (.cons rfl (.cons rfl .nil)) q) (fun r s' z => ?_) fun _ _ z => z)
  cases r with
  | notImplemented =>
    obtain ⟨_, _, _, rel, _⟩ := z
    exact no_notimpl rel
  | _ => exact z
end
end W7

/-! in, not in, len, str, != of objects of one own class -/
namespace W7
open PySem PySem.W PySem.Calls PyProof.Rows Builtin
section
variable {M : Model} {prog : Program} {w : World} {A : Around} {E : Value → Shared → Prop} {s : Shared} {K : Frag} {x y C f : Addr} {ox oy : Obj} {od oe : Option Obj} {v : Value}
theorem contains_in {Q : Bool → Shared → Prop} (X : K.In s.heap) (I : InstAt s.heap x ox C od) (hs : findIn K (.ref C) "__contains__" = some (some (.ref f))) (hf : isFn K (.ref f) = true)
    (h : wpAny M A (call (.ref f) [.ref x, v]) (PySem.W.BoolBack Q) E s) : wpAny M A (contains (.ref x) v) Q E s := by
  unfold contains
  refine wpAny_holding (wpAny_bind (wpAny_bind (I.type.here ((looks_findIn X hs).here ?_))))
  rw [if_neg (by simp)]
  refine wpAny_bind (unlessNone_K X I hs hf (wpAny_mono h (fun r s' z => ?_) fun _ _ e => e))
  cases r <;> first | exact z.elim | exact wpAny_truthy_bool z
theorem len_in {Q : Value → Shared → Prop} (X : K.In s.heap) (I : InstAt s.heap x ox C od) (hs : findIn K (.ref C) "__len__" = some (some (.ref f))) (hf : isFn K (.ref f) = true)
    (h : wpAny (model prog w) A.in1 (call (.ref f) [.ref x]) (PySem.W.LenBack Q) E s) : wpAny (model prog w) A (call (.builtin "len") [.ref x]) Q E s := by
  refine Calls.call_function_entry kind_len plain_len entry_len (args_len1 _) ?_
  unfold Builtin.«len»
  refine wpAny_bind (m := oneArg "len" _) (wpAny_pure ?_)
  refine wpAny_bind (m := callSpecial? (.ref x) (Str.ofString "__len__")) (special_fn X I hs (beq_iff_eq.mp hf) (wpAny_mono h (fun r s' hr => ?_) fun _ _ y => y))
  cases r <;> first | exact hr.elim | skip
  rename_i n u
  obtain ⟨⟨h0, h1⟩, hq⟩ := hr
  refine wpAny_bind (wpAny_holding (wpAny_pure ?_))
  refine wpAny_bind (wpAny_letGo ?_)
  show wpAny _ _ (if n < 0 then _ else _) _ _ _
  rw [if_neg (by omega)]
  show wpAny _ _ (if n ≥ 2 ^ 63 then _ else _) _ _ _
  rw [if_neg (by omega)]
  exact wpAny_bind (wpAny_mkInt (wpAny_pure ⟨_, rfl, hq⟩))
theorem ifBound_B {name : Str} {id : String} {args : List Value} {Q : Option Value → Shared → Prop} (X : K.In s.heap) (I : InstAt s.heap x ox C od) (hs : findIn K (.ref C) name = some (some (.builtin id)))
    (hb : ∀ self, bindSpecial (.builtin id) self = pure (.builtin id, [self])) (h : wpAny M A (call (.builtin id) (.ref x :: args)) (fun v => Q (some v)) E s) : wpAny M A (callSpecialIfBound? (.ref x) name args) Q E s := by
  simp only [callSpecialIfBound?, bindSpecialIfBound?]
  refine wpAny_holding (wpAny_bind (wpAny_bind (wpAny_bind (I.type.here ((looks_findIn X hs).here ?_)))))
  refine wpAny_bind (wpAny_askSetting (wpAny_ite ?_))
  have fin : wpAny M A (call (.builtin id) ([.ref x] ++ args) >>= fun v => pure (some v)) Q E s := wpAny_bind (wpAny_mono h (fun v s' h' => wpAny_pure h') fun _ _ h' => h')
  split
  · exact wpAny_bind ((Looks.of_pure (hb _)).here (wpAny_pure (by exact fin)))
  · exact wpAny_tryCatch (wpAny_bind ((Looks.of_pure (hb _)).here (wpAny_pure (by exact fin))))
theorem object_ne_own {Q : Value → Shared → Prop} (hu : A.in1.units < cLine) (X : K.In s.heap) (I : InstAt s.heap x ox C od) (hm : mroIn K C (.type "object") = some true) (hr : findIn K (.ref C) "__eq__" = some (some (.ref f))) (hf : isFn K (.ref f) = true)
    (h : wpAny (model prog w) A.in1 (call (.ref f) [.ref x, .ref y]) (PySem.W.BoolBack fun b => Q (.bool (!b))) E s) : wpAny (model prog w) A (call (.builtin "object.__ne__") [.ref x, .ref y]) Q E s := by
  refine wpAny_call (codeAny_call_builtin PySem.F.slot_object_ne.plain PySem.F.entry_object_ne (check_slot (i := "object.__ne__") (owner := "object") (n := "__ne__") (by decide +kernel) (by decide +kernel) (I.type.andThen (looks_mroIn X hm)) (PySem.F.args_object_ne_2 _ _) ?_))
  unfold Builtin.«object.__ne__»
  refine wpAny_bind (m := slotArgs "__ne__" 1 _) (wpAny_pure ?_)
  refine wpAny_bind (m := cRoomFor _ _) (wpAny_cRoomFor hu ?_)
  refine wpAny_bind (m := callSpecialIfBound? (.ref x) (Str.ofString "__eq__") _) (ifBound_K X I hr hf (wpAny_mono h (fun r s' hq => ?_) fun _ _ y => y))
  cases r <;> first | exact hq.elim | skip
  rename_i b
  exact wpAny_bind (wpAny_truthy_bool (wpAny_pure hq))
theorem ne_same {Q : Value → Shared → Prop} (room : A.units < cLine) (room1 : A.in1.units < cLine) (kin : K.In s.heap) (I : InstAt s.heap x ox C od) (J : InstAt s.heap y oy C oe) (hm : mroIn K C (.type "object") = some true)
    (hn : findIn K (.ref C) (cmpInfo .NotEq).2.1 = some (some (.builtin "object.__ne__"))) (at_ : findIn K (.ref C) "__eq__" = some (some (.ref f))) (fn : isFn K (.ref f) = true)
    (h : wpAny (model prog w) A.in1 (call (.ref f) [.ref x, .ref y]) (PySem.W.BoolBack fun b => Q (.bool (!b))) E s) : wpAny (model prog w) A (richCompare .NotEq (.ref x) (.ref y)) Q E s := by
  have tried : wpAny (model prog w) A (tryCompare (.ref x) (cmpInfo .NotEq).2.1 (.ref y)) (fun r s' => ∃ v, r = some v ∧ Q v s') E s := by
    unfold tryCompare
    refine wpAny_bind (ifBound_B kin I hn PySem.F.slot_object_ne.bind (object_ne_own room1 kin I hm at_ fn (wpAny_mono h (fun r s' z => ?_) fun _ _ e => e)))
    cases r <;> first | exact z.elim | skip
    exact wpAny_pure ⟨_, rfl, z⟩
  unfold richCompare
  simp only [oneThing_ref]
  refine wpAny_holding (wpAny_bind (wpAny_cRoomFor room (wpAny_bind (I.type.here (wpAny_bind (J.type.here ?_))))))
  have same : (Value.ref C != Value.ref C) = false := by simp
  simp only [same, Bool.false_eq_true, if_false]
  refine wpAny_bind (wpAny_pure ?_)
  simp only [Bool.false_eq_true, if_false]
  refine wpAny_bind (wpAny_mono tried (fun r s' got => ?_) fun _ _ e => e)
  obtain ⟨v, rfl, q⟩ := got
  exact wpAny_pure q
end
end W7
namespace W7
open PySem PySem.Spec PyProof.Rows L2
section
variable {X : Cx} {CX : CXT} {C f : Addr} {fd : FuncData} {ps : List Str} {sp : Sp} {k : Nat}
/-- v in o, o of the own class at C -/
def rInOwn (C : Addr) (sp : Sp) (g : Bool → Bool) : R2 := fun x y H Q => ∃ (a dx : Addr) (fs : List (Str × V)), y = .ref a ∧ H a = some (.ins C dx fs) ∧ sp [.ref a, x] H (fun v H' => ∃ b, v = .bl b ∧ Q (.bl (g b)) H') E0
theorem run_in {pins : List (Addr × Obj)} {s : Shared} {σ : L2.St} {H : Hp} {x : V} {v : Value} {Q : Bool → Shared → Prop} {R : Bool → Hp → Prop} {a dx : Addr} {fs : List (Str × V)} (at_ : PySem.W.findIn X.K (.ref C) "__contains__" = some (some (.ref f))) (fn : PySem.W.isFn X.K (.ref f) = true) (F : FnOk X.prog X.w X.K X.mg X.base CX k f fd ps sp) (hr : Room k X.A) (hb : Binds X.K fd ps []) (hx : Passes CX X E0)
    (I : Inv X pins σ H s) (rx : RelV x v) (ha : H a = some (.ins C dx fs)) (q : sp [.ref a, x] H (fun v H' => ∃ b, v = .bl b ∧ R b H') E0) (hQ : ∀ b H' s', Inv X pins σ H' s' → R b H' → Q b s') : wpAny (model X.prog X.w) X.A (contains (.ref a) v) Q X.xe s := by
  obtain ⟨_, Oa, _⟩ := ins_get I.hok ha
  obtain ⟨_, Ja, _⟩ := Oa.look
  refine contains_in I.kIn Ja at_ fn (wpAny_mono (run_fn (dvs := []) (ds := []) (vs := [.ref a, x]) (us := [.ref a, v]) F hr hb .nil hx I (.cons rfl (.cons rx .nil)) q) (fun r s' z => ?_) fun _ _ z => z)
  obtain ⟨u, H', I', ru, b, rfl, hR⟩ := z
  cases (show r = Value.bool b from ru)
  exact hQ b H' s' I' hR
theorem op_inOwn (at_ : PySem.W.findIn X.K (.ref C) "__contains__" = some (some (.ref f))) (fn : PySem.W.isFn X.K (.ref f) = true) (F : FnOk X.prog X.w X.K X.mg X.base CX k f fd ps sp) (hr : Room k X.A) (hb : Binds X.K fd ps []) (hx : Passes CX X E0) : OpR X (compareOp .In) (rInOwn C sp id) := by
  intro pins s σ H x y v u Q I rx ry h
  obtain ⟨a, dx, fs, rfl, ha, q⟩ := h
  obtain rfl : u = Value.ref a := ry
  exact wpAny_bind (run_in at_ fn F hr hb hx I rx ha q fun b H' s' I' hR => wpAny_pure ⟨.bl b, H', I', rfl, hR⟩)
theorem op_notinOwn (at_ : PySem.W.findIn X.K (.ref C) "__contains__" = some (some (.ref f))) (fn : PySem.W.isFn X.K (.ref f) = true) (F : FnOk X.prog X.w X.K X.mg X.base CX k f fd ps sp) (hr : Room k X.A) (hb : Binds X.K fd ps []) (hx : Passes CX X E0) : OpR X (compareOp .NotIn) (rInOwn C sp not) := by
  intro pins s σ H x y v u Q I rx ry h
  obtain ⟨a, dx, fs, rfl, ha, q⟩ := h
  obtain rfl : u = Value.ref a := ry
  exact wpAny_bind (run_in at_ fn F hr hb hx I rx ha q fun b H' s' I' hR => wpAny_pure ⟨.bl (!b), H', I', rfl, hR⟩)
/-- a run somewhere below the running body -/
theorem run_sub {pins : List (Addr × Obj)} {σ : L2.St} {H : Hp} {s : Shared} {Q : VK} {us : List Value} {vs : List V} {A1 : Around} {E : XK} (F : FnOk X.prog X.w X.K X.mg X.base CX k f fd ps sp) (sb : Sub X k A1) (hb : Binds X.K fd ps []) (hx : Passes CX X E)
    (I : Inv X pins σ H s) (r : Vals vs us) (h : sp vs H Q E) : wpAny (model X.prog X.w) A1 (call (.ref f) us) (EP X pins σ Q) X.xe s := by
  have e0 : Env0 X.prog X.w X.K X.mg X.base A1 X.stack s H := by
    have e := I.env0
    exact ⟨by rw [sb.fr]; exact e.frames, e.mod, e.bs, e.bsz, e.funs, e.frf, e.hok, e.bare⟩
  have hl := F.len _ _ _ _ h
  have hl2 : us.length = ps.length := by rw [← r.length]; exact hl
  refine wpAny_call (codeAny_mono (F.run A1 X.stack s H ⟨us, []⟩ us vs Q E sb.room e0 (by
    have := hb s us I.kIn (by rw [List.append_nil]; exact hl2)
    rw [List.append_nil] at this
    exact this) r h) fun r s' hq => ?_)
  cases r with
  | error e => exact hx pins σ H s e s' I hq
  | ok fl =>
    cases fl with
    | ret u => exact I.after hq
    | next => exact False.elim hq
    | brk => exact False.elim hq
    | cont => exact False.elim hq
def rLenOwn (C : Addr) (sp : Sp) : List V → Hp → VK → Prop := fun vs H Q => ∃ (a dx : Addr) (fs : List (Str × V)), vs = [.ref a] ∧ H a = some (.ins C dx fs) ∧ sp [.ref a] H (fun v H' => ∃ n : Nat, v = .int ((n : Nat) : Int) ∧ n < 1000000 ∧ Q (.int ((n : Nat) : Int)) H') E0
theorem call_lenOwn1 (at_ : PySem.W.findIn X.K (.ref C) "__len__" = some (some (.ref f))) (fn : PySem.W.isFn X.K (.ref f) = true) (F : FnOk X.prog X.w X.K X.mg X.base CX k f fd ps sp) (hr : Room (k + 1) X.A) (hb : Binds X.K fd ps []) (hx : Passes CX X E0) : CallR X (.builtin "len") (rLenOwn C sp) := by
  intro pins s σ H vs us Q I r h
  obtain ⟨a, dx, fs, rfl, ha, q⟩ := h
  cases r with
  | cons r0 rr =>
    cases rr
    cases r0
    obtain ⟨_, Oa, _⟩ := ins_get I.hok ha
    obtain ⟨_, Ja, _⟩ := Oa.look
    refine len_in I.kIn Ja at_ fn (wpAny_mono (run_sub (vs := [.ref a]) (us := [.ref a]) F ⟨hr.in1, rfl⟩ hb hx I (.cons rfl .nil) q) (fun r s' z => ?_) fun _ _ z => z)
    obtain ⟨v, H', I', rv, n, rfl, hn, hQ⟩ := z
    obtain ⟨t, rfl⟩ := rv
    exact ⟨⟨by omega, by omega⟩, .int _, H', I'.tok _, ⟨_, rfl⟩, hQ⟩
def rStrOwn (C : Addr) (sp : Sp) : List V → Hp → VK → Prop := fun vs H Q => ∃ (a dx : Addr) (fs : List (Str × V)), vs = [.ref a] ∧ H a = some (.ins C dx fs) ∧ sp [.ref a] H (fun v H' => ∃ x : Str, v = .str x ∧ Q (.str x) H') E0
theorem call_strOwn1 (at_ : PySem.W.findIn X.K (.ref C) "__str__" = some (some (.ref f))) (fn : PySem.W.isFn X.K (.ref f) = true) (F : FnOk X.prog X.w X.K X.mg X.base CX k f fd ps sp) (hr : Room (k + 2) X.A) (hb : Binds X.K fd ps []) (hx : Passes CX X E0) : CallR X (.type "str") (rStrOwn C sp) := by
  intro pins s σ H vs us Q I r h
  obtain ⟨a, dx, fs, rfl, ha, q⟩ := h
  cases r with
  | cons r0 rr =>
    cases rr
    cases r0
    obtain ⟨_, Oa, _⟩ := ins_get I.hok ha
    obtain ⟨_, Ja, _⟩ := Oa.look
    have sb : Sub X k X.A.in1.in1 := ⟨(hr.in1).in1, rfl⟩
    refine PySem.W.kso_call (Nat.lt_of_le_of_lt (Nat.le_add_right _ 64) sb.room.units) I.kIn Ja at_ fn (wpAny_mono (run_sub (vs := [.ref a]) (us := [.ref a]) F sb hb hx I (.cons rfl .nil) q) (fun r s' z => ?_) fun _ _ z => z)
    obtain ⟨v, H', I', rv, x, rfl, hQ⟩ := z
    obtain ⟨t, rfl⟩ := rv
    exact ⟨.str x, H', I', ⟨_, rfl⟩, hQ⟩
def rNeOwn (C : Addr) (sp : Sp) : R2 := fun x y H Q => ∃ (a b dx dy : Addr) (fs gs : List (Str × V)), x = .ref a ∧ y = .ref b ∧ H a = some (.ins C dx fs) ∧ H b = some (.ins C dy gs) ∧ sp [.ref a, .ref b] H (fun v H' => ∃ c, v = .bl c ∧ Q (.bl (!c)) H') E0
theorem op_neOwn (hm : PySem.W.mroIn X.K C (.type "object") = some true) (hn : PySem.W.findIn X.K (.ref C) "__ne__" = some (some (.builtin "object.__ne__"))) (at_ : PySem.W.findIn X.K (.ref C) "__eq__" = some (some (.ref f))) (fn : PySem.W.isFn X.K (.ref f) = true) (F : FnOk X.prog X.w X.K X.mg X.base CX k f fd ps sp) (hr : Room (k + 1) X.A) (hb : Binds X.K fd ps []) (hx : Passes CX X E0) : OpR X (compareOp .NotEq) (rNeOwn C sp) := by
  intro pins s σ H x y v u Q I rx ry h
  obtain ⟨a, b, dx, dy, fs, gs, rfl, rfl, ha, hb2, q⟩ := h
  obtain rfl : v = Value.ref a := rx
  obtain rfl : u = Value.ref b := ry
  obtain ⟨_, Oa, _⟩ := ins_get I.hok ha
  obtain ⟨_, Ja, _⟩ := Oa.look
  obtain ⟨_, Ob, _⟩ := ins_get I.hok hb2
  obtain ⟨_, Jb, _⟩ := Ob.look
  have sb : Sub X k X.A.in1 := ⟨hr.in1, rfl⟩
  refine ne_same (Nat.lt_of_le_of_lt (Nat.le_add_right _ _) hr.units) (Nat.lt_of_le_of_lt (Nat.le_add_right _ _) sb.room.units) I.kIn Ja Jb hm hn at_ fn (wpAny_mono (run_sub (vs := [.ref a, .ref b]) (us := [.ref a, .ref b]) F sb hb hx I (.cons rfl (.cons rfl .nil)) q) (fun r s' z => ?_) fun _ _ z => z)
  obtain ⟨v, H', I', rv, c, rfl, hQ⟩ := z
  cases (show r = Value.bool c from rv)
  exact ⟨.bl (!c), H', I', rfl, hQ⟩
end
end W7

/-! iteration over an object whose own __iter__ gives an iterator over a tuple -/
namespace W7
open PySem PySem.Spec PyProof.Rows L2 ItX
/-- at it a new iterator over the tuple at m -/
def ItTO (m it : Addr) : HO := .ext fun h => h.IsTupleIter it m 0
section
variable {X : Cx}
theorem itT_ok {P : Program} {w : World} {H : Hp} {h : Heap} {m it : Addr} (e : h.IsTupleIter it m 0) : ObjOk P w H h it (ItTO m it) := ⟨e, (by obtain ⟨o, ho, _⟩ := e; exact ⟨o, ho⟩), fun h1 h2 q k => q.at fun o z => k o z⟩
def rIterTN (K : PySem.W.Frag) (n : Nat) : List V → Hp → VK → Prop := fun xs H Q => ∃ (l : Addr) (zs : List V), xs = [.ref l] ∧ SqT K H l zs ∧ ∀ it, H it = Option.none → n ≤ it → Q (.ref it) (upd H it (ItTO l it))
open Builtin in
theorem call_iterTN : CallR X (.builtin "iter") (rIterTN X.K X.s_0.heap.objs.size) := by
  intro pins s σ H xs us Q I r h
  obtain ⟨l, zs, rfl, hq, q⟩ := h
  obtain ⟨u, rfl, ru⟩ := vals1 r
  cases ru
  obtain ⟨its, rv, pl, hz⟩ := I.tuple hq
  refine Calls.call_function_entry (by decide +kernel) (by decide +kernel) PySem.W.kdk_entry_iter (PySem.W.kdk_args_iter _) ?_
  unfold Builtin.«iter»
  refine wpAny_bind (m := someArgs "iter" 1 2 _) (wpAny_of_eq (a := [Value.ref l]) (by first | rfl | kernel_rfl!) ?_)
  show wpAny _ _ (pyIter (.ref l) >>= _) _ _ _
  refine wpAny_bind (wpAny_pyIter_tuple pl ?_)
  refine wpAny_pure ⟨_, rfl, ?_⟩
  exact ⟨.ref s.heap.objs.size, _, I.laid (t' := s.toks) (fun b u e => Heap.get?_push_of_some _ e) (Nat.le_refl _) (itT_ok ⟨_, Heap.get?_push_size _ rfl, rfl, rfl⟩), rfl, q _ (I.hok.fresh (Nat.le_refl _)) I.sz⟩
end
/-- a call of an own def in one state: what is promised may speak of the state -/
theorem fn_at {CX : CXT} {P : Program} {w : World} {K : PySem.W.Frag} {mg : Str → Option Value} {base : Heap} {k : Nat} {f : Addr} {name qual : Str} {params : Arguments} {body : List Stmt} {scope : Scope} {dV kV doc pm cdv ct oc : Value} {an od : Option Addr}
    {osl : Array (Option Value)} {N ps : List Str} (lk : K.lookup f = some ⟨oc, od, .func (PySem.W.fnOf name qual params body scope dV kV doc pm an cdv ct), osl⟩) (hcd : PySem.W.codeIn K cdv qual = true) (S : FnScope N ps scope)
    {A : Around} {outer : List Env} {s : Shared} {H : Hp} {args : Args} {us : List Value} {vs : List V} {Q : VK} {E : XK} (hr : Room (k + 1) A) (e0 : Env0 P w K mg base A outer s H) (hb : BindsTo s (PySem.W.fnOf name qual params body scope dV kV doc pm an cdv ct) args (ps.zip us)) (r : Vals vs us) (hl : vs.length = ps.length)
    (hbody : Room k (A.deeper (envOfC qual scope s.heap.objs.size f cdv)) → ∃ t, PSs (cxOf CX P w K mg base N qual scope f cdv A outer s H E) body t ∧ t { nx := fun _ H' => Q .non H', rt := Q } (start N vs) H) :
    codeAny (model P w) A (.call (.ref f) args) (CR CX outer P w H s Q E) s := by
  have KX : K.In s.heap := e0.mod.kin.keeps fun b o e => (e0.bs b o e).1
  have lim : s.heap.NoLimit := e0.mod.nolimit.keeps fun b o e => (e0.bs b o e).1
  have kinds : ∀ y ∈ ps.zip us, scope.names.lookup y.1 = some .local ∨ (scope.names.lookup y.1 = some .cell ∧ ((cellsFrom (s.heap.objs.size + 1) scope.names []).lookup y.1).isSome = true) := fun ⟨n, v⟩ hy => by
    rcases S.par n (List.of_mem_zip hy).1 with q | q
    · exact .inl q
    · exact .inr ⟨q, PySem.W.cellsFrom_some _ _ _ (.inl q)⟩
  obtain ⟨t, ht, hq⟩ := hbody (hr.deeper _)
  refine codeAny_call_function hr.depth (KX _ _ lk) rfl S.co S.gen rfl (PySem.W.codeRec_of KX hcd) (hb _ _ _ _ (wpAny_newFunctionEnv_cells S.kind kinds fun env he s1 x => ?_))
  subst he
  refine ⟨lim.keeps x.toInCall.keep, codeAny_func ?_⟩
  have I : Inv (cxOf CX P w K mg base N qual scope f cdv A outer s H E) [] (start N vs) H s1 := inv_start S hr.hd e0 hl r x
  refine wpAny_mono (ht.run [] s1 (start N vs) H _ I hq) (fun fl s' hs => ?_) fun e s' hs => hs
  cases fl with
  | ret u =>
    obtain ⟨v, σ', H', J, rv, q⟩ := hs
    exact ⟨v, H', J.os, J.bare, J.base, J.hok, rv, q⟩
  | next =>
    obtain ⟨σ', H', J, q⟩ := hs
    exact ⟨V.non, H', J.os, J.bare, J.base, J.hok, rfl, q⟩
  | brk =>
    obtain ⟨_, _, _, q⟩ := hs
    exact q.elim
  | cont =>
    obtain ⟨_, _, _, q⟩ := hs
    exact q.elim
/-- what the method __iter__ of the class at C does: m is where the tuple stands, R says which objects are meant -/
def ItM (X : Cx) (C f : Addr) (R : Addr → Addr → Hp → Prop) : Prop :=
  ∀ (pins : List (Addr × Obj)) (s : Shared) (σ : L2.St) (H : Hp) (a m : Addr), Inv X pins σ H s → R a m H → wpAny (model X.prog X.w) X.A (call (.ref f) [.ref a]) (fun v s' => ∃ it, v = .ref it ∧ Inv X pins σ (upd H it (ItTO m it)) s' ∧ H it = none ∧ X.s_0.heap.objs.size ≤ it) X.xe s
def iOwn (C : Addr) (R : Addr → Addr → Hp → Prop) (K : PySem.W.Frag) (te : TE) : TI := fun σ H Q => te σ H fun x H1 => ∃ (a m dx : Addr) (fs : List (Str × V)), x = .ref a ∧ H1 a = some (.ins C dx fs) ∧ R a m H1 ∧ Q (Itt K m) H1
theorem pi_own {X : Cx} {tg e : Expr} {te : TE} {C f : Addr} {R : Addr → Addr → Hp → Prop} (he : PE X e te) (at_ : PySem.W.findIn X.K (.ref C) "__iter__" = some (some (.ref f))) (fn : PySem.W.isFn X.K (.ref f) = true) (M : ItM X C f R) : PI X tg e (iOwn C R X.K te) := by
  refine ⟨fun pins s σ H Q I h => ?_⟩
  refine thn (he.run pins s σ H _ I h) fun u s1 ⟨x, H1, I1, rx, q1⟩ => ?_
  obtain ⟨a, m, dx, fs, rfl, ha, hR, q⟩ := q1
  obtain rfl : u = Value.ref a := rx
  obtain ⟨_, Oa, _⟩ := ins_get I1.hok ha
  obtain ⟨_, Ja, _⟩ := Oa.look
  obtain ⟨mm, hF⟩ := I1.fr
  refine PySem.W.owit_iter hF I1.ok.mod.kin Ja at_ fn (wpAny_mono (M pins s1 σ H1 a m I1 hR) (fun v s2 z => ?_) fun _ _ z => z)
  obtain ⟨it, rfl, I2, hit, hsz⟩ := z
  have hi := (I2.hok it _ upd_same).1
  obtain ⟨o, ho, hc, hd⟩ := id hi
  have hT : s2.TypeIs (.ref it) "tuple_iterator" := ⟨o, ho, hc⟩
  have I3 := inv_drop I2 (a := it) (show (upd H1 it (ItTO m it)) it = some (.ext _) from upd_same)
  rw [dropH_upd hit] at I3
  have fp := inv_fp I2 (a := it) (u := ItTO m it) upd_same hsz
  rw [dropH_upd hit] at fp
  unfold PySem.W.OwitIt
  refine wpAny_specialOf (name := Str.ofString "__next__") hT PySem.F.slot_tuple_iterator_next.lookup ?_
  exact ⟨it, [it], _, _, H1, rfl, I3, turn_tuple m it, hi, fun b hb => (by
    have e : b = it := by simpa using hb
    subst e
    exact fp), q⟩
end W7

/-! bool(a tuple) -/
namespace W7
open PySem PySem.Spec PyProof.Rows L2
abbrev NewB (l : Addr) (items : Array Value) (R : Result → Shared → Prop) (s : Shared) : Prop := IsTup s.heap l items ∧ R (.ok (.ret (.bool (!items.isEmpty)))) { s with toks := s.toks + 1 + 1 }
theorem boolT_new (l : Addr) (items : Array Value) (fit : (items.size : Int) < 2 ^ 63) : Meets (Builtin.«bool.__new__» ⟨[.type "bool", .ref l], []⟩) (fun _ R s => NewB l items R s) :=
  Meets.of_wp fun prog w A R s z => by
    rcases z with ⟨tup, fin⟩
    rcases s with ⟨hp, g, d, tk, os⟩
    have sub1 := F.conv_sub_bool
    repeat (any_goals (first | assumption | (with_reducible refine truthy_tuple tup fit ?_) | wp_step))
    all_goals first | exact ⟨_, rfl, fin⟩ | exact fin | skip
section
variable {X : Cx}
/-- bool(a tuple) -/
theorem call_boolTup : CallR X (.type "bool") (fun xs H Q => ∃ (a : Addr) (zs : List V), xs = [.ref a] ∧ SqT X.K H a zs ∧ Q (.bl (!zs.isEmpty)) H) := by
  intro pins s σ H xs us Q I r h
  obtain ⟨a, zs, rfl, hq, q⟩ := h
  obtain ⟨u, rfl, ru⟩ := vals1 r
  cases ru
  obtain ⟨its, rv, pl, hz⟩ := I.tuple hq
  have hlen := rv.length
  have hl := line63
  refine call_bool_1 (boolT_new a its.toArray (by simp only [List.size_toArray]; omega)) ⟨pl, rfl, ?_⟩
  refine ⟨.bl (!zs.isEmpty), H, I.tok _, ?_, q⟩
  cases rv <;> rfl
end
end W7

/-! != of an object of an own class and a value of a built-in type -/
namespace W7
open PySem PySem.W PySem.Calls PyProof.Rows Builtin
section
variable {prog : Program} {w : World} {A : Around} {E : Value → Shared → Prop} {s : Shared} {K : Frag} {x C f : Addr} {yv : Value} {ox : Obj} {od : Option Obj}
theorem slot_ne_any {Q : Value → Shared → Prop} (hu : A.in1.units < cLine) (kin : K.In s.heap) (I : InstAt s.heap x ox C od) (hm : mroIn K C (.type "object") = some true) (at_ : findIn K (.ref C) "__eq__" = some (some (.ref f))) (fn : isFn K (.ref f) = true)
    (h : wpAny (model prog w) A.in1 (call (.ref f) [.ref x, yv]) (PySem.W.BoolBack fun b => Q (.bool (!b))) E s) : wpAny (model prog w) A (call (.builtin "object.__ne__") [.ref x, yv]) Q E s := by
  refine wpAny_call (codeAny_call_builtin PySem.F.slot_object_ne.plain PySem.F.entry_object_ne (check_slot (i := "object.__ne__") (owner := "object") (n := "__ne__") (by decide +kernel) (by decide +kernel) (I.type.andThen (looks_mroIn kin hm)) (PySem.F.args_object_ne_2 _ _) ?_))
  unfold Builtin.«object.__ne__»
  refine wpAny_bind (m := slotArgs "__ne__" 1 _) (wpAny_pure ?_)
  refine wpAny_bind (m := cRoomFor _ _) (wpAny_cRoomFor hu ?_)
  refine wpAny_bind (m := callSpecialIfBound? (.ref x) (Str.ofString "__eq__") _) (ifBound_K kin I at_ fn (wpAny_mono h (fun r s' hq => ?_) fun _ _ y => y))
  cases r <;> first | exact hq.elim | skip
  rename_i b
  exact wpAny_bind (wpAny_truthy_bool (wpAny_pure hq))
theorem ne_unlike {n : String} {Q : Value → Shared → Prop} (room : A.units < cLine) (room1 : A.in1.units < cLine) (kin : K.In s.heap) (I : InstAt s.heap x ox C od) (ty : s.TypeIs yv n) (sub : subIn K (.type n) (.ref C) = some false) (hm : mroIn K C (.type "object") = some true)
    (hn : findIn K (.ref C) (cmpInfo .NotEq).2.1 = some (some (.builtin "object.__ne__"))) (at_ : findIn K (.ref C) "__eq__" = some (some (.ref f))) (fn : isFn K (.ref f) = true)
    (h : wpAny (model prog w) A.in1 (call (.ref f) [.ref x, yv]) (PySem.W.BoolBack fun b => Q (.bool (!b))) E s) : wpAny (model prog w) A (richCompare .NotEq (.ref x) yv) Q E s := by
  have tried : wpAny (model prog w) A (tryCompare (.ref x) (cmpInfo .NotEq).2.1 yv) (fun r s' => ∃ v, r = some v ∧ Q v s') E s := by
    unfold tryCompare
    refine wpAny_bind (ifBound_B kin I hn PySem.F.slot_object_ne.bind (slot_ne_any room1 kin I hm at_ fn (wpAny_mono h (fun r s' z => ?_) fun _ _ e => e)))
    cases r <;> first | exact z.elim | skip
    exact wpAny_pure ⟨_, rfl, z⟩
  unfold richCompare
  simp only [oneThing_ref]
  refine wpAny_holding (wpAny_bind (wpAny_cRoomFor room (wpAny_bind (I.type.here (wpAny_bind (wpAny_typeOf ty ?_))))))
  have unlike : (Value.ref C != Value.type n) = true := rfl
  simp only [unlike, if_true]
  refine wpAny_bind ((looks_subIn kin sub).here ?_)
  simp only [Bool.false_eq_true, if_false]
  refine wpAny_bind (wpAny_mono tried (fun r s' got => ?_) fun _ _ e => e)
  obtain ⟨v, rfl, q⟩ := got
  exact wpAny_pure q
end
end W7
namespace W7
open PySem PySem.Spec PyProof.Rows L2
section
variable {X : Cx} {CX : CXT} {C f : Addr} {fd : FuncData} {ps : List Str} {sp : Sp} {k : Nat}
/-- o != t, t a tuple; o != z, z a text -/
def rNeUnlike (K : PySem.W.Frag) (C : Addr) (sp : Sp) : R2 := fun x y H Q => ∃ (a dx : Addr) (fs : List (Str × V)), x = .ref a ∧ ((∃ b ys, y = .ref b ∧ SqT K H b ys) ∨ ∃ z, y = .str z) ∧ H a = some (.ins C dx fs) ∧ sp [.ref a, y] H (fun v H' => ∃ c, v = .bl c ∧ Q (.bl (!c)) H') E0
theorem op_neUnlike (hm : PySem.W.mroIn X.K C (.type "object") = some true) (s1 : PySem.W.subIn X.K (.type "tuple") (.ref C) = some false) (s2 : PySem.W.subIn X.K (.type "str") (.ref C) = some false) (hn : PySem.W.findIn X.K (.ref C) "__ne__" = some (some (.builtin "object.__ne__"))) (at_ : PySem.W.findIn X.K (.ref C) "__eq__" = some (some (.ref f))) (fn : PySem.W.isFn X.K (.ref f) = true) (F : FnOk X.prog X.w X.K X.mg X.base CX k f fd ps sp) (hr : Room (k + 1) X.A) (hb : Binds X.K fd ps []) (hx : Passes CX X E0) : OpR X (compareOp .NotEq) (rNeUnlike X.K C sp) := by
  intro pins s σ H x y v u Q I rx ry h
  obtain ⟨a, dx, fs, rfl, hy, ha, q⟩ := h
  obtain rfl : v = Value.ref a := rx
  obtain ⟨_, Oa, _⟩ := ins_get I.hok ha
  obtain ⟨_, Ja, _⟩ := Oa.look
  have sb : Sub X k X.A.in1 := ⟨hr.in1, rfl⟩
  have go : ∀ n, s.TypeIs u n → PySem.W.subIn X.K (.type n) (.ref C) = some false → wpAny (model X.prog X.w) X.A (compareOp .NotEq (.ref a) u) (EP X pins σ Q) X.xe s := fun n ty sub =>
    ne_unlike (Nat.lt_of_le_of_lt (Nat.le_add_right _ _) hr.units) (Nat.lt_of_le_of_lt (Nat.le_add_right _ _) sb.room.units) I.kIn Ja ty sub hm hn at_ fn (wpAny_mono (run_sub (vs := [.ref a, y]) (us := [.ref a, u]) F sb hb hx I (.cons rfl (.cons ry .nil)) q) (fun r s' z => by
      obtain ⟨v, H', I', rv, c, rfl, hQ⟩ := z
      cases (show r = Value.bool c from rv)
      exact ⟨.bl (!c), H', I', rfl, hQ⟩) fun _ _ z => z)
  rcases hy with ⟨b, ys, rfl, hT⟩ | ⟨z, rfl⟩
  · obtain rfl : u = Value.ref b := ry
    obtain ⟨its, rv, pl, hz⟩ := I.tuple hT
    exact go "tuple" pl.typeIs s1
  · obtain ⟨t, rfl⟩ := ry
    exact go "str" rfl s2
end
end W7

/-! an object of an own class == a tuple -/
namespace W7
open PySem PySem.W PySem.Calls PyProof.Rows Builtin
section
variable {prog : Program} {w : World} {A : Around} {E : Value → Shared → Prop} {s : Shared} {K : Frag} {x C f : Addr} {yv : Value} {ox : Obj} {od : Option Obj}
theorem eq_unlike {n : String} {Q : Value → Shared → Prop} (room : A.units < cLine) (kin : K.In s.heap) (I : InstAt s.heap x ox C od) (ty : s.TypeIs yv n) (sub : subIn K (.type n) (.ref C) = some false)
    (at_ : findIn K (.ref C) (cmpInfo .Eq).2.1 = some (some (.ref f))) (fn : isFn K (.ref f) = true) (h : wpAny (model prog w) A (call (.ref f) [.ref x, yv]) (PySem.W.CmpBack Q) E s) : wpAny (model prog w) A (richCompare .Eq (.ref x) yv) Q E s := by
  have tried : wpAny (model prog w) A (tryCompare (.ref x) (cmpInfo .Eq).2.1 yv) (fun r s' => ∃ v, r = some v ∧ Q v s') E s := by
    unfold tryCompare
    refine wpAny_bind (ifBound_K kin I at_ fn (wpAny_mono h (fun v s' hv => ?_) fun _ _ e => e))
    cases v <;> first | exact hv.elim | exact wpAny_pure ⟨_, rfl, hv⟩
  unfold richCompare
  simp only [oneThing_ref]
  refine wpAny_holding (wpAny_bind (wpAny_cRoomFor room (wpAny_bind (I.type.here (wpAny_bind (wpAny_typeOf ty ?_))))))
  have unlike : (Value.ref C != Value.type n) = true := rfl
  simp only [unlike, if_true]
  refine wpAny_bind ((looks_subIn kin sub).here ?_)
  simp only [Bool.false_eq_true, if_false]
  refine wpAny_bind (wpAny_mono tried (fun r s' got => ?_) fun _ _ e => e)
  obtain ⟨v, rfl, q⟩ := got
  exact wpAny_pure q
end
end W7
namespace W7
open PySem PySem.Spec PyProof.Rows L2
section
variable {X : Cx} {CX : CXT} {C f : Addr} {fd : FuncData} {ps : List Str} {sp : Sp} {k : Nat}
/-- o == t, t a tuple -/
def rEqTup (K : PySem.W.Frag) (C : Addr) (sp : Sp) : R2 := fun x y H Q => ∃ (a dx b : Addr) (fs : List (Str × V)) (ys : List V), x = .ref a ∧ y = .ref b ∧ SqT K H b ys ∧ H a = some (.ins C dx fs) ∧ sp [.ref a, .ref b] H Q E0
theorem op_eqTup (s1 : PySem.W.subIn X.K (.type "tuple") (.ref C) = some false) (at_ : PySem.W.findIn X.K (.ref C) "__eq__" = some (some (.ref f))) (fn : PySem.W.isFn X.K (.ref f) = true) (F : FnOk X.prog X.w X.K X.mg X.base CX k f fd ps sp) (hr : Room k X.A) (hb : Binds X.K fd ps []) (hx : Passes CX X E0) : OpR X (compareOp .Eq) (rEqTup X.K C sp) := by
  intro pins s σ H x y v u Q I rx ry h
  obtain ⟨a, dx, b, fs, ys, rfl, rfl, hT, ha, q⟩ := h
  obtain rfl : v = Value.ref a := rx
  obtain rfl : u = Value.ref b := ry
  obtain ⟨_, Oa, _⟩ := ins_get I.hok ha
  obtain ⟨_, Ja, _⟩ := Oa.look
  obtain ⟨its, rv, pl, hz⟩ := I.tuple hT
  refine eq_unlike (Nat.lt_of_le_of_lt (Nat.le_add_right _ _) hr.units) I.kIn Ja pl.typeIs s1 at_ fn (wpAny_mono (run_fn (dvs := []) (ds := []) (vs := [.ref a, .ref b]) (us := [.ref a, .ref b]) (Q := Q) F hr hb .nil hx I (.cons rfl (.cons rfl .nil)) q) (fun r s' z => ?_) fun _ _ z => z)
  cases r with
  | notImplemented =>
    obtain ⟨_, _, _, rel, _⟩ := z
    exact no_notimpl rel
  | _ => exact z
end
end W7

/-! list(o) of an object of an own class with __iter__ (an iterator over a tuple) and __len__ -/
namespace W7
open PySem PySem.Spec PyProof.Rows L2 RZ L5 R7
section
variable {X : Cx} {pins : List (Addr × Obj)} {σ : L2.St} {H : Hp} {A1 : Around} {Rs : Result → Shared → Prop} {q it m : Addr} {xs : List V}
theorem fp_ne {K : PySem.W.Frag} {o : HO} (f : FpOk X pins (upd H q o) it) : it ≠ q := fun z => by
  have := f.1
  rw [z, upd_same] at this
  cases this
theorem tup_loop (hh : A1.in1.handled = none) (hT : SqT X.K H m xs) (hq0 : ∃ ys, H q = some (.lst ys)) (hz : xs.length ≤ 1000)
    (hdone : ∀ s, Inv X pins σ (upd H q (.lst xs)) s → Rs (.ok (.ret .none)) s) :
    ∀ (n i : Nat) (s : Shared), n + i = xs.length → Inv X pins σ (upd H q (.lst (xs.take i))) s → FpOk X pins (upd H q (.lst (xs.take i))) it → s.heap.IsTupleIter it m i →
      codeAny (model X.prog X.w) A1 (.builtin "list.extend.loop" ⟨[.ref q, .ref it, .none], []⟩) Rs s := by
  obtain ⟨ys, hq0⟩ := hq0
  have hTi : ∀ i, SqT X.K (upd H q (.lst (xs.take i))) m xs := fun i => sqt_updL hq0 hT
  intro n
  induction n with
  | zero =>
    intro i s hn I hf st
    have hi : i = xs.length := by omega
    refine codeAny_builtin PySem.F.entry_extend_loop ?_
    rw [Around.under_plainId PySem.F.plain_extend_loop _]
    show wpAny _ A1.in1 (pyNext (.ref it) >>= _) _ _ s
    obtain ⟨its, rv, pl, hzz⟩ := I.tuple (hTi i)
    have hl := rv.length
    obtain ⟨f0, f1, f2, f3, f4, f5⟩ := hf
    refine wpAny_bind (wpAny_pyNext_tuple_end hh st pl (by simp; omega) fun h' eb => ?_)
    have I1 := I.turned (t' := s.toks) (fun b o hb e => eb b o hb e) f0 f1 f3 f4 f5
    rw [hi, List.take_length] at I1
    exact wpAny_pure (hdone _ I1)
  | succ n ih =>
    intro i s hn I hf st
    have hi : i < xs.length := by omega
    refine codeAny_builtin PySem.F.entry_extend_loop ?_
    rw [Around.under_plainId PySem.F.plain_extend_loop _]
    show wpAny _ A1.in1 (pyNext (.ref it) >>= _) _ _ s
    obtain ⟨its, rv, pl, hzz⟩ := I.tuple (hTi i)
    have hx : xs[i]? = some xs[i] := List.getElem?_eq_getElem hi
    obtain ⟨u, hu, ru⟩ := rv.get hx
    have hne : it ≠ q := fp_ne (K := X.K) hf
    obtain ⟨f0, f1, f2, f3, f4, f5⟩ := hf
    refine wpAny_bind (wpAny_pyNext_tuple_item st pl (x := u) (by simpa using hu) fun h' st' sb => ?_)
    have I1 := I.turned (t' := s.toks) (fun b o hb e => (sb.2 b hb).trans e) f0 f1 f3 f4 f5
    show wpAny _ A1.in1 (updateSeq q (·.push u) >>= _) _ _ _
    obtain ⟨z, its2, k, r2, hl, e⟩ := I1.lstM upd_same
    have hl2 : its2.length = i := by
      rw [← hl, List.length_take]
      omega
    refine wpAny_bind (wpAny_updateSeq e rfl (wpAny_pure ⟨plainId_quiet PySem.F.plain_extend_loop _, ?_⟩) (by rw [List.size_toArray, hl2]; exact Nat.le_of_lt (sizeK (by omega))) (by show (its2.toArray.push u).size ≤ sizeLine + 1; rw [Array.size_push, List.size_toArray, hl2]; exact Nat.le_trans (Nat.le_of_lt (sizeK (n := i + 1) (by omega))) (Nat.le_succ _)))
    have I2 := I1.lset (its' := its2 ++ [u]) (ys := xs.take i ++ [xs[i]]) (t' := s.toks) upd_same e (f := (·.push u)) (by simp) (r2.append (.cons ru .nil)) (by rw [List.length_append, List.length_take, List.length_singleton]; exact Nat.le_of_lt (sizeK (by omega)))
    have tk : xs.take (i + 1) = xs.take i ++ [xs[i]] := by
      rw [List.take_add_one, hx]
      rfl
    rw [upd_upd, ← tk] at I2
    refine ih (i + 1) _ (by omega) I2 ⟨?_, f1, f2, f3, f4, f5⟩ ?_
    · rw [upd_ne hne] at f0 ⊢
      exact f0
    · exact st'.at fun o e => by rw [Heap.get?_update_other _ _ (Ne.symm hne)]; exact e
end
end W7

/-! list(o): the length hint by the own len -/
namespace W7
open PySem PySem.Spec PyProof.Rows L2 RZ L5 R7 Builtin
section
variable {prog : Program} {w : World} {A : Around} {E : Value → Shared → Prop} {s : Shared} {K : PySem.W.Frag} {a C f : Addr} {ox : Obj} {od : Option Obj}
theorem own_hint2 {Q : Bool → Shared → Prop} (kin : K.In s.heap) (J : PySem.W.InstAt s.heap a ox C od) (at_ : PySem.W.findIn K (.ref C) "__len__" = some (some (.ref f))) (fn : PySem.W.isFn K (.ref f) = true)
    (h : wpAny (model prog w) A.in1 (call (.ref f) [.ref a]) (PySem.W.LenBack fun v s' => ∀ n t, v = .int n t → n.toNat ≤ 1000000 ∧ Q (n != 0) s') (fun _ _ => False) s) :
    wpAny (model prog w) A (List.listLengthHint (.ref a)) Q E s := by
  unfold List.listLengthHint
  refine wpAny_bind (wpAny_bind (J.type.here ((PySem.W.looks_findIn kin at_).here ?_)))
  refine PySem.W.KFB.if_not rfl ?_
  show wpAny _ _ (if (some (Value.ref f)).isSome = true then _ else _) _ _ _
  refine wpAny_ite_true (decide_eq_true rfl) ?_
  refine wpAny_bind (wpAny_rule ?_)
  refine wpAny_bind (wpAny_attempt (len_in kin J at_ fn (wpAny_mono h (fun v s' z => ?_) fun _ _ e => False.elim e)))
  cases v <;> first | exact z.elim | skip
  rename_i n t
  obtain ⟨z1, z2⟩ := z
  obtain ⟨z3, z4⟩ := z2 n _ rfl
  refine ⟨z1, ?_⟩
  refine wpAny_bind (wpAny_pure ?_)
  refine wpAny_ite_false (decide_eq_false (by rw [notLongL (Nat.le_trans z3 (by decide))]; decide)) ?_
  exact wpAny_pure z4
end
end W7

/-! list(o), o of an own class with __iter__ and __len__ -/
namespace W7
open PySem PySem.Spec PyProof.Rows L2 RZ L5 R7 Builtin ItX
/-- __iter__ of the class, run at A2: as ItM -/
def ItMs (X : Cx) (A2 : Around) (f : Addr) (R : Addr → Addr → Hp → Prop) : Prop :=
  ∀ (pins : List (Addr × Obj)) (s : Shared) (σ : L2.St) (H : Hp) (a m : Addr), Inv X pins σ H s → R a m H → wpAny (model X.prog X.w) A2 (call (.ref f) [.ref a]) (fun v s' => ∃ it, v = .ref it ∧ Inv X pins σ (upd H it (ItTO m it)) s' ∧ H it = none ∧ X.s_0.heap.objs.size ≤ it) X.xe s
section
variable {X : Cx} {pins : List (Addr × Obj)} {σ : L2.St} {H : Hp} {s : Shared} {A1 : Around} {Rs : Result → Shared → Prop} {q a m C fi fl : Addr} {xs : List V} {k : Nat} {fd : FuncData} {ps : List Str} {sp : Sp} {CX : CXT} {R : Addr → Addr → Hp → Prop}
theorem own_ext (hh : A1.in1.handled = none) (noerr : ∀ e s', X.xe e s' → False) (atI : PySem.W.findIn X.K (.ref C) "__iter__" = some (some (.ref fi))) (fnI : PySem.W.isFn X.K (.ref fi) = true) (MI : ItMs X A1.in1 fi R)
    (atL : PySem.W.findIn X.K (.ref C) "__len__" = some (some (.ref fl))) (fnL : PySem.W.isFn X.K (.ref fl) = true) (FL : FnOk X.prog X.w X.K X.mg X.base CX k fl fd ps sp) (sb : Sub X k A1.in1.in1) (bL : Binds X.K fd ps []) (hx : Passes CX X E0)
    (I : Inv X pins σ H s) {dx : Addr} {fs : List (Str × V)} (ha : H a = some (.ins C dx fs)) (hR : R a m H) (hT : SqT X.K H m xs) (hq : H q = some (.lst [])) (hz : xs.length ≤ 1000)
    (spL : ∀ H1, Same H H1 → sp [.ref a] H1 (fun v H' => (∃ n : Nat, v = .int ((n : Nat) : Int) ∧ n ≤ 1000000) ∧ H' = H1) E0)
    (fin : ∀ s', Inv X pins σ (upd H q (.lst xs)) s' → Rs (.ok (.ret .none)) s') :
    wpAny (model X.prog X.w) A1.in1 (List.listExtendWith (.ref q) (.ref a) .none)
      (fun r s' => match r with | .done o => Rs (.ok o) s' | .again c => c.quiet = true ∧ codeAny (model X.prog X.w) A1 c Rs s') (fun e s' => Rs (.error e) s') s := by
  have qa : q ≠ a := fun z => by
    rw [z, ha] at hq
    cases hq
  obtain ⟨_, Oa, _⟩ := ins_get I.hok ha
  obtain ⟨_, Ja, _⟩ := Oa.look
  obtain ⟨_, hF⟩ := I.fr
  unfold List.listExtendWith
  refine wpAny_bind (Ja.type.here ?_)
  have c1 : List.listSameRef (.ref q) (.ref a) = false := by simp [List.listSameRef, qa]
  have c2 : (Value.ref C == Value.type "list") = false := rfl
  have c3 : (Value.ref C == Value.type "tuple") = false := rfl
  simp only [c1, c2, c3, Bool.or_false, Bool.false_eq_true, if_false]
  refine wpAny_bind (PySem.W.owit_iter hF I.ok.mod.kin Ja atI fnI (wpAny_mono (MI pins s σ H a m I hR) (fun v s1 z => ?_) fun e s' he => (noerr e s' he).elim))
  obtain ⟨it, rfl, I1, hit, hsz⟩ := z
  have hti := (I1.hok it _ upd_same).1
  obtain ⟨o, ho, hc, hd⟩ := id hti
  have hty : s1.TypeIs (.ref it) "tuple_iterator" := ⟨o, ho, hc⟩
  unfold PySem.W.OwitIt
  refine wpAny_specialOf (name := Str.ofString "__next__") hty PySem.F.slot_tuple_iterator_next.lookup ?_
  have sm1 : Same H (upd H it (ItTO m it)) := same_new hit _
  obtain ⟨_, Ob, _⟩ := ins_get I1.hok (sm1 _ _ ha)
  obtain ⟨_, Jb, _⟩ := Ob.look
  refine wpAny_bind (wpAny_holding (own_hint2 I1.kIn Jb atL fnL (wpAny_mono (run_sub (vs := [.ref a]) (us := [.ref a]) FL sb bL hx I1 (.cons rfl .nil) (spL _ sm1)) (fun r s2 z => ?_) fun e s' he => noerr e s' he)))
  obtain ⟨v, H2, I2, rv, ⟨n, rfl, hn⟩, rfl⟩ := z
  obtain ⟨t, rfl⟩ := rv
  refine ⟨⟨by omega, by omega⟩, fun n' t' e => ?_⟩
  cases e
  refine ⟨by omega, ?_⟩
  have I3 : Inv X pins σ (upd H it (ItTO m it)) { s2 with toks := s2.toks + 1 } := I2.tok _
  have ht3 := (I3.hok it _ upd_same).1
  have I4 := inv_drop I3 (a := it) (show (upd H it (ItTO m it)) it = some (.ext _) from upd_same)
  rw [dropH_upd hit] at I4
  have f4 := inv_fp I3 (a := it) (u := ItTO m it) upd_same hsz
  rw [dropH_upd hit] at f4
  have hH : upd H q (.lst []) = H := by
    funext b
    by_cases hb : b = q
    · rw [hb, upd_same, hq]
    · rw [upd_ne hb]
  have go : ∀ s', Inv X pins σ H s' → s'.heap.IsTupleIter it m 0 → codeAny (model X.prog X.w) A1 (.builtin "list.extend.loop" ⟨[.ref q, .ref it, .none], []⟩) Rs s' := fun s' J hi =>
    tup_loop hh hT ⟨_, hq⟩ hz fin xs.length 0 s' (Nat.add_zero _) (by rw [List.take_zero, hH]; exact J) (by rw [List.take_zero, hH]; exact f4) hi
  have itq : it ≠ q := fun z => by
    rw [z, hq] at hit
    cases hit
  refine wpAny_ite_split (fun _ => ?_) (fun _ => wpAny_pure ⟨plainId_quiet PySem.F.plain_extend_loop _, go _ I4 ht3⟩)
  refine wpAny_bind (wpAny_rule ?_)
  refine wpAny_bind ?_
  show wpAny _ _ (updateSeq q (·.push .none) >>= fun _ => updateSeq q (·.pop)) _ _ _
  obtain ⟨_, is1, k1, r1, _, e1⟩ := I4.lstM hq
  cases r1
  refine wpAny_bind (wpAny_updateSeq e1 rfl ?_)
  have I5 := I4.lset (f := (·.push Value.none)) (its' := [Value.none]) (ys := [.non]) (t' := s2.toks + 1) hq e1 (by simp) (.cons rfl .nil) (by rw [List.length_singleton, sizeLine_eq]; decide)
  have ht5 : (s2.heap.update q (Obj.mapSeq (·.push Value.none))).IsTupleIter it m 0 := ht3.at fun o e => by
    rw [Heap.get?_update_other _ _ (Ne.symm itq)]
    exact e
  obtain ⟨_, is2, k2, r2, _, e2⟩ := I5.lstM upd_same
  obtain ⟨u2, rfl, ru2⟩ := r2.one
  refine wpAny_updateSeq e2 rfl ?_ (by show 1 ≤ sizeLine; rw [sizeLine_eq]; decide) (by show 0 ≤ sizeLine + 1; exact Nat.zero_le _)
  have I6 := I5.lset (f := (·.pop)) (its := [u2]) (its' := []) (ys := []) (t' := s2.toks + 1) upd_same e2 (by rfl) .nil (Nat.zero_le _)
  rw [upd_upd, hH] at I6
  refine wpAny_pure ⟨plainId_quiet PySem.F.plain_extend_loop _, go _ I6 (ht5.at fun o e => ?_)⟩
  rw [Heap.get?_update_other _ _ (Ne.symm itq)]
  exact e
/-- list(o): ys stand in the tuple over which o's iterator goes -/
def rListO (K : PySem.W.Frag) (C : Addr) (R : Addr → Addr → Hp → Prop) (sp : Sp) : List V → Hp → VK → Prop := fun vs H Q => ∃ (a m dx : Addr) (fs : List (Str × V)) (ys : List V), vs = [.ref a] ∧ H a = some (.ins C dx fs) ∧ ys.length ≤ 1000 ∧
  (∀ H', Same H H' → R a m H' ∧ SqT K H' m ys ∧ sp [.ref a] H' (fun v H2 => (∃ n : Nat, v = .int ((n : Nat) : Int) ∧ n ≤ 1000000) ∧ H2 = H') E0) ∧ ∀ q, H q = none → Q (.ref q) (upd H q (.lst ys))
theorem call_listO (noerr : ∀ e s', X.xe e s' → False) (atI : PySem.W.findIn X.K (.ref C) "__iter__" = some (some (.ref fi))) (fnI : PySem.W.isFn X.K (.ref fi) = true) (MI : ItMs X X.A.in1.in1 fi R)
    (atL : PySem.W.findIn X.K (.ref C) "__len__" = some (some (.ref fl))) (fnL : PySem.W.isFn X.K (.ref fl) = true) (FL : FnOk X.prog X.w X.K X.mg X.base CX k fl fd ps sp) (hr : Room (k + 3) X.A) (bL : Binds X.K fd ps []) (hx : Passes CX X E0) : CallR X (.type "list") (rListO X.K C R sp) := by
  intro pins s σ H vs us Q I rv h
  obtain ⟨a, m, dx, fs, ys, rfl, ha, hz, hst, fin⟩ := h
  obtain ⟨u, rfl, ru⟩ := rv.one
  cases ru
  have sb : Sub X k X.A.in1.in1.in1 := ⟨((hr.in1).in1).in1, rfl⟩
  refine callType_codes (Q₁ := fun o t => o = .ref s.heap.objs.size ∧ t = { s with heap := s.heap.push { cls := .type "list", data := .seq #[] } }) PySem.F.called_list (PySem.F.typeCall_list_1 _) PySem.F.entry_list_init (code_list_new _ ⟨rfl, rfl⟩) fun o t z => ?_
  obtain ⟨rfl, rfl⟩ := z
  have at0 : (s.heap.push { cls := .type "list", data := .seq #[] }).get? s.heap.objs.size = some { cls := .type "list", data := .seq #[] } := Heap.get?_push_size _ rfl
  refine ⟨⟨_, at0, rfl⟩, PySem.F.args_list_init_2 _ _, ?_⟩
  have free : H s.heap.objs.size = none := I.hok.fresh (Nat.le_refl _)
  have I1 : Inv X pins σ (upd H s.heap.objs.size (.lst [])) { s with heap := s.heap.push { cls := .type "list", data := .seq #[] } } := I.lnew (its := []) (t' := s.toks) .nil (Nat.zero_le _)
  have sm := same_new free (.lst [])
  obtain ⟨hR, hT, _⟩ := hst _ sm
  show wpAny _ _ (do let o ← List.listItems (.ref s.heap.objs.size); List.listUpdate (.ref s.heap.objs.size) (fun _ => #[]); letGo o.toList.reverse; List.listExtendWith (.ref s.heap.objs.size) (.ref a) .none) _ _ _
  refine wpAny_bind ?_
  unfold List.listItems
  refine wpAny_bind (wpAny_seqItems at0 rfl (wpAny_pure ?_))
  show wpAny _ _ (updateSeq s.heap.objs.size (fun _ => #[]) >>= fun _ => letGo (#[] : Array Value).toList.reverse >>= fun _ => List.listExtendWith (.ref s.heap.objs.size) (.ref a) .none) _ _ _
  refine wpAny_bind (wpAny_updateSeq at0 rfl ?_)
  have I2 := I1.lset (f := fun _ => #[]) (its := []) (its' := []) (ys := []) (t' := s.toks) upd_same at0 rfl .nil (Nat.zero_le _)
  rw [upd_upd] at I2
  refine wpAny_bind (wpAny_letGo ?_)
  refine own_ext (A1 := X.A.in1) (Rs := wants (fun r t => r = .none ∧ EP X pins σ Q (.ref s.heap.objs.size) t) X.xe) ((hr.in1).in1).hd noerr atI fnI MI atL fnL FL sb bL hx I2 (sm _ _ ha) hR hT upd_same hz (fun H1 s1 => (hst H1 (sm.trans s1)).2.2) fun t J => ?_
  rw [upd_upd] at J
  exact ⟨rfl, .ref s.heap.objs.size, _, J, rfl, fin _ free⟩
end
end W7

/-! bool(o) of an own class with __bool__ -/
namespace W7
open PySem PySem.W PySem.Calls PyProof.Rows Builtin L2
section
variable {prog : Program} {w : World} {M : Model} {A : Around} {E : Value → Shared → Prop} {s : Shared} {K : PySem.W.Frag} {x C f : Addr} {ox : Obj} {od : Option Obj}
theorem truthy_own {Q : Bool → Shared → Prop} (X : K.In s.heap) (I : InstAt s.heap x ox C od) (hs : findIn K (.ref C) "__bool__" = some (some (.ref f))) (hf : isFn K (.ref f) = true)
    (h : wpAny M A (call (.ref f) [.ref x]) (PySem.W.BoolBack Q) E s) : wpAny M A (truthy (.ref x)) Q E s := by
  unfold truthy
  refine wpAny_bind (m := callSpecial? (.ref x) (Str.ofString "__bool__")) (special_fn X I hs (beq_iff_eq.mp hf) (wpAny_mono h (fun r s' hr => ?_) fun _ _ y => y))
  cases r <;> first | exact hr.elim | skip
  exact wpAny_pure hr
theorem call_bool_own {Q : Value → Shared → Prop} (X : K.In s.heap) (I : InstAt s.heap x ox C od) (hs : findIn K (.ref C) "__bool__" = some (some (.ref f))) (hf : isFn K (.ref f) = true)
    (h : wpAny (model prog w) A.in1.in1 (call (.ref f) [.ref x]) (PySem.W.BoolBack fun b t => Q (.bool b) t) E s) : wpAny (model prog w) A (call (.type "bool") [.ref x]) Q E s := by
  refine callType_codes (T := "bool") (Bi := Builtin.«object.__init__») (Q₁ := fun r s₁ => ∃ y, r = .bool y ∧ Q r s₁) PySem.F.called_bool (PySem.F.typeCall_bool_1 _) PySem.F.entry_object_init ?_ ?_
  · refine codeAny_of_tree ?_
    show wpAny _ A.in1.in1 (do checkBuiltinCall "bool.__new__" ⟨[.type "bool", .ref x], []⟩; again (.builtin "bool.__new__" ⟨[.type "bool", .ref x], []⟩)) _ _ s
    refine wpAny_bind (wpAny_of_eq (PySem.F.newCall_bool_1 _) (wpAny_pure ⟨plainId_quiet (by decide +kernel) _, codeAny_builtin PySem.F.entry_bool_new ?_⟩))
    rw [Around.under_plainId (by decide +kernel) _]
    have sub1 := F.conv_sub_bool
    have ht : wpAny (model prog w) A.in1.in1 (truthy (.ref x)) (fun b t => Q (.bool b) t) E s := truthy_own X I hs hf h
    rcases s with ⟨hp, g, d, tk, os⟩
    repeat (first | (with_reducible refine wpAny_mono ht (fun b t hb => ?_) (fun _ _ z => z)) | wp_step)
    exact ⟨b, rfl, hb⟩
  · rintro obj s₁ ⟨y, rfl, hq⟩
    have ty : s₁.TypeIs (.bool y) "bool" := rfl
    exact ⟨ty, PySem.F.args_object_init_2 _ _, object_init_meets PySem.F.called_bool.init.lookup PySem.F.called_bool.made (by decide) prog w A.in1 _ s₁ ⟨ty, rfl, hq⟩⟩
end
section
variable {X : Cx} {C f : Addr} {CX : CXT} {k : Nat} {fd : FuncData} {ps : List Str} {sp : Sp}
def rBoolOwn (C : Addr) (sp : Sp) : List V → Hp → VK → Prop := fun vs H Q => ∃ (a dx : Addr) (fs : List (Str × V)), vs = [.ref a] ∧ H a = some (.ins C dx fs) ∧ sp [.ref a] H (fun v H' => ∃ b : Bool, v = .bl b ∧ Q (.bl b) H') E0
theorem call_boolOwn (at_ : PySem.W.findIn X.K (.ref C) "__bool__" = some (some (.ref f))) (fn : PySem.W.isFn X.K (.ref f) = true) (F : FnOk X.prog X.w X.K X.mg X.base CX k f fd ps sp) (hr : Room (k + 2) X.A) (hb : Binds X.K fd ps []) (hx : Passes CX X E0) : CallR X (.type "bool") (rBoolOwn C sp) := by
  intro pins s σ H vs us Q I r h
  obtain ⟨a, dx, fs, rfl, ha, q⟩ := h
  cases r with
  | cons r0 rr =>
    cases rr
    cases r0
    obtain ⟨_, Oa, _⟩ := ins_get I.hok ha
    obtain ⟨_, Ja, _⟩ := Oa.look
    have sb : Sub X k X.A.in1.in1 := ⟨(hr.in1).in1, rfl⟩
    refine call_bool_own I.kIn Ja at_ fn (wpAny_mono (run_sub (vs := [.ref a]) (us := [.ref a]) F sb hb hx I (.cons rfl .nil) q) (fun r s' z => ?_) fun _ _ z => z)
    obtain ⟨v, H', I', rv, b, rfl, hQ⟩ := z
    obtain rfl : r = Value.bool b := rv
    exact ⟨.bl b, H', I', rfl, hQ⟩
end
end W7

namespace K39
open PySem PySem.Spec PyProof.Rows L2 RZ L5 XX LK M38
open W7
def Fr (p : Addr) (H H' : Hp) : Prop := ∀ b o, b ≠ p → H b = some o → (∀ ps, o ≠ .tbl ps) → H' b = some o
def famF (n : Nat) (m : Addr) : List (Str × V) := [("_corners", .int ((n : Nat) : Int)), ("_sets", .ref m)]
/-- a family at a: its corners, its sets -/
def FamAt (K : PySem.W.Frag) (C : Addr) (H : Hp) (a : Addr) (n : Nat) (S : List (List Nat)) : Prop := ∃ dx m qs, H a = some (.ins C dx (famF n m)) ∧ SqT K H m (qs.map V.ref) ∧ TupsU H qs S
theorem FamAt.ext {K : PySem.W.Frag} {C : Addr} {H H' : Hp} {a : Addr} {n : Nat} {S : List (List Nat)} (s : LamX.ExtN H H') : FamAt K C H a n S → FamAt K C H' a n S := fun ⟨dx, m, qs, h1, h2, h3⟩ => ⟨dx, m, qs, s _ _ h1 (fun _ z => nomatch z), ext_sqt s h2, h3.ext s⟩
theorem FamAt.same {K : PySem.W.Frag} {C : Addr} {H H' : Hp} {a : Addr} {n : Nat} {S : List (List Nat)} (s : Same H H') (h : FamAt K C H a n S) : FamAt K C H' a n S := h.ext (ext_of s)
structure FS (n : Nat) (G S : List (List Nat)) : Prop where
  fam : Fam G S
  on : ∀ t ∈ G, On n t
  n8 : n ≤ 8
theorem FS.onS {n : Nat} {G S : List (List Nat)} (h : FS n G S) : ∀ t ∈ S, On n t := h.fam.on h.on
theorem FS.few {n : Nat} {G S : List (List Nat)} (h : FS n G S) : S.length ≤ 256 := M38.few h.n8 h.fam.nd h.onS
structure FamT (K : PySem.W.Frag) (mg : Str → Option Value) where
  C : Addr
  cl : Cls K C
  nC : NoAttr K C "_corners"
  nS : NoAttr K C "_sets"
  gC : mg "Family" = some (.ref C)
  fI : Addr
  dI : FuncData
  FI : Fun K "__init__" "Family.__init__" s_init fI dI
  bI : Binds K dI ["self", "corners", "members"] []
  M : Mk K C fI
  ty : ∀ (H : Hp) (a dx : Addr) (fs : List (Str × V)), H a = some (.ins C dx fs) → TyX K H (.ref a) (.ref C)
  kit : PySem.W.kitOne K (.ref C) (.ref C) = some true
  p1 : Addr
  g1 : Addr
  d1 : FuncData
  P1 : PropOf K C "corners" p1 g1
  F1 : Fun K "corners" "Family.corners" s_corners g1 d1
  b1 : Binds K d1 ["self"] []
  fR : Addr
  dR : FuncData
  FR : Fun K "restricted" "Family.restricted" s_res fR dR
  bR : Binds K dR ["self", "corners"] []
  mR : Meth K C "restricted" fR
  fL : Addr
  dL : FuncData
  FL : Fun K "link" "Family.link" s_link fL dL
  bL : Binds K dL ["self", "member"] []
  mL : Meth K C "link" fL
  fH : Addr
  dH : FuncData
  FH : Fun K "__contains__" "Family.__contains__" s_has fH dH
  bH : Binds K dH ["self", "value"] []
  aH : PySem.W.findIn K (.ref C) "__contains__" = some (some (.ref fH))
  nH : PySem.W.isFn K (.ref fH) = true
  fE : Addr
  dE : FuncData
  FE : Fun K "__eq__" "Family.__eq__" s_eq fE dE
  bE : Binds K dE ["self", "other"] []
  aE : PySem.W.findIn K (.ref C) "__eq__" = some (some (.ref fE))
  nE : PySem.W.isFn K (.ref fE) = true
  fN : Addr
  dN : FuncData
  FN : Fun K "__len__" "Family.__len__" s_len fN dN
  bN : Binds K dN ["self"] []
  aN : PySem.W.findIn K (.ref C) "__len__" = some (some (.ref fN))
  nN : PySem.W.isFn K (.ref fN) = true
  fT : Addr
  dT : FuncData
  FT : Fun K "__iter__" "Family.__iter__" s_iter fT dT
  bT : Binds K dT ["self"] []
  aT : PySem.W.findIn K (.ref C) "__iter__" = some (some (.ref fT))
  nT : PySem.W.isFn K (.ref fT) = true
  fS : Addr
  dS : FuncData
  FS : Fun K "__str__" "Family.__str__" s_str fS dS
  bS : Binds K dS ["self"] []
  aS : PySem.W.findIn K (.ref C) "__str__" = some (some (.ref fS))
  nS' : PySem.W.isFn K (.ref fS) = true
  hm : PySem.W.mroIn K C (.type "object") = some true
  hne : PySem.W.findIn K (.ref C) "__ne__" = some (some (.builtin "object.__ne__"))
section
variable {P : Program} {w : World} {K : PySem.W.Frag} {mg : Str → Option Value} {base : Heap}
theorem sqt_ins {H H' : Hp} {z a C dx : Addr} {fs : List (Str × V)} {xs : List V} (hz : H z = some (.ins C dx fs)) (st : ∀ b o, b ≠ z → H b = some o → H' b = some o) (h : SqT K H a xs) : SqT K H' a xs := by
  have ne : ∀ {o : HO}, H a = some o → o ≠ .ins C dx fs → a ≠ z := fun {o} e n k => by
    rw [k, hz] at e
    exact n (Option.some.inj e).symm
  rcases h with (h | ⟨o, h⟩) | h
  · exact .inl (.inl (st _ _ (ne h fun k => nomatch k) h))
  · exact .inl (.inr ⟨o, st _ _ (ne h fun k => nomatch k) h⟩)
  · exact .inr h
theorem tupsU_ins {H H' : Hp} {z C dx : Addr} {fs : List (Str × V)} (hz : H z = some (.ins C dx fs)) (st : ∀ b o, b ≠ z → H b = some o → H' b = some o) {rs : List Addr} {L : List (List Nat)} (h : TupsU H rs L) : TupsU H' rs L := h.mono fun b xs e => st b _ (fun k => by
  rw [k, hz] at e
  cases e) e
theorem tabs_ins {T : List (Addr × Str)} {H H' : Hp} {z C dx : Addr} {fs : List (Str × V)} (hz : H z = some (.ins C dx fs)) (st : ∀ b o, b ≠ z → H b = some o → H' b = some o) (t : LamX.Tabs T H) : LamX.Tabs T H' := fun p hp => by
  obtain ⟨ps, h1, h2, h3⟩ := t p hp
  refine ⟨ps, st _ _ (fun k => by rw [k, hz] at h1; cases h1) h1, h2, fun pos cv hc => ?_⟩
  obtain ⟨c, e1, e2⟩ := h3 pos cv hc
  exact ⟨c, e1, st _ _ (fun k => by rw [k, hz] at e2; cases e2) e2⟩
def sp_init (K : PySem.W.Frag) (C : Addr) : Sp := fun vs H Q _ => ∃ (p dx l : Addr) (n : Nat) (rs : List Addr) (G : List (List Nat)), vs = [.ref p, .int ((n : Nat) : Int), .ref l] ∧ H p = some (.ins C dx []) ∧ Giv H K l rs n G ∧ 1 ≤ n ∧ n ≤ 8 ∧ LamX.Tabs TBo H ∧
  ∀ H' m qs S, Fr p H H' → LamX.Tabs TBo H' → H' p = some (.ins C dx (famF n m)) → SqT K H' m (qs.map V.ref) → TupsU H' qs S → Fam G S → Q .non H'
theorem ok_init (T : Txt K mg) (O : FamT K mg) (TB : LamX.TabB base mg T.c_ordered tO) : FnOk P w K mg base CX0 6 O.fI O.dI ["self", "corners", "members"] (sp_init K O.C) := by
  refine O.FI.ok sc_init (fun vs H Q E h => ?_) (fun cdv A outer s H vs Q E hr h => ?_)
  · obtain ⟨p, dx, l, n, rs, G, rfl, _⟩ := h
    rfl
  · obtain ⟨p, dx, l, n, rs, G, rfl, hp, g, h1, h8, tab, q⟩ := h
    refine ⟨_, (pss_cons (ps_expr (pe_call  (ok_checkw T) (hr.mono (by decide)) (by rfl) T.m_check_within T.F_check_within.kp T.b_check_within .nil pass0 (pa_cons (pv 1) (pa_cons pe_int (pa_cons (pe_glob (v := .int 8) rfl T.c_MAX_CORNERS ⟨_, rfl⟩) pa_nil)))))
      (pss_cons (ps_if (pt_not (pt_val (pe_call  (ok_aresets T) (hr.mono (by decide)) (by rfl) T.m_are_sets T.F_are_sets.kp T.b_are_sets .nil pass0 (pa_cons (pv 2) (pa_cons (pv 1) pa_nil))))) (pss_one ps_never) pss_nil)
      (pss_cons (ps_fld (pv 0) (pv 1) rfl)
      (pss_one (ps_fld (pv 0) (pe_call  (ok_allw T TB) (hr.mono (by decide)) (by rfl) T.m_all_within T.F_all_within.kp T.b_all_within .nil pass0 (pa_cons (pv 2) pa_nil)) rfl))))), ?_⟩
    refine ⟨_, rfl, _, _, _, rfl, by omega, by omega, ?_⟩
    refine ⟨_, rfl, _, rfl, l, rs, n, G, rfl, g, h8, fun H1 s1 => ⟨_, rfl, iteF ?_⟩⟩
    have hp1 := s1 _ _ hp
    refine ⟨_, rfl, _, rfl, p, _, dx, [], rfl, hp1, O.cl, O.nC, by show 0 < 1000; decide, ?_⟩
    have st1 : ∀ b o, b ≠ p → H1 b = some o → (upd H1 p (.ins O.C dx (putF "_corners" (.int ((n : Nat) : Int)) []))) b = some o := fun b o k h => by
      rw [upd_ne k]
      exact h
    have hp2 : (upd H1 p (.ins O.C dx (putF "_corners" (.int ((n : Nat) : Int)) []))) p = some (.ins O.C dx [("_corners", .int ((n : Nat) : Int))]) := upd_same
    generalize (upd H1 p (.ins O.C dx (putF "_corners" (.int ((n : Nat) : Int)) []))) = H2 at st1 hp2 ⊢
    have g1 := g.same s1
    refine ⟨_, rfl, l, rs, n, G, rfl, ⟨sqt_ins hp1 st1 g1.at_, tupsU_ins hp1 st1 g1.tup, g.on, g.few⟩, h8, tabs_ins hp1 st1 (tab.ext s1), fun H3 m qs S e3 t3 hm hT hF => ?_⟩
    have hp3 := e3 _ _ hp2 fun _ z => nomatch z
    refine ⟨_, rfl, p, _, dx, _, rfl, hp3, O.cl, O.nS, by show 1 < 1000; decide, ?_⟩
    have st3 : ∀ b o, b ≠ p → H3 b = some o → (upd H3 p (.ins O.C dx (putF "_sets" (.ref m) [("_corners", .int ((n : Nat) : Int))]))) b = some o := fun b o k h => by
      rw [upd_ne k]
      exact h
    refine q _ m qs S (fun b o k h nt => st3 b o k (e3 b o (st1 b o k (s1 b o h)) nt)) (tabs_ins hp3 st3 t3) ?_ (sqt_ins hp3 st3 (SqT.of hm)) (tupsU_ins hp3 st3 hT) hF
    rw [upd_same]
    rfl
/-- Family(n, l) -/
theorem mk_fam {C : Addr} {H : Hp} {l : Addr} {rs : List Addr} {n : Nat} {G : List (List Nat)} {Q : Addr → Hp → Prop} {E : XK} (g : Giv H K l rs n G) (h1 : 1 ≤ n) (h8 : n ≤ 8) (tab : LamX.Tabs TBo H)
    (q : ∀ H' x S, LamX.ExtN H H' → LamX.Tabs TBo H' → FamAt K C H' x n S → FS n G S → H x = none → Q x H') :
    ∀ x dx, H x = none → H dx = none → dx ≠ x → sp_init K C (.ref x :: ([.int ((n : Nat) : Int), .ref l] ++ [])) (upd (upd H dx (.own x)) x (.ins C dx [])) (fun v H2 => v = .non ∧ Q x H2) E := by
  intro x dx nx nd ne
  have sx : Same H (upd (upd H dx (.own x)) x (.ins C dx [])) := (same_new nd (.own x)).trans (same_new (by rw [upd_ne (Ne.symm ne)]; exact nx) _)
  refine ⟨x, dx, l, n, rs, G, rfl, upd_same, g.same sx, h1, h8, tab.ext sx, fun H2 m qs S f2 t2 hx hm hT hF => ⟨rfl, ?_⟩⟩
  refine q H2 x S (fun b o h nt => f2 b o (ne_of_none h nx) (sx b o h) nt) t2 ⟨dx, m, qs, hx, hm, hT⟩ ⟨hF, g.on, h8⟩ nx
def sp_cor (K : PySem.W.Frag) (C : Addr) : Sp := fun vs H Q _ => ∃ a n S, vs = [.ref a] ∧ FamAt K C H a n S ∧ Q (.int ((n : Nat) : Int)) H
theorem ok_cor (O : FamT K mg) : FnOk P w K mg base CX0 1 O.g1 O.d1 ["self"] (sp_cor K O.C) := by
  refine O.F1.ok sc_corners (fun vs H Q E h => ?_) (fun cdv A outer s H vs Q E hr h => ?_)
  · obtain ⟨a, n, S, rfl, _⟩ := h
    rfl
  · obtain ⟨a, n, S, rfl, ⟨dx, m, qs, h1, h2, h3⟩, q⟩ := h
    exact ⟨_, pss_one (ps_ret (pe_fld (pv 0) rfl)), _, rfl, a, O.C, dx, _, _, rfl, h1, O.cl, O.nC, rfl, q⟩
end
end K39

namespace L2
open PySem PySem.Spec PyProof.Rows
section
variable {X : Cx}
/-- x in t, t a tuple of anything that is read -/
def rInDT (K : PySem.W.Frag) : R2 := fun x y H Q => ∃ d ds, Dp K H x d ∧ Dp K H y (.tuple ds) ∧ SeqAt.shaped d = true ∧ SeqAt.shaped (.tuple ds) = true ∧ Q (.bl (ds.any fun z => PyData.eqv z d)) H
theorem op_inDT (hu : X.A.units + 65 < cLine) : OpR X (compareOp .In) (rInDT X.K) := by
  intro pins s σ H x y v u Q I rx ry h
  obtain ⟨d, ds, hd, he, sd, se, q⟩ := h
  obtain ⟨as, r1⟩ := Dp.reads I d x v hd rx
  obtain ⟨bs, r2⟩ := Dp.reads I (.tuple ds) y u he ry
  exact SeqAt.in_tuple_reads r2 r1 (SeqAt.canLay_of_shaped se) (SeqAt.canLay_of_shaped sd) (room_in_shaped sd hu) ⟨.bl _, H, I, rfl, q⟩
end
end L2

namespace W14
open PySem PySem.Spec PyProof.Rows L2
/-! ### max(xs, default=d) of a list of ints -/
theorem fold_most : ∀ (ns : List Int) (n : Int), (ns.foldl max n ∈ n :: ns) ∧ n ≤ ns.foldl max n ∧ ∀ y ∈ ns, y ≤ ns.foldl max n
  | [], n => ⟨List.mem_cons_self, Int.le_refl n, fun _ h => nomatch h⟩
  | a :: r, n => by
    obtain ⟨h1, h2, h3⟩ := fold_most r (max n a)
    have e : (a :: r).foldl max n = r.foldl max (max n a) := rfl
    rw [e]
    refine ⟨?_, by omega, fun y hy => ?_⟩
    · rcases List.mem_cons.mp h1 with h | h
      · rw [h]
        rcases Int.le_total n a with z | z
        · rw [Int.max_eq_right z]
          simp
        · rw [Int.max_eq_left z]
          simp
      · exact List.mem_cons_of_mem _ (List.mem_cons_of_mem _ h)
    · rcases List.mem_cons.mp hy with rfl | hy
      · omega
      · exact h3 y hy
theorem reads_are {h : Heap} : ∀ {us : List Value} {ns : List Int}, IntsAre us ns → ∃ as, ReadsAll h us (ns.map PyData.int) as
  | _, _, .nil => ⟨_, .nil⟩
  | _, _, .cons n t r => by
    obtain ⟨as, q⟩ := reads_are (h := h) r
    exact ⟨_, .cons (.int n t) q⟩
theorem flat_ints : ∀ ns : List Int, PyData.depthAll (ns.map PyData.int) = 0
  | [] => by simp [PyData.depthAll]
  | n :: ns => by simp [PyData.depthAll, PyData.depth, flat_ints ns]
theorem alike_ints (ns : List Int) : PySem.W.AlikeAll (ns.map PyData.int) := by
  refine ⟨fun x hx y hy => ?_, fun x hx e => ?_⟩
  · obtain ⟨a, _, rfl⟩ := List.mem_map.mp hx
    obtain ⟨b, _, rfl⟩ := List.mem_map.mp hy
    first | rfl | simp [PySem.W.alike] | decide
  · obtain ⟨a, _, rfl⟩ := List.mem_map.mp hx
    cases e
def rMaxDef (K : PySem.W.Frag) : List V → List V → Hp → VK → Prop := fun vs zs H Q => ∃ (a : Addr) (ns : List Int) (d : Int), vs = [V.ref a] ∧ zs = [V.int d] ∧ SqL K H a (ns.map V.int) ∧ ∀ m, (ns = [] → m = d) → (ns ≠ [] → m ∈ ns ∧ ∀ y ∈ ns, y ≤ m) → Q (.int m) H
theorem cr_maxDef {X : Cx} (hc : X.calm = true) (hu : X.A.units + 64 < cLine) : CallRK X (.builtin "max") [Str.ofString "default"] (rMaxDef X.K) := by
  intro pins s σ H vs zs us ws Q I r rz h
  obtain ⟨a, ns, d, rfl, rfl, hs, q⟩ := h
  obtain rfl := Vals.ref1 r
  obtain ⟨w1, rfl, e1⟩ := vals1 rz
  obtain ⟨t, rfl⟩ := e1
  obtain ⟨its, rv, hl, _⟩ := I.list hs
  obtain ⟨as, hr⟩ := reads_are (h := s.heap) rv.ints
  refine PySem.W.max_list_default (I.ok.hd hc) hl.isList (by simpa using hr) (alike_ints ns) (by rw [flat_ints]; omega) (fun e h' tk k => ?_) (fun y ys i v h' tk bs e hv hm k => ?_)
  · have e0 : ns = [] := List.map_eq_nil_iff.mp e
    exact ⟨.int d, H, I.kept k, ⟨_, rfl⟩, q d (fun _ => rfl) (fun n => absurd e0 n)⟩
  · cases ns with
    | nil => cases e
    | cons n ns =>
      rw [List.map_cons] at e
      injection e with e1 e2
      subst e1
      subst e2
      rw [PySem.W.maxD_ints] at hm
      obtain ⟨f1, f2, f3⟩ := fold_most ns n
      generalize ns.foldl max n = M at hm f1 f2 f3
      cases hm with
      | int _ t2 =>
        refine ⟨.int M, H, I.kept k, ⟨_, rfl⟩, q M (fun z => nomatch z) fun _ => ⟨f1, fun y hy => ?_⟩⟩
        rcases List.mem_cons.mp hy with rfl | hy
        · exact f2
        · exact f3 y hy
end W14

namespace K39
open PySem PySem.Spec PyProof.Rows L2 RZ L5 XX LK M38
def tTru (K : PySem.W.Frag) (ta : TE) : L2.St → Hp → (Bool → Hp → Prop) → Prop := fun σ H Q => ta σ H fun x H' => ∃ k, TruV K x H' k ∧ Q k H'
section
theorem eqvAll_nats : ∀ t u : List Nat, PyData.eqvAll (t.map fun n => PyData.int ((n : Nat) : Int)) (u.map fun n => PyData.int ((n : Nat) : Int)) = decide (t = u)
  | [], [] => by simp [PyData.eqvAll]
  | [], _ :: _ => by simp [PyData.eqvAll]
  | _ :: _, [] => by simp [PyData.eqvAll]
  | a :: t, b :: u => by
    simp only [List.map_cons, PyData.eqvAll, PyData.eqv, eqvAll_nats t u]
    rw [show (((a : Nat) : Int) == ((b : Nat) : Int)) = decide (a = b) by
      rw [Bool.eq_iff_iff, beq_iff_eq, decide_eq_true_iff]
      omega, ← Bool.decide_and]
    exact decide_eq_decide.mpr (by simp)
theorem eqv_tupE (t u : List Nat) : PyData.eqv (encT t) (encT u) = decide (t = u) := by
  simp only [encT, PyData.eqv]
  exact eqvAll_nats t u
theorem eqvAll_tups : ∀ L M : List (List Nat), PyData.eqvAll (L.map encT) (M.map encT) = decide (L = M)
  | [], [] => by simp [PyData.eqvAll]
  | [], _ :: _ => by simp [PyData.eqvAll]
  | _ :: _, [] => by simp [PyData.eqvAll]
  | t :: L, u :: M => by
    rw [List.map_cons, List.map_cons, PyData.eqvAll, eqv_tupE, eqvAll_tups L M, ← Bool.decide_and]
    exact decide_eq_decide.mpr (by simp)
theorem shaped_tupsT (L : List (List Nat)) : SeqAt.shaped (.tuple (L.map encT)) = true := by
  have h := can_tups L
  unfold SeqAt.shaped
  simp only [PyData.canLay0, PyData.depth, h.1, Bool.true_and]
  exact decide_eq_true (by omega)
theorem eqv_TT (L M : List (List Nat)) : PyData.eqv (.tuple (L.map encT)) (.tuple (M.map encT)) = decide (L = M) := by
  simp only [PyData.eqv]
  exact eqvAll_tups L M
theorem any_eqv (t : List Nat) : ∀ L : List (List Nat), ((L.map encT).any fun z => PyData.eqv z (encT t)) = decide (t ∈ L)
  | [] => by simp
  | u :: L => by
    rw [List.map_cons, List.any_cons, any_eqv t L, eqv_tupE, ← Bool.decide_or]
    refine decide_eq_decide.mpr ?_
    rw [List.mem_cons]
    exact ⟨fun h => h.elim (fun e => .inl e.symm) .inr, fun h => h.elim (fun e => .inl e.symm) .inr⟩
theorem shaped_T (t : List Nat) : SeqAt.shaped (encT t) = true := by
  have h := can_nats t
  unfold SeqAt.shaped
  simp only [PyData.canLay0, PyData.depth, h.1, h.2, Bool.true_and]
  exact decide_eq_true (by omega)
def sgn (t : List Nat) : Int := if t.length % 2 = 1 then 1 else -1
def lens (S : List (List Nat)) : List Int := S.map fun t => ((t.length : Nat) : Int)
def IsTop (S : List (List Nat)) (m : Int) : Prop := (S = [] → m = -1) ∧ (S ≠ [] → m ∈ lens S ∧ ∀ y ∈ lens S, y ≤ m)
theorem IsTop.uniq {S : List (List Nat)} {m m' : Int} (h : IsTop S m) (h' : IsTop S m') : m = m' := by
  by_cases e : S = []
  · rw [h.1 e, h'.1 e]
  · have h1 := h.2 e
    have h2 := h'.2 e
    exact Int.le_antisymm (h2.2 m h1.1) (h1.2 m' h2.1)
def hasB (d : Option (List (Option Int))) (n : Nat) (S : List (List Nat)) : Bool := setB d ((n : Nat) : Int) && S.any fun t => decide (d = some (som t))
theorem som_inj : ∀ {t u : List Nat}, som t = som u → t = u
  | [], [], _ => rfl
  | [], _ :: _, h => by cases h
  | _ :: _, [], h => by cases h
  | x :: t, y :: u, h => by
    unfold som at h
    rw [List.map_cons, List.map_cons] at h
    injection h with h1 h2
    injection h1 with h1
    rw [som_inj (t := t) (u := u) h2, show x = y by omega]
theorem hasB_on {n : Nat} {t : List Nat} {S : List (List Nat)} (ht : On n t) : hasB (some (som t)) n S = decide (t ∈ S) := by
  unfold hasB
  rw [setB_on.mpr ht, Bool.true_and, Bool.eq_iff_iff, List.any_eq_true, decide_eq_true_iff]
  constructor
  · rintro ⟨u, hu, e⟩
    have := som_inj (Option.some.inj (of_decide_eq_true e))
    rw [this]
    exact hu
  · intro h
    exact ⟨t, h, decide_eq_true rfl⟩
end
section
variable {P : Program} {w : World} {K : PySem.W.Frag} {mg : Str → Option Value} {base : Heap}
end
end K39

namespace K39
open PySem PySem.Spec PyProof.Rows L2 RZ L5 XX LK M38
section
theorem glued_len (a : Str) (ys : List Str) : (Txt.join a ys).length ≤ (ys.map (·.length)).sum + ys.length * a.length := by
  cases ys with
  | nil => exact Nat.zero_le _
  | cons y r =>
    have key : ∀ (r : List Str) (acc : Array Nat), (r.foldl (fun acc p => acc ++ a.cps ++ p.cps) acc).size = acc.size + (r.map (·.length)).sum + r.length * a.length := fun r => by
      induction r with
      | nil =>
        intro acc
        simp
      | cons z r ih =>
        intro acc
        rw [List.foldl_cons, ih, Array.size_append, Array.size_append, List.map_cons, List.sum_cons, List.length_cons, Nat.succ_mul]
        show acc.size + a.length + z.length + _ + _ = _
        omega
    show (r.foldl (fun acc p => acc ++ a.cps ++ p.cps) y.cps).size ≤ _
    rw [key, List.map_cons, List.sum_cons, List.length_cons, Nat.succ_mul]
    show y.length + _ + _ ≤ _
    omega
theorem glued_pos (a : Str) (y : Str) (r : List Str) (h : 0 < y.length) : 0 < (Txt.join a (y :: r)).length := by
  have key : ∀ (r : List Str) (acc : Array Nat), acc.size ≤ (r.foldl (fun acc p => acc ++ a.cps ++ p.cps) acc).size := fun r => by
    induction r with
    | nil => exact fun acc => Nat.le_refl _
    | cons z r ih =>
      intro acc
      rw [List.foldl_cons]
      refine Nat.le_trans ?_ (ih _)
      rw [Array.size_append, Array.size_append]
      omega
  exact Nat.lt_of_lt_of_le h (key r y.cps)
theorem un65 {k : Nat} {A : Around} (hr : Room k A) : A.units + 65 < cLine := by have := hr.un; omega
/-! ### texts -/
def dg (n : Nat) : Str := ((toString ((n : Nat) : Int) : String) : Str)
theorem dg_len : ∀ n, n < 9 → (dg n).length = 1 := by decide +kernel
def setW (t : List Nat) : Str := if t = [] then ("-" : Str) else Txt.join "" (t.map dg)
def famW (L : List (List Nat)) : Str := if L = [] then ("none" : Str) else Txt.join " " (L.map setW)
def famTx (n : Nat) (L : List (List Nat)) : Str := ((Str.empty ++ famW L) ++ (" on " : Str)) ++ dg n
theorem sum_dg : ∀ {t : List Nat}, (∀ x ∈ t, x < 9) → ((t.map dg).map (·.length)).sum = t.length
  | [], _ => rfl
  | x :: t, h => by
    rw [List.map_cons, List.map_cons, List.sum_cons, sum_dg fun y hy => h y (List.mem_cons_of_mem _ hy), List.length_cons, dg_len x (h x List.mem_cons_self)]
    omega
theorem setW_len {n : Nat} {t : List Nat} (h : On n t) (hn : n ≤ 8) : (setW t).length ≤ 8 ∧ 0 < (setW t).length := by
  have h9 : ∀ x ∈ t, x < 9 := fun x hx => by have := h.2 x hx; omega
  have hl := on_len h
  unfold setW
  split
  · decide
  · rename_i hne
    refine ⟨?_, ?_⟩
    · have h1 := glued_len "" (t.map dg)
      rw [sum_dg h9, show ("" : Str).length = 0 from by decide +kernel] at h1
      omega
    · cases t with
      | nil => exact absurd rfl hne
      | cons x t => exact glued_pos _ _ _ (by rw [dg_len x (h9 x List.mem_cons_self)]; decide)
theorem sum_setW {n : Nat} (hn : n ≤ 8) : ∀ {L : List (List Nat)}, (∀ t ∈ L, On n t) → ((L.map setW).map (·.length)).sum ≤ 8 * L.length
  | [], _ => Nat.le_refl _
  | t :: L, h => by
    have h1 := (setW_len (h t List.mem_cons_self) hn).1
    have h2 := sum_setW hn (L := L) fun u hu => h u (List.mem_cons_of_mem _ hu)
    rw [List.map_cons, List.map_cons, List.sum_cons, List.length_cons]
    omega
theorem famW_len {n : Nat} (hn : n ≤ 8) {L : List (List Nat)} (h : ∀ t ∈ L, On n t) (hl : L.length ≤ 256) : (famW L).length ≤ 3000 ∧ 0 < (famW L).length := by
  unfold famW
  split
  · decide
  · rename_i hne
    refine ⟨?_, ?_⟩
    · have h1 := glued_len " " (L.map setW)
      have h2 := sum_setW hn h
      rw [show (" " : Str).length = 1 from by decide +kernel, List.length_map] at h1
      omega
    · cases L with
      | nil => exact absurd rfl hne
      | cons t L => exact glued_pos _ _ _ (setW_len (h t List.mem_cons_self) hn).2
theorem log_small {i : Int} (h0 : 0 ≤ i) (h : i < 100) : i.natAbs.log2 < 1920 := by
  have : i.natAbs < 2 ^ 1920 := Nat.lt_of_lt_of_le (show i.natAbs < 100 by omega) (by decide +kernel)
  by_cases z : i.natAbs = 0
  · rw [z]
    decide
  · exact (Nat.log2_lt z).mpr this
theorem str_le {x : Str} {n : Nat} (h : x.length ≤ n) (hn : n ≤ 100000) : x.length ≤ sizeLine := Nat.le_trans h (Nat.le_trans hn (by decide))
end
section
variable {P : Program} {w : World} {K : PySem.W.Frag} {mg : Str → Option Value} {base : Heap}
def sp_stx (K : PySem.W.Frag) : Sp := fun vs H Q _ => ∃ (a : Addr) (n : Nat) (t : List Nat), vs = [.ref a] ∧ SqT K H a (nv t) ∧ On n t ∧ n ≤ 8 ∧ ∀ H', Same H H' → Q (.str (setW t)) H'
theorem ok_stx (T : Txt K mg) : FnOk P w K mg base CX0 1 T.a_set_text T.d_set_text ["chosen"] (sp_stx K) := by
  refine T.F_set_text.ok sc_set_text (fun vs H Q E h => ?_) (fun cdv A outer s H vs Q E hr h => ?_)
  · obtain ⟨a, n, t, rfl, _⟩ := h
    rfl
  · obtain ⟨a, n, t, rfl, hA, ht, hn, q⟩ := h
    refine ⟨_, pss_one (ps_ret (pe_orT (pe_join pe_str (pe_lc (own := [("corner", 1)]) (g := gName 1) (tt := tYes) rfl sc_set_text.nd (pi_tup (pv 0)) (blkOk_by (own := [("corner", 1)]) (N := N_set_text) (sc := defScope s_set_text) (by decide +kernel)) (fun _ _ _ _ _ => (pg_name (i := 1) sc_set_text.nd rfl (Or.inl rfl))) (fun _ _ _ _ _ => pts_nil) (fun _ _ _ _ _ => (pe_callTy call_str_int (by rfl) T.z_str boot_str (pa_cons (pv 1) pa_nil))))) (pe_one pe_str))), ?_⟩
    have h9 : ∀ x ∈ t, x < 9 := fun x hx => by have := ht.2 x hx; omega
    have hl := on_len ht
    refine ⟨⟨_, rfl⟩, _, rfl, a, rfl, ⟨_, hA⟩, fun D hD => ?_⟩
    have sD := same_new hD (.lst [])
    refine lc_tup (K := K) (a := a) (xs := nv t) (fun i H' => Same H H' ∧ H' D = some (.lst (((t.map dg).take i).map V.str))) ⟨sD, upd_same⟩ (fun i H' _ h => same_sqt h.1 hA) (fun i x H' hx hh => ?_) (fun H' hh => ?_)
    · obtain ⟨s2, hD2⟩ := hh
      obtain ⟨e, he, rfl⟩ := nv_get hx
      have hi : i < t.length := (List.getElem?_eq_some_iff.mp he).1
      have hu : (t.map dg)[i]? = some (dg e) := by rw [List.getElem?_map, he]; rfl
      have he9 := h9 e (List.mem_of_getElem? he)
      refine ⟨rfl, _, rfl, _, rfl, log_small (by omega) (by omega), _, hD2, ?_, same_updL s2 hD, by rw [upd_same, take_more hu, List.map_append]; rfl⟩
      rw [List.length_map, List.length_take, List.length_map]
      exact sizeK (by omega)
    · obtain ⟨s2, hD2⟩ := hh
      rw [nv_len, List.take_of_length_le (by rw [List.length_map]; omega)] at hD2
      refine ⟨_, D, t.map dg, rfl, rfl, .inl (SqL.of hD2), by rw [sum_dg h9, show ("" : Str).length = 0 from by decide +kernel]; omega, ?_⟩
      have q' := q H' s2
      unfold setW at q'
      cases t with
      | nil =>
        rw [if_pos rfl] at q'
        exact ⟨false, ⟨by decide +kernel, by decide +kernel⟩, iteF q'⟩
      | cons x t =>
        rw [if_neg (List.cons_ne_nil x t)] at q'
        have h1 := glued_len "" ((x :: t).map dg)
        rw [sum_dg h9, show ("" : Str).length = 0 from by decide +kernel] at h1
        have h0 := glued_pos "" (dg x) (t.map dg) (by rw [dg_len x (h9 x List.mem_cons_self)]; decide)
        refine ⟨true, ⟨str_le (n := 100) (by omega) (by decide), ?_⟩, iteT q'⟩
        symm
        rw [bne_iff_ne]
        show ((Txt.join "" ((x :: t).map dg)).length : Int) ≠ 0
        rw [List.map_cons]
        omega
def sp_ftx (K : PySem.W.Frag) : Sp := fun vs H Q _ => ∃ (a : Addr) (rs : List Addr) (n : Nat) (L : List (List Nat)), vs = [.int ((n : Nat) : Int), .ref a] ∧ SqT K H a (rs.map V.ref) ∧ TupsU H rs L ∧ (∀ t ∈ L, On n t) ∧ n ≤ 8 ∧ L.length ≤ 256 ∧ ∀ H', Same H H' → Q (.str (famTx n L)) H'
theorem ok_ftx (T : Txt K mg) : FnOk P w K mg base CX0 2 T.a_family_text T.d_family_text ["corners", "members"] (sp_ftx K) := by
  refine T.F_family_text.ok sc_family_text (fun vs H Q E h => ?_) (fun cdv A outer s H vs Q E hr h => ?_)
  · obtain ⟨a, rs, n, L, rfl, _⟩ := h
    rfl
  · obtain ⟨a, rs, n, L, rfl, hA, hT, on, hn, hL, q⟩ := h
    refine ⟨_, (pss_cons (ps_set (i := 2) sc_family_text.nd rfl (Or.inl rfl) (pe_orT (pe_join pe_str (pe_lc (own := [("chosen", 3)]) (g := gName 3) (tt := tYes) rfl sc_family_text.nd (pi_tup (pv 1)) (blkOk_by (own := [("chosen", 3)]) (N := N_family_text) (sc := defScope s_family_text) (by decide +kernel)) (fun _ _ _ _ _ => (pg_name (i := 3) sc_family_text.nd rfl (Or.inl rfl))) (fun _ _ _ _ _ => pts_nil) (fun _ _ _ _ _ => (pe_call  (ok_stx T) (hr.mono (by decide)) (by rfl) T.m_set_text T.F_set_text.kp T.b_set_text .nil pass0 (pa_cons (pv 3) pa_nil))))) (pe_one pe_str))) (pss_one (ps_ret (pe_joined (.cons (pe_fmt (pv 2)) (.cons pe_str (.cons (pe_fmt (pv 0)) .nil))))))), ?_⟩
    have hl := hT.length
    have fl := famW_len hn on hL
    refine ⟨⟨_, rfl⟩, _, rfl, a, rfl, ⟨_, hA⟩, fun D hD => ?_⟩
    have sD := same_new hD (.lst [])
    refine lc_tup (K := K) (a := a) (xs := rs.map V.ref) (fun i H' => Same H H' ∧ H' D = some (.lst (((L.map setW).take i).map V.str))) ⟨sD, upd_same⟩ (fun i H' _ h => same_sqt h.1 hA) (fun i x H' hx hh => ?_) (fun H' hh => ?_)
    · obtain ⟨s2, hD2⟩ := hh
      obtain ⟨b, t, rfl, _, ht, hb⟩ := (hT.same s2).get hx
      have hi : i < L.length := (List.getElem?_eq_some_iff.mp ht).1
      have hu : (L.map setW)[i]? = some (setW t) := by rw [List.getElem?_map, ht]; rfl
      refine ⟨rfl, _, rfl, b, n, t, rfl, SqT.of hb, on t (List.mem_of_getElem? ht), hn, fun H3 s3 => ⟨_, s3 _ _ hD2, ?_, same_updL (s2.trans s3) hD, by rw [upd_same, take_more hu, List.map_append]; rfl⟩⟩
      rw [List.length_map, List.length_take, List.length_map]
      exact sizeK (by omega)
    · obtain ⟨s2, hD2⟩ := hh
      rw [List.length_map, List.take_of_length_le (by rw [List.length_map]; omega)] at hD2
      have h2 := sum_setW hn on
      refine ⟨_, D, L.map setW, rfl, rfl, .inl (SqL.of hD2), by rw [List.length_map, show (" " : Str).length = 1 from by decide +kernel]; omega, ?_⟩
      have fin : ∀ wd : Str, wd = famW L → tJs [tFmt (tVar 2), tC (.str " on "), tFmt (tVar 0)] Str.empty [some (.int ((n : Nat) : Int)), some (.ref a), some (.str wd), none] H' fun out H1 => Q (.str out) H1 := fun wd e => by
        subst e
        have d1 : (dg n).length = 1 := dg_len n (by omega)
        have e0 : (Str.empty ++ famW L).length ≤ 3000 := by rw [Str.length_append, show Str.empty.length = 0 from rfl]; omega
        refine ⟨_, rfl, .inl ⟨_, rfl, str_le fl.1 (by decide), _, rfl, str_le e0 (by decide), _, rfl, ?_, _, rfl, .inr ⟨_, rfl, log_small (by omega) (by omega), _, rfl, ?_, q H' s2⟩⟩⟩
        · exact str_le (n := 3004) (by rw [Str.length_append, show (" on " : Str).length = 4 from by decide +kernel]; omega) (by decide)
        · exact str_le (n := 3005) (by rw [Str.length_append, Str.length_append, show (" on " : Str).length = 4 from by decide +kernel]; show _ + _ + (dg n).length ≤ _; omega) (by decide)
      by_cases hne : L = []
      · subst hne
        exact ⟨false, ⟨by decide +kernel, by decide +kernel⟩, iteF (fin _ (by unfold famW; rw [if_pos rfl]))⟩
      · have e : famW L = Txt.join " " (L.map setW) := by unfold famW; rw [if_neg hne]
        refine ⟨true, ⟨by rw [← e]; exact str_le fl.1 (by decide), ?_⟩, iteT (fin _ e.symm)⟩
        symm
        rw [bne_iff_ne, ← e]
        omega
def sp_strf (K : PySem.W.Frag) (C : Addr) : Sp := fun vs H Q _ => ∃ a n G S, vs = [.ref a] ∧ FamAt K C H a n S ∧ FS n G S ∧ ∀ H', Same H H' → Q (.str (famTx n (gr S))) H'
theorem ok_strf (T : Txt K mg) (O : FamT K mg) : FnOk P w K mg base CX0 3 O.fS O.dS ["self"] (sp_strf K O.C) := by
  refine O.FS.ok sc_str (fun vs H Q E h => ?_) (fun cdv A outer s H vs Q E hr h => ?_)
  · obtain ⟨a, n, G, S, rfl, _⟩ := h
    rfl
  · obtain ⟨a, n, G, S, rfl, ⟨dx, m, qs, h1, h2, h3⟩, f, q⟩ := h
    refine ⟨_, (pss_one (ps_ret (pe_callTy SkE.call_str_str (by rfl) T.z_str boot_str (pa_cons (pe_call  (ok_ftx T) (hr.mono (by decide)) (by rfl) T.m_family_text T.F_family_text.kp T.b_family_text .nil pass0 (pa_cons (pe_fld (pv 0) rfl) (pa_cons (pe_call  (ok_gr T) (hr.mono (by decide)) (by rfl) T.m_greatest_sets T.F_greatest_sets.kp T.b_greatest_sets .nil pass0 (pa_cons (pe_fld (pv 0) rfl) pa_nil)) pa_nil))) pa_nil)))), ?_⟩
    refine ⟨_, rfl, a, O.C, dx, _, _, rfl, h1, O.cl, O.nC, rfl, _, rfl, a, O.C, dx, _, _, rfl, h1, O.cl, O.nS, rfl, m, qs, n, G, S, rfl, h2, h3, f.fam, f.on, f.n8, fun H1 z rs s1 hz hT => ?_⟩
    refine ⟨z, rs, n, gr S, rfl, SqT.of hz, hT, fun t ht => f.onS t (mem_gr.mp ht).1, f.n8, ?_, fun H2 s2 => ⟨_, rfl, q H2 (s1.trans s2)⟩⟩
    have h5 := (srt_perm encT (tops S)).length_eq
    have h6 := List.length_filter_le (fun t => !cov S t) S
    have h7 := f.few
    show (srt encT (tops S)).length ≤ 256
    rw [h5]
    exact Nat.le_trans h6 h7
def sp_lenf (K : PySem.W.Frag) (C : Addr) : Sp := fun vs H Q _ => ∃ a n S, vs = [.ref a] ∧ FamAt K C H a n S ∧ Q (.int ((S.length : Nat) : Int)) H
theorem ok_lenf (T : Txt K mg) (O : FamT K mg) : FnOk P w K mg base CX0 1 O.fN O.dN ["self"] (sp_lenf K O.C) := by
  refine O.FN.ok sc_len (fun vs H Q E h => ?_) (fun cdv A outer s H vs Q E hr h => ?_)
  · obtain ⟨a, n, S, rfl, _⟩ := h
    rfl
  · obtain ⟨a, n, S, rfl, ⟨dx, m, qs, h1, h2, h3⟩, q⟩ := h
    refine ⟨_, (pss_one (ps_ret (pe_callB call_len_seq (by rfl) T.z_len boot_len (pa_cons (pe_fld (pv 0) rfl) pa_nil)))), ?_⟩
    refine ⟨_, rfl, a, O.C, dx, _, _, rfl, h1, O.cl, O.nS, rfl, m, _, rfl, .inr h2, ?_⟩
    rw [List.length_map, h3.length]
    exact q
def sp_hasf (K : PySem.W.Frag) (C : Addr) : Sp := fun vs H Q _ => ∃ a v d n S, vs = [.ref a, v] ∧ FamAt K C H a n S ∧ Va K H v d ∧ n ≤ 8 ∧ ∀ H', Same H H' → Q (.bl (hasB d n S)) H'
theorem ok_hasf (T : Txt K mg) (O : FamT K mg) : FnOk P w K mg base CX0 4 O.fH O.dH ["self", "value"] (sp_hasf K O.C) := by
  refine O.FH.ok sc_has (fun vs H Q E h => ?_) (fun cdv A outer s H vs Q E hr h => ?_)
  · obtain ⟨a, v, d, n, S, rfl, _⟩ := h
    rfl
  · obtain ⟨a, v, d, n, S, rfl, ⟨dx, m, qs, h1, h2, h3⟩, hv, hn, q⟩ := h
    refine ⟨_, (pss_one (ps_ret (pe_and (pe_call  (ok_isset T) (hr.mono (by decide)) (by rfl) T.m_is_set T.F_is_set.kp T.b_is_set .nil pass0 (pa_cons (pv 1) (pa_cons (pe_fld (pv 0) rfl) pa_nil))) (pe_one (pe_cmpR (op_inDT (un65 hr)) (pv 1) (pe_fld (pv 0) rfl) (by rfl)))))), ?_⟩
    refine ⟨_, rfl, _, rfl, a, O.C, dx, _, _, rfl, h1, O.cl, O.nC, rfl, v, d, _, rfl, hv, fun H1 s1 => ⟨_, rfl, ?_⟩⟩
    cases hb : setB d ((n : Nat) : Int) with
    | false =>
      have e : hasB d n S = false := by
        unfold hasB
        rw [hb]
        rfl
      rw [e] at q
      exact iteF (q H1 s1)
    | true =>
      obtain ⟨os, rfl⟩ : ∃ os, d = some os := by
        cases d with
        | none => cases hb
        | some os => exact ⟨os, rfl⟩
      obtain ⟨p, vs, rfl, hT, hE, hz⟩ := hv.get
      have hb' := hb
      unfold setB at hb'
      simp only [Bool.and_eq_true] at hb'
      obtain ⟨u, rfl, rfl, hu⟩ := els_natM hE hb'.1
      rw [hasB_on (setB_on.mp hb)] at q
      refine iteT ⟨_, rfl, _, rfl, a, O.C, dx, _, _, rfl, s1 _ _ h1, O.cl, O.nS, rfl, encT u, S.map encT, dp_tup (same_sqt s1 hT), .tup (same_sqt s1 h2) (dp_tups (h3.same s1).tups), shaped_T u, shaped_tupsT S, ?_⟩
      rw [any_eqv]
      exact q H1 s1
def sp_eqf (K : PySem.W.Frag) (C : Addr) : Sp := fun vs H Q _ => ∃ a b n S n' S', vs = [.ref a, .ref b] ∧ FamAt K C H a n S ∧ FamAt K C H b n' S' ∧ Q (.bl (decide (n = n') && decide (S = S'))) H
theorem ok_eqf (T : Txt K mg) (O : FamT K mg) : FnOk P w K mg base CX0 1 O.fE O.dE ["self", "other"] (sp_eqf K O.C) := by
  refine O.FE.ok sc_eq (fun vs H Q E h => ?_) (fun cdv A outer s H vs Q E hr h => ?_)
  · obtain ⟨a, b, n, S, n', S', rfl, _⟩ := h
    rfl
  · obtain ⟨a, b, n, S, n', S', rfl, ⟨dx, m, rs, h1, h2, h3⟩, ⟨dy, m2, rs2, k1, k2, k3⟩, q⟩ := h
    refine ⟨_, pss_one (ps_ret (pe_and (pe_callB call_isi (by rfl) T.z_isinstance boot_isinstance (pa_cons (pv 1) (pa_cons (pe_glob (v := .ref O.C) rfl O.gC rfl) pa_nil)))
      (pe_and (pe_cmpR op_eq (pe_fld (pv 0) rfl) (pe_fld (pv 1) rfl) (nomark _)) (pe_one (pe_cmpR (op_eqD hr.units) (pe_fld (pv 0) rfl) (pe_fld (pv 1) rfl) (nomark _)))))), ?_⟩
    refine ⟨_, rfl, _, _, _, _, true, rfl, .own _, O.ty H b dy _ k1, O.kit, true, rfl, iteT ?_⟩
    refine ⟨_, rfl, a, O.C, dx, _, _, rfl, h1, O.cl, O.nC, rfl, _, rfl, b, O.C, dy, _, _, rfl, k1, O.cl, O.nC, rfl, rfl, _, rfl, ite2 (fun c => ?_) (fun c => ?_)⟩
    · have c' : n = n' := by
        have := V.int.inj (of_decide_eq_true c)
        omega
      rw [decide_eq_true c', Bool.true_and] at q
      refine ⟨_, rfl, a, O.C, dx, _, _, rfl, h1, O.cl, O.nS, rfl, _, rfl, b, O.C, dy, _, _, rfl, k1, O.cl, O.nS, rfl, _, _, .tup h2 (dp_tups h3.tups), .tup k2 (dp_tups k3.tups), shaped_tupsT S, shaped_tupsT S', ?_⟩
      rw [eqv_TT]
      exact q
    · have c' : ¬ n = n' := fun z => c (decide_eq_true (by rw [z]))
      rw [decide_eq_false c', Bool.false_and] at q
      exact q
end
end K39

namespace K39
open PySem PySem.Spec PyProof.Rows L2 RZ L5 XX LK M38
section
theorem inV_nv (c : List Nat) (j : Nat) : inV (.int ((j : Nat) : Int)) (nv c) = c.contains j := by
  unfold inV nv
  rw [List.any_map, Bool.eq_iff_iff, List.any_eq_true, List.contains_iff_mem]
  constructor
  · rintro ⟨x, hx, e⟩
    have e1 : (((x : Nat) : Int) == ((j : Nat) : Int)) = true := e
    have e2 := eq_of_beq e1
    have e3 : x = j := by omega
    rw [← e3]
    exact hx
  · intro h
    exact ⟨j, h, beq_self_eq_true (((j : Nat) : Int))⟩
theorem flat_nv (c : List Nat) : (nv c).all flatV = true := by
  unfold nv
  rw [List.all_map, List.all_eq_true]
  exact fun _ _ => rfl
theorem eqv_natsNil (l : List Nat) : PyData.eqv (.list (l.map fun n => PyData.int ((n : Nat) : Int))) (.list []) = l.isEmpty := by
  cases l <;> simp [PyData.eqv, PyData.eqvAll]
theorem eqv_tupsNil (l : List (List Nat)) : PyData.eqv (.list (l.map encT)) (.list []) = l.isEmpty := by
  cases l <;> simp [PyData.eqv, PyData.eqvAll]
theorem shaped_nil : SeqAt.shaped (.list []) = true := by decide +kernel
end
section
variable {P : Program} {w : World} {K : PySem.W.Frag} {mg : Str → Option Value} {base : Heap}
def sp_subs (K : PySem.W.Frag) : Sp := fun vs H Q _ => ∃ n : Nat, vs = [.int ((n : Nat) : Int)] ∧ n ≤ 8 ∧ ∀ (H' : Hp) (z : Addr) (rs : List Addr), Same H H' → H z = none → H' z = some (.lst (rs.map V.ref)) → TupsU H' rs (subs n) → Q (.ref z) H'
theorem ok_subs (T : Txt K mg) : FnOk P w K mg base CX0 1 T.a_w_subsets T.d_w_subsets ["_law_size"] (sp_subs K) := by
  refine T.F_w_subsets.ok sc_w_subsets (fun vs H Q E h => ?_) (fun cdv A outer s H vs Q E hr h => ?_)
  · obtain ⟨n, rfl, _⟩ := h
    rfl
  · obtain ⟨n, rfl, hn, q⟩ := h
    refine ⟨_, (pss_cons (ps_set (i := 1) sc_w_subsets.nd rfl (Or.inl rfl) (pe_lst (pa_cons (pe_tup pa_nil) pa_nil)))
      (pss_cons (ps_for PassesOwn.never rfl (pi_range1 rfl T.z_range (pa_cons (pv 0) pa_nil)) (pg_name (i := 2) sc_w_subsets.nd rfl (Or.inr rfl))
      (pss_one (ps_set (i := 1) sc_w_subsets.nd rfl (Or.inl rfl) (pe_op op_cat (pv 1) (pe_lc (own := [("_law_one", 3)]) (g := gName 3) (tt := tYes) rfl sc_w_subsets.nd (pi_list (pv 1)) (blkOk_by (own := [("_law_one", 3)]) (N := N_w_subsets) (sc := defScope s_w_subsets) (by decide +kernel)) (fun _ _ _ _ _ => (pg_name (i := 3) sc_w_subsets.nd rfl (Or.inl rfl))) (fun _ _ _ _ _ => pts_nil) (fun _ _ _ _ _ => (pe_op op_catU (pv 3) (pe_tup (pa_cons (pv 2) pa_nil)))))))))
      (pss_one (ps_ret (pv 1))))), ?_⟩
    refine ⟨by show 0 ≤ sizeLine; exact Nat.zero_le _, fun e0 he0 => ?_⟩
    have s0 := same_new he0 (.tup [])
    refine ⟨by show 1 ≤ sizeLine; decide, fun f0 hf0 => ?_⟩
    have s1 := same_new hf0 (.lst [.ref e0])
    have hf0' : H f0 = none := s0.free hf0
    have S0 := s0.trans s1
    have ef : (upd (upd H e0 (.tup [])) f0 (.lst [.ref e0])) f0 = some (.lst ([e0].map V.ref)) := upd_same
    have ee : (upd (upd H e0 (.tup [])) f0 (.lst [.ref e0])) e0 = some (.tup (nv [])) := s1 _ _ upd_same
    generalize (upd (upd H e0 (.tup [])) f0 (.lst [.ref e0])) = H0 at S0 ef ee ⊢
    refine ⟨_, rfl, _, rfl, by omega, by omega, ?_⟩
    refine for_range (lo := 0) (n := ((n : Nat) : Int).toNat) (fun i σ H' => ∃ (v2 v3 : Option V) (f : Addr) (rs : List Addr), σ = [some (.int ((n : Nat) : Int)), some (.ref f), v2, v3] ∧ Same H H' ∧ H f = none ∧ H' f = some (.lst (rs.map V.ref)) ∧ TupsU H' rs (subs i))
      ⟨none, none, f0, [e0], rfl, S0, hf0', ef, .cons ee .nil⟩ (fun i σ H' hi hh => ?_) (fun σ H' hh => ?_)
    · obtain ⟨v2, v3, f, rs, rfl, sm, hf, h1, hT⟩ := hh
      have hi' : i < n := by omega
      have hl := hT.length
      rw [len_subs] at hl
      have h2i : 2 ^ i ≤ 128 := Nat.pow_le_pow_right (n := 2) (by decide) (show i ≤ 7 by omega)
      refine ⟨_, rfl, _, rfl, f, rfl, ⟨_, SqL.of h1⟩, fun D hD => ?_⟩
      have sD := same_new hD (.lst [])
      refine lc_list (K := K) (a := f) (xs := rs.map V.ref) (fun j H2 => Same H' H2 ∧ ∃ qs : List Addr, H2 D = some (.lst (qs.map V.ref)) ∧ TupsU H2 qs (((subs i).take j).map (· ++ [i]))) ⟨sD, [], upd_same, .nil⟩ (fun j H2 _ hh => SqL.of (hh.1 _ _ h1)) (fun j x H2 hx hh => ?_) (fun H2 hh => ?_)
      · obtain ⟨s2, qs, eD, hQ⟩ := hh
        obtain ⟨b, t, rfl, _, ht, hb⟩ := (hT.same s2).get hx
        have hql := hQ.length
        rw [List.length_map, List.length_take, len_subs] at hql
        have tl : t.length ≤ i := on_len (mem_subs.mp (List.mem_of_getElem? ht))
        refine ⟨rfl, _, rfl, _, rfl, by show 1 ≤ sizeLine; decide, fun z1 hz1 => ?_⟩
        have s3 := same_new hz1 (.tup [V.int (0 + ((i : Nat) : Int))])
        refine ⟨b, z1, _, _, rfl, rfl, s3 _ _ hb, upd_same, by rw [nv_len]; exact Nat.le_of_lt (sizeK (by show _ + 1 ≤ _; omega)), fun H4 z4 s4 hz4 => ?_⟩
        have S4 := s3.trans s4
        have nT : ∀ {b : Addr} {xs : List V}, H4 b = some (.tup xs) → b ≠ D := fun {b xs} e z => by
          rw [z, S4 _ _ eD] at e
          cases e
        refine ⟨_, S4 _ _ eD, by rw [List.length_map]; exact sizeK (by omega), same_updL (s2.trans S4) hD, qs ++ [z4], by rw [upd_same, List.map_append]; rfl, ?_⟩
        rw [take_more ht, List.map_append]
        refine TupsU.app ((hQ.same S4).mono fun b xs e => by rw [upd_ne (nT e)]; exact e) (.cons ?_ .nil)
        rw [upd_ne (nT hz4), hz4]
        show some (HO.tup (nv t ++ [V.int (0 + ((i : Nat) : Int))])) = some (HO.tup (nv (t ++ [i])))
        rw [Int.zero_add]
        unfold nv
        rw [List.map_append]
        rfl
      · obtain ⟨s2, qs, eD, hQ⟩ := hh
        rw [List.length_map, hT.length, List.take_length] at hQ
        have hql := hQ.length
        rw [List.length_map, len_subs] at hql
        refine ⟨f, D, _, _, rfl, rfl, s2 _ _ h1, eD, by rw [List.length_map, List.length_map]; exact Nat.le_of_lt (sizeK (by omega)), fun p hp => ?_⟩
        have s5 := same_new hp (.lst (rs.map V.ref ++ qs.map V.ref))
        refine ⟨_, _, p, rs ++ qs, rfl, sm.trans (s2.trans s5), (sm.trans s2).free hp, by rw [upd_same, List.map_append], ?_⟩
        show TupsU _ _ (subs i ++ (subs i).map (· ++ [i]))
        exact ((hT.same s2).app hQ).same s5
    · obtain ⟨v2, v3, f, rs, rfl, sm, hf, h1, hT⟩ := hh
      exact ⟨_, rfl, q H' f rs sm hf h1 (by rw [show (((n : Nat) : Int).toNat) = n by omega] at hT; exact hT)⟩
def sp_ins (K : PySem.W.Frag) : Sp := fun vs H Q _ => ∃ (a b : Addr) (t u : List Nat), vs = [.ref a, .ref b] ∧ SqT K H a (nv t) ∧ SqT K H b (nv u) ∧ t.length ≤ 100 ∧ ∀ H', Same H H' → Q (.bl (sbB t u)) H'
theorem ok_ins (T : Txt K mg) : FnOk P w K mg base CX0 1 T.a_w_inside T.d_w_inside ["_law_one", "_law_other"] (sp_ins K) := by
  refine T.F_w_inside.ok sc_w_inside (fun vs H Q E h => ?_) (fun cdv A outer s H vs Q E hr h => ?_)
  · obtain ⟨a, b, t, u, rfl, _⟩ := h
    rfl
  · obtain ⟨a, b, t, u, rfl, hA, hB, hl, q⟩ := h
    refine ⟨_, (pss_one (ps_ret (pe_cmpR (op_eqD hr.units) (pe_lc (own := [("_law_corner", 2)]) (g := gName 2) rfl sc_w_inside.nd (pi_tup (pv 0)) (blkOk_by (own := [("_law_corner", 2)]) (N := N_w_inside) (sc := defScope s_w_inside) (by decide +kernel)) (fun _ _ _ _ _ => (pg_name (i := 2) sc_w_inside.nd rfl (Or.inl rfl))) (fun _ _ _ _ _ => pts_one (pt_cmpR (show OpR _ _ (rIn K true) from op_notIn_seq) (pv 2) (pv 1) (by rfl))) (fun _ _ _ _ _ => (pv 2))) (pe_lst pa_nil) (nomark _)))), ?_⟩
    refine ⟨_, rfl, a, rfl, ⟨_, hA⟩, fun D hD => ?_⟩
    have sD := same_new hD (.lst [])
    refine lc_tup (K := K) (a := a) (xs := nv t) (fun i H' => Same H H' ∧ H' D = some (.lst (nv ((t.take i).filter fun x => !decide (x ∈ u))))) ⟨sD, upd_same⟩ (fun i H' _ hh => same_sqt hh.1 hA) (fun i x H' hx hh => ?_) (fun H' hh => ?_)
    · obtain ⟨s1, eD⟩ := hh
      obtain ⟨e, he, rfl⟩ := nv_get hx
      have hfl := List.length_filter_le (fun x => !decide (x ∈ u)) (t.take i)
      rw [List.length_take] at hfl
      refine ⟨rfl, _, rfl, _, rfl, b, nv u, rfl, .inr (same_sqt s1 hB), rfl, flat_nv u, _, rfl, ?_⟩
      rw [inV_nv, show (if true = true then !u.contains e else u.contains e) = !u.contains e from rfl]
      by_cases hin : e ∈ u
      · rw [show (!u.contains e) = false by rw [List.contains_iff_mem.mpr hin]; rfl]
        refine iteF ⟨s1, ?_⟩
        rw [take_more he, List.filter_append, List.filter_cons, if_neg (by rw [decide_eq_true hin]; decide), List.filter_nil, List.append_nil]
        exact eD
      · rw [show (!u.contains e) = true by
          cases hc : u.contains e with
          | false => rfl
          | true => exact absurd (List.contains_iff_mem.mp hc) hin]
        refine iteT ⟨_, rfl, _, eD, by rw [nv_len]; exact sizeK (by omega), same_updL s1 hD, ?_⟩
        rw [upd_same, take_more he, List.filter_append, List.filter_cons, if_pos (by rw [decide_eq_false hin]; rfl), List.filter_nil]
        unfold nv
        rw [List.map_append]
        rfl
    · obtain ⟨s1, eD⟩ := hh
      rw [nv_len, List.take_length] at eD
      refine ⟨Nat.zero_le _, fun p hp => ?_⟩
      have s2 := same_new hp (.lst [])
      refine ⟨_, _, .lst (SqL.of (s2 _ _ eD)) (dp_nats _), .lst (SqL.of upd_same) .nil, Gv.shaped_natsL _, shaped_nil, ?_⟩
      rw [eqv_natsNil]
      have e : (t.filter fun x => !decide (x ∈ u)).isEmpty = sbB t u := by
        unfold sbB
        rw [Bool.eq_iff_iff, List.isEmpty_iff, List.filter_eq_nil_iff, List.all_eq_true]
        refine forall_congr' fun x => forall_congr' fun hx => ?_
        by_cases h : x ∈ u <;> simp [h]
      rw [e]
      exact q _ (s1.trans s2)
end
end K39

namespace K39
open PySem PySem.Spec PyProof.Rows L2 RZ L5 XX LK M38
section
theorem mem_U {H : Hp} : ∀ {rs : List Addr} {L : List (List Nat)} {v : V}, TupsU H rs L → v ∈ rs.map V.ref → ∃ a t, v = .ref a ∧ t ∈ L ∧ H a = some (.tup (nv t))
  | _, _, _, .nil, h => nomatch h
  | _, _, _, .cons h k, hv => by
    rw [List.map_cons] at hv
    rcases List.mem_cons.mp hv with rfl | hv
    · exact ⟨_, _, rfl, List.mem_cons_self, h⟩
    · obtain ⟨a, t, e, ht, ha⟩ := mem_U k hv
      exact ⟨a, t, e, List.mem_cons_of_mem _ ht, ha⟩
theorem TupsU.bar {p : Addr} {o : HO} {H H' : Hp} (b : Bar p H H') (hp : H p = some o) (no : ∀ xs, o ≠ .tup xs) {rs : List Addr} {L : List (List Nat)} (h : TupsU H rs L) : TupsU H' rs L := h.mono fun a xs e => b a _ (fun z => by
  rw [z, hp] at e
  exact no xs (Option.some.inj e)) e
end
section
variable {P : Program} {w : World} {K : PySem.W.Frag} {mg : Str → Option Value} {base : Heap}
def sp_wsets : Sp := fun vs H Q _ => ∃ (p : Addr) (n : Nat) (g x c : Int), vs = [.ref p, .int ((n : Nat) : Int)] ∧ H p = some (pailO g x c) ∧ n ≤ 8 ∧
  ∀ (H' : Hp) (g x c : Int) (z : Addr) (rs : List Addr) (G : List (List Nat)), Bar p H H' → H' p = some (pailO g x c) → H z = none → H' z = some (.lst (rs.map V.ref)) → TupsU H' rs G → (∀ t ∈ G, On n t) → G.length ≤ 7 → Q (.ref z) H'
theorem ok_wsets (T : Txt K mg) : FnOk P w K mg base CX0 3 T.a_w_sets T.d_w_sets ["_law_pot_here", "_law_size"] sp_wsets := by
  refine T.F_w_sets.ok sc_w_sets (fun vs H Q E h => ?_) (fun cdv A outer s H vs Q E hr h => ?_)
  · obtain ⟨p, n, g, x, c, rfl, _⟩ := h
    rfl
  · obtain ⟨p, n, g, x, c, rfl, hp, hn, q⟩ := h
    refine ⟨_, (pss_cons (ps_set (i := 2) sc_w_sets.nd rfl (Or.inl rfl) (pe_call  (ok_dip T) (hr.mono (by decide)) (by rfl) T.m_w_dip T.F_w_dip.kp T.b_w_dip .nil pass0 (pa_cons (pv 0) (pa_cons pe_int pa_nil))))
      (pss_cons (ps_if (pt_cmpR op_eq (pv 2) pe_int (nomark _)) (pss_one (ps_ret (pe_lst pa_nil))) pss_nil)
      (pss_cons (ps_if (pt_cmpR op_eq (pv 2) pe_int (nomark _)) (pss_one (ps_ret (pe_lst (pa_cons (pe_tup pa_nil) pa_nil)))) pss_nil)
      (pss_cons (ps_par (i := 3) (j := 4) (by rfl) sc_w_sets.nd rfl rfl (by decide) rfl rfl (pa_cons (pe_call  (ok_subs T) (hr.mono (by decide)) (by rfl) T.m_w_subsets T.F_w_subsets.kp T.b_w_subsets .nil pass0 (pa_cons (pv 1) pa_nil)) (pa_cons (pe_lst pa_nil) pa_nil)) (by rfl))
      (pss_cons (ps_for PassesOwn.never rfl (pi_range1 rfl T.z_range (pa_cons (pe_op op_add pe_int (pe_call  (ok_dip T) (hr.mono (by decide)) (by rfl) T.m_w_dip T.F_w_dip.kp T.b_w_dip .nil pass0 (pa_cons (pv 0) (pa_cons pe_int pa_nil)))) pa_nil)) (pg_name (i := 5) sc_w_sets.nd rfl (Or.inl rfl))
      (pss_one (ps_expr (pe_bm PySem.F.plainAttrs_list PySem.F.slot_list_append PySem.F.type_list_append mt_append (pv 4) (pa_cons (pe_call  (ok_some T) (hr.mono (by decide)) (by rfl) T.m_w_pick T.F_w_pick.kp T.b_w_pick .nil pass0 (pa_cons (pv 0) (pa_cons (pv 3) pa_nil))) pa_nil)))))
      (pss_one (ps_ret (pv 4)))))))), ?_⟩
    refine ⟨_, rfl, p, 12, g, x, c, rfl, hp, by decide, by decide, fun g1 x1 c1 r h0 h1 => ?_⟩
    have b1 : Bar p H (upd H p (pailO g1 x1 c1)) := Bar.upd
    have hp1 : (upd H p (pailO g1 x1 c1)) p = some (pailO g1 x1 c1) := upd_same
    have fr1 : ∀ {z : Addr}, (upd H p (pailO g1 x1 c1)) z = none → H z = none := fun {z} hz => by
      by_cases e : z = p
      · rw [e, upd_same] at hz
        cases hz
      · rwa [upd_ne e] at hz
    generalize (upd H p (pailO g1 x1 c1)) = H1 at b1 hp1 fr1 ⊢
    refine ⟨_, rfl, rfl, _, rfl, ite2 (fun _ => ?_) (fun _ => ?_)⟩
    · refine ⟨Nat.zero_le _, fun z hz => ?_⟩
      have sz := same_new hz (.lst [])
      exact q _ g1 x1 c1 z [] [] (b1.trans (.same sz)) (sz _ _ hp1) (fr1 hz) upd_same .nil (fun _ h => nomatch h) (by decide)
    refine ⟨_, rfl, rfl, _, rfl, ite2 (fun _ => ?_) (fun _ => ?_)⟩
    · refine ⟨Nat.zero_le _, fun e he => ?_⟩
      have se := same_new he (.tup [])
      refine ⟨by show 1 ≤ sizeLine; decide, fun z hz => ?_⟩
      have sz := same_new hz (.lst [.ref e])
      refine q _ g1 x1 c1 z [e] [[]] ((b1.trans (.same se)).trans (.same sz)) (sz _ _ (se _ _ hp1)) (fr1 (se.free hz)) upd_same (.cons (sz _ _ upd_same) .nil) (fun t ht => ?_) (by decide)
      rw [List.mem_singleton.mp ht]
      exact ⟨.nil, fun _ h => nomatch h⟩
    refine ⟨_, rfl, n, rfl, hn, fun H2 z rs s2 hz hz2 hT => ⟨Nat.zero_le _, fun l hl => ?_⟩⟩
    have sl := same_new hl (.lst [])
    have b2 := (b1.trans (.same s2)).trans (.same sl)
    have hp2 := sl _ _ (s2 _ _ hp1)
    have hz3 := sl _ _ hz2
    have hT3 := hT.same sl
    have hl3 : (upd H2 l (.lst [])) l = some (.lst (([] : List Addr).map V.ref)) := upd_same
    have nlz : l ≠ z := fun e => by
      rw [e, hz2] at hl
      cases hl
    have nlp : l ≠ p := fun e => by
      rw [e, s2 _ _ hp1] at hl
      cases hl
    have nzp : z ≠ p := fun e => by
      rw [e, hp1] at hz
      cases hz
    have hl0 : H l = none := fr1 (s2.free hl)
    generalize (upd H2 l (.lst [])) = H3 at b2 hp2 hz3 hT3 hl3 ⊢
    clear b1 hp1 hz2 hl sl s2 hT
    have hrl := hT3.length
    rw [len_subs] at hrl
    have h2n : 2 ^ n ≤ 256 := Nat.pow_le_pow_right (n := 2) (by decide) (show n ≤ 8 by omega)
    have h2p : 0 < 2 ^ n := Nat.pow_pos (by decide)
    refine ⟨_, _, rfl, _, rfl, p, 7, g1, x1, c1, rfl, hp2, by decide, by decide, fun g2 x2 c2 k hk0 hk1 => ?_⟩
    have b4 : Bar p H (upd H3 p (pailO g2 x2 c2)) := b2.trans Bar.upd
    have hp4 : (upd H3 p (pailO g2 x2 c2)) p = some (pailO g2 x2 c2) := upd_same
    have hz4 : (upd H3 p (pailO g2 x2 c2)) z = some (.lst (rs.map V.ref)) := by rw [upd_ne nzp]; exact hz3
    have hl4 : (upd H3 p (pailO g2 x2 c2)) l = some (.lst (([] : List Addr).map V.ref)) := by rw [upd_ne nlp]; exact hl3
    have hT4 : TupsU (upd H3 p (pailO g2 x2 c2)) rs (subs n) := TupsU.bar (p := p) Bar.upd hp2 (fun _ z => nomatch z) hT3
    generalize (upd H3 p (pailO g2 x2 c2)) = H4 at b4 hp4 hz4 hl4 hT4 ⊢
    refine ⟨_, _, rfl, rfl, _, rfl, by omega, by omega, ?_⟩
    refine for_range (lo := 0) (n := (1 + k).toNat) (fun i σ H' => ∃ (v5 : Option V) (g x c : Int) (qs : List Addr) (G : List (List Nat)), σ = [some (.ref p), some (.int ((n : Nat) : Int)), some (.int r), some (.ref z), some (.ref l), v5] ∧ Bar p H H' ∧ H' p = some (pailO g x c) ∧ H' z = some (.lst (rs.map V.ref)) ∧ TupsU H' rs (subs n) ∧
        H' l = some (.lst (qs.map V.ref)) ∧ TupsU H' qs G ∧ (∀ t ∈ G, On n t) ∧ G.length = i)
      ⟨none, g2, x2, c2, [], [], rfl, b4, hp4, hz4, hT4, hl4, .nil, (fun _ h => nomatch h), rfl⟩ (fun i σ H' hi hh => ?_) (fun σ H' hh => ?_)
    · obtain ⟨v5, g, x, c, qs, G, rfl, b5, hp5, hz5, hT5, hl5, hG5, on5, len5⟩ := hh
      have hql := hG5.length
      refine ⟨_, rfl, .inl ⟨rfl, _, SqL.of hl5⟩, _, rfl, _, rfl, p, z, _, g, x, c, rfl, hp5, nzp, SqL.of hz5, fun e => ?_, by rw [List.length_map]; omega, fun g6 x6 c6 v hv => ?_⟩
      · have := congrArg List.length e
        rw [List.length_map, hrl] at this
        simp at this
      obtain ⟨a, t, rfl, ht, ha⟩ := mem_U hT5 hv
      have nT : ∀ {b : Addr} {xs : List V}, H' b = some (.tup xs) → b ≠ p ∧ b ≠ l := fun {b xs} e => ⟨(fun z => by rw [z, hp5] at e; cases e), (fun z => by rw [z, hl5] at e; cases e)⟩
      have hl6 : (upd H' p (pailO g6 x6 c6)) l = some (.lst (qs.map V.ref)) := by rw [upd_ne nlp]; exact hl5
      refine ⟨l, _, _, rfl, rfl, hl6, by rw [List.length_map]; exact sizeK (by omega), ?_⟩
      have at_ : ∀ {b : Addr} {xs : List V}, H' b = some (.tup xs) → (upd (upd H' p (pailO g6 x6 c6)) l (.lst (qs.map V.ref ++ [V.ref a]))) b = some (.tup xs) := fun {b xs} e => by
        rw [upd_ne (nT e).2, upd_ne (nT e).1]
        exact e
      refine ⟨_, g6, x6, c6, qs ++ [a], G ++ [t], rfl, fun b o k e => ?_, by rw [upd_ne (Ne.symm nlp), upd_same], by rw [upd_ne (Ne.symm nlz), upd_ne nzp]; exact hz5, hT5.mono fun b xs e => at_ e, by rw [upd_same, List.map_append]; rfl,
        (hG5.mono fun b xs e => at_ e).app (.cons (at_ ha) .nil), fun u hu => ?_, by rw [List.length_append, len5]; rfl⟩
      · rw [upd_ne (ne_of_none e hl0), upd_ne k]
        exact b5 b o k e
      · rcases List.mem_append.mp hu with hu | hu
        · exact on5 u hu
        · rw [List.mem_singleton.mp hu]
          exact mem_subs.mp ht
    · obtain ⟨v5, g, x, c, qs, G, rfl, b5, hp5, hz5, hT5, hl5, hG5, on5, len5⟩ := hh
      exact ⟨_, rfl, q H' g x c l qs G b5 hp5 hl0 hl5 hG5 on5 (by omega)⟩
end
end K39

namespace K39
open PySem PySem.Spec PyProof.Rows L2 RZ L5 XX LK M38
theorem blk_in {N : List Str} {sc sc' scope : Scope} {own : List (Str × Nat)} (e : sc'.names = sc.names) (h : BlkOk N sc scope own) : BlkOk N sc' scope own := ⟨h.kind, h.uniq, h.ix, fun y m k => by
  rw [e]
  exact h.free y m k, h.own⟩
section
theorem Prs.same {K : PySem.W.Frag} {H H' : Hp} (s : Same H H') : ∀ {rs : List Addr} {L : List (List Nat)}, Prs K H rs L → Prs K H' rs L
  | _, _, .nil => .nil
  | _, _, .cons h1 h2 t => .cons (same_sqt s h1) (s _ _ h2) (Prs.same s t)
theorem Prs.app {K : PySem.W.Frag} {H : Hp} : ∀ {rs qs : List Addr} {L M : List (List Nat)}, Prs K H rs L → Prs K H qs M → Prs K H (rs ++ qs) (L ++ M)
  | _, _, _, _, .nil, k => k
  | _, _, _, _, .cons h1 h2 t, k => .cons h1 h2 (Prs.app t k)
theorem Prs.get {K : PySem.W.Frag} {H : Hp} : ∀ {rs : List Addr} {L : List (List Nat)} {i : Nat} {v : V}, Prs K H rs L → (rs.map V.ref)[i]? = some v → ∃ r b t, v = .ref r ∧ L[i]? = some t ∧ SqT K H r [.int ((t.length : Nat) : Int), .ref b] ∧ H b = some (.tup (nv t))
  | _, _, _, _, .nil, e => by simp at e
  | _, _, 0, _, .cons h1 h2 _, e => by simp at e; subst e; exact ⟨_, _, _, rfl, rfl, h1, h2⟩
  | _, _, i + 1, v, .cons _ _ t, e => by
    obtain ⟨r, b, u, e1, e2, e3, e4⟩ := Prs.get (i := i) (v := v) t (by simpa using e)
    exact ⟨r, b, u, e1, by simpa using e2, e3, e4⟩
theorem prs_upd {K : PySem.W.Frag} {H : Hp} {D : Addr} {acc : List V} {o : HO} (eD : H D = some (.lst acc)) : ∀ {rs : List Addr} {L : List (List Nat)}, Prs K H rs L → Prs K (upd H D o) rs L
  | _, _, .nil => .nil
  | _, _, .cons h1 h2 t => .cons (sqt_updL eD h1) (by rw [upd_ne (fun z => by rw [z, eD] at h2; cases h2)]; exact h2) (prs_upd eD t)
/-- one more in a list -/
theorem snocU {H H' : Hp} {D : Addr} {rs : List Addr} {L : List (List Nat)} {a : Addr} {t : List Nat} {acc : List V} (s : Same H H') (eD : H' D = some (.lst acc)) (h : TupsU H' rs L) (ha : H' a = some (.tup (nv t))) :
    TupsU (upd H' D (.lst ((rs ++ [a]).map V.ref))) (rs ++ [a]) (L ++ [t]) := by
  have nT : ∀ {b : Addr} {xs : List V}, H' b = some (.tup xs) → b ≠ D := fun {b xs} e z => by
    rw [z, eD] at e
    cases e
  refine TupsU.app (h.mono fun b xs e => by rw [upd_ne (nT e)]; exact e) (.cons ?_ .nil)
  rw [upd_ne (nT ha)]
  exact ha
theorem any_filter (f : List Nat → Bool) (G : List (List Nat)) : (!(G.filter f).isEmpty) = G.any f := by
  rw [Bool.eq_iff_iff, List.any_eq_true, Bool.not_eq_true', List.isEmpty_eq_false_iff]
  constructor
  · intro h
    obtain ⟨x, hx⟩ := List.exists_mem_of_ne_nil _ h
    exact ⟨x, (List.mem_filter.mp hx).1, (List.mem_filter.mp hx).2⟩
  · rintro ⟨x, hx, hf⟩ e
    have := List.mem_filter.mpr ⟨hx, hf⟩
    rw [e] at this
    cases this
end
section
variable {P : Program} {w : World} {K : PySem.W.Frag} {mg : Str → Option Value} {base : Heap}
def sp_wall (K : PySem.W.Frag) : Sp := fun vs H Q _ => ∃ (l : Addr) (rs : List Addr) (n : Nat) (G : List (List Nat)), vs = [.int ((n : Nat) : Int), .ref l] ∧ SqL K H l (rs.map V.ref) ∧ TupsU H rs G ∧ (∀ t ∈ G, On n t) ∧ n ≤ 8 ∧ G.length ≤ 100 ∧
  ∀ (H' : Hp) (z : Addr) (qs : List Addr), Same H H' → H z = none → H' z = some (.lst (qs.map V.ref)) → TupsU H' qs (srt encK (lall n G)) → Q (.ref z) H'
theorem ok_wall (T : Txt K mg) : FnOk P w K mg base CX0 3 T.a_w_all T.d_w_all ["_law_size", "_law_sets_here"] (sp_wall K) := by
  refine T.F_w_all.ok sc_w_all (fun vs H Q E h => ?_) (fun cdv A outer s H vs Q E hr h => ?_)
  · obtain ⟨l, rs, n, G, rfl, _⟩ := h
    rfl
  · obtain ⟨l, rs, n, G, rfl, hA, hT, on, hn, hG, q⟩ := h
    refine ⟨_, (pss_cons (ps_setLc (i := 2) (own := [("_law_one", 3)]) (g := gName 3) rfl sc_w_all.nd rfl rfl (sw_true rfl rfl rfl (by decide +kernel)) (pi_list (pe_call  (ok_subs T) (hr.mono (by decide)) (by rfl) T.m_w_subsets T.F_w_subsets.kp T.b_w_subsets .nil pass0 (pa_cons (pv 0) pa_nil))) (blkOk_by (own := [("_law_one", 3)]) (N := N_w_all) (sc := defScope s_w_all) (by decide +kernel)) (fun _ _ _ _ _ => (pg_name (i := 3) sc_w_all.nd rfl (Or.inr rfl))) (fun _ _ _ _ _ => pts_one (pt_cmpR (show OpR _ _ (rNeD K) from op_neD hr.units) (pe_lc (own := [("_law_other", 4)]) (g := gName 4) rfl sc_w_all.nd (show PI _ _ _ (iList K _) from pi_list (pv 1)) (blk_in (sc := ({ kind := .function, names := [(".0", .local), ("_law_one", .cell), ("_law_sets_here", .cell)], isGenerator := false, isCoroutine := false, more := [] } : Scope)) (own := [("_law_other", 4)]) (N := N_w_all) rfl (blkOk_by (by decide +kernel))) (fun _ _ _ _ _ => (pg_name (i := 4) sc_w_all.nd rfl (Or.inl rfl))) (fun _ _ _ _ _ => pts_one (pt_val (pe_call  (ok_ins T) (hr.mono (by decide)) (by rfl) T.m_w_inside T.F_w_inside.kp T.b_w_inside .nil pass0 (pa_cons (pv 3) (pa_cons (pv 4) pa_nil))))) (fun _ _ _ _ _ => (pv 4))) (pe_lst pa_nil) (nomark _))) (fun _ _ _ _ _ => (pv 3)))
      (pss_one (ps_ret (pe_lc (own := [("_law_many", 5), ("_law_one", 3)]) (g := gTup K 2 (gCons (gName 5) (gCons (gName 3) gNil))) (tt := tYes) rfl sc_w_all.nd (pi_list (pe_callB (cr_sortPrs hr.units) (by rfl) T.z_sorted boot_sorted (pa_cons (pe_lc (own := [("_law_one", 3)]) (g := gName 3) (tt := tYes) rfl sc_w_all.nd (pi_list (pv 2)) (blkOk_by (own := [("_law_one", 3)]) (N := N_w_all) (sc := defScope s_w_all) (by decide +kernel)) (fun _ _ _ _ _ => (pg_name (i := 3) sc_w_all.nd rfl (Or.inl rfl))) (fun _ _ _ _ _ => pts_nil) (fun _ _ _ _ _ => (pe_tup (pa_cons (pe_callB (show CallR _ _ (fun xs H Q => ∃ p ys, xs = [.ref p] ∧ (SqL K H p ys ∨ SqT K H p ys) ∧ Q (.int ys.length) H) from call_len_seq) (by rfl) T.z_len boot_len (pa_cons (pv 3) pa_nil)) (pa_cons (pv 3) pa_nil))))) pa_nil))) (blkOk_by (own := [("_law_many", 5), ("_law_one", 3)]) (N := N_w_all) (sc := defScope s_w_all) (by decide +kernel)) (fun _ _ _ _ _ => (pg_tup (by rfl) (pgs_cons (pg_name (i := 5) sc_w_all.nd rfl (Or.inl rfl)) (pgs_cons (pg_name (i := 3) sc_w_all.nd rfl (Or.inl rfl)) pgs_nil)))) (fun _ _ _ _ _ => pts_nil) (fun _ _ _ _ _ => (pv 3)))))), ?_⟩
    have hgl := hT.length
    refine ⟨_, rfl, n, rfl, hn, fun H1 z ss s1 hz hz1 hS => ?_⟩
    have hsl := hS.length
    rw [len_subs] at hsl
    have h2n : 2 ^ n ≤ 256 := Nat.pow_le_pow_right (n := 2) (by decide) (show n ≤ 8 by omega)
    refine ⟨z, rfl, ⟨_, SqL.of hz1⟩, fun D hD => ?_⟩
    have sD := same_new hD (.lst [])
    refine lc_list (K := K) (a := z) (xs := ss.map V.ref) (fun i H2 => Same H1 H2 ∧ ∃ es : List Addr, H2 D = some (.lst (es.map V.ref)) ∧ TupsU H2 es (((subs n).take i).filter fun t => G.any fun m => sbB t m)) ⟨sD, [], upd_same, .nil⟩ (fun i H2 _ hh => SqL.of (hh.1 _ _ hz1)) (fun i x H2 hx hh => ?_) (fun H2 hh => ?_)
    · obtain ⟨s2, es, eD, hE⟩ := hh
      obtain ⟨b, t, rfl, _, ht, hb⟩ := (hS.same s2).get hx
      have hel := hE.length
      have hfl := List.length_filter_le (fun t => G.any fun m => sbB t m) ((subs n).take i)
      rw [List.length_take, len_subs] at hfl
      have tl := on_len (mem_subs.mp (List.mem_of_getElem? ht))
      have hA2 := same_sql (s1.trans s2) hA
      refine ⟨rfl, _, rfl, l, rfl, ⟨_, hA2⟩, fun D2 hD2 => ?_⟩
      have sD2 := same_new hD2 (.lst [])
      refine lc_list (K := K) (a := l) (xs := rs.map V.ref) (fun j H3 => Same H2 H3 ∧ ∃ os : List Addr, H3 D2 = some (.lst (os.map V.ref)) ∧ TupsU H3 os ((G.take j).filter fun m => sbB t m)) ⟨sD2, [], upd_same, .nil⟩ (fun j H3 _ hh => same_sql hh.1 hA2) (fun j y H3 hy hh => ?_) (fun H3 hh => ?_)
      · obtain ⟨s3, os, eD3, hO⟩ := hh
        obtain ⟨c, m, rfl, _, hm, hc⟩ := (hT.same (s1.trans (s2.trans s3))).get hy
        have hol := hO.length
        have hfo := List.length_filter_le (fun m => sbB t m) (G.take j)
        rw [List.length_take] at hfo
        refine ⟨rfl, _, rfl, _, rfl, b, c, t, m, rfl, SqT.of (s3 _ _ hb), SqT.of hc, by omega, fun H4 s4 => ⟨_, rfl, ?_⟩⟩
        cases hb' : sbB t m with
        | false =>
          refine iteF ⟨s3.trans s4, os, s4 _ _ eD3, ?_⟩
          rw [take_more hm, List.filter_append, List.filter_cons, if_neg (by rw [hb']; decide), List.filter_nil, List.append_nil]
          exact hO.same s4
        | true =>
          refine iteT ⟨_, rfl, _, s4 _ _ eD3, by rw [List.length_map]; exact sizeK (by omega), same_updL (s3.trans s4) hD2, os ++ [c], by rw [upd_same, List.map_append]; rfl, ?_⟩
          rw [take_more hm, List.filter_append, List.filter_cons, if_pos hb', List.filter_nil]
          have := snocU (t := m) (s3.trans s4) (s4 _ _ eD3) (hO.same s4) (s4 _ _ hc)
          rw [List.map_append] at this
          exact this
      · obtain ⟨s3, os, eD3, hO⟩ := hh
        rw [List.length_map, hgl, List.take_length] at hO
        refine ⟨Nat.zero_le _, fun p hp => ?_⟩
        have s4 := same_new hp (.lst [])
        refine ⟨_, _, .lst (SqL.of (s4 _ _ eD3)) (dp_tups (hO.same s4).tups), .lst (SqL.of upd_same) .nil, shaped_tups _, shaped_nil, _, rfl, ?_⟩
        rw [eqv_tupsNil, any_filter]
        have S4 := s3.trans s4
        cases hb' : (G.any fun m => sbB t m) with
        | false =>
          refine iteF ⟨s2.trans S4, es, S4 _ _ eD, ?_⟩
          rw [take_more ht, List.filter_append, List.filter_cons, if_neg (by rw [hb']; decide), List.filter_nil, List.append_nil]
          exact hE.same S4
        | true =>
          refine iteT ⟨_, rfl, _, S4 _ _ eD, by rw [List.length_map]; exact sizeK (by omega), same_updL (s2.trans S4) hD, es ++ [b], by rw [upd_same, List.map_append]; rfl, ?_⟩
          rw [take_more ht, List.filter_append, List.filter_cons, if_pos hb', List.filter_nil]
          have := snocU (t := t) (s2.trans S4) (S4 _ _ eD) (hE.same S4) (S4 _ _ hb)
          rw [List.map_append] at this
          exact this
    · obtain ⟨s2, es, eD, hE⟩ := hh
      rw [List.length_map, hS.length, List.take_length] at hE
      have hE' : TupsU H2 es (lall n G) := hE
      clear hE
      have hel := hE'.length
      have hll : (lall n G).length ≤ 256 := by
        have := List.length_filter_le (fun t => G.any fun m => sbB t m) (subs n)
        rw [len_subs] at this
        exact Nat.le_trans this h2n
      refine ⟨_, rfl, D, rfl, ⟨_, SqL.of eD⟩, fun D3 hD3 => ?_⟩
      have sD3 := same_new hD3 (.lst [])
      refine lc_list (K := K) (a := D) (xs := es.map V.ref) (fun i H3 => Same H2 H3 ∧ ∃ ps : List Addr, H3 D3 = some (.lst (ps.map V.ref)) ∧ Prs K H3 ps ((lall n G).take i)) ⟨sD3, [], upd_same, .nil⟩ (fun i H3 _ hh => SqL.of (hh.1 _ _ eD)) (fun i x H3 hx hh => ?_) (fun H3 hh => ?_)
      · obtain ⟨s3, ps, eD3, hP⟩ := hh
        obtain ⟨b, t, rfl, _, ht, hb⟩ := (hE'.same s3).get hx
        have hpl := hP.length
        rw [List.length_take] at hpl
        refine ⟨rfl, _, rfl, b, _, rfl, .inr (SqT.of hb), _, rfl, by show 2 ≤ sizeLine; decide, fun y hy => ?_⟩
        rw [nv_len]
        have s4 := same_new hy (.tup [V.int ((t.length : Nat) : Int), V.ref b])
        have hy4 : (upd H3 y (.tup [V.int ((t.length : Nat) : Int), V.ref b])) y = some (.tup [V.int ((t.length : Nat) : Int), V.ref b]) := upd_same
        generalize (upd H3 y (.tup [V.int ((t.length : Nat) : Int), V.ref b])) = H4 at s4 hy4 ⊢
        have S4 := s3.trans s4
        have eD4 := s4 _ _ eD3
        have b4 := s4 _ _ hb
        have hP4 := Prs.same s4 hP
        have ny : y ≠ D3 := fun e => by
          rw [e, eD4] at hy4
          cases hy4
        have nb : b ≠ D3 := fun e => by
          rw [e, eD4] at b4
          cases b4
        refine ⟨_, eD4, by rw [List.length_map]; exact sizeK (by omega), same_updL S4 hD3, ps ++ [y], by rw [upd_same, List.map_append]; rfl, ?_⟩
        rw [take_more ht]
        refine Prs.app (prs_upd eD4 hP4) (.cons (b := b) (SqT.of (by rw [upd_ne ny]; exact hy4)) (by rw [upd_ne nb]; exact b4) .nil)
      · obtain ⟨s3, ps, eD3, hP⟩ := hh
        rw [List.length_map, hel, List.take_length] at hP
        refine ⟨D3, ps, lall n G, rfl, SqL.of eD3, hP, fun p qs hp hQ => ?_⟩
        have s4 := same_new hp (.lst (qs.map V.ref))
        have e4 : (upd H3 p (.lst (qs.map V.ref))) p = some (.lst (qs.map V.ref)) := upd_same
        have hQ4 : Prs K _ qs (srt encK (lall n G)) := Prs.same s4 hQ
        generalize (upd H3 p (.lst (qs.map V.ref))) = H4 at s4 e4 hQ4 ⊢
        have S4 := s2.trans (s3.trans s4)
        have hQl := hQ4.length
        have hsr := (srt_perm encK (lall n G)).length_eq
        refine ⟨p, rfl, ⟨_, SqL.of e4⟩, fun D5 hD5 => ?_⟩
        have s5 := same_new hD5 (.lst [])
        refine lc_list (K := K) (a := p) (xs := qs.map V.ref) (fun i H5 => Same H4 H5 ∧ ∃ zs : List Addr, H5 D5 = some (.lst (zs.map V.ref)) ∧ TupsU H5 zs ((srt encK (lall n G)).take i)) ⟨s5, [], upd_same, .nil⟩ (fun i H5 _ hh => SqL.of (hh.1 _ _ e4)) (fun i x H5 hx hh => ?_) (fun H5 hh => ?_)
        · obtain ⟨s6, zs, eD5, hZ⟩ := hh
          obtain ⟨r, b, t, rfl, ht, hr1, hb⟩ := Prs.get (Prs.same s6 hQ4) hx
          have hzl := hZ.length
          rw [List.length_take] at hzl
          refine ⟨r, _, rfl, hr1, rfl, _, _, rfl, _, _, rfl, rfl, ?_⟩
          refine ⟨rfl, _, rfl, _, eD5, by rw [List.length_map]; exact sizeK (by omega), same_updL s6 hD5, zs ++ [b], by rw [upd_same, List.map_append]; rfl, ?_⟩
          rw [take_more ht]
          have := snocU (t := t) s6 eD5 hZ hb
          rw [List.map_append] at this
          exact this
        · obtain ⟨s6, zs, eD5, hZ⟩ := hh
          rw [List.length_map, hQl, List.take_length] at hZ
          exact q H5 D5 zs (s1.trans (S4.trans s6)) ((s1.trans S4).free hD5) eD5 hZ
end
end K39

namespace K39
open PySem PySem.Spec PyProof.Rows L2 RZ L5 XX LK M38
section
variable {P : Program} {w : World} {K : PySem.W.Frag} {mg : Str → Option Value} {base : Heap}
def sp_ordL (K : PySem.W.Frag) : Sp := fun vs H Q _ => ∃ (d : Addr) (L : List (List Nat)) (rs : List Addr), vs = [.ref d] ∧ H d = some (.lst (rs.map V.ref)) ∧ TupsU H rs L ∧ LamX.Tabs TBo H ∧
  ∀ (H' : Hp) (z : Addr) (qs : List Addr), LamX.ExtN H H' → LamX.Tabs TBo H' → H' z = some (.tup (qs.map V.ref)) → TupsU H' qs (srt encK L) → Q (.ref z) H'
theorem ok_ordL (T : Txt K mg) (TB : LamX.TabB base mg T.c_ordered tO) : FnOk P w K mg base CX0 3 T.a_ordered T.d_ordered ["sets"] (sp_ordL K) := by
  refine T.G_ordered.okc sc_ordered (fun vs H Q E h => ?_) (fun A outer s H vs Q E hr h => ?_)
  · obtain ⟨d, L, rs, rfl, _⟩ := h
    rfl
  · obtain ⟨d, L, rs, rfl, hd, hk, tab, q⟩ := h
    refine ⟨_, pss_one (ps_ret (pe_callTy call_tuple_of (by rfl) T.z_tuple boot_tuple (pa_cons (pe_sortedLamL (T := TBo) (c := T.c_ordered) (P := tO) (x := "chosen") rfl hr.units hr.depth (by rfl) T.z_sorted T.z_len (pv 0) TB rfl (show (tO, qO) ∈ TBo from List.mem_cons_self) uniqO (by rfl) (fun _ _ _ _ _ => by rfl) (by decide) (by decide)) pa_nil))), ?_⟩
    refine ⟨_, rfl, d, L, rs, rfl, hd, hk, tab, fun H2 p qs e2 t2 hp hT => ?_⟩
    have s1 := same_new hp (.lst (qs.map V.ref))
    refine ⟨p, _, rfl, .inl ⟨SqL.of upd_same, fun l hl => ?_⟩⟩
    have s2 := same_new hl (.tup (qs.map V.ref))
    exact q _ l qs (e2.trans (ext_of (s1.trans s2))) ((t2.ext s1).ext s2) upd_same ((hT.same s1).same s2)
def sp_isin (K : PySem.W.Frag) : Sp := fun vs H Q _ => ∃ (a b : Addr) (t u : List Nat), vs = [.ref a, .ref b] ∧ SqT K H a (nv t) ∧ SqT K H b (nv u) ∧ t.length ≤ 100 ∧ ∀ H', Same H H' → Q (.bl (sbB t u)) H'
theorem ok_isin (T : Txt K mg) : FnOk P w K mg base CX0 1 T.a_is_inside T.d_is_inside ["chosen", "other"] (sp_isin K) := by
  refine T.F_is_inside.ok sc_is_inside (fun vs H Q E h => ?_) (fun cdv A outer s H vs Q E hr h => ?_)
  · obtain ⟨a, b, t, u, rfl, _⟩ := h
    rfl
  · obtain ⟨a, b, t, u, rfl, hA, hB, hl, q⟩ := h
    refine ⟨_, (pss_one (ps_ret (pe_callB (cr_all rfl) (by rfl) T.z_all (by decide +kernel) (pa_cons (pe_lc (own := [("corner", 2)]) (g := gName 2) (tt := tYes) rfl sc_is_inside.nd (pi_tup (pv 0)) (blkOk_by (own := [("corner", 2)]) (N := N_is_inside) (sc := defScope s_is_inside) (by decide +kernel)) (fun _ _ _ _ _ => (pg_name (i := 2) sc_is_inside.nd rfl (Or.inl rfl))) (fun _ _ _ _ _ => pts_nil) (fun _ _ _ _ _ => (pe_cmpR (show OpR _ _ (rIn K false) from op_in_seq) (pv 2) (pv 1) (by rfl)))) pa_nil)))), ?_⟩
    refine ⟨_, rfl, a, rfl, ⟨_, hA⟩, fun D hD => ?_⟩
    have sD := same_new hD (.lst [])
    refine lc_tup (K := K) (a := a) (xs := nv t) (fun i H' => Same H H' ∧ H' D = some (.lst (((t.map fun x => decide (x ∈ u)).take i).map V.bl))) ⟨sD, upd_same⟩ (fun i H' _ hh => same_sqt hh.1 hA) (fun i x H' hx hh => ?_) (fun H' hh => ?_)
    · obtain ⟨s1, eD⟩ := hh
      obtain ⟨e, he, rfl⟩ := nv_get hx
      have hu2 : (t.map fun x => decide (x ∈ u))[i]? = some (decide (e ∈ u)) := by rw [List.getElem?_map, he]; rfl
      have hi : i < t.length := (List.getElem?_eq_some_iff.mp he).1
      refine ⟨rfl, _, rfl, _, rfl, b, nv u, rfl, .inr (same_sqt s1 hB), rfl, flat_nv u, ?_⟩
      rw [inV_nv, show (if false = true then !u.contains e else u.contains e) = u.contains e from rfl, show u.contains e = decide (e ∈ u) by rw [Bool.eq_iff_iff, List.contains_iff_mem, decide_eq_true_iff]]
      refine ⟨_, eD, by rw [List.length_map, List.length_take]; exact sizeK (by omega), same_updL s1 hD, ?_⟩
      rw [upd_same, take_more hu2, List.map_append]
      rfl
    · obtain ⟨s1, eD⟩ := hh
      rw [nv_len, List.take_of_length_le (by rw [List.length_map]; omega)] at eD
      refine ⟨D, _, rfl, SqL.of eD, ?_⟩
      have e : (t.map fun x => decide (x ∈ u)).all id = sbB t u := by
        rw [List.all_map]
        rfl
      rw [e]
      exact q H' s1
def sp_sin (K : PySem.W.Frag) : Sp := fun vs H Q _ => ∃ (a b : Addr) (qs : List Addr) (S : List (List Nat)) (c : List Nat), vs = [.ref a, .ref b] ∧ SqT K H a (qs.map V.ref) ∧ TupsU H qs S ∧ SqT K H b (nv c) ∧ S.length ≤ 256 ∧ (∀ t ∈ S, t.length ≤ 8) ∧
  ∀ (H' : Hp) (z : Addr) (rs : List Addr), Same H H' → H z = none → H' z = some (.lst (rs.map V.ref)) → TupsU H' rs (rst S c) → Q (.ref z) H'
theorem ok_sin (T : Txt K mg) : FnOk P w K mg base CX0 2 T.a_sets_inside T.d_sets_inside ["sets", "outer"] (sp_sin K) := by
  refine T.F_sets_inside.ok sc_sets_inside (fun vs H Q E h => ?_) (fun cdv A outer s H vs Q E hr h => ?_)
  · obtain ⟨a, b, qs, S, c, rfl, _⟩ := h
    rfl
  · obtain ⟨a, b, qs, S, c, rfl, hA, hT, hB, h256, h8, q⟩ := h
    refine ⟨_, (pss_one (ps_ret (pe_lc (own := [("chosen", 2)]) (g := gName 2) rfl sc_sets_inside.nd (pi_tup (pv 0)) (blkOk_by (own := [("chosen", 2)]) (N := N_sets_inside) (sc := defScope s_sets_inside) (by decide +kernel)) (fun _ _ _ _ _ => (pg_name (i := 2) sc_sets_inside.nd rfl (Or.inl rfl))) (fun _ _ _ _ _ => pts_one (pt_val (pe_call  (ok_isin T) (hr.mono (by decide)) (by rfl) T.m_is_inside T.F_is_inside.kp T.b_is_inside .nil pass0 (pa_cons (pv 2) (pa_cons (pv 1) pa_nil))))) (fun _ _ _ _ _ => (pv 2))))), ?_⟩
    refine ⟨_, rfl, a, rfl, ⟨_, hA⟩, fun D hD => ?_⟩
    have sD := same_new hD (.lst [])
    refine lc_tup (K := K) (a := a) (xs := qs.map V.ref) (fun i H2 => Same H H2 ∧ ∃ rs : List Addr, H2 D = some (.lst (rs.map V.ref)) ∧ TupsU H2 rs ((S.take i).filter fun t => sbB t c)) ⟨sD, [], upd_same, .nil⟩ (fun i H2 _ hh => same_sqt hh.1 hA) (fun i x H2 hi hh => ?_) (fun H2 hh => ?_)
    · obtain ⟨s2, rs, eD, hTr⟩ := hh
      obtain ⟨r, t, rfl, _, ht, hr1⟩ := (hT.same s2).get hi
      have hrl := hTr.length
      have hfl := List.length_filter_le (fun t => sbB t c) (S.take i)
      rw [List.length_take] at hfl
      have tl := h8 t (List.mem_of_getElem? ht)
      refine ⟨rfl, _, rfl, _, rfl, r, b, t, c, rfl, SqT.of hr1, same_sqt s2 hB, by omega, fun H3 s3 => ⟨_, rfl, ?_⟩⟩
      cases hc : sbB t c with
      | false =>
        refine iteF ⟨s2.trans s3, rs, s3 _ _ eD, ?_⟩
        rw [take_more ht, List.filter_append, List.filter_cons, if_neg (by rw [hc]; decide), List.filter_nil, List.append_nil]
        exact hTr.same s3
      | true =>
        refine iteT ⟨_, rfl, _, s3 _ _ eD, by rw [List.length_map]; exact sizeK (by omega), same_updL (s2.trans s3) hD, rs ++ [r], by rw [upd_same, List.map_append]; rfl, ?_⟩
        rw [take_more ht, List.filter_append, List.filter_cons, if_pos (by rw [hc]), List.filter_nil]
        have := snocU (t := t) (s2.trans s3) (s3 _ _ eD) (hTr.same s3) (s3 _ _ hr1)
        rw [List.map_append] at this
        exact this
    · obtain ⟨s2, rs, eD, hTr⟩ := hh
      rw [List.length_map, hT.length, List.take_length] at hTr
      exact q H2 D rs s2 hD eD hTr
def sp_lks (K : PySem.W.Frag) : Sp := fun vs H Q _ => ∃ (a b : Addr) (qs : List Addr) (S : List (List Nat)) (m : List Nat), vs = [.ref a, .ref b] ∧ SqT K H a (qs.map V.ref) ∧ TupsU H qs S ∧ SqT K H b (nv m) ∧ S.length ≤ 256 ∧ (∀ t ∈ S, t.length ≤ 8) ∧ m.length ≤ 8 ∧
  ∀ (H' : Hp) (z : Addr) (rs : List Addr), Same H H' → H z = none → H' z = some (.lst (rs.map V.ref)) → TupsU H' rs (lnk S m) → Q (.ref z) H'
theorem ok_lks (T : Txt K mg) : FnOk P w K mg base CX0 2 T.a_link_sets T.d_link_sets ["sets", "member"] (sp_lks K) := by
  refine T.F_link_sets.ok sc_link_sets (fun vs H Q E h => ?_) (fun cdv A outer s H vs Q E hr h => ?_)
  · obtain ⟨a, b, qs, S, m, rfl, _⟩ := h
    rfl
  · obtain ⟨a, b, qs, S, m, rfl, hA, hT, hB, h256, h8, hm8, q⟩ := h
    refine ⟨_, (pss_cons (ps_setLc (i := 2) (own := [("chosen", 3)]) (g := gName 3) rfl sc_link_sets.nd rfl rfl (sw_true rfl rfl rfl (by decide +kernel)) (pi_tup (pv 0)) (blkOk_by (own := [("chosen", 3)]) (N := N_link_sets) (sc := defScope s_link_sets) (by decide +kernel)) (fun _ _ _ _ _ => (pg_name (i := 3) sc_link_sets.nd rfl (Or.inl rfl))) (fun _ _ _ _ _ => pts_one (pt_val (pe_call  (ok_isin T) (hr.mono (by decide)) (by rfl) T.m_is_inside T.F_is_inside.kp T.b_is_inside .nil pass0 (pa_cons (pv 1) (pa_cons (pv 3) pa_nil))))) (fun _ _ _ _ _ => (pv 3)))
      (pss_one (ps_ret (pe_lc (own := [("chosen", 3)]) (g := gName 3) (tt := tYes) rfl sc_link_sets.nd (pi_list (pv 2)) (blkOk_by (own := [("chosen", 3)]) (N := N_link_sets) (sc := defScope s_link_sets) (by decide +kernel)) (fun _ _ _ _ _ => (pg_name (i := 3) sc_link_sets.nd rfl (Or.inl rfl))) (fun _ _ _ _ _ => pts_nil) (fun _ _ _ _ _ => (pe_callTy (show CallR _ _ (fun xs H Q => ∃ p ys, xs = [.ref p] ∧ ((SqL K H p ys ∧ ∀ l, H l = none → Q (.ref l) (upd H l (.tup ys))) ∨ (SqT K H p ys ∧ Q (.ref p) H))) from call_tuple_of) (by rfl) T.z_tuple boot_tuple (pa_cons (pe_lc (own := [("corner", 4)]) (g := gName 4) rfl sc_link_sets.nd (show PI _ _ _ (iTup K _) from pi_tup (pv 3)) (blk_in (sc := ({ kind := .function, names := [(".0", .local), ("chosen", .local), ("tuple", .globalImplicit), ("member", .cell)], isGenerator := false, isCoroutine := false, more := [] } : Scope)) (own := [("corner", 4)]) (N := N_link_sets) rfl (blkOk_by (by decide +kernel))) (fun _ _ _ _ _ => (pg_name (i := 4) sc_link_sets.nd rfl (Or.inl rfl))) (fun _ _ _ _ _ => pts_one (pt_cmpR (show OpR _ _ (rIn K true) from op_notIn_seq) (pv 4) (pv 1) (by rfl))) (fun _ _ _ _ _ => (pv 4))) pa_nil))))))), ?_⟩
    refine ⟨_, rfl, a, rfl, ⟨_, hA⟩, fun D hD => ?_⟩
    have sD := same_new hD (.lst [])
    refine lc_tup (K := K) (a := a) (xs := qs.map V.ref) (fun i H2 => Same H H2 ∧ ∃ rs : List Addr, H2 D = some (.lst (rs.map V.ref)) ∧ TupsU H2 rs ((S.take i).filter fun t => sbB m t)) ⟨sD, [], upd_same, .nil⟩ (fun i H2 _ hh => same_sqt hh.1 hA) (fun i x H2 hi hh => ?_) (fun H2 hh => ?_)
    · obtain ⟨s2, rs, eD, hTr⟩ := hh
      obtain ⟨r, t, rfl, _, ht, hr1⟩ := (hT.same s2).get hi
      have hrl := hTr.length
      have hfl := List.length_filter_le (fun t => sbB m t) (S.take i)
      rw [List.length_take] at hfl
      refine ⟨rfl, _, rfl, _, rfl, b, r, m, t, rfl, same_sqt s2 hB, SqT.of hr1, by omega, fun H3 s3 => ⟨_, rfl, ?_⟩⟩
      cases hc : sbB m t with
      | false =>
        refine iteF ⟨s2.trans s3, rs, s3 _ _ eD, ?_⟩
        rw [take_more ht, List.filter_append, List.filter_cons, if_neg (by rw [hc]; decide), List.filter_nil, List.append_nil]
        exact hTr.same s3
      | true =>
        refine iteT ⟨_, rfl, _, s3 _ _ eD, by rw [List.length_map]; exact sizeK (by omega), same_updL (s2.trans s3) hD, rs ++ [r], by rw [upd_same, List.map_append]; rfl, ?_⟩
        rw [take_more ht, List.filter_append, List.filter_cons, if_pos (by rw [hc]), List.filter_nil]
        have := snocU (t := t) (s2.trans s3) (s3 _ _ eD) (hTr.same s3) (s3 _ _ hr1)
        rw [List.map_append] at this
        exact this
    · obtain ⟨s2, rs, eD, hTr⟩ := hh
      rw [List.length_map, hT.length, List.take_length] at hTr
      have n1 := List.length_filter_le (fun t => sbB m t) S
      have m1 : ∀ t ∈ S.filter (fun t => sbB m t), t.length ≤ 8 := fun t ht => h8 t (List.mem_filter.mp ht).1
      unfold lnk at q
      generalize (S.filter fun t => sbB m t) = U at hTr n1 m1 q
      refine ⟨_, rfl, D, rfl, ⟨_, SqL.of eD⟩, fun D2 hD2 => ?_⟩
      have sD2 := same_new hD2 (.lst [])
      have hB2 := same_sqt s2 hB
      refine lc_list (K := K) (a := D) (xs := rs.map V.ref) (fun i H3 => Same H2 H3 ∧ ∃ zs : List Addr, H3 D2 = some (.lst (zs.map V.ref)) ∧ TupsU H3 zs ((U.take i).map fun u => mns u m)) ⟨sD2, [], upd_same, .nil⟩ (fun i H3 _ hh => SqL.of (hh.1 _ _ eD)) (fun i x H3 hi hh => ?_) (fun H3 hh => ?_)
      · obtain ⟨s3, zs, eD2, hTz⟩ := hh
        obtain ⟨r, t, rfl, _, ht, hr1⟩ := (hTr.same s3).get hi
        have hzl := hTz.length
        rw [List.length_map, List.length_take] at hzl
        have tl := m1 t (List.mem_of_getElem? ht)
        have hB3 := same_sqt s3 hB2
        refine ⟨rfl, _, rfl, r, rfl, ⟨_, SqT.of hr1⟩, fun D3 hD3 => ?_⟩
        have sD3 := same_new hD3 (.lst [])
        refine lc_tup (K := K) (a := r) (xs := nv t) (fun j H4 => Same H3 H4 ∧ H4 D3 = some (.lst (nv ((t.take j).filter fun x => !decide (x ∈ m))))) ⟨sD3, upd_same⟩ (fun j H4 _ hh => SqT.of (hh.1 _ _ hr1)) (fun j y H4 hy hh => ?_) (fun H4 hh => ?_)
        · obtain ⟨s4, eD3⟩ := hh
          obtain ⟨e, he, rfl⟩ := nv_get hy
          have hfl := List.length_filter_le (fun x => !decide (x ∈ m)) (t.take j)
          rw [List.length_take] at hfl
          refine ⟨rfl, _, rfl, _, rfl, b, nv m, rfl, .inr (same_sqt s4 hB3), rfl, flat_nv m, _, rfl, ?_⟩
          rw [inV_nv, show (if true = true then !m.contains e else m.contains e) = !m.contains e from rfl]
          by_cases hin : e ∈ m
          · rw [show (!m.contains e) = false by rw [List.contains_iff_mem.mpr hin]; rfl]
            refine iteF ⟨s4, ?_⟩
            rw [take_more he, List.filter_append, List.filter_cons, if_neg (by rw [decide_eq_true hin]; decide), List.filter_nil, List.append_nil]
            exact eD3
          · rw [show (!m.contains e) = true by
              cases hc : m.contains e with
              | false => rfl
              | true => exact absurd (List.contains_iff_mem.mp hc) hin]
            refine iteT ⟨_, rfl, _, eD3, by rw [nv_len]; exact sizeK (by omega), same_updL s4 hD3, ?_⟩
            rw [upd_same, take_more he, List.filter_append, List.filter_cons, if_pos (by rw [decide_eq_false hin]; rfl), List.filter_nil]
            unfold nv
            rw [List.map_append]
            rfl
        · obtain ⟨s4, eD3⟩ := hh
          rw [nv_len, List.take_length] at eD3
          refine ⟨D3, _, rfl, .inl ⟨SqL.of eD3, fun z hz => ?_⟩⟩
          have s5 := same_new hz (.tup (nv (mns t m)))
          have S5 := s4.trans s5
          refine ⟨_, S5 _ _ eD2, by rw [List.length_map]; exact sizeK (by omega), same_updL (s3.trans S5) hD2, zs ++ [z], by rw [upd_same, List.map_append]; rfl, ?_⟩
          rw [take_more ht, List.map_append]
          have := snocU (t := mns t m) (s3.trans S5) (S5 _ _ eD2) (hTz.same S5) (show _ = some (HO.tup (nv (mns t m))) from upd_same)
          rw [List.map_append] at this
          exact this
      · obtain ⟨s3, zs, eD2, hTz⟩ := hh
        rw [List.length_map, hTr.length, List.take_length] at hTz
        exact q H3 D2 zs (s2.trans s3) (s2.free hD2) eD2 hTz
def sp_made (K : PySem.W.Frag) (C : Addr) : Sp := fun vs H Q _ => ∃ (n : Nat) (l : Addr) (rs : List Addr) (L : List (List Nat)), vs = [.int ((n : Nat) : Int), .ref l] ∧ 1 ≤ n ∧ n ≤ 8 ∧ H l = some (.lst (rs.map V.ref)) ∧ TupsU H rs L ∧ LamX.Tabs TBo H ∧
  ∀ H' x, LamX.ExtN H H' → LamX.Tabs TBo H' → FamAt K C H' x n (srt encK L) → H x = none → Q (.ref x) H'
theorem ok_made (T : Txt K mg) (O : FamT K mg) (TB : LamX.TabB base mg T.c_ordered tO) : FnOk P w K mg base CX0 8 T.a_made_family T.d_made_family ["corners", "sets"] (sp_made K O.C) := by
  refine T.F_made_family.ok sc_made_family (fun vs H Q E h => ?_) (fun cdv A outer s H vs Q E hr h => ?_)
  · obtain ⟨n, l, rs, L, rfl, _⟩ := h
    rfl
  · obtain ⟨n, l, rs, L, rfl, h1, h8, hl, hL, tab, q⟩ := h
    refine ⟨_, (pss_cons (ps_set (i := 2) sc_made_family.nd rfl (Or.inl rfl) (pe_make O.M (ok_init T O TB) (hr.mono (by decide)) rfl O.gC O.bI .nil pass0 (pa_cons (pv 0) (pa_cons (pe_tup pa_nil) pa_nil))))
      (pss_cons (ps_fld (pv 2) (pe_call  (ok_ordL T TB) (hr.mono (by decide)) (by rfl) T.m_ordered T.F_ordered.kp T.b_ordered .nil pass0 (pa_cons (pv 1) pa_nil)) rfl)
      (pss_one (ps_ret (pv 2))))), ?_⟩
    refine ⟨_, rfl, Nat.zero_le _, fun t0 ht0 => ?_⟩
    have st0 := same_new ht0 (.tup [])
    dsimp only [tNil]
    refine mk_fam (K := K) (C := O.C) (l := t0) (rs := []) (n := n) (G := []) ⟨SqT.of upd_same, .nil, fun _ h => (nomatch h), by decide⟩ h1 h8 (tab.ext st0) fun H2 x S2 e2 t2 hx fx nx => ?_
    obtain ⟨dx, m0, qs0, x1, x2, x3⟩ := hx
    refine ⟨_, rfl, l, L, rs, rfl, e2 _ _ (st0 _ _ hl) (fun _ z => nomatch z), (hL.same st0).ext e2, t2, fun H3 m qs e3 t3 hm hT3 => ?_⟩
    have x1' := e3 _ _ x1 fun _ z => nomatch z
    refine ⟨_, rfl, x, O.C, dx, _, rfl, x1', O.cl, O.nS, by show 2 < 1000; decide, ?_⟩
    have st3 : ∀ b o, b ≠ x → H3 b = some o → (upd H3 x (.ins O.C dx (putF "_sets" (.ref m) (famF n m0)))) b = some o := fun b o k h => by
      rw [upd_ne k]
      exact h
    have hx0 : H x = none := st0.free nx
    refine ⟨_, rfl, q _ x (fun b o h k => st3 b o (ne_of_none h hx0) (e3 b o (e2 b o (st0 b o h) k) k)) (tabs_ins x1' st3 t3) ⟨dx, m, qs, ?_, sqt_ins x1' st3 (SqT.of hm), tupsU_ins x1' st3 hT3⟩ hx0⟩
    rw [upd_same]
    rfl
def sp_res (K : PySem.W.Frag) (C : Addr) : Sp := fun vs H Q _ => ∃ (a b : Addr) (n : Nat) (S : List (List Nat)) (c : List Nat), vs = [.ref a, .ref b] ∧ FamAt K C H a n S ∧ Cl n S ∧ 1 ≤ n ∧ n ≤ 8 ∧ SqT K H b (nv c) ∧ On n c ∧ LamX.Tabs TBo H ∧
  ∀ H' x, LamX.ExtN H H' → LamX.Tabs TBo H' → FamAt K C H' x n (rst S c) → H x = none → Q (.ref x) H'
theorem ok_res (T : Txt K mg) (O : FamT K mg) (TB : LamX.TabB base mg T.c_ordered tO) : FnOk P w K mg base CX0 9 O.fR O.dR ["self", "corners"] (sp_res K O.C) := by
  refine O.FR.ok sc_res (fun vs H Q E h => ?_) (fun cdv A outer s H vs Q E hr h => ?_)
  · obtain ⟨a, b, n, S, c, rfl, _⟩ := h
    rfl
  · obtain ⟨a, b, n, S, c, rfl, ⟨dx, m, qs, h1, h2, h3⟩, cl, n1, n8, hB, hc, tab, q⟩ := h
    refine ⟨_, (pss_cons (ps_if (pt_not (pt_val (pe_call  (ok_isset T) (hr.mono (by decide)) (by rfl) T.m_is_set T.F_is_set.kp T.b_is_set .nil pass0 (pa_cons (pv 1) (pa_cons (pe_fld (pv 0) rfl) pa_nil))))) (pss_one ps_never) pss_nil)
      (pss_one (ps_ret (pe_call  (ok_made T O TB) (hr.mono (by decide)) (by rfl) T.m_made_family T.F_made_family.kp T.b_made_family .nil pass0 (pa_cons (pe_fld (pv 0) rfl) (pa_cons (pe_call  (ok_sin T) (hr.mono (by decide)) (by rfl) T.m_sets_inside T.F_sets_inside.kp T.b_sets_inside .nil pass0 (pa_cons (pe_fld (pv 0) rfl) (pa_cons (pv 1) pa_nil))) pa_nil)))))), ?_⟩
    refine ⟨_, rfl, _, rfl, a, O.C, dx, _, _, rfl, h1, O.cl, O.nC, rfl, .ref b, _, _, rfl, va_on hB hc n8, fun H1 s1 => ⟨_, rfl, ?_⟩⟩
    rw [setB_on.mpr hc]
    refine iteF ?_
    have h1' := s1 _ _ h1
    refine ⟨_, rfl, a, O.C, dx, _, _, rfl, h1', O.cl, O.nC, rfl, _, rfl, a, O.C, dx, _, _, rfl, h1', O.cl, O.nS, rfl, _, rfl, m, b, qs, S, c, rfl, same_sqt s1 h2, h3.same s1, same_sqt s1 hB, cl.few n8, fun t ht => Nat.le_trans (on_len (cl.on t ht)) n8, fun H2 z rs s2 nz hz hT2 => ?_⟩
    refine ⟨n, z, rs, _, rfl, n1, n8, hz, hT2, (tab.ext s1).ext s2, fun H3 x e3 t3 hx nx => ?_⟩
    rw [cl.srt_rst] at hx
    exact q H3 x ((ext_of (s1.trans s2)).trans e3) t3 hx ((s1.trans s2).free nx)
def sp_link (K : PySem.W.Frag) (C : Addr) : Sp := fun vs H Q _ => ∃ (a b : Addr) (n : Nat) (S : List (List Nat)) (u : List Nat), vs = [.ref a, .ref b] ∧ FamAt K C H a n S ∧ Cl n S ∧ 1 ≤ n ∧ n ≤ 8 ∧ SqT K H b (nv u) ∧ u ∈ S ∧ LamX.Tabs TBo H ∧
  ∀ H' x, LamX.ExtN H H' → LamX.Tabs TBo H' → FamAt K C H' x n (lk S u) → H x = none → Q (.ref x) H'
theorem ok_link (T : Txt K mg) (O : FamT K mg) (TB : LamX.TabB base mg T.c_ordered tO) : FnOk P w K mg base CX0 9 O.fL O.dL ["self", "member"] (sp_link K O.C) := by
  refine O.FL.ok sc_link (fun vs H Q E h => ?_) (fun cdv A outer s H vs Q E hr h => ?_)
  · obtain ⟨a, b, n, S, u, rfl, _⟩ := h
    rfl
  · obtain ⟨a, b, n, S, u, rfl, hF, cl, n1, n8, hB, hu, tab, q⟩ := h
    refine ⟨_, (pss_cons (ps_if (pt_cmpR (W7.op_notinOwn O.aH O.nH (ok_hasf T O) (hr.mono (by decide)) O.bH pass0) (pv 1) (pv 0) (by rfl)) (pss_one ps_never) pss_nil)
      (pss_one (ps_ret (pe_call  (ok_made T O TB) (hr.mono (by decide)) (by rfl) T.m_made_family T.F_made_family.kp T.b_made_family .nil pass0 (pa_cons (pe_fld (pv 0) rfl) (pa_cons (pe_call  (ok_lks T) (hr.mono (by decide)) (by rfl) T.m_link_sets T.F_link_sets.kp T.b_link_sets .nil pass0 (pa_cons (pe_fld (pv 0) rfl) (pa_cons (pv 1) pa_nil))) pa_nil)))))), ?_⟩
    have iF := hF
    obtain ⟨dx, m, qs, h1, h2, h3⟩ := iF
    have ou := cl.on u hu
    refine ⟨_, rfl, _, rfl, a, dx, _, rfl, h1, a, .ref b, _, n, S, rfl, hF, va_on hB ou n8, n8, fun H1 s1 => ⟨_, rfl, ?_⟩⟩
    rw [hasB_on ou, decide_eq_true hu]
    refine ⟨_, rfl, iteF ?_⟩
    have h1' := s1 _ _ h1
    refine ⟨_, rfl, a, O.C, dx, _, _, rfl, h1', O.cl, O.nC, rfl, _, rfl, a, O.C, dx, _, _, rfl, h1', O.cl, O.nS, rfl, _, rfl, m, b, qs, S, u, rfl, same_sqt s1 h2, h3.same s1, same_sqt s1 hB, cl.few n8, fun t ht => Nat.le_trans (on_len (cl.on t ht)) n8, Nat.le_trans (on_len ou) n8, fun H2 z rs s2 nz hz hT2 => ?_⟩
    refine ⟨n, z, rs, _, rfl, n1, n8, hz, hT2, (tab.ext s1).ext s2, fun H3 x e3 t3 hx nx => ?_⟩
    exact q H3 x ((ext_of (s1.trans s2)).trans e3) t3 hx ((s1.trans s2).free nx)
end
end K39

namespace K39
open PySem PySem.Spec PyProof.Rows L2 RZ L5 XX LK M38
section
variable {P : Program} {w : World} {K : PySem.W.Frag} {mg : Str → Option Value} {base : Heap}
theorem nv_app (a b : List Nat) : nv a ++ nv b = nv (a ++ b) := by
  unfold nv
  rw [List.map_append]
/-- a filter's next step -/
theorem flt_step {H : Hp} {D : Addr} {t : List Nat} {i e : Nat} {p : Nat → Bool} (he : t[i]? = some e) : (p e = true → (upd H D (.lst (nv ((t.take i).filter p) ++ [V.int ((e : Nat) : Int)]))) D = some (.lst (nv ((t.take (i + 1)).filter p)))) ∧
    (p e = false → (t.take (i + 1)).filter p = (t.take i).filter p) := by
  constructor
  · intro h
    rw [upd_same, take_more he, List.filter_append, List.filter_cons, if_pos h, List.filter_nil]
    unfold nv
    rw [List.map_append]
    rfl
  · intro h
    rw [take_more he, List.filter_append, List.filter_cons, if_neg (by rw [h]; decide), List.filter_nil, List.append_nil]
theorem con_dec (u : List Nat) (e : Nat) : u.contains e = decide (e ∈ u) := by rw [Bool.eq_iff_iff, List.contains_iff_mem, decide_eq_true_iff]
def sp_wcomm (K : PySem.W.Frag) : Sp := fun vs H Q _ => ∃ (a b : Addr) (t u : List Nat), vs = [.ref a, .ref b] ∧ SqT K H a (nv t) ∧ SqT K H b (nv u) ∧ t.length ≤ 100 ∧ ∀ H' z, Same H H' → H z = none → H' z = some (.tup (nv (comm t u))) → Q (.ref z) H'
theorem ok_wcomm (T : Txt K mg) : FnOk P w K mg base CX0 1 T.a_w_common T.d_w_common ["_law_one", "_law_other"] (sp_wcomm K) := by
  refine T.F_w_common.ok sc_w_common (fun vs H Q E h => ?_) (fun cdv A outer s H vs Q E hr h => ?_)
  · obtain ⟨a, b, t, u, rfl, _⟩ := h
    rfl
  · obtain ⟨a, b, t, u, rfl, hA, hB, hl, q⟩ := h
    refine ⟨_, (pss_one (ps_ret (pe_callTy call_tuple_of (by rfl) T.z_tuple boot_tuple (pa_cons (pe_lc (own := [("_law_corner", 2)]) (g := gName 2) rfl sc_w_common.nd (pi_tup (pv 0)) (blkOk_by (own := [("_law_corner", 2)]) (N := N_w_common) (sc := defScope s_w_common) (by decide +kernel)) (fun _ _ _ _ _ => (pg_name (i := 2) sc_w_common.nd rfl (Or.inl rfl))) (fun _ _ _ _ _ => pts_one (pt_cmpR (show OpR _ _ (rIn K false) from op_in_seq) (pv 2) (pv 1) (by rfl))) (fun _ _ _ _ _ => (pv 2))) pa_nil)))), ?_⟩
    refine ⟨_, rfl, a, rfl, ⟨_, hA⟩, fun D hD => ?_⟩
    have sD := same_new hD (.lst [])
    refine lc_tup (K := K) (a := a) (xs := nv t) (fun i H' => Same H H' ∧ H' D = some (.lst (nv ((t.take i).filter fun x => decide (x ∈ u))))) ⟨sD, upd_same⟩ (fun i H' _ hh => same_sqt hh.1 hA) (fun i x H' hx hh => ?_) (fun H' hh => ?_)
    · obtain ⟨s1, eD⟩ := hh
      obtain ⟨e, he, rfl⟩ := nv_get hx
      have hfl := List.length_filter_le (fun x => decide (x ∈ u)) (t.take i)
      rw [List.length_take] at hfl
      have fs := flt_step (H := H') (D := D) (p := fun x => decide (x ∈ u)) he
      refine ⟨rfl, _, rfl, _, rfl, b, nv u, rfl, .inr (same_sqt s1 hB), rfl, flat_nv u, _, rfl, ?_⟩
      rw [inV_nv, show (if false = true then !u.contains e else u.contains e) = u.contains e from rfl, con_dec]
      cases hc : decide (e ∈ u) with
      | false => exact iteF ⟨s1, by rw [fs.2 hc]; exact eD⟩
      | true => exact iteT ⟨_, rfl, _, eD, by rw [nv_len]; exact sizeK (by omega), same_updL s1 hD, fs.1 hc⟩
    · obtain ⟨s1, eD⟩ := hh
      rw [nv_len, List.take_length] at eD
      refine ⟨D, _, rfl, .inl ⟨SqL.of eD, fun z hz => ?_⟩⟩
      exact q _ z (s1.trans (same_new hz _)) (s1.free hz) upd_same
def sp_wlink (K : PySem.W.Frag) : Sp := fun vs H Q _ => ∃ (l b : Addr) (qs : List Addr) (S : List (List Nat)) (m : List Nat), vs = [.ref l, .ref b] ∧ SqL K H l (qs.map V.ref) ∧ TupsU H qs S ∧ H b = some (.tup (nv m)) ∧ S.length ≤ 256 ∧ (∀ t ∈ S, t.length ≤ 8) ∧ m.length ≤ 8 ∧
  ∀ (H' : Hp) (z : Addr) (rs : List Addr), Same H H' → H z = none → H' z = some (.lst (rs.map V.ref)) → TupsU H' rs (llk S m) → Q (.ref z) H'
theorem ok_wlink (T : Txt K mg) : FnOk P w K mg base CX0 2 T.a_w_link T.d_w_link ["_law_members", "_law_one"] (sp_wlink K) := by
  refine T.F_w_link.ok sc_w_link (fun vs H Q E h => ?_) (fun cdv A outer s H vs Q E hr h => ?_)
  · obtain ⟨l, b, qs, S, m, rfl, _⟩ := h
    rfl
  · obtain ⟨l, b, qs, S, m, rfl, hA, hT, hB, h256, h8, hm, q⟩ := h
    refine ⟨_, (pss_cons (ps_set (i := 2) sc_w_link.nd rfl (Or.inl rfl) (pe_lst pa_nil))
      (pss_cons (ps_for PassesOwn.never rfl (pi_list (pv 0)) (pg_name (i := 3) sc_w_link.nd rfl (Or.inl rfl))
      (pss_one (ps_if (PW.pt (pw_and (pt_cmpR (op_eqD hr.units) (pe_lc (own := [("_law_corner", 4)]) (g := gName 4) rfl sc_w_link.nd (pi_tup (pv 3)) (blkOk_by (own := [("_law_corner", 4)]) (N := N_w_link) (sc := defScope s_w_link) (by decide +kernel)) (fun _ _ _ _ _ => (pg_name (i := 4) sc_w_link.nd rfl (Or.inl rfl))) (fun _ _ _ _ _ => pts_one (pt_cmpR (show OpR _ _ (rIn K false) from op_in_seq) (pv 4) (pv 1) (by rfl))) (fun _ _ _ _ _ => (pv 4))) (pe_lst pa_nil) (nomark _)) (pw_and1 (pt_cmpR (show OpR _ _ (rInD K) from op_inD (un65 hr)) (pe_callTy call_tuple_of (by rfl) T.z_tuple boot_tuple (pa_cons (pe_callB (RS.cr_sortTN hr.units) (by rfl) T.z_sorted boot_sorted (pa_cons (pe_op op_catU (pv 1) (pv 3)) pa_nil)) pa_nil)) (pv 0) (by rfl))))) (pss_one (ps_expr (pe_bm PySem.F.plainAttrs_list PySem.F.slot_list_append PySem.F.type_list_append mt_append (pv 2) (pa_cons (pv 3) pa_nil)))) pss_nil)))
      (pss_one (ps_ret (pv 2))))), ?_⟩
    have hl := hT.length
    refine ⟨Nat.zero_le _, fun f hf => ?_⟩
    have sf := same_new hf (.lst [])
    have ef : (upd H f (.lst [])) f = some (.lst (([] : List Addr).map V.ref)) := upd_same
    generalize (upd H f (.lst [])) = H0 at sf ef ⊢
    refine ⟨_, rfl, l, rfl, ⟨_, same_sql sf hA⟩, ?_⟩
    refine for_list (K := K) (a := l) (xs := qs.map V.ref) (fun i σ H1 => ∃ (v3 v4 : Option V) (rs : List Addr), σ = [some (.ref l), some (.ref b), some (.ref f), v3, v4] ∧ Same H H1 ∧ H1 f = some (.lst (rs.map V.ref)) ∧ TupsU H1 rs ((S.take i).filter fun v => dsj v m && decide (M50.srt (m ++ v) ∈ S)))
      ⟨none, none, [], rfl, sf, ef, .nil⟩ (fun i σ H1 _ ⟨_, _, _, _, s1, _⟩ => same_sql s1 hA) (fun i x σ H1 hi hh => ?_) (fun σ H1 hh => ?_)
    · obtain ⟨v3, v4, rs, rfl, s1, hf1, hR⟩ := hh
      obtain ⟨c, t, rfl, _, ht, hc⟩ := (hT.same s1).get hi
      have hrl := hR.length
      have hfl := List.length_filter_le (fun v => dsj v m && decide (M50.srt (m ++ v) ∈ S)) (S.take i)
      rw [List.length_take] at hfl
      have tl := h8 t (List.mem_of_getElem? ht)
      have hA1 := same_sql s1 hA
      have hB1 := s1 _ _ hB
      refine ⟨_, rfl, c, rfl, ⟨_, SqT.of hc⟩, fun D hD => ?_⟩
      have sD := same_new hD (.lst [])
      refine lc_tup (K := K) (a := c) (xs := nv t) (fun j H2 => Same H1 H2 ∧ H2 D = some (.lst (nv ((t.take j).filter fun x => decide (x ∈ m))))) ⟨sD, upd_same⟩ (fun j H2 _ hh => SqT.of (hh.1 _ _ hc)) (fun j y H2 hy hh => ?_) (fun H2 hh => ?_)
      · obtain ⟨s2, eD⟩ := hh
        obtain ⟨e, he, rfl⟩ := nv_get hy
        have hf2 := List.length_filter_le (fun x => decide (x ∈ m)) (t.take j)
        rw [List.length_take] at hf2
        have fs := flt_step (H := H2) (D := D) (p := fun x => decide (x ∈ m)) he
        refine ⟨rfl, _, rfl, _, rfl, b, nv m, rfl, .inr (SqT.of (s2 _ _ hB1)), rfl, flat_nv m, _, rfl, ?_⟩
        rw [inV_nv, show (if false = true then !m.contains e else m.contains e) = m.contains e from rfl, con_dec]
        cases hc : decide (e ∈ m) with
        | false => exact iteF ⟨s2, by rw [fs.2 hc]; exact eD⟩
        | true => exact iteT ⟨_, rfl, _, eD, by rw [nv_len]; exact sizeK (by omega), same_updL s2 hD, fs.1 hc⟩
      · obtain ⟨s2, eD⟩ := hh
        rw [nv_len, List.take_length] at eD
        refine ⟨Nat.zero_le _, fun p hp => ?_⟩
        have s4 := same_new hp (.lst [])
        have S4 := s2.trans s4
        refine ⟨_, _, .lst (SqL.of (s4 _ _ eD)) (dp_nats _), .lst (SqL.of upd_same) .nil, Gv.shaped_natsL _, shaped_nil, _, rfl, ?_⟩
        rw [eqv_natsNil]
        generalize (upd H2 p (.lst [])) = H3 at s4 S4 ⊢
        have no : ∀ {H5 : Hp}, Same H3 H5 → (dsj t m && decide (M50.srt (m ++ t) ∈ S)) = false → TupsU H5 rs ((S.take (i + 1)).filter fun v => dsj v m && decide (M50.srt (m ++ v) ∈ S)) := fun {H5} s5 e => by
          rw [take_more ht, List.filter_append, List.filter_cons, if_neg (by rw [e]; decide), List.filter_nil, List.append_nil]
          exact (hR.same S4).same s5
        have hf3 := S4 _ _ hf1
        cases hd : dsj t m with
        | false =>
          have hd' : (t.filter fun x => decide (x ∈ m)).isEmpty = false := hd
          rw [hd']
          exact iteF ⟨_, _, rs, rfl, s1.trans S4, hf3, no (Same.refl H3) (by rw [hd]; rfl)⟩
        | true =>
          have hd' : (t.filter fun x => decide (x ∈ m)).isEmpty = true := hd
          rw [hd']
          refine iteT ⟨_, rfl, _, rfl, b, c, _, _, rfl, rfl, S4 _ _ hB1, S4 _ _ hc, by rw [nv_len, nv_len]; exact Nat.le_of_lt (sizeK (by omega)), fun H5 z5 s5 hz5 => ?_⟩
          rw [nv_app] at hz5
          refine ⟨z5, m ++ t, rfl, SqT.of hz5, fun p6 hp6 => ?_⟩
          have s6 := same_new hp6 (.lst (nv (M50.srt (m ++ t))))
          refine ⟨p6, _, rfl, .inl ⟨SqL.of upd_same, fun z7 hz7 => ?_⟩⟩
          have s7 := same_new hz7 (.tup (nv (M50.srt (m ++ t))))
          have S7 := s5.trans (s6.trans s7)
          have S8 := s1.trans (S4.trans S7)
          refine ⟨_, rfl, encT (M50.srt (m ++ t)), S.map encT, dp_tup (SqT.of upd_same), .lst (same_sql S8 hA) (dp_tups (hT.same S8).tups), shaped_T _, shaped_tups _, _, rfl, ?_⟩
          rw [any_eqv]
          have hf8 := S7 _ _ hf3
          cases hb : decide (M50.srt (m ++ t) ∈ S) with
          | false => exact iteF ⟨_, _, rs, rfl, S8, hf8, no S7 (by rw [hb, Bool.and_false])⟩
          | true =>
            refine iteT ⟨_, rfl, .inl ⟨rfl, _, SqL.of hf8⟩, _, rfl, f, _, _, rfl, rfl, hf8, by rw [List.length_map]; exact sizeK (by omega), ?_⟩
            refine ⟨_, _, rs ++ [c], rfl, same_updL S8 hf, by rw [upd_same, List.map_append]; rfl, ?_⟩
            rw [take_more ht, List.filter_append, List.filter_cons, if_pos (by rw [hd, hb]; rfl), List.filter_nil]
            have := snocU (t := t) S8 hf8 ((hR.same S4).same S7) ((S4.trans S7) _ _ hc)
            rw [List.map_append] at this
            exact this
    · obtain ⟨v3, v4, rs, rfl, s1, hf1, hR⟩ := hh
      rw [List.length_map, hl, List.take_length] at hR
      exact ⟨_, rfl, q _ f rs s1 hf hf1 hR⟩
end
end K39

namespace K39
open PySem PySem.Spec PyProof.Rows L2 RZ L5 XX LK M38
section
variable {K : PySem.W.Frag} {mg : Str → Option Value}
abbrev XR (T : Txt K mg) (P : Program) (w : World) (base : Heap) (cdv : Value) (A : Around) (outer : List Env) (s : Shared) (H0 : Hp) (E : XK) : Cx := (cxOf CX0 P w K mg base N_w_right "_law_right" (defScope s_w_right) T.a_w_right cdv A outer s H0 E).nox
abbrev stR (i : Nat) : Stmt := (defBody s_w_right).getD i (.Pass ⟨0, 0, 0, 0⟩)
theorem PS.weak' {X : Cx} {st : Stmt} {t t' : TS} (h : PS X st t) (i : ∀ D σ H, t' D σ H → t D σ H) : PS X st t' := ⟨fun pins s σ H D I h' => h.run pins s σ H D I (i D σ H h')⟩
theorem fr_trans {p : Addr} {A B C : Hp} (a : Fr p A B) (b : Fr p B C) : Fr p A C := fun d o n h k => b d o n (a d o n h k) k
theorem fr_bar {p : Addr} {A B : Hp} (a : Bar p A B) : Fr p A B := fun d o n h _ => a d o n h
theorem fr_ext {p : Addr} {A B : Hp} (a : LamX.ExtN A B) : Fr p A B := fun d o _ h k => a d o h k
def Pail (p : Addr) (H : Hp) : Prop := ∃ g x c, H p = some (pailO g x c)
theorem Pail.ext {p : Addr} {H H' : Hp} (e : LamX.ExtN H H') : Pail p H → Pail p H' := fun ⟨g, x, c, h⟩ => ⟨g, x, c, e _ _ h fun _ z => nomatch z⟩
theorem tabs_bar {T : List (Addr × Str)} {p : Addr} {H H' : Hp} (b : Bar p H H') (hp : Pail p H) (t : LamX.Tabs T H) : LamX.Tabs T H' := fun a ha => by
  obtain ⟨g, x, c, hp⟩ := hp
  obtain ⟨ps, h1, h2, h3⟩ := t a ha
  refine ⟨ps, b _ _ (fun k => by rw [k, hp] at h1; cases h1) h1, h2, fun pos cv hc => ?_⟩
  obtain ⟨d, e1, e2⟩ := h3 pos cv hc
  exact ⟨d, e1, b _ _ (fun k => by rw [k, hp] at e2; cases e2) e2⟩
theorem FamAt.fr {K : PySem.W.Frag} {C : Addr} {H H' : Hp} {p a : Addr} {n : Nat} {S : List (List Nat)} (s : Fr p H H') (hp : Pail p H) : FamAt K C H a n S → FamAt K C H' a n S := fun ⟨dx, m, qs, h1, h2, h3⟩ => by
  obtain ⟨g, x, c, hp⟩ := hp
  have ne : ∀ {b : Addr} {o : HO}, H b = some o → o ≠ pailO g x c → b ≠ p := fun {b o} e n k => by
    rw [k, hp] at e
    exact n (Option.some.inj e).symm
  refine ⟨dx, m, qs, s _ _ (ne h1 fun z => nomatch z) h1 (fun _ z => nomatch z), ?_, h3.mono fun b xs e => s _ _ (ne e fun z => nomatch z) e fun _ z => nomatch z⟩
  rcases h2 with (h | ⟨o, h⟩) | h
  · exact .inl (.inl (s _ _ (ne h fun z => nomatch z) h fun _ z => nomatch z))
  · exact .inl (.inr ⟨o, s _ _ (ne h fun z => nomatch z) h fun _ z => nomatch z⟩)
  · exact .inr h
/-! ### the iterator of a family, asked from within a built-in -/
def FamM_at (K : PySem.W.Frag) (C : Addr) (a m : Addr) (H : Hp) : Prop := ∃ n dx xs, H a = some (.ins C dx (famF n m)) ∧ SqT K H m xs
theorem fam_iterS {X : Cx} {A2 : Around} (T : Txt X.K X.mg) (O : FamT X.K X.mg) (sb : Sub X 1 A2) (z_iter : X.mg "iter" = none) : W7.ItMs X A2 O.fT (FamM_at X.K O.C) := by
  intro pins s σ H a m I h
  obtain ⟨n, dx, xs, h1, h2⟩ := h
  obtain ⟨oc, od, kV, doc, pm, an, cdv, ct, osl, e, lk, hcd⟩ := O.FT.ex
  have hb := O.bT s [.ref a] I.kIn rfl
  rw [e] at hb lk
  have r2 : Vals [V.ref a] [Value.ref a] := .cons rfl .nil
  have e0 : Env0 X.prog X.w X.K X.mg X.base A2 X.stack s H := by
    have z := I.env0
    exact ⟨by rw [sb.fr]; exact z.frames, z.mod, z.bs, z.bsz, z.funs, z.frf, z.hok, z.bare⟩
  refine wpAny_call (codeAny_mono (W7.fn_at (CX := CX0) (P := X.prog) (w := X.w) (mg := X.mg) (base := X.base) (A := A2) (outer := X.stack) (s := s) (H := H) (args := ⟨[.ref a], []⟩) (us := [.ref a]) (vs := [.ref a]) (E := E0)
    (Q := fun v H' => ∃ it, v = .ref it ∧ H it = none ∧ s.heap.objs.size ≤ it ∧ H' = upd H it (W7.ItTO m it)) lk hcd sc_iter sb.room e0 hb r2 rfl (fun hr' => ?_)) fun r s' hq => ?_)
  · refine ⟨_, pss_one (ps_ret (pe_callB W7.call_iterTN (by rfl) z_iter (by decide +kernel) (pa_cons (pe_fld (pv 0) rfl) pa_nil))), ?_⟩
    exact ⟨_, rfl, a, O.C, dx, _, _, rfl, h1, O.cl, O.nS, rfl, m, xs, rfl, h2, fun it hit hn => ⟨it, rfl, hit, hn, rfl⟩⟩
  · cases r with
    | error e => exact (pass0 pins σ H s e s' I hq)
    | ok fl =>
      cases fl with
      | ret u =>
        obtain ⟨v, H', I', rv, it, rfl, hit, hn, rfl⟩ := I.after hq
        obtain rfl : u = Value.ref it := rv
        exact ⟨it, rfl, I', hit, Nat.le_trans I.sz hn⟩
      | next => exact False.elim hq
      | brk => exact False.elim hq
      | cont => exact False.elim hq
theorem FamM_same {C : Addr} {a m : Addr} {H H' : Hp} (s : Same H H') : FamM_at K C a m H → FamM_at K C a m H' := fun ⟨n, dx, xs, h1, h2⟩ => ⟨n, dx, xs, s _ _ h1, same_sqt s h2⟩
theorem list_fam {O : FamT K mg} {H : Hp} {a n : Nat} {S : List (List Nat)} {Q : VK} (h : FamAt K O.C H a n S) (hn : S.length ≤ 1000) (q : ∀ H' z rs, Same H H' → H' z = some (.lst (rs.map V.ref)) → TupsU H' rs S → Q (.ref z) H') :
    W7.rListO K O.C (FamM_at K O.C) (sp_lenf K O.C) [.ref a] H Q := by
  have ih := h
  obtain ⟨dx, m, rs, h1, h2, h3⟩ := ih
  have hl : rs.length = S.length := h3.length
  refine ⟨a, m, dx, _, rs.map V.ref, rfl, h1, by rw [List.length_map]; omega, fun H' s => ⟨FamM_same s ⟨n, dx, _, h1, h2⟩, same_sqt s h2, a, n, S, rfl, h.same s, ⟨S.length, rfl, by omega⟩, rfl⟩, fun z hz => ?_⟩
  have sz := same_new hz (.lst (rs.map V.ref))
  exact q _ z rs sz upd_same (h3.same sz)
theorem sb_of {k : Nat} {X : Cx} (hr : Room k X.A) (hk : 3 ≤ k) : Sub X 1 X.A.in1.in1 := ⟨((hr.mono hk).in1).in1, rfl⟩
end
end K39

/-! [e for a in list for b in range], perms of lists of tuples -/
namespace Gv
open PySem PySem.Spec PyProof.Rows L2 RZ L5
section
variable {K : PySem.W.Frag} {g g1 : TG} {tt tt1 : TT} {te : TE} {vs vs1 : List Nat} {D : Addr}
abbrev In2 (J1 : It) (g1 : TG) (tt1 : TT) (te : TE) (vs1 : List Nat) (D : Addr) (σ2 : L2.St) (H4 : Hp) (Nx : Hp → Prop) : Prop := ∃ W1 : Nat → Nat → Hp → Prop, (∃ m, W1 0 m H4) ∧ ∀ j k H, W1 j k H →
  (J1.stop j H ∧ Nx H) ∨ (J1.go j H ∧ ∃ Nx1 : Hp → Prop, (∀ H', Nx1 H' → ∃ k', k' < k ∧ W1 (j + 1) k' H') ∧ ∀ x H', J1.yld j H x H' → g1 x (wipe σ2 vs1) H' fun σ3 H5 => wipe σ3 vs1 = wipe σ2 vs1 ∧ tt1 σ3 H5 fun b H6 =>
    if b = true then te σ3 H6 fun y H7 => ∃ acc, H7 D = some (.lst acc) ∧ acc.length < sizeLine ∧ Nx1 (upd H7 D (.lst (acc ++ [y]))) else Nx1 H6)
theorem in2_range {lo : Int} {n : Nat} {σ2 : L2.St} {H4 : Hp} {Nx : Hp → Prop} (Pj : Nat → Hp → Prop) (h0 : Pj 0 H4)
    (step : ∀ j H, j < n → Pj j H → g1 (.int (lo + j)) (wipe σ2 vs1) H fun σ3 H5 => wipe σ3 vs1 = wipe σ2 vs1 ∧ tt1 σ3 H5 fun c H6 => if c = true then te σ3 H6 fun z H7 => ∃ acc, H7 D = some (.lst acc) ∧ acc.length < sizeLine ∧ Pj (j + 1) (upd H7 D (.lst (acc ++ [z]))) else Pj (j + 1) H6)
    (done : ∀ H, Pj n H → Nx H) : In2 (Itr lo n) g1 tt1 te vs1 D σ2 H4 Nx := by
  refine ⟨fun j k H => j + k = n ∧ Pj j H, ⟨n, Nat.zero_add _, h0⟩, fun j k H0 hw => ?_⟩
  obtain ⟨e, pj⟩ := hw
  cases k with
  | zero =>
    obtain rfl : j = n := e
    exact .inl ⟨Nat.le_refl _, done H0 pj⟩
  | succ k =>
    have lt : j < n := by omega
    refine .inr ⟨lt, Pj (j + 1), fun H' p' => ⟨k, Nat.lt_succ_self k, by omega, p'⟩, fun x H' out => ?_⟩
    obtain ⟨same, val⟩ := out
    subst same
    subst val
    exact step j _ lt pj
theorem out2_list {a : Addr} {xs : List V} {wi1 : TI} {σ : L2.St} {H1 : Hp} {Qd : Hp → Prop} (Pi : Nat → Hp → Prop) (h0 : Pi 0 (upd H1 D (.lst []))) (at_ : ∀ i H, Pi i H → SqL K H a xs)
    (step : ∀ i x H, xs[i]? = some x → Pi i H → g x (wipe σ vs) H fun σ2 H2 => wipe σ2 vs = wipe σ vs ∧ tt σ2 H2 fun c H3 => if c = true then wi1 σ2 H3 fun J1 H4 => In2 J1 g1 tt1 te vs1 D σ2 H4 (Pi (i + 1)) else Pi (i + 1) H3)
    (done : ∀ H, Pi xs.length H → Qd H) :
    ∃ W : Nat → Nat → Hp → Prop, (∃ m, W 0 m (upd H1 D (.lst []))) ∧ ∀ i m H, W i m H →
      ((Itl K a).stop i H ∧ Qd H) ∨ ((Itl K a).go i H ∧ ∃ Nx : Hp → Prop, (∀ H', Nx H' → ∃ m', m' < m ∧ W (i + 1) m' H') ∧ ∀ x H', (Itl K a).yld i H x H' → g x (wipe σ vs) H' fun σ2 H2 => wipe σ2 vs = wipe σ vs ∧ tt σ2 H2 fun c H3 =>
        if c = true then wi1 σ2 H3 fun J1 H4 => In2 J1 g1 tt1 te vs1 D σ2 H4 Nx else Nx H3) := by
  refine ⟨fun i m H => i + m = xs.length ∧ Pi i H, ⟨xs.length, Nat.zero_add _, h0⟩, fun i m H0 hw => ?_⟩
  obtain ⟨e, pi⟩ := hw
  have here := at_ i H0 pi
  cases m with
  | zero =>
    obtain rfl : i = xs.length := e
    exact .inl ⟨⟨xs, here, Nat.le_refl _⟩, done H0 pi⟩
  | succ m =>
    have lt : i < xs.length := by omega
    refine .inr ⟨⟨xs, xs[i], here, List.getElem?_eq_getElem lt⟩, Pi (i + 1), fun H' p' => ⟨m, Nat.lt_succ_self m, by omega, p'⟩, fun x H' out => ?_⟩
    obtain ⟨same, val⟩ := out
    subst same
    exact step i x _ (val xs here) pi
end
section
variable {K : PySem.W.Frag} {H : Hp}
/-! ### tuples that were sorted -/
theorem perm_back {α β : Type} {f : α → β} : ∀ {ys : List β} {l : List α}, ys.Perm (l.map f) → ∃ l' : List α, l'.Perm l ∧ ys = l'.map f := fun {ys l} p => by
  have key : ∀ {xs ys : List β}, xs.Perm ys → ∀ l : List α, xs = l.map f → ∃ l' : List α, l.Perm l' ∧ ys = l'.map f := fun {xs ys} p => by
    induction p with
    | nil => exact fun l e => ⟨l, List.Perm.refl _, e⟩
    | cons x p ih =>
      intro l e
      cases l with
      | nil => cases e
      | cons a l =>
        obtain ⟨e1, e2⟩ := List.cons.inj e
        obtain ⟨l', p', e'⟩ := ih l e2
        exact ⟨a :: l', p'.cons a, by rw [List.map_cons, ← e1, e']⟩
    | swap x y r =>
      intro l e
      match l, e with
      | [], e => cases e
      | [_], e => cases e
      | a :: b :: l, e =>
        obtain ⟨e1, e2⟩ := List.cons.inj e
        obtain ⟨e3, e4⟩ := List.cons.inj e2
        exact ⟨b :: a :: l, List.Perm.swap b a l, by rw [List.map_cons, List.map_cons, ← e1, ← e3, e4]⟩
    | trans p q ihp ihq =>
      intro l e
      obtain ⟨l1, p1, e1⟩ := ihp l e
      obtain ⟨l2, p2, e2⟩ := ihq l1 e1
      exact ⟨l2, p1.trans p2, e2⟩
  obtain ⟨l', p', e⟩ := key p.symm l rfl
  exact ⟨l', p'.symm, e⟩
theorem tupsI_pairs : ∀ {rs : List Addr} {L : List (List Int)}, TupsI K H rs L → ∃ ks : List (Addr × List Int), rs = ks.map Prod.fst ∧ L = ks.map Prod.snd ∧ ∀ p ∈ ks, SqT K H p.1 (iv p.2)
  | _, _, .nil => ⟨[], rfl, rfl, fun _ h => nomatch h⟩
  | _, _, .cons (a := a) (b := t) h hT => by
    obtain ⟨ks, e1, e2, e3⟩ := tupsI_pairs hT
    refine ⟨(a, t) :: ks, by rw [e1]; rfl, by rw [e2]; rfl, fun p hp => ?_⟩
    rcases List.mem_cons.mp hp with rfl | hp
    · exact h
    · exact e3 p hp
theorem pairs_tupsI : ∀ {ks : List (Addr × List Int)}, (∀ p ∈ ks, SqT K H p.1 (iv p.2)) → TupsI K H (ks.map Prod.fst) (ks.map Prod.snd)
  | [], _ => .nil
  | p :: ks, h => .cons (h p List.mem_cons_self) (pairs_tupsI fun q hq => h q (List.mem_cons_of_mem _ hq))
/-- a list of tuples that is a sequence of known ones -/
theorem tupsI_perm {rs : List Addr} {L : List (List Int)} {ys : List V} (hT : TupsI K H rs L) (p : ys.Perm (rs.map V.ref)) (r : List Int → List Int → Prop) (hr : ys.Pairwise fun x y => ∀ n k, TupI K H x n → TupI K H y k → r n k) :
    ∃ rs' L', ys = rs'.map V.ref ∧ TupsI K H rs' L' ∧ L'.Perm L ∧ L'.Pairwise r := by
  obtain ⟨ks, rfl, rfl, e3⟩ := tupsI_pairs hT
  rw [List.map_map] at p
  obtain ⟨ks', p', rfl⟩ := perm_back p
  have e4 : ∀ p ∈ ks', SqT K H p.1 (iv p.2) := fun q hq => e3 q (p'.mem_iff.mp hq)
  refine ⟨ks'.map Prod.fst, ks'.map Prod.snd, by rw [List.map_map], pairs_tupsI e4, p'.map _, ?_⟩
  rw [List.pairwise_map] at hr ⊢
  exact List.Pairwise.imp_of_mem (fun {a b} ha hb h => h _ _ ⟨_, rfl, e4 a ha⟩ ⟨_, rfl, e4 b hb⟩) hr
end
/-- two sorted lists of the same tuples are one -/
theorem cod_one {m : Nat} {B : Int} (hB : 0 ≤ B) : ∀ {L M : List (List Int)}, L.Perm M → (∀ t ∈ L, TS.Bd B t ∧ t.length ≤ m) → L.Pairwise (fun a b => TM.cod B m a ≤ TM.cod B m b) → M.Pairwise (fun a b => TM.cod B m a ≤ TM.cod B m b) → L = M
  | [], M, p, _, _, _ => (List.nil_perm.mp p).symm
  | x :: a, [], p, _, _, _ => absurd p.length_eq (by simp)
  | x :: a, y :: b, p, hb, ha, hbb => by
    obtain ⟨a1, a2⟩ := List.pairwise_cons.mp ha
    obtain ⟨b1, b2⟩ := List.pairwise_cons.mp hbb
    have hx := hb x List.mem_cons_self
    have hy := hb y (p.mem_iff.mpr List.mem_cons_self)
    have e : x = y := by
      have h1 : x ∈ y :: b := p.mem_iff.mp List.mem_cons_self
      have h2 : y ∈ x :: a := p.mem_iff.mpr List.mem_cons_self
      rcases List.mem_cons.mp h1 with h1 | h1
      · exact h1
      · rcases List.mem_cons.mp h2 with h2 | h2
        · exact h2.symm
        · have e1 := b1 x h1
          have e2 := a1 y h2
          exact TM.cod_inj hB m hx.1 hy.1 hx.2 hy.2 (by omega)
    subst e
    rw [cod_one hB (List.perm_cons x |>.mp p) (fun t ht => hb t (List.mem_cons_of_mem _ ht)) a2 b2]
end Gv

namespace Gs
open PySem PySem.Spec PyProof.Rows L2
/-! ### set(xs) of a list of are, repeats allowed, so that sorted can walk it -/
abbrev bareSet (w : World) : Obj := { cls := .type "set", dict := none, data := .set #[] 0 (.fresh 0 0 (!w.params.followText "set-order")) }
abbrev hp1 (w : World) (s : Shared) : Heap := s.heap.push (bareSet w)
abbrev LI (l : Addr) : Obj := { cls := .type "list_iterator", data := .fields #[.ref l, .int 0 0] }
section
variable {P : Program} {w : World} {A : Around} {E : Value → Shared → Prop} {s : Shared}
theorem set_of_listI {l : Addr} {xs : Array Value} (ns : List Int) {Q : Value → Shared → Prop} (calm : A.handled = none) (isl : s.heap.IsList l xs) (are : IntsAre xs.toList ns) (few : ns.length + 1 < scanBound)
    (goal : ∀ (h2 : Heap) (tk n : Nat), SetR w h2 s.heap.objs.size (fun j => decide (j ∈ ns)) n → n ≤ ns.length → (∀ b o, s.heap.get? b = some o → h2.get? b = some o) → Q (.ref s.heap.objs.size) { s with heap := h2, toks := tk }) :
    wpAny (model P w) A (call (.type "set") [.ref l]) Q E s := by
  have xsz : xs.size = ns.length := by
    rw [← Array.length_toList]
    exact IntsAre.length are
  obtain ⟨c0, tl0, mro0⟩ := F.called_set.mro
  have made0 := F.called_set.made
  have sub0 := F.called_set.sub
  refine wpAny_call (codeAny_of_tree ?_)
  show wpAny _ _ (callAny (.type "set") _) _ _ _
  refine wpAny_pure ⟨Code.quiet_builtin _ (by decide +kernel), codeAny_builtin F.entry_type_call ?_⟩
  rw [Around.under_plain (weight_type_call_type "set" [.ref l] []) rfl]
  have k1 := F.called_set.notType
  have k2 := F.called_set.canCreate
  have k3 := F.typeCall_set_1 (.ref l)
  repeat (any_goals (first | assumption | wp_step))
  refine codeAny_mono (code_set_led1 (.ref l) (E := E) (Q₁ := fun ob t => ob = .ref s.heap.objs.size ∧ t = { s with heap := hp1 w s }) ⟨rfl, rfl⟩) fun r t hr => ?_
  cases r with
  | error e => exact hr
  | ok fl =>
    cases fl with
    | ret ob =>
      obtain ⟨rfl, rfl⟩ := hr
      have atS : (hp1 w s).get? s.heap.objs.size = some (bareSet w) := Heap.get?_push_size _ rfl
      have tyS : Shared.TypeIs { s with heap := hp1 w s } (.ref s.heap.objs.size) "set" := ⟨_, atS, rfl⟩
      have i1 := F.called_set.init.lookup
      have i2 := F.called_set.init.bind (.ref s.heap.objs.size)
      repeat (any_goals (first | assumption | wp_step))
      refine codeAny_mono (codeAny_call_builtin (R := wants (fun r t => r = .none ∧ ∃ h2 tk n, t = { s with heap := h2, toks := tk } ∧ SetR w h2 s.heap.objs.size (fun j => decide (j ∈ ns)) n ∧ n ≤ ns.length ∧
          (∀ b o, s.heap.get? b = some o → h2.get? b = some o)) E) F.called_set.init.plain F.entry_set_init (check_set_init_1 tyS ?_)) fun r3 t3 hr3 => ?_
      · obtain ⟨⟨lc, ld, ldt, lsl⟩, atl, lcls, ln, lda⟩ := isl
        simp only at lcls lda
        subst lcls; subst lda
        have atl1 : (hp1 w s).get? l = some { cls := .type "list", dict := ld, data := .seq xs ln, slots := lsl } := Heap.get?_push_of_some _ atl
        have no1 := F.sub_list_set
        have no2 := F.sub_list_frozenset
        have no3 : (Value.type "list" == Value.type "dict") = false := by decide
        have isl1 : (hp1 w s).IsList l xs := ⟨_, atl1, rfl, ln, rfl⟩
        unfold Builtin.«set.__init__» noKeywords Builtin.Frozenset.updateFrom
        generalize hIt : pyIter = It0
        wp_walk
        subst hIt
        refine wpAny_pyIter_list isl1 ?_
        refine wpAny_bind (wpAny_runValue ?_)
        have lS : l < s.heap.objs.size := Heap.lt_size atl
        have calm3 : A.in1.in1.in1.handled = none := by simp [calm]
        have neI : l ≠ (hp1 w s).objs.size := by
          rw [Heap.size_push]
          exact Nat.ne_of_lt (Nat.lt_trans lS (Nat.lt_succ_self _))
        have neS : s.heap.objs.size ∉ [(hp1 w s).objs.size, l] := by
          rw [Heap.size_push]
          intro z
          simp only [List.mem_cons, List.not_mem_nil, or_false] at z
          rcases z with z | z
          · exact Nat.ne_of_lt (Nat.lt_succ_self _) z
          · exact Nat.ne_of_gt lS z
        have each : ∀ (i : Nat) (v : Value), xs[i]? = some v → ∃ k t, ns[i]? = some k ∧ v = .int k t := fun i v hv => by
          have hi : i < ns.length := by
            rw [← xsz]
            exact (Array.getElem?_eq_some_iff.mp hv).1
          have hv2 : xs.toList[i]? = some v := by rw [Array.getElem?_toList]; exact hv
          obtain ⟨t, e⟩ := PyProof.Rows.IntsAre.int_at are i v hv2
          have e2 : ns.getD i 0 = ns[i] := by rw [List.getD_eq_getElem?_getD, List.getElem?_eq_getElem hi] <;> rfl
          exact ⟨ns[i], t, List.getElem?_eq_getElem hi, by rw [e, e2]⟩
        refine set_update_ints ((Walks.list calm3 _ l neI xs).toS) s.heap.objs.size neS ns xsz few each (xs.size - 0) 0 _ (by omega) (Nat.zero_le _) ⟨⟨_, Heap.get?_push_size _ rfl, rfl, rfl⟩, (isl1.push _)⟩ ?first ?last
        case first =>
          have g0 : ((hp1 w s).push (LI l)).get? s.heap.objs.size = some (bareSet w) := Heap.get?_push_of_some _ atS
          exact ⟨0, Nat.le_refl 0, setR_new_at g0⟩
        case last =>
          intro t n mv hn hS
          obtain ⟨h2, g2, d2, tk2, o2⟩ := t
          obtain rfl : g2 = s.gens := mv.gens
          obtain rfl : d2 = s.drawn := mv.drawn
          obtain rfl : o2 = s.os := mv.os
          show wpAny _ _ _ _ _ _
          refine wpAny_pure ?_
          show wpAny _ _ (ret Value.none) _ _ _
          rw [xsz] at hn
          refine wpAny_pure ⟨rfl, h2, tk2, n, rfl, hS, hn, fun b o e => ?_⟩
          have b0 : b < s.heap.objs.size := Heap.lt_size e
          have b2 : b ∉ [s.heap.objs.size, (hp1 w s).objs.size] := by
            rw [Heap.size_push]
            intro z
            simp only [List.mem_cons, List.not_mem_nil, or_false] at z
            rcases z with z | z
            · exact Nat.ne_of_lt b0 z
            · exact Nat.ne_of_lt (Nat.lt_trans b0 (Nat.lt_succ_self _)) z
          exact mv.heap b o b2 (Heap.get?_push_of_some _ (Heap.get?_push_of_some _ e))
      · cases r3 with
        | error e => exact hr3
        | ok fl3 =>
          cases fl3 with
          | ret r =>
            obtain ⟨rfl, h2, tk, n, rfl, a1, a2, a3⟩ := hr3
            repeat (any_goals (first | assumption | wp_step))
            exact goal _ _ _ a1 a2 a3
          | _ => exact hr3.elim
    | _ => exact hr.elim
end
def rSetLI (K : PySem.W.Frag) (w : World) : List V → Hp → VK → Prop := fun xs H Q => ∃ (l : Addr) (ns : List Int), xs = [V.ref l] ∧ SqL K H l (ns.map V.int) ∧ ns.length ≤ 1000 ∧ ∀ p n, H p = none → n ≤ ns.length → Q (.ref p) (upd H p (SetO w p (fun j => decide (j ∈ ns)) n))
theorem cr_setLI {X : Cx} (hc : X.calm = true) : CallR X (.type "set") (rSetLI X.K X.w) := by
  intro pins s σ H xs us Q I r h
  obtain ⟨l, ns, rfl, hl, hn, q⟩ := h
  rw [Vals.ref1 r]
  obtain ⟨its, rv, pl, hz⟩ := I.list hl
  refine set_of_listI (P := X.prog) (w := X.w) ns (I.ok.hd hc) pl.isList (ints_of_vals rv) (by unfold scanBound; omega) fun h2 tk n R hn2 k => ?_
  exact ⟨.ref s.heap.objs.size, _, I.laid (t' := tk) k (Nat.le_refl _) (setO_new R), rfl, q _ n (I.hok.fresh (Nat.le_refl _)) hn2⟩
end Gs

namespace Gs
open PySem PySem.Spec PyProof.Rows L2
/-- set(t), t a tuple of numbers -/
def rSetTI (K : PySem.W.Frag) (w : World) : List V → Hp → VK → Prop := fun xs H Q => ∃ (l : Addr) (ns : List Int), xs = [V.ref l] ∧ SqT K H l (ns.map V.int) ∧ ns.length ≤ 1000 ∧ ∀ p n, H p = none → n ≤ ns.length → Q (.ref p) (upd H p (SetO w p (fun j => decide (j ∈ ns)) n))
theorem cr_setTI {X : Cx} (hc : X.calm = true) : CallR X (.type "set") (rSetTI X.K X.w) := by
  intro pins s σ H xs us Q I r h
  obtain ⟨l, ns, rfl, hl, hn, q⟩ := h
  rw [Vals.ref1 r]
  obtain ⟨its, rv, pl, hz⟩ := I.tuple hl
  refine call_set_tupI (P := X.prog) (w := X.w) ns (I.ok.hd hc) pl (ints_of_vals rv) (by unfold scanBound; omega) fun h2 tk n R hn2 k => ?_
  exact ⟨.ref s.heap.objs.size, _, I.laid (t' := tk) k (Nat.le_refl _) (setO_new R), rfl, q _ n (I.hok.fresh (Nat.le_refl _)) hn2⟩
end Gs

namespace K39
open PySem PySem.Spec PyProof.Rows L2 RZ L5 XX LK M38
section
variable {K : PySem.W.Frag} {mg : Str → Option Value}
/-- what has been drawn and made -/
structure Dr where
  p : Addr
  ls : Addr
  lm : Addr
  fa : Addr
  qs : List Addr
  n : Nat
  S : List (List Nat)
structure Pu (t : Dr) : Prop where
  n1 : 1 ≤ t.n
  n7 : t.n ≤ 7
  cl : Cl t.n t.S
structure Ev (K : PySem.W.Frag) (C : Addr) (t : Dr) (F : List (Addr × List (List Nat))) (U : List (Addr × List Nat)) (H0 H : Hp) : Prop where
  pail : Pail t.p H
  mem : H t.lm = some (.lst (t.qs.map V.ref))
  memT : TupsU H t.qs t.S
  fam : ∀ x ∈ F, FamAt K C H x.1 t.n x.2
  tup : ∀ x ∈ U, H x.1 = some (.tup (nv x.2))
  tab : LamX.Tabs TBo H
  nlm : t.lm ≠ t.p
  fr : Fr t.p H0 H
theorem Ev.step {C : Addr} {t : Dr} {F : List (Addr × List (List Nat))} {U : List (Addr × List Nat)} {H0 H H' : Hp} (h : Ev K C t F U H0 H) (s : Fr t.p H H') (tab : LamX.Tabs TBo H') (hp : Pail t.p H') : Ev K C t F U H0 H' := by
  have pl := h.pail
  obtain ⟨g, x, c, hp0⟩ := pl
  have ne : ∀ {b : Addr} {o : HO}, H b = some o → o ≠ pailO g x c → b ≠ t.p := fun {b o} e n k => by
    rw [k, hp0] at e
    exact n (Option.some.inj e).symm
  have u : ∀ {rs : List Addr} {L : List (List Nat)}, TupsU H rs L → TupsU H' rs L := fun {rs L} k => k.mono fun b xs e => s _ _ (ne e fun z => nomatch z) e fun _ z => nomatch z
  exact ⟨hp, s _ _ h.nlm h.mem (fun _ z => nomatch z), u h.memT, fun x hx => (h.fam x hx).fr s h.pail, fun x hx => s _ _ (ne (h.tup x hx) fun z => nomatch z) (h.tup x hx) (fun _ z => nomatch z), tab, h.nlm, fr_trans h.fr s⟩
section
variable {C : Addr} {t : Dr} {F : List (Addr × List (List Nat))} {U : List (Addr × List Nat)} {H0 H H' : Hp}
theorem Ev.ext (h : Ev K C t F U H0 H) (s : LamX.ExtN H H') (tab : LamX.Tabs TBo H') : Ev K C t F U H0 H' := h.step (fr_ext s) tab (h.pail.ext s)
theorem Ev.same (h : Ev K C t F U H0 H) (s : Same H H') : Ev K C t F U H0 H' := h.ext (ext_of s) (h.tab.ext s)
theorem Ev.bar (h : Ev K C t F U H0 H) (s : Bar t.p H H') (hp : Pail t.p H') : Ev K C t F U H0 H' := h.step (fr_bar s) (tabs_bar s h.pail h.tab) hp
theorem Ev.addF (h : Ev K C t F U H0 H) (a : Addr) (S : List (List Nat)) (hx : FamAt K C H a t.n S) : Ev K C t ((a, S) :: F) U H0 H := ⟨h.pail, h.mem, h.memT, fun y hy => by
  rcases List.mem_cons.mp hy with e | hy
  · rw [e]
    exact hx
  · exact h.fam y hy, h.tup, h.tab, h.nlm, h.fr⟩
theorem Ev.addU (h : Ev K C t F U H0 H) (a : Addr) (c : List Nat) (hx : H a = some (.tup (nv c))) : Ev K C t F ((a, c) :: U) H0 H := ⟨h.pail, h.mem, h.memT, h.fam, fun y hy => by
  rcases List.mem_cons.mp hy with e | hy
  · rw [e]
    exact hx
  · exact h.tup y hy, h.tab, h.nlm, h.fr⟩
theorem Ev.f0 {a : Addr} {S : List (List Nat)} (h : Ev K C t ((a, S) :: F) U H0 H) : FamAt K C H a t.n S := h.fam (a, S) List.mem_cons_self
theorem Ev.f1 {x : Addr × List (List Nat)} {a : Addr} {S : List (List Nat)} (h : Ev K C t (x :: (a, S) :: F) U H0 H) : FamAt K C H a t.n S := h.fam (a, S) (List.mem_cons_of_mem _ List.mem_cons_self)
theorem Ev.f2 {x y : Addr × List (List Nat)} {a : Addr} {S : List (List Nat)} (h : Ev K C t (x :: y :: (a, S) :: F) U H0 H) : FamAt K C H a t.n S := h.fam (a, S) (List.mem_cons_of_mem _ (List.mem_cons_of_mem _ List.mem_cons_self))
theorem Ev.u0 {a : Addr} {c : List Nat} (h : Ev K C t F ((a, c) :: U) H0 H) : H a = some (.tup (nv c)) := h.tup (a, c) List.mem_cons_self
theorem Ev.u1 {x : Addr × List Nat} {a : Addr} {c : List Nat} (h : Ev K C t F (x :: (a, c) :: U) H0 H) : H a = some (.tup (nv c)) := h.tup (a, c) (List.mem_cons_of_mem _ List.mem_cons_self)
theorem Ev.u2 {x y : Addr × List Nat} {a : Addr} {c : List Nat} (h : Ev K C t F (x :: y :: (a, c) :: U) H0 H) : H a = some (.tup (nv c)) := h.tup (a, c) (List.mem_cons_of_mem _ (List.mem_cons_of_mem _ List.mem_cons_self))
theorem Ev.u3 {x y z : Addr × List Nat} {a : Addr} {c : List Nat} (h : Ev K C t F (x :: y :: z :: (a, c) :: U) H0 H) : H a = some (.tup (nv c)) := h.tup (a, c) (List.mem_cons_of_mem _ (List.mem_cons_of_mem _ (List.mem_cons_of_mem _ List.mem_cons_self)))
theorem Ev.u4 {x y z w : Addr × List Nat} {a : Addr} {c : List Nat} (h : Ev K C t F (x :: y :: z :: w :: (a, c) :: U) H0 H) : H a = some (.tup (nv c)) := h.tup (a, c) (List.mem_cons_of_mem _ (List.mem_cons_of_mem _ (List.mem_cons_of_mem _ (List.mem_cons_of_mem _ List.mem_cons_self))))
theorem rcv {a n : Nat} {S : List (List Nat)} (h : FamAt K C H a n S) : ∃ dx m, H a = some (.ins C dx (famF n m)) := by
  obtain ⟨dx, m, qs, h1, _⟩ := h
  exact ⟨dx, m, h1⟩
theorem do_res {E : XK} {a b : Addr} {S : List (List Nat)} {c : List Nat} {Q : VK} (ev : Ev K C t F U H0 H) (pu : Pu t) (hf : FamAt K C H a t.n S) (cl : Cl t.n S) (hb : SqT K H b (nv c)) (hc : On t.n c)
    (q : ∀ H' x, Ev K C t F U H0 H' → LamX.ExtN H H' → FamAt K C H' x t.n (rst S c) → Q (.ref x) H') : sp_res K C [.ref a, .ref b] H Q E := by
  have n7 := pu.n7
  exact ⟨a, b, t.n, S, c, rfl, hf, cl, pu.n1, by omega, hb, hc, ev.tab, fun H' x e t hx _ => q H' x (ev.ext e t) e hx⟩
theorem do_link {E : XK} {a b : Addr} {S : List (List Nat)} {u : List Nat} {Q : VK} (ev : Ev K C t F U H0 H) (pu : Pu t) (hf : FamAt K C H a t.n S) (cl : Cl t.n S) (hb : SqT K H b (nv u)) (hu : u ∈ S)
    (q : ∀ H' x, Ev K C t F U H0 H' → LamX.ExtN H H' → FamAt K C H' x t.n (lk S u) → Q (.ref x) H') : sp_link K C [.ref a, .ref b] H Q E := by
  have n7 := pu.n7
  exact ⟨a, b, t.n, S, u, rfl, hf, cl, pu.n1, by omega, hb, hu, ev.tab, fun H' x e t hx _ => q H' x (ev.ext e t) e hx⟩
theorem not_pail {z p : Addr} {rs : List Addr} (hz : H z = some (.lst (rs.map V.ref))) (hp : Pail p H) : z ≠ p := fun e => by
  obtain ⟨g, x, c, hp⟩ := hp
  rw [e, hp] at hz
  cases rs with
  | nil => cases hz
  | cons r rs => cases hz
theorem do_pick {E : XK} {p z : Addr} {rs : List Addr} {L : List (List Nat)} {Q : VK} (hp : Pail p H) (hz : H z = some (.lst (rs.map V.ref))) (hT : TupsU H rs L) (ne : L ≠ []) (hl : L.length ≤ 1000)
    (q : ∀ H' a t, Bar p H H' → Pail p H' → t ∈ L → H' a = some (.tup (nv t)) → Q (.ref a) H') : sp_some K [.ref p, .ref z] H Q E := by
  have nz := not_pail hz hp
  obtain ⟨g, x, c, hp⟩ := hp
  have hrl := hT.length
  refine ⟨p, z, _, g, x, c, rfl, hp, nz, SqL.of hz, fun e => ?_, by rw [List.length_map]; omega, fun g1 x1 c1 v hv => ?_⟩
  · rw [List.map_eq_nil_iff] at e
    rw [e] at hrl
    exact ne (List.length_eq_zero_iff.mp hrl.symm)
  · obtain ⟨a, t, rfl, ht, ha⟩ := mem_U hT hv
    refine q _ a t Bar.upd ⟨g1, x1, c1, upd_same⟩ ht ?_
    rw [upd_ne fun e => by rw [e, hp] at ha; cases ha]
    exact ha
end
theorem rg_nv (n : Nat) : rgV 0 ((n : Nat) : Int) = nv (List.range n) := by
  unfold rgV nv
  rw [show ((((n : Nat) : Int) - 0).toNat) = n by omega]
  exact List.map_congr_left fun i _ => congrArg V.int (Int.zero_add _)
theorem asc_ints {ns : List Int} {u : List Nat} (h1 : ns.Pairwise (· < ·)) (h2 : Asc u) (h : ∀ k : Int, k ∈ ns ↔ ∃ x ∈ u, k = ((x : Nat) : Int)) : ns.map V.int = nv u := by
  have e : ns = u.map fun x => ((x : Nat) : Int) := by
    have h3 : (u.map fun x => ((x : Nat) : Int)).Pairwise (· < ·) := List.pairwise_map.mpr (h2.imp fun {a b} (k : a < b) => by show ((a : Nat) : Int) < ((b : Nat) : Int); omega)
    refine perm_eq (R := fun a b : Int => a < b) (fun a b k1 k2 => by omega) (perm_of_mem (h1.imp fun k => Int.ne_of_lt k) (h3.imp fun k => Int.ne_of_lt k) fun k => ?_) h1 h3
    rw [h, List.mem_map]
    exact ⟨fun ⟨x, hx, e⟩ => ⟨x, hx, e.symm⟩, fun ⟨x, hx, e⟩ => ⟨x, hx, e.symm⟩⟩
  rw [e]
  unfold nv
  rw [List.map_map]
  rfl
abbrev σR (t : Dr) (v5 v6 v7 v8 v9 v10 v11 : Option V) : L2.St := [some (.ref t.p), some (.int ((t.n : Nat) : Int)), some (.ref t.ls), some (.ref t.lm), some (.ref t.fa), v5, v6, v7, v8, v9, v10, v11, none]
abbrev rf (a : Addr) : Option V := some (.ref a)
end
section
variable {P : Program} {w : World} {K : PySem.W.Frag} {mg : Str → Option Value} {base : Heap} {cdv : Value} {A : Around} {outer : List Env} {s : Shared} {H0 : Hp} {E : XK}
theorem eqv_LL (L : List (List Nat)) : PyData.eqv (.list (L.map encT)) (.list (L.map encT)) = true := eqv_tups L
theorem st3 (T : Txt K mg) (O : FamT K mg) (t : Dr) (hr : Room 12 (XR T P w base cdv A outer s H0 E).A) : PS (XR T P w base cdv A outer s H0 E) (stR 3)
    (fun D σ H => σ = σR t none none none none none none none ∧ Pu t ∧ Ev K O.C t [(t.fa, t.S)] [] H0 H ∧ ∀ H' a b c d, On t.n c → On t.n d → Ev K O.C t [(t.fa, t.S)] [(a, c), (b, d)] H0 H' → D.nx (σR t (rf a) (rf b) none none none none none) H') := by
  refine PS.weak' (ps_asg (pe_tup (pa_cons (pe_call  (ok_some T) (hr.mono (by decide)) (by rfl) T.m_w_pick T.F_w_pick.kp T.b_w_pick .nil pass0 (pa_cons (pv 0) (pa_cons (pe_call  (ok_subs T) (hr.mono (by decide)) (by rfl) T.m_w_subsets T.F_w_subsets.kp T.b_w_subsets .nil pass0 (pa_cons (pv 1) pa_nil)) pa_nil))) (pa_cons (pe_call  (ok_some T) (hr.mono (by decide)) (by rfl) T.m_w_pick T.F_w_pick.kp T.b_w_pick .nil pass0 (pa_cons (pv 0) (pa_cons (pe_call  (ok_subs T) (hr.mono (by decide)) (by rfl) T.m_w_subsets T.F_w_subsets.kp T.b_w_subsets .nil pass0 (pa_cons (pv 1) pa_nil)) pa_nil))) pa_nil))) (pg_tup (by rfl) (pgs_cons (pg_name (i := 5) sc_w_right.nd rfl (Or.inr rfl)) (pgs_cons (pg_name (i := 6) sc_w_right.nd rfl (Or.inl rfl)) pgs_nil)))) ?i
  case i =>
    rintro D σ H ⟨rfl, pu, ev, q⟩
    have n7 := pu.n7
    have hpow : 2 ^ t.n ≤ 128 := Nat.pow_le_pow_right (n := 2) (by decide) n7
    have nes : subs t.n ≠ [] := fun e => by
      have := len_subs t.n
      rw [e] at this
      exact absurd this.symm (Nat.ne_of_gt (Nat.pow_pos (by decide)))
    refine ⟨_, rfl, _, rfl, t.n, rfl, by omega, fun H1 z ss s1 hz0 hz hS => ?_⟩
    have ev1 := ev.same s1
    dsimp only [tNil, List.cons_append, List.nil_append]
    refine do_pick ev1.pail hz hS nes (by rw [len_subs]; omega) fun H2 a c b2 hp2 hc ha => ?_
    have ev2 := (ev1.bar b2 hp2).addU a c ha
    refine ⟨_, rfl, _, rfl, t.n, rfl, by omega, fun H3 z3 ss3 s3 hz3 hz3' hS3 => ?_⟩
    have ev3 := ev2.same s3
    dsimp only [tNil, List.cons_append, List.nil_append]
    refine do_pick ev3.pail hz3' hS3 nes (by rw [len_subs]; omega) fun H4 b d b4 hp4 hd hb => ?_
    have ev4 := ev3.bar b4 hp4
    have ev5 := ((ev4.addU b d hb).addU a c ev4.u0)
    refine ⟨by show 2 ≤ sizeLine; decide, fun u hu => ?_⟩
    have su := same_new hu (.tup [.ref a, .ref b])
    refine ⟨u, _, rfl, SqT.of upd_same, rfl, _, _, rfl, _, _, rfl, rfl, ?_⟩
    have ev6 := ev5.same su
    refine q _ a b c d (mem_subs.mp hc) (mem_subs.mp hd) ⟨ev6.pail, ev6.mem, ev6.memT, ev6.fam, fun x hx => ev6.tup x ?_, ev6.tab, ev6.nlm, ev6.fr⟩
    rcases List.mem_cons.mp hx with e | hx
    · rw [e]; exact List.mem_cons_self
    · rw [List.mem_singleton.mp hx]; exact List.mem_cons_of_mem _ List.mem_cons_self
theorem st4 (T : Txt K mg) (O : FamT K mg) (TB : LamX.TabB base mg T.c_ordered tO) (t : Dr) (hr : Room 12 (XR T P w base cdv A outer s H0 E).A) : PS (XR T P w base cdv A outer s H0 E) (stR 4)
    (fun D σ H => ∃ a b c d, σ = σR t (rf a) (rf b) none none none none none ∧ Pu t ∧ On t.n c ∧ Ev K O.C t [(t.fa, t.S)] [(a, c), (b, d)] H0 H ∧ ∀ H' x, Ev K O.C t [(x, rst t.S c), (t.fa, t.S)] [(a, c), (b, d)] H0 H' → D.nx (σR t (rf a) (rf b) (rf x) none none none none) H') := by
  refine PS.weak' (ps_set (i := 7) sc_w_right.nd rfl (Or.inl rfl) (pe_meth (pv 4) O.cl O.mR (ok_res T O TB) (hr.mono (by decide)) O.bR .nil pass0 (pa_cons (pv 5) pa_nil))) ?i
  case i =>
    rintro D σ H ⟨a, b, c, d, rfl, pu, oc, ev, q⟩
    have ⟨dx, m, h1⟩ := rcv ev.f0
    refine ⟨_, rfl, t.fa, dx, _, rfl, h1, rfl, _, rfl, ?_⟩
    dsimp only [tNil, List.cons_append, List.nil_append]
    refine do_res ev pu ev.f0 pu.cl (SqT.of ev.u0) oc fun H1 x ev1 e1 hx => ?_
    exact q H1 x (ev1.addF x _ hx)
theorem st5 (T : Txt K mg) (O : FamT K mg) (t : Dr) (hr : Room 12 (XR T P w base cdv A outer s H0 E).A) : PS (XR T P w base cdv A outer s H0 E) (stR 5)
    (fun D σ H => ∃ a b c d x, σ = σR t (rf a) (rf b) (rf x) none none none none ∧ Pu t ∧ On t.n c ∧ Ev K O.C t [(x, rst t.S c), (t.fa, t.S)] [(a, c), (b, d)] H0 H ∧ ∀ H', Ev K O.C t [(x, rst t.S c), (t.fa, t.S)] [(a, c), (b, d)] H0 H' → D.nx (σR t (rf a) (rf b) (rf x) none none none none) H') := by
  refine PS.weak' (ps_if (PW.pt (pw_or (pt_cmpR (op_neD hr.units) (pe_callTy (W7.call_listO (fun _ _ z => z) O.aT O.nT (fam_iterS T O (sb_of hr (by decide)) T.z_iter) O.aN O.nN (ok_lenf T O) (hr.mono (by decide)) O.bN pass0) (by rfl) T.z_list boot_list (pa_cons (pv 7) pa_nil)) (pe_lc (own := [("_law_one", 8)]) (g := gName 8) rfl sc_w_right.nd (pi_list (pv 3)) (blkOk_by (own := [("_law_one", 8)]) (N := N_w_right) (sc := defScope s_w_right) (by decide +kernel)) (fun _ _ _ _ _ => (pg_name (i := 8) sc_w_right.nd rfl (Or.inl rfl))) (fun _ _ _ _ _ => pts_one (pt_val (pe_call  (ok_ins T) (hr.mono (by decide)) (by rfl) T.m_w_inside T.F_w_inside.kp T.b_w_inside .nil pass0 (pa_cons (pv 8) (pa_cons (pv 5) pa_nil))))) (fun _ _ _ _ _ => (pv 8))) (nomark _)) (pw_or1 (pt_cmpR op_ne (pe_prop (E := E0) (pv 7) O.cl O.P1 (ok_cor O) (hr.mono (by decide)) O.b1 .nil pass0 rfl) (pv 1) (nomark _))))) (pss_one (ps_ret pe_bl)) pss_nil) ?i
  case i =>
    rintro D σ H ⟨a, b, c, d, x, rfl, pu, oc, ev, q⟩
    have n7 := pu.n7
    have h256 := pu.cl.few (n := t.n) (by omega)
    have r256 := (pu.cl.rst c).few (by omega)
    refine ⟨_, rfl, ?_⟩
    dsimp only [tNil]
    refine list_fam (K := K) (O := O) ev.f0 (by omega) fun H1 z rs s1 hz hT => ?_
    have ev1 := ev.same s1
    refine ⟨_, rfl, t.lm, rfl, ⟨_, SqL.of ev1.mem⟩, fun D4 hD4 => ?_⟩
    have sD := same_new hD4 (.lst [])
    refine lc_list (K := K) (a := t.lm) (xs := t.qs.map V.ref) (fun i H2 => Same H1 H2 ∧ ∃ ws : List Addr, H2 D4 = some (.lst (ws.map V.ref)) ∧ TupsU H2 ws ((t.S.take i).filter fun u => sbB u c)) ⟨sD, [], upd_same, .nil⟩ (fun i H2 _ hh => SqL.of (hh.1 _ _ ev1.mem)) (fun i y H2 hi hh => ?_) (fun H2 hh => ?_)
    · obtain ⟨s2, ws, eD, hTr⟩ := hh
      obtain ⟨r, u, rfl, _, hu, hr1⟩ := (ev1.memT.same s2).get hi
      have hrl := hTr.length
      have hfl := List.length_filter_le (fun u => sbB u c) (t.S.take i)
      rw [List.length_take] at hfl
      have tl := on_len (pu.cl.on u (List.mem_of_getElem? hu))
      refine ⟨rfl, _, rfl, _, rfl, r, a, u, c, rfl, SqT.of hr1, SqT.of (s2 _ _ ev1.u0), by omega, fun H3 s3 => ⟨_, rfl, ?_⟩⟩
      cases hc : sbB u c with
      | false =>
        refine iteF ⟨s2.trans s3, ws, s3 _ _ eD, ?_⟩
        rw [take_more hu, List.filter_append, List.filter_cons, if_neg (by rw [hc]; decide), List.filter_nil, List.append_nil]
        exact hTr.same s3
      | true =>
        refine iteT ⟨_, rfl, _, s3 _ _ eD, by rw [List.length_map]; exact sizeK (by omega), same_updL (s2.trans s3) hD4, ws ++ [r], by rw [upd_same, List.map_append]; rfl, ?_⟩
        rw [take_more hu, List.filter_append, List.filter_cons, if_pos (by rw [hc]), List.filter_nil]
        have := snocU (t := u) (s2.trans s3) (s3 _ _ eD) (hTr.same s3) (s3 _ _ hr1)
        rw [List.map_append] at this
        exact this
    · obtain ⟨s2, ws, eD, hTr⟩ := hh
      rw [List.length_map, ev1.memT.length, List.take_length] at hTr
      have ev2 := ev1.same s2
      refine ⟨.list ((rst t.S c).map encT), .list ((rst t.S c).map encT), .lst (SqL.of (s2 _ _ hz)) (dp_tups (hT.same s2).tups), .lst (SqL.of eD) (dp_tups hTr.tups), shaped_tups _, shaped_tups _, _, rfl, ?_⟩
      rw [eqv_LL]
      have ⟨dx, m, h1⟩ := rcv ev2.f0
      refine iteF ⟨_, rfl, x, dx, _, rfl, h1, x, t.n, _, rfl, ev2.f0, _, rfl, rfl, _, rfl, ?_⟩
      rw [decide_eq_true rfl]
      exact iteF (q H2 ev2)
theorem st6 (T : Txt K mg) (O : FamT K mg) (TB : LamX.TabB base mg T.c_ordered tO) (t : Dr) (hr : Room 12 (XR T P w base cdv A outer s H0 E).A) : PS (XR T P w base cdv A outer s H0 E) (stR 6)
    (fun D σ H => ∃ a b c d x, σ = σR t (rf a) (rf b) (rf x) none none none none ∧ Pu t ∧ On t.n c ∧ On t.n d ∧ Ev K O.C t [(x, rst t.S c), (t.fa, t.S)] [(a, c), (b, d)] H0 H ∧ ∀ H', Ev K O.C t [(x, rst t.S c), (t.fa, t.S)] [(a, c), (b, d)] H0 H' → D.nx (σR t (rf a) (rf b) (rf x) none none none none) H') := by
  refine PS.weak' (ps_if (PW.pt (pw_or (pt_cmpR (W7.op_neOwn O.hm O.hne O.aE O.nE (ok_eqf T O) (hr.mono (by decide)) O.bE pass0) (pe_meth (pv 7) O.cl O.mR (ok_res T O TB) (hr.mono (by decide)) O.bR .nil pass0 (pa_cons (pv 6) pa_nil)) (pe_meth (pv 4) O.cl O.mR (ok_res T O TB) (hr.mono (by decide)) O.bR .nil pass0 (pa_cons (pe_call  (ok_wcomm T) (hr.mono (by decide)) (by rfl) T.m_w_common T.F_w_common.kp T.b_w_common .nil pass0 (pa_cons (pv 5) (pa_cons (pv 6) pa_nil))) pa_nil)) (nomark _)) (pw_or1 (pt_cmpR (W7.op_neOwn O.hm O.hne O.aE O.nE (ok_eqf T O) (hr.mono (by decide)) O.bE pass0) (pe_meth (pv 4) O.cl O.mR (ok_res T O TB) (hr.mono (by decide)) O.bR .nil pass0 (pa_cons (pe_tupRg rfl (by rfl) T.z_tuple (prg_1 (by rfl) T.z_range (pv 1))) pa_nil)) (pv 4) (nomark _))))) (pss_one (ps_ret pe_bl)) pss_nil) ?i
  case i =>
    rintro D σ H ⟨a, b, c, d, x, rfl, pu, oc, od, ev, q⟩
    have n7 := pu.n7
    have cl := on_len oc
    have ⟨dx, m, h1⟩ := rcv ev.f0
    refine ⟨_, rfl, x, dx, _, rfl, h1, rfl, _, rfl, ?_⟩
    dsimp only [tNil, List.cons_append, List.nil_append]
    refine do_res ev pu ev.f0 (pu.cl.rst c) (SqT.of ev.u1) od fun H1 x1 ev1 e1 hx1 => ?_
    have ⟨df, mf, f1⟩ := rcv ev1.f1
    refine ⟨_, rfl, t.fa, df, _, rfl, f1, rfl, _, rfl, _, rfl, a, b, c, d, rfl, SqT.of ev1.u0, SqT.of ev1.u1, by omega, fun H2 z s2 nz hz => ?_⟩
    have ev2 := ev1.same s2
    dsimp only [tNil, List.cons_append, List.nil_append]
    refine do_res ev2 pu ev2.f1 pu.cl (SqT.of hz) (oc.sub (comm_sub c d)) fun H3 x3 ev3 e3 hx3 => ?_
    have hx1' := (hx1.same s2).ext e3
    have ⟨d1, m1, g1⟩ := rcv hx1'
    have ⟨d3, m3, g3⟩ := rcv hx3
    refine ⟨x1, x3, d1, d3, _, _, rfl, rfl, g1, g3, x1, x3, t.n, _, t.n, _, rfl, hx1', hx3, _, rfl, _, rfl, ?_⟩
    rw [pu.cl.rst2, decide_eq_true rfl, decide_eq_true rfl]
    have ⟨d4, m4, g4⟩ := rcv ev3.f1
    refine iteF ⟨_, rfl, t.fa, d4, _, rfl, g4, rfl, _, rfl, _, rfl, .of_le (by decide) (by omega) (by decide) (by omega), fun z4 hz4 => ?_⟩
    rw [rg_nv]
    have s4 := same_new hz4 (.tup (nv (List.range t.n)))
    have ev4 := ev3.same s4
    dsimp only [tNil, List.cons_append, List.nil_append]
    refine do_res ev4 pu ev4.f1 pu.cl (SqT.of upd_same) (on_range t.n) fun H5 x5 ev5 e5 hx5 => ?_
    have ⟨d5, m5, g5⟩ := rcv hx5
    have ⟨d6, m6, g6⟩ := rcv ev5.f1
    refine ⟨_, rfl, x5, t.fa, d5, d6, _, _, rfl, rfl, g5, g6, x5, t.fa, t.n, _, t.n, _, rfl, hx5, ev5.f1, _, rfl, _, rfl, ?_⟩
    rw [pu.cl.rst_all, decide_eq_true rfl, decide_eq_true rfl]
    exact iteF (q H5 ev5)
end
end K39

namespace K39
open PySem PySem.Spec PyProof.Rows L2 RZ L5 XX LK M38
section
variable {P : Program} {w : World} {K : PySem.W.Frag} {mg : Str → Option Value} {base : Heap} {cdv : Value} {A : Around} {outer : List Env} {s : Shared} {H0 : Hp} {E : XK}
theorem st7 (T : Txt K mg) (O : FamT K mg) (t : Dr) (hr : Room 12 (XR T P w base cdv A outer s H0 E).A) : PS (XR T P w base cdv A outer s H0 E) (stR 7)
    (fun D σ H => ∃ a b c d x, σ = σR t (rf a) (rf b) (rf x) none none none none ∧ Pu t ∧ Ev K O.C t [(x, rst t.S c), (t.fa, t.S)] [(a, c), (b, d)] H0 H ∧ (∀ H', Ev K O.C t [(x, rst t.S c), (t.fa, t.S)] [(a, c), (b, d)] H0 H' → D.rt (.bl true) H') ∧ (t.S ≠ [] → ∀ H', Ev K O.C t [(x, rst t.S c), (t.fa, t.S)] [(a, c), (b, d)] H0 H' → D.nx (σR t (rf a) (rf b) (rf x) none none none none) H')) := by
  refine PS.weak' (ps_if (pt_cmpR (op_eqD hr.units) (pv 3) (pe_lst pa_nil) (nomark _)) (pss_one (ps_ret (pe_cmpR (op_eqD hr.units) (pe_callTy (W7.call_listO (fun _ _ z => z) O.aT O.nT (fam_iterS T O (sb_of hr (by decide)) T.z_iter) O.aN O.nN (ok_lenf T O) (hr.mono (by decide)) O.bN pass0) (by rfl) T.z_list boot_list (pa_cons (pv 7) pa_nil)) (pe_lst pa_nil) (nomark _)))) pss_nil) ?i
  case i =>
    rintro D σ H ⟨a, b, c, d, x, rfl, pu, ev, q1, q2⟩
    refine ⟨_, rfl, Nat.zero_le _, fun p hp => ?_⟩
    have sp := same_new hp (.lst [])
    have ev1 := ev.same sp
    refine ⟨_, _, .lst (SqL.of ev1.mem) (dp_tups ev1.memT.tups), .lst (SqL.of upd_same) .nil, shaped_tups _, shaped_nil, _, rfl, ?_⟩
    rw [eqv_tupsNil]
    generalize (upd H p (.lst [])) = H1 at ev1 ⊢
    cases hS : t.S with
    | cons u U =>
      refine iteF (q2 (by rw [hS]; exact List.cons_ne_nil _ _) H1 ?_)
      exact ev1
    | nil =>
      have eR : rst t.S c = [] := by rw [hS]; rfl
      refine iteT ⟨_, rfl, ?_⟩
      dsimp only [tNil]
      refine list_fam (K := K) (O := O) ev1.f0 (by rw [eR]; decide) fun H2 z rs s2 hz hT => ?_
      have ev2 := ev1.same s2
      rw [eR] at hT
      refine ⟨Nat.zero_le _, fun p2 hp2 => ?_⟩
      have s3 := same_new hp2 (.lst [])
      refine ⟨_, _, .lst (SqL.of (s3 _ _ hz)) (dp_tups (hT.same s3).tups), .lst (SqL.of upd_same) .nil, shaped_tups _, shaped_nil, ?_⟩
      rw [eqv_tupsNil]
      exact q1 _ (ev2.same s3)
theorem st8 (T : Txt K mg) (O : FamT K mg) (t : Dr) (hr : Room 12 (XR T P w base cdv A outer s H0 E).A) : PS (XR T P w base cdv A outer s H0 E) (stR 8)
    (fun D σ H => ∃ v5 v6 v7 F U, σ = σR t v5 v6 v7 none none none none ∧ Pu t ∧ t.S ≠ [] ∧ Ev K O.C t F U H0 H ∧ ∀ H' y m, m ∈ t.S → Ev K O.C t F ((y, m) :: U) H0 H' → D.nx (σR t v5 v6 v7 (rf y) none none none) H') := by
  refine PS.weak' (ps_set (i := 8) sc_w_right.nd rfl (Or.inr rfl) (pe_call  (ok_some T) (hr.mono (by decide)) (by rfl) T.m_w_pick T.F_w_pick.kp T.b_w_pick .nil pass0 (pa_cons (pv 0) (pa_cons (pv 3) pa_nil)))) ?i
  case i =>
    rintro D σ H ⟨v5, v6, v7, F, U, rfl, pu, ne, ev, q⟩
    have n7 := pu.n7
    have h256 := pu.cl.few (n := t.n) (by omega)
    refine ⟨_, rfl, _, rfl, ?_⟩
    dsimp only [tNil, List.cons_append, List.nil_append]
    refine do_pick ev.pail ev.mem ev.memT ne (by omega) fun H1 y m b1 hp1 hm hy => ?_
    exact q H1 y m hm ((ev.bar b1 hp1).addU y m hy)
theorem st9 (T : Txt K mg) (O : FamT K mg) (TB : LamX.TabB base mg T.c_ordered tO) (t : Dr) (hr : Room 12 (XR T P w base cdv A outer s H0 E).A) : PS (XR T P w base cdv A outer s H0 E) (stR 9)
    (fun D σ H => ∃ v5 v6 v7 y m U G, σ = σR t v5 v6 v7 (rf y) none none none ∧ Pu t ∧ m ∈ t.S ∧ Ev K O.C t [G, (t.fa, t.S)] ((y, m) :: U) H0 H ∧ ∀ H' x, Ev K O.C t [(x, lk t.S m), G, (t.fa, t.S)] ((y, m) :: U) H0 H' → D.nx (σR t v5 v6 v7 (rf y) (rf x) none none) H') := by
  refine PS.weak' (ps_set (i := 9) sc_w_right.nd rfl (Or.inl rfl) (pe_meth (pv 4) O.cl O.mL (ok_link T O TB) (hr.mono (by decide)) O.bL .nil pass0 (pa_cons (pv 8) pa_nil))) ?i
  case i =>
    rintro D σ H ⟨v5, v6, v7, y, m, U, G, rfl, pu, hm, ev, q⟩
    have ⟨dx, ms, h1⟩ := rcv ev.f1
    refine ⟨_, rfl, t.fa, dx, _, rfl, h1, rfl, _, rfl, ?_⟩
    dsimp only [tNil, List.cons_append, List.nil_append]
    refine do_link ev pu ev.f1 pu.cl (SqT.of ev.u0) hm fun H1 x ev1 e1 hx => ?_
    exact q H1 x (ev1.addF x _ hx)
theorem st10 (T : Txt K mg) (O : FamT K mg) (TB : LamX.TabB base mg T.c_ordered tO) (t : Dr) (hr : Room 12 (XR T P w base cdv A outer s H0 E).A) : PS (XR T P w base cdv A outer s H0 E) (stR 10)
    (fun D σ H => ∃ v5 v6 v7 y m x U G, σ = σR t v5 v6 v7 (rf y) (rf x) none none ∧ Pu t ∧ m ∈ t.S ∧ Ev K O.C t [(x, lk t.S m), G, (t.fa, t.S)] ((y, m) :: U) H0 H ∧ ∀ H', Ev K O.C t [(x, lk t.S m), G, (t.fa, t.S)] ((y, m) :: U) H0 H' → D.nx (σR t v5 v6 v7 (rf y) (rf x) none none) H') := by
  refine PS.weak' (ps_if (PW.pt (pw_or (pt_cmpR (op_neD hr.units) (pe_callTy (W7.call_listO (fun _ _ z => z) O.aT O.nT (fam_iterS T O (sb_of hr (by decide)) T.z_iter) O.aN O.nN (ok_lenf T O) (hr.mono (by decide)) O.bN pass0) (by rfl) T.z_list boot_list (pa_cons (pv 9) pa_nil)) (pe_call  (ok_wlink T) (hr.mono (by decide)) (by rfl) T.m_w_link T.F_w_link.kp T.b_w_link .nil pass0 (pa_cons (pv 3) (pa_cons (pv 8) pa_nil))) (nomark _)) (pw_or (pt_cmpR op_ne (pe_prop (E := E0) (pv 9) O.cl O.P1 (ok_cor O) (hr.mono (by decide)) O.b1 .nil pass0 rfl) (pv 1) (nomark _)) (pw_or (pt_cmpR (W7.op_neOwn O.hm O.hne O.aE O.nE (ok_eqf T O) (hr.mono (by decide)) O.bE pass0) (pe_meth (pv 4) O.cl O.mL (ok_link T O TB) (hr.mono (by decide)) O.bL .nil pass0 (pa_cons (pe_tup pa_nil) pa_nil)) (pv 4) (nomark _)) (pw_or1 (pt_cmpR (W7.op_notinOwn O.aH O.nH (ok_hasf T O) (hr.mono (by decide)) O.bH pass0) (pe_tup pa_nil) (pv 9) (by rfl))))))) (pss_one (ps_ret pe_bl)) pss_nil) ?i
  case i =>
    rintro D σ H ⟨v5, v6, v7, y, m, x, U, G, rfl, pu, hm, ev, q⟩
    have n7 := pu.n7
    have om := pu.cl.on m hm
    have lm := on_len om
    have cL := pu.cl.lk om
    have h256 := pu.cl.few (n := t.n) (by omega)
    have l256 := cL.few (by omega)
    refine ⟨_, rfl, ?_⟩
    dsimp only [tNil]
    refine list_fam (K := K) (O := O) ev.f0 (by omega) fun H1 z rs s1 hz hT => ?_
    have ev1 := ev.same s1
    refine ⟨_, rfl, _, rfl, t.lm, y, t.qs, t.S, m, rfl, SqL.of ev1.mem, ev1.memT, ev1.u0, h256, fun u hu => by have := on_len (pu.cl.on u hu); omega, by omega, fun H2 z2 rs2 s2 nz2 hz2 hT2 => ?_⟩
    rw [← pu.cl.lk_llk om] at hT2
    have ev2 := ev1.same s2
    refine ⟨.list ((lk t.S m).map encT), .list ((lk t.S m).map encT), .lst (SqL.of (s2 _ _ hz)) (dp_tups (hT.same s2).tups), .lst (SqL.of hz2) (dp_tups hT2.tups), shaped_tups _, shaped_tups _, _, rfl, ?_⟩
    rw [eqv_LL]
    have ⟨dx, ms, h1⟩ := rcv ev2.f0
    refine iteF ⟨_, rfl, x, dx, _, rfl, h1, x, t.n, _, rfl, ev2.f0, _, rfl, rfl, _, rfl, ?_⟩
    rw [decide_eq_true rfl]
    have ⟨df, mf, f1⟩ := rcv ev2.f2
    refine iteF ⟨_, rfl, t.fa, df, _, rfl, f1, rfl, Nat.zero_le _, fun z3 hz3 => ?_⟩
    have s3 := same_new hz3 (.tup (nv []))
    have ev3 := ev2.same s3
    dsimp only [tNil, List.cons_append, List.nil_append]
    have nilm : [] ∈ t.S := pu.cl.cl hm (List.nil_sublist m)
    refine do_link (u := []) ev3 pu ev3.f2 pu.cl (SqT.of upd_same) nilm fun H4 x4 ev4 e4 hx4 => ?_
    rw [pu.cl.lk_nil] at hx4
    have ⟨d4, m4, g4⟩ := rcv hx4
    have ⟨d5, m5, g5⟩ := rcv ev4.f2
    refine ⟨_, rfl, x4, t.fa, d4, d5, _, _, rfl, rfl, g4, g5, x4, t.fa, t.n, _, t.n, _, rfl, hx4, ev4.f2, _, rfl, _, rfl, ?_⟩
    rw [decide_eq_true rfl, decide_eq_true rfl]
    refine iteF ⟨Nat.zero_le _, fun z5 hz5 => ?_⟩
    have s5 := same_new hz5 (.tup (nv []))
    have ev5 := ev4.same s5
    have ⟨d6, m6, g6⟩ := rcv ev5.f0
    refine ⟨_, rfl, x, d6, _, rfl, g6, x, .ref z5, _, t.n, _, rfl, ev5.f0, va_on (n := t.n) (t := []) (SqT.of upd_same) (on_nil t.n) (by omega), by omega, fun H6 s6 => ⟨_, rfl, ?_⟩⟩
    rw [hasB_on (on_nil t.n), decide_eq_true (pu.cl.nil_mem hm)]
    refine ⟨_, rfl, iteF (q H6 (ev5.same s6))⟩
theorem st11 (T : Txt K mg) (O : FamT K mg) (t : Dr) (hr : Room 12 (XR T P w base cdv A outer s H0 E).A) : PS (XR T P w base cdv A outer s H0 E) (stR 11)
    (fun D σ H => ∃ v5 v6 v7 y m x U F, σ = σR t v5 v6 v7 (rf y) (rf x) none none ∧ Pu t ∧ m ∈ t.S ∧ Ev K O.C t ((x, lk t.S m) :: F) U H0 H ∧ ∀ H' z u, u ∈ lk t.S m → Ev K O.C t ((x, lk t.S m) :: F) ((z, u) :: U) H0 H' → D.nx (σR t v5 v6 v7 (rf y) (rf x) (rf z) none) H') := by
  refine PS.weak' (ps_set (i := 10) sc_w_right.nd rfl (Or.inl rfl) (pe_call  (ok_some T) (hr.mono (by decide)) (by rfl) T.m_w_pick T.F_w_pick.kp T.b_w_pick .nil pass0 (pa_cons (pv 0) (pa_cons (pe_callTy (W7.call_listO (fun _ _ z => z) O.aT O.nT (fam_iterS T O (sb_of hr (by decide)) T.z_iter) O.aN O.nN (ok_lenf T O) (hr.mono (by decide)) O.bN pass0) (by rfl) T.z_list boot_list (pa_cons (pv 9) pa_nil)) pa_nil)))) ?i
  case i =>
    rintro D σ H ⟨v5, v6, v7, y, m, x, U, F, rfl, pu, hm, ev, q⟩
    have n7 := pu.n7
    have om := pu.cl.on m hm
    have l256 := (pu.cl.lk om).few (by omega)
    have nl : lk t.S m ≠ [] := fun e => by
      have := pu.cl.nil_mem hm
      rw [e] at this
      cases this
    refine ⟨_, rfl, _, rfl, ?_⟩
    dsimp only [tNil]
    refine list_fam (K := K) (O := O) ev.f0 (by omega) fun H1 z rs s1 hz hT => ?_
    have ev1 := ev.same s1
    dsimp only [tNil, List.cons_append, List.nil_append]
    refine do_pick ev1.pail hz hT nl (by omega) fun H2 z2 u b2 hp2 hu hz2 => ?_
    exact q H2 z2 u hu ((ev1.bar b2 hp2).addU z2 u hz2)
theorem st12 (T : Txt K mg) (O : FamT K mg) (TB : LamX.TabB base mg T.c_ordered tO) (t : Dr) (hr : Room 12 (XR T P w base cdv A outer s H0 E).A) : PS (XR T P w base cdv A outer s H0 E) (stR 12)
    (fun D σ H => ∃ v5 v6 v7 y m x z u U G, σ = σR t v5 v6 v7 (rf y) (rf x) (rf z) none ∧ Pu t ∧ m ∈ t.S ∧ u ∈ lk t.S m ∧ Ev K O.C t [(x, lk t.S m), G, (t.fa, t.S)] ((z, u) :: (y, m) :: U) H0 H ∧ ∀ H', Ev K O.C t [(x, lk t.S m), G, (t.fa, t.S)] ((z, u) :: (y, m) :: U) H0 H' → D.nx (σR t v5 v6 v7 (rf y) (rf x) (rf z) none) H') := by
  refine PS.weak' (ps_if (pt_cmpR (W7.op_neOwn O.hm O.hne O.aE O.nE (ok_eqf T O) (hr.mono (by decide)) O.bE pass0) (pe_meth (pv 9) O.cl O.mL (ok_link T O TB) (hr.mono (by decide)) O.bL .nil pass0 (pa_cons (pv 10) pa_nil)) (pe_meth (pv 4) O.cl O.mL (ok_link T O TB) (hr.mono (by decide)) O.bL .nil pass0 (pa_cons (pe_callTy call_tuple_of (by rfl) T.z_tuple boot_tuple (pa_cons (pe_callB (RS.cr_sortTN hr.units) (by rfl) T.z_sorted boot_sorted (pa_cons (pe_op op_catU (pv 8) (pv 10)) pa_nil)) pa_nil)) pa_nil)) (nomark _)) (pss_one (ps_ret pe_bl)) pss_nil) ?i
  case i =>
    rintro D σ H ⟨v5, v6, v7, y, m, x, z, u, U, G, rfl, pu, hm, hu, ev, q⟩
    have n7 := pu.n7
    have om := pu.cl.on m hm
    have cL := pu.cl.lk om
    have ku := (pu.cl.mem_lk om).mp hu
    have l1 := on_len om
    have l2 := on_len ku.1
    have ⟨dx, mx, h1⟩ := rcv ev.f0
    refine ⟨_, rfl, x, dx, _, rfl, h1, rfl, _, rfl, ?_⟩
    dsimp only [tNil, List.cons_append, List.nil_append]
    refine do_link ev pu ev.f0 cL (SqT.of ev.u0) hu fun H1 x1 ev1 e1 hx1 => ?_
    have ⟨df, mf, f1⟩ := rcv ev1.f2
    refine ⟨_, rfl, t.fa, df, _, rfl, f1, rfl, _, rfl, _, rfl, y, z, _, _, rfl, rfl, ev1.u1, ev1.u0, by rw [nv_len, nv_len]; exact Nat.le_of_lt (sizeK (by omega)), fun H2 z2 s2 hz2 => ?_⟩
    rw [nv_app] at hz2
    refine ⟨z2, m ++ u, rfl, SqT.of hz2, fun p3 hp3 => ?_⟩
    rw [srt_un om ku.1 ku.2.1]
    have s3 := same_new hp3 (.lst (nv (un t.n m u)))
    refine ⟨p3, _, rfl, .inl ⟨SqL.of upd_same, fun z4 hz4 => ?_⟩⟩
    have s4 := same_new hz4 (.tup (nv (un t.n m u)))
    have S4 := s2.trans (s3.trans s4)
    have ev4 := ev1.same S4
    dsimp only [tNil, List.cons_append, List.nil_append]
    refine do_link ev4 pu ev4.f2 pu.cl (SqT.of upd_same) (pu.cl.un_in om hu) fun H5 x5 ev5 e5 hx5 => ?_
    have hx1' := (hx1.same S4).ext e5
    have ⟨d1, m1, g1⟩ := rcv hx1'
    have ⟨d5, m5, g5⟩ := rcv hx5
    refine ⟨x1, x5, d1, d5, _, _, rfl, rfl, g1, g5, x1, x5, t.n, _, t.n, _, rfl, hx1', hx5, _, rfl, _, rfl, ?_⟩
    rw [pu.cl.lk2 om hu, decide_eq_true rfl, decide_eq_true rfl]
    exact iteF (q H5 ev5)
theorem st13 (T : Txt K mg) (O : FamT K mg) (t : Dr) (hr : Room 12 (XR T P w base cdv A outer s H0 E).A) : PS (XR T P w base cdv A outer s H0 E) (stR 13)
    (fun D σ H => ∃ a b c d v7 y m v9 z u F, σ = σR t (rf a) (rf b) v7 (rf y) v9 (rf z) none ∧ Pu t ∧ On t.n c ∧ On t.n m ∧ Ev K O.C t F [(z, u), (y, m), (a, c), (b, d)] H0 H ∧ ∀ H' e, Ev K O.C t F [(e, un t.n c m), (z, u), (y, m), (a, c), (b, d)] H0 H' → D.nx (σR t (rf a) (rf b) v7 (rf y) v9 (rf z) (rf e)) H') := by
  refine PS.weak' (ps_set (i := 11) sc_w_right.nd rfl (Or.inl rfl) (pe_callTy call_tuple_of (by rfl) T.z_tuple boot_tuple (pa_cons (pe_callB (cr_sortedSet rfl) (by rfl) T.z_sorted (by decide +kernel) (pa_cons (pe_callTy (Gs.cr_setTI rfl) (by rfl) T.z_set PyProof.Rows.boot_set (pa_cons (pe_op op_catU (pv 5) (pv 8)) pa_nil)) pa_nil)) pa_nil))) ?i
  case i =>
    rintro D σ H ⟨a, b, c, d, v7, y, m, v9, z, u, F, rfl, pu, oc, om, ev, q⟩
    have n7 := pu.n7
    have l1 := on_len om
    have l2 := on_len oc
    refine ⟨_, rfl, _, rfl, a, y, _, _, rfl, rfl, ev.u2, ev.u1, by rw [nv_len, nv_len]; exact Nat.le_of_lt (sizeK (by omega)), fun H1 z1 s1 hz1 => ?_⟩
    rw [nv_app] at hz1
    have hl : ((c ++ m).map fun n => ((n : Nat) : Int)).length ≤ 16 := by
      rw [List.length_map, List.length_append]
      omega
    refine ⟨z1, (c ++ m).map fun n => ((n : Nat) : Int), rfl, SqT.of (by rw [hz1, nv_ints]), by omega, fun p2 k hp2 hk => ?_⟩
    have s2 := same_new hp2 (SetO w p2 (fun j => decide (j ∈ (c ++ m).map fun n => ((n : Nat) : Int))) k)
    refine ⟨p2, _, k, rfl, upd_same, by omega, fun ns p3 asc mem len hp3 => ?_⟩
    have en : ns.map V.int = nv (un t.n c m) := by
      refine asc_ints asc (on_un t.n c m).1 fun j => ?_
      rw [mem, decide_eq_true_iff, List.mem_map]
      constructor
      · rintro ⟨x, hx, rfl⟩
        have hx' := List.mem_append.mp hx
        exact ⟨x, mem_un.mpr ⟨hx'.elim (oc.2 x) (om.2 x), hx'⟩, rfl⟩
      · rintro ⟨x, hx, rfl⟩
        exact ⟨x, List.mem_append.mpr (mem_un.mp hx).2, rfl⟩
    rw [en]
    have s3 := same_new hp3 (.lst (nv (un t.n c m)))
    refine ⟨p3, _, rfl, .inl ⟨SqL.of upd_same, fun z4 hz4 => ?_⟩⟩
    have s4 := same_new hz4 (.tup (nv (un t.n c m)))
    exact q _ z4 ((ev.same (s1.trans (s2.trans (s3.trans s4)))).addU z4 _ upd_same)
theorem st14 (T : Txt K mg) (O : FamT K mg) (TB : LamX.TabB base mg T.c_ordered tO) (t : Dr) (hr : Room 12 (XR T P w base cdv A outer s H0 E).A) : PS (XR T P w base cdv A outer s H0 E) (stR 14)
    (fun D σ H => ∃ v5 v6 c v7 y m x v10 z u e U G, σ = σR t v5 v6 v7 (rf y) (rf x) v10 (rf e) ∧ Pu t ∧ m ∈ t.S ∧ Ev K O.C t [(x, lk t.S m), G, (t.fa, t.S)] ((e, un t.n c m) :: (z, u) :: (y, m) :: U) H0 H ∧ ∀ H', Ev K O.C t [(x, lk t.S m), G, (t.fa, t.S)] ((e, un t.n c m) :: (z, u) :: (y, m) :: U) H0 H' → D.rt (.bl true) H') := by
  refine PS.weak' (ps_ret (pe_cmpR (W7.op_eqOwn O.aE O.nE (ok_eqf T O) (hr.mono (by decide)) O.bE pass0) (pe_meth (pe_meth (pv 4) O.cl O.mR (ok_res T O TB) (hr.mono (by decide)) O.bR .nil pass0 (pa_cons (pv 11) pa_nil)) O.cl O.mL (ok_link T O TB) (hr.mono (by decide)) O.bL .nil pass0 (pa_cons (pv 8) pa_nil)) (pe_meth (pv 9) O.cl O.mR (ok_res T O TB) (hr.mono (by decide)) O.bR .nil pass0 (pa_cons (pe_callTy call_tuple_of (by rfl) T.z_tuple boot_tuple (pa_cons (pe_lc (own := [("_law_corner", 12)]) (g := gName 12) rfl sc_w_right.nd (pi_tup (pv 11)) (blkOk_by (own := [("_law_corner", 12)]) (N := N_w_right) (sc := defScope s_w_right) (by decide +kernel)) (fun _ _ _ _ _ => (pg_name (i := 12) sc_w_right.nd rfl (Or.inl rfl))) (fun _ _ _ _ _ => pts_one (pt_cmpR (show OpR _ _ (rIn K true) from op_notIn_seq) (pv 12) (pv 8) (by rfl))) (fun _ _ _ _ _ => (pv 12))) pa_nil)) pa_nil)) (nomark _))) ?i
  case i =>
    rintro D σ H ⟨v5, v6, c, v7, y, m, x, v10, z, u, e, U, G, rfl, pu, hm, ev, q⟩
    have n7 := pu.n7
    have om := pu.cl.on m hm
    have hin : ∀ k ∈ m, k ∈ un t.n c m := fun k hk => mem_un.mpr ⟨om.2 k hk, .inr hk⟩
    have ou := on_un t.n c m
    have lu := on_len ou
    generalize un t.n c m = r at ev q hin ou lu
    have ⟨df, mf, f1⟩ := rcv ev.f2
    refine ⟨_, rfl, t.fa, df, _, rfl, f1, rfl, _, rfl, ?_⟩
    dsimp only [tNil, List.cons_append, List.nil_append]
    refine do_res ev pu ev.f2 pu.cl (SqT.of ev.u0) ou fun H1 x1 ev1 e1 hx1 => ?_
    have ⟨d1, m1, g1⟩ := rcv hx1
    refine ⟨x1, d1, _, rfl, g1, rfl, _, rfl, ?_⟩
    dsimp only [tNil, List.cons_append, List.nil_append]
    refine do_link ev1 pu hx1 (pu.cl.rst r) (SqT.of ev1.u2) (mem_rst.mpr ⟨hm, hin⟩) fun H2 x2 ev2 e2 hx2 => ?_
    have ⟨dl, ml, g2⟩ := rcv ev2.f0
    refine ⟨_, rfl, x, dl, _, rfl, g2, rfl, _, rfl, e, rfl, ⟨_, SqT.of ev2.u0⟩, fun D4 hD4 => ?_⟩
    have sD := same_new hD4 (.lst [])
    have he2 := ev2.u0
    have hy2 := ev2.u2
    refine lc_tup (K := K) (a := e) (xs := nv r) (fun j H4 => Same H2 H4 ∧ H4 D4 = some (.lst (nv ((r.take j).filter fun x => !decide (x ∈ m))))) ⟨sD, upd_same⟩ (fun j H4 _ hh => SqT.of (hh.1 _ _ he2)) (fun j v H4 hv hh => ?_) (fun H4 hh => ?_)
    · obtain ⟨s4, eD⟩ := hh
      obtain ⟨k, hk, rfl⟩ := nv_get hv
      have hfl := List.length_filter_le (fun x => !decide (x ∈ m)) (r.take j)
      rw [List.length_take] at hfl
      have fs := flt_step (H := H4) (D := D4) (p := fun x => !decide (x ∈ m)) hk
      refine ⟨rfl, _, rfl, _, rfl, y, nv m, rfl, .inr (SqT.of (s4 _ _ hy2)), rfl, flat_nv m, _, rfl, ?_⟩
      rw [inV_nv, show (if true = true then !m.contains k else m.contains k) = !m.contains k from rfl, con_dec]
      cases hc : decide (k ∈ m) with
      | true => exact iteF ⟨s4, by rw [fs.2 (by rw [hc]; rfl)]; exact eD⟩
      | false => exact iteT ⟨_, rfl, _, eD, by rw [nv_len]; exact sizeK (by omega), same_updL s4 hD4, fs.1 (by rw [hc]; rfl)⟩
    · obtain ⟨s4, eD⟩ := hh
      rw [nv_len, List.take_length] at eD
      refine ⟨D4, _, rfl, .inl ⟨SqL.of eD, fun z5 hz5 => ?_⟩⟩
      have s5 := same_new hz5 (.tup (nv (mns r m)))
      have S5 := s4.trans s5
      have ev5 := ev2.same S5
      dsimp only [tNil, List.cons_append, List.nil_append]
      refine do_res ev5 pu ev5.f0 (pu.cl.lk om) (SqT.of (xs := nv (mns r m)) upd_same) (ou.sub (mns_sub r m)) fun H6 x6 ev6 e6 hx6 => ?_
      have hx2' := (hx2.same S5).ext e6
      have ⟨d2, m2, k2⟩ := rcv hx2'
      have ⟨d6, m6, k6⟩ := rcv hx6
      refine ⟨x2, x6, d2, d6, _, _, rfl, rfl, k2, k6, x2, x6, t.n, _, t.n, _, rfl, hx2', hx6, ?_⟩
      rw [pu.cl.rst_lk om hin, decide_eq_true rfl, decide_eq_true rfl]
      exact q H6 ev6
end
end K39

namespace K39
open PySem PySem.Spec PyProof.Rows L2 RZ L5 XX LK M38
section
variable {P : Program} {w : World} {K : PySem.W.Frag} {mg : Str → Option Value} {base : Heap}
theorem FS.cl {n : Nat} {G S : List (List Nat)} (h : FS n G S) : Cl n S := ⟨h.fam.nd, h.onS, fun ht hu => h.fam.closed ht hu, h.fam.asc⟩
theorem Cl.fs {n : Nat} {S : List (List Nat)} (h : Cl n S) (hn : n ≤ 8) : FS n S S := ⟨h.fam, h.on, hn⟩
def sp_right : Sp := fun vs H Q _ => ∃ (p : Addr), vs = [.ref p] ∧ Pail p H ∧ LamX.Tabs TBo H ∧ ∀ H', Fr p H H' → Pail p H' → LamX.Tabs TBo H' → Q (.bl true) H'
theorem ok_right (T : Txt K mg) (O : FamT K mg) (TB : LamX.TabB base mg T.c_ordered tO) : FnOk P w K mg base CX0 13 T.a_w_right T.d_w_right ["_law_pot_here"] sp_right := by
  refine T.F_w_right.ok sc_w_right (fun vs H Q E h => ?_) (fun cdv A outer s H vs Q E hr h => ?_)
  · obtain ⟨p, rfl, _⟩ := h
    rfl
  · obtain ⟨p, rfl, ⟨g, x, c, hp⟩, tab, q⟩ := h
    refine ⟨_, pss_cons (ps_set (i := 1) sc_w_right.nd rfl (Or.inl rfl) (pe_op op_add pe_int (pe_call  (ok_dip T) (hr.mono (by decide)) (by rfl) T.m_w_dip T.F_w_dip.kp T.b_w_dip .nil pass0 (pa_cons (pv 0) (pa_cons pe_int pa_nil))))) (pss_cons (ps_set (i := 2) sc_w_right.nd rfl (Or.inl rfl) (pe_call  (ok_wsets T) (hr.mono (by decide)) (by rfl) T.m_w_sets T.F_w_sets.kp T.b_w_sets .nil pass0 (pa_cons (pv 0) (pa_cons (pv 1) pa_nil)))) (pss_cons (ps_par (i := 3) (j := 4) (by rfl) sc_w_right.nd rfl rfl (by decide) rfl rfl (pa_cons (pe_call  (ok_wall T) (hr.mono (by decide)) (by rfl) T.m_w_all T.F_w_all.kp T.b_w_all .nil pass0 (pa_cons (pv 1) (pa_cons (pv 2) pa_nil))) (pa_cons (pe_make O.M (ok_init T O TB) (hr.mono (by decide)) rfl O.gC O.bI .nil pass0 (pa_cons (pv 1) (pa_cons (pe_callTy call_tuple_of (by rfl) T.z_tuple boot_tuple (pa_cons (pv 2) pa_nil)) pa_nil))) pa_nil)) (by rfl)) (pss_cons (Gv.PS.ex fun t => st3 T O t hr)
      (pss_cons (Gv.PS.ex fun t => st4 T O TB t hr) (pss_cons (Gv.PS.ex fun t => st5 T O t hr) (pss_cons (Gv.PS.ex fun t => st6 T O TB t hr) (pss_cons (Gv.PS.ex fun t => st7 T O t hr) (pss_cons (Gv.PS.ex fun t => st8 T O t hr) (pss_cons (Gv.PS.ex fun t => st9 T O TB t hr)
      (pss_cons (Gv.PS.ex fun t => st10 T O TB t hr) (pss_cons (Gv.PS.ex fun t => st11 T O t hr) (pss_cons (Gv.PS.ex fun t => st12 T O TB t hr) (pss_cons (Gv.PS.ex fun t => st13 T O t hr) (pss_one (Gv.PS.ex fun t => st14 T O TB t hr))))))))))))))), ?_⟩
    refine ⟨_, rfl, p, 7, g, x, c, rfl, hp, by decide, by decide, fun g1 x1 c1 r h0 h1 => ⟨_, _, rfl, rfl, ?_⟩⟩
    obtain ⟨n, hn⟩ : ∃ n : Nat, 1 + r = ((n : Nat) : Int) := ⟨(1 + r).toNat, by omega⟩
    show gName 1 (V.int (1 + r)) _ _ _
    rw [hn]
    have hn1 : 1 ≤ n := by omega
    have hn7 : n ≤ 7 := by omega
    have b1 : Bar p H (upd H p (pailO g1 x1 c1)) := Bar.upd
    have hp1 : (upd H p (pailO g1 x1 c1)) p = some (pailO g1 x1 c1) := upd_same
    have tab1 := tabs_bar b1 ⟨g, x, c, hp⟩ tab
    generalize (upd H p (pailO g1 x1 c1)) = H1 at b1 hp1 tab1 ⊢
    refine ⟨_, rfl, _, rfl, p, n, g1, x1, c1, rfl, hp1, by omega, fun H2 g2 x2 c2 z rs G b2 hp2 hz0 hz hG on hG7 => ?_⟩
    have tab2 := tabs_bar b2 ⟨g1, x1, c1, hp1⟩ tab1
    refine ⟨_, rfl, _, rfl, z, rs, n, G, rfl, SqL.of hz, hG, on, by omega, by omega, fun H3 lm qs s3 hlm0 hlm hS => ?_⟩
    have nlm : lm ≠ p := fun e => by
      rw [e, hp2] at hlm0
      cases hlm0
    refine ⟨_, rfl, _, rfl, z, _, rfl, .inl ⟨SqL.of (s3 _ _ hz), fun l hl => ?_⟩⟩
    have sl := same_new hl (.tup (rs.map V.ref))
    have S3 := s3.trans sl
    dsimp only [tNil]
    refine mk_fam (K := K) (C := O.C) (l := l) (rs := rs) (n := n) (G := G) ⟨SqT.of upd_same, hG.same S3, on, by omega⟩ hn1 (by omega) (tab2.ext S3) fun H4 y S4 e4 t4 hy fy ny => ?_
    have eS : S4 = srt encK (lall n G) := fy.fam.uniq (lall_fam on) fun _ => Iff.rfl
    rw [← eS] at hS
    have nl : ∀ {b : Addr} {xs : List V}, H2 b = some (.lst xs) → H4 b = some (.lst xs) := fun {b xs} e => e4 _ _ (S3 _ _ e) fun _ z => nomatch z
    have hp4 : H4 p = some (pailO g2 x2 c2) := nl hp2
    have hlm4 : H4 lm = some (.lst (qs.map V.ref)) := e4 _ _ (sl _ _ hlm) fun _ z => nomatch z
    have hS4 : TupsU H4 qs S4 := (hS.same sl).ext e4
    refine ⟨_, _, rfl, ?_⟩
    have f5 : Fr p H H4 := fr_trans (fr_trans (fr_bar b1) (fr_bar b2)) (fr_ext ((ext_of S3).trans e4))
    have pu : Pu ⟨p, z, lm, y, qs, n, S4⟩ := ⟨hn1, hn7, fy.cl⟩
    have ev : Ev K O.C ⟨p, z, lm, y, qs, n, S4⟩ [(y, S4)] [] H H4 := ⟨⟨g2, x2, c2, hp4⟩, hlm4, hS4, fun k hk => by rw [List.mem_singleton.mp hk]; exact hy, (fun _ h => nomatch h), t4, nlm, f5⟩
    refine ⟨⟨p, z, lm, y, qs, n, S4⟩, rfl, pu, ev, fun H5 a b c d oc od ev5 => ?_⟩
    refine ⟨_, a, b, c, d, rfl, pu, oc, ev5, fun H6 wi ev6 => ?_⟩
    refine ⟨_, a, b, c, d, wi, rfl, pu, oc, ev6, fun H7 ev7 => ?_⟩
    refine ⟨_, a, b, c, d, wi, rfl, pu, oc, od, ev7, fun H8 ev8 => ?_⟩
    refine ⟨_, a, b, c, d, wi, rfl, pu, ev8, (fun H9 ev9 => q H9 ev9.fr ev9.pail ev9.tab), fun ne H9 ev9 => ?_⟩
    refine ⟨_, _, _, _, _, _, rfl, pu, ne, ev9, fun H10 y1 m hm ev10 => ?_⟩
    refine ⟨_, _, _, _, y1, m, _, _, rfl, pu, hm, ev10, fun H11 li ev11 => ?_⟩
    refine ⟨_, _, _, _, y1, m, li, _, _, rfl, pu, hm, ev11, fun H12 ev12 => ?_⟩
    refine ⟨_, _, _, _, y1, m, li, _, _, rfl, pu, hm, ev12, fun H13 mo u hu ev13 => ?_⟩
    refine ⟨_, _, _, _, y1, m, li, mo, u, _, _, rfl, pu, hm, hu, ev13, fun H14 ev14 => ?_⟩
    refine ⟨_, a, b, c, d, _, y1, m, _, mo, u, _, rfl, pu, oc, fy.cl.on m hm, ev14, fun H15 re ev15 => ?_⟩
    refine ⟨_, _, _, c, _, y1, m, li, _, mo, u, re, _, _, rfl, pu, hm, ev15, fun H16 ev16 => ?_⟩
    exact q H16 ev16.fr ev16.pail ev16.tab
end
section
variable {K : PySem.W.Frag} {mg : Str → Option Value}
abbrev XL (T : Txt K mg) (P : Program) (w : World) (base : Heap) (cdv : Value) (A : Around) (outer : List Env) (s : Shared) (H0 : Hp) (E : XK) : Cx := (cxOf CX0 P w K mg base N_law "law" (defScope s_law) T.a_law cdv A outer s H0 E).nox
abbrev stL (i : Nat) : Stmt := (defBody s_law).getD i (.Pass ⟨0, 0, 0, 0⟩)
def sp_law (K : PySem.W.Frag) : Sp := fun vs H Q _ => ∃ (a : Addr) (ns : List Int), vs = [.ref a] ∧ SqL K H a (ns.map V.int) ∧ ns.length ≤ 63 ∧ LamX.Tabs TBo H ∧ ∀ H', Q (.bl true) H'
theorem tabs0 {H : Hp} (h : H tO = some (.tbl #[])) : LamX.Tabs TBo H := fun p hp => by
  rcases List.mem_cons.mp hp with rfl | hp
  · exact LamX.TabS.nil h
  cases hp
theorem fr_new {z : Addr} {H A B : Hp} (s : Same H A) (hz : H z = none) (f : Fr z A B) : LamX.ExtN H B := fun b o h k => f b o (ne_of_none h hz) (s b o h) k
theorem tx_1 : famTx 4 [[0, 3], [2, 3]] = ("03 23 on 4" : Str) := by decide +kernel
theorem tx_2 : famTx 4 [[0], [2]] = ("0 2 on 4" : Str) := by decide +kernel
theorem tx_3 : famTx 4 [[]] = ("- on 4" : Str) := by decide +kernel
theorem tx_4 : famTx 3 [] = ("none on 3" : Str) := by decide +kernel
theorem f_5 : srt encK (lall 3 []) = [] := srt_is encK_inj (by decide +kernel) (by decide +kernel)
section
variable {P : Program} {w : World} {base : Heap} {cdv : Value} {A : Around} {outer : List Env} {s : Shared} {H0 : Hp} {E : XK}
theorem lw0 (T : Txt K mg) (O : FamT K mg) (TB : LamX.TabB base mg T.c_ordered tO) (hr : Room 13 (XL T P w base cdv A outer s H0 E).A) : PS (XL T P w base cdv A outer s H0 E) (stL 0)
    (fun D σ H => ∃ (a : Addr) (ns : List Int), σ = [some (.ref a), none, none, none, none, none] ∧ SqL K H a (ns.map V.int) ∧ ns.length ≤ 63 ∧ LamX.Tabs TBo H ∧ ∀ H' v1 v2 v3, LamX.Tabs TBo H' → D.nx [some (.ref a), v1, v2, v3, none, none] H') := by
  refine PS.weak' (ps_for PassesOwn.never rfl (pi_range1 rfl T.z_range (pa_cons (pe_callB (call_max2 rfl) (by rfl) T.z_max (by decide +kernel) (pa_cons pe_int (pa_cons (pe_callB (call_min2 rfl) (by rfl) T.z_min (by decide +kernel) (pa_cons pe_int (pa_cons (pe_callB call_len_seq (by rfl) T.z_len boot_len (pa_cons (pv 0) pa_nil)) pa_nil))) pa_nil))) pa_nil)) (pg_name (i := 1) sc_law.nd rfl (Or.inl rfl))
      (pss_cons (ps_set (i := 2) sc_law.nd rfl (Or.inl rfl) (pe_call  (ok_pot T) (hr.mono (by decide)) (by rfl) T.m_w_pot T.F_w_pot.kp T.b_w_pot .nil pass0 (pa_cons (pv 0) (pa_cons (pv 1) pa_nil))))
      (pss_one (ps_for PassesOwn.never rfl (pi_range1 rfl T.z_range (pa_cons pe_int pa_nil)) (pg_name (i := 3) sc_law.nd rfl (Or.inl rfl))
      (pss_one (ps_if (pt_not (pt_val (pe_call  (ok_right T O TB) (hr.mono (by decide)) (by rfl) T.m_w_right T.F_w_right.kp T.b_w_right .nil pass0 (pa_cons (pv 2) pa_nil)))) (pss_one (ps_ret pe_bl)) pss_nil)))))) ?i
  case i =>
    rintro D σ H ⟨a, ns, rfl, hS, hl, tab, q⟩
    have hm1 : ∀ m : Int, (if (if ((ns.map V.int).length : Int) < 4 then ((ns.map V.int).length : Int) else 4) > 1 then (if ((ns.map V.int).length : Int) < 4 then ((ns.map V.int).length : Int) else 4) else 1) = m → 1 ≤ m ∧ m ≤ 4 := fun m e => by
      rw [← e]
      split <;> split <;> omega
    refine ⟨_, rfl, a, _, rfl, .inl hS, _, _, rfl, _, _, rfl, _, rfl, ?_⟩
    have hb := hm1 _ rfl
    refine ⟨Int.le_trans (by decide) hb.1, Int.lt_of_le_of_lt hb.2 (by decide), ?_⟩
    refine for_range (lo := 0) (n := _) (fun i σ H' => ∃ v1 v2 v3 : Option V, σ = [some (.ref a), v1, v2, v3, none, none] ∧ LamX.ExtN H H' ∧ LamX.Tabs TBo H') ⟨none, none, none, rfl, LamX.ExtN.refl H, tab⟩ ?_ ?_
    · rintro i σ H1 hi ⟨v1, v2, v3, rfl, s1, t1⟩
      have hi4 : i < 1000 := by
        have := hb.2
        omega
      refine ⟨_, rfl, _, rfl, a, ns, i, by rw [Int.zero_add]; rfl, ext_sql s1 hS, hi4, fun H2 z g x c s2 hz hz2 => ?_⟩
      have t2 := t1.ext s2
      refine ⟨_, rfl, by decide, by decide, ?_⟩
      refine for_range (lo := 0) (n := 3) (fun j σ H' => ∃ v3 : Option V, σ = [some (.ref a), some (.int (0 + ((i : Nat) : Int))), some (.ref z), v3, none, none] ∧ Fr z H2 H' ∧ Pail z H' ∧ LamX.Tabs TBo H') ⟨v3, rfl, fun _ _ _ h _ => h, ⟨g, x, c, hz2⟩, t2⟩ ?_ ?_
      · rintro j σ H3 hj ⟨v3, rfl, f3, p3, t3⟩
        refine ⟨_, rfl, z, rfl, p3, t3, fun H4 f4 p4 t4 => ⟨_, rfl, iteF ?_⟩⟩
        exact ⟨_, rfl, fr_trans f3 f4, p4, t4⟩
      · rintro σ H3 ⟨v3, rfl, f3, p3, t3⟩
        exact ⟨_, _, v3, rfl, s1.trans (fr_new s2 hz f3), t3⟩
    · rintro σ H1 ⟨v1, v2, v3, rfl, s1, t1⟩
      exact q H1 v1 v2 v3 t1
/-- Family(n, (..)) of a written tuple -/
theorem mk_lit {C : Addr} {H : Hp} {l : Addr} {rs : List Addr} {n : Nat} {G : List (List Nat)} {Q : Addr → Hp → Prop} {E : XK} (hl : SqT K H l (rs.map V.ref)) (hT : TupsU H rs G) (on : G.all (fun t => (decide (t.Pairwise (· < ·)) && t.all (fun x => decide (x < n)))) = true) (hG : G.length ≤ 256) (h1 : 1 ≤ n) (h8 : n ≤ 8) (tab : LamX.Tabs TBo H)
    (q : ∀ H' x, LamX.ExtN H H' → LamX.Tabs TBo H' → FamAt K C H' x n (srt encK (lall n G)) → FS n G (srt encK (lall n G)) → Q x H') :
    ∀ x dx, H x = none → H dx = none → dx ≠ x → sp_init K C (.ref x :: ([.int ((n : Nat) : Int), .ref l] ++ [])) (upd (upd H dx (.own x)) x (.ins C dx [])) (fun v H2 => v = .non ∧ Q x H2) E :=
  mk_fam ⟨hl, hT, ons_by on, hG⟩ h1 h8 tab fun H' x S e t hx fx _ => by
    have eS : S = srt encK (lall n G) := fx.fam.uniq (lall_fam (ons_by on)) fun _ => Iff.rfl
    subst eS
    exact q H' x e t hx fx
theorem lw1 (T : Txt K mg) (O : FamT K mg) (TB : LamX.TabB base mg T.c_ordered tO) (hr : Room 13 (XL T P w base cdv A outer s H0 E).A) : PS (XL T P w base cdv A outer s H0 E) (stL 1)
    (fun D σ H => ∃ v0 v1 v2 v3, σ = [v0, v1, v2, v3, none, none] ∧ LamX.Tabs TBo H ∧ ∀ H' y, LamX.Tabs TBo H' → FamAt K O.C H' y 4 Sc → FS 4 Gc Sc → D.nx [v0, v1, v2, v3, some (.ref y), none] H') := by
  refine PS.weak' (ps_set (i := 4) sc_law.nd rfl (Or.inl rfl) (pe_make O.M (ok_init T O TB) (hr.mono (by decide)) rfl O.gC O.bI .nil pass0 (pa_cons pe_int (pa_cons (pe_tup (pa_cons (pe_tup (pa_cons pe_int (pa_cons pe_int pa_nil))) (pa_cons (pe_tup (pa_cons pe_int (pa_cons pe_int pa_nil))) (pa_cons (pe_tup (pa_cons pe_int (pa_cons pe_int pa_nil))) (pa_cons (pe_tup (pa_cons pe_int (pa_cons pe_int pa_nil))) pa_nil))))) pa_nil)))) ?i
  case i =>
    rintro D σ H ⟨v0, v1, v2, v3, rfl, tab, q⟩
    refine ⟨by show 2 ≤ sizeLine; decide, fun a1 n1 => ⟨by show 2 ≤ sizeLine; decide, fun a2 n2 => ⟨by show 2 ≤ sizeLine; decide, fun a3 n3 => ⟨by show 2 ≤ sizeLine; decide, fun a4 n4 => ⟨by show 4 ≤ sizeLine; decide, fun l nl => ?_⟩⟩⟩⟩⟩
    have s1 := same_new n1 (.tup (nv [0, 1]))
    have s2 := same_new n2 (.tup (nv [1, 2]))
    have s3 := same_new n3 (.tup (nv [2, 3]))
    have s4 := same_new n4 (.tup (nv [0, 3]))
    have sl := same_new nl (.tup [V.ref a1, V.ref a2, V.ref a3, V.ref a4])
    have S4 := s4.trans sl
    have S3 := s3.trans S4
    have S2 := s2.trans S3
    dsimp only [tNil]
    refine mk_lit (K := K) (C := O.C) (rs := [a1, a2, a3, a4]) (n := 4) (G := Gc) (SqT.of upd_same) (.cons (S2 _ _ upd_same) (.cons (S3 _ _ upd_same) (.cons (S4 _ _ upd_same) (.cons (sl _ _ upd_same) .nil)))) (by decide +kernel) (by decide) (by decide) (by decide) (tab.ext (s1.trans S2)) fun H' x e t hx fx => ?_
    rw [f_c] at hx fx
    exact q H' x t hx fx
abbrev toldL : List V := [.str ("03 23 on 4" : Str), .str ("0 2 on 4" : Str), .str ("- on 4" : Str), .str ("none on 3" : Str)]
theorem lw2 (T : Txt K mg) (O : FamT K mg) (TB : LamX.TabB base mg T.c_ordered tO) (hr : Room 13 (XL T P w base cdv A outer s H0 E).A) : PS (XL T P w base cdv A outer s H0 E) (stL 2)
    (fun D σ H => ∃ v0 v1 v2 v3 y, σ = [v0, v1, v2, v3, some (.ref y), none] ∧ LamX.Tabs TBo H ∧ FamAt K O.C H y 4 Sc ∧ FS 4 Gc Sc ∧ ∀ H' z, H' z = some (.lst toldL) → D.nx [v0, v1, v2, v3, some (.ref y), some (.ref z)] H') := by
  refine PS.weak' (ps_set (i := 5) sc_law.nd rfl (Or.inl rfl) (pe_lst (pa_cons (pe_callTy (W7.call_strOwn1 O.aS O.nS' (ok_strf T O) (hr.mono (by decide)) O.bS pass0) (by rfl) T.z_str boot_str (pa_cons (pe_meth (pv 4) O.cl O.mR (ok_res T O TB) (hr.mono (by decide)) O.bR .nil pass0 (pa_cons (pe_tup (pa_cons pe_int (pa_cons pe_int (pa_cons pe_int pa_nil)))) pa_nil)) pa_nil)) (pa_cons (pe_callTy (W7.call_strOwn1 O.aS O.nS' (ok_strf T O) (hr.mono (by decide)) O.bS pass0) (by rfl) T.z_str boot_str (pa_cons (pe_meth (pv 4) O.cl O.mL (ok_link T O TB) (hr.mono (by decide)) O.bL .nil pass0 (pa_cons (pe_tup (pa_cons pe_int pa_nil)) pa_nil)) pa_nil)) (pa_cons (pe_callTy (W7.call_strOwn1 O.aS O.nS' (ok_strf T O) (hr.mono (by decide)) O.bS pass0) (by rfl) T.z_str boot_str (pa_cons (pe_meth (pv 4) O.cl O.mL (ok_link T O TB) (hr.mono (by decide)) O.bL .nil pass0 (pa_cons (pe_tup (pa_cons pe_int (pa_cons pe_int pa_nil))) pa_nil)) pa_nil)) (pa_cons (pe_callTy (W7.call_strOwn1 O.aS O.nS' (ok_strf T O) (hr.mono (by decide)) O.bS pass0) (by rfl) T.z_str boot_str (pa_cons (pe_meth (pe_make O.M (ok_init T O TB) (hr.mono (by decide)) rfl O.gC O.bI .nil pass0 (pa_cons pe_int (pa_cons (pe_tup pa_nil) pa_nil))) O.cl O.mR (ok_res T O TB) (hr.mono (by decide)) O.bR .nil pass0 (pa_cons (pe_tup (pa_cons pe_int pa_nil)) pa_nil)) pa_nil)) pa_nil)))))) ?i
  case i =>
    rintro D σ H ⟨v0, v1, v2, v3, y, rfl, tab, hy, fy, q⟩
    have cl := fy.cl
    have ⟨d1, m1, g1⟩ := rcv hy
    refine ⟨_, rfl, y, d1, _, rfl, g1, rfl, by show 3 ≤ sizeLine; decide, fun a1 n1 => ?_⟩
    have s1 := same_new n1 (.tup (nv [0, 2, 3]))
    refine ⟨y, a1, 4, Sc, [0, 2, 3], rfl, hy.same s1, cl, by decide, by decide, SqT.of upd_same, on_by (by decide +kernel), tab.ext s1, fun H2 x2 e2 t2 hx2 nx2 => ?_⟩
    have hy2 := (hy.same s1).ext e2
    have ⟨d2, m2, g2⟩ := rcv hx2
    refine ⟨x2, d2, _, rfl, g2, x2, 4, _, _, rfl, hx2, Cl.fs (cl.rst _) (by decide), fun H3 s3 => ⟨_, rfl, ?_⟩⟩
    rw [d_1, tx_1]
    have hy3 := hy2.same s3
    have t3 := t2.ext s3
    have ⟨d4, m4, g4⟩ := rcv hy3
    refine ⟨_, rfl, y, d4, _, rfl, g4, rfl, by show 1 ≤ sizeLine; decide, fun a4 n4 => ?_⟩
    have s4 := same_new n4 (.tup (nv [1]))
    refine ⟨y, a4, 4, Sc, [1], rfl, hy3.same s4, cl, by decide, by decide, SqT.of upd_same, by decide +kernel, t3.ext s4, fun H5 x5 e5 t5 hx5 nx5 => ?_⟩
    have hy5 := (hy3.same s4).ext e5
    have ⟨d5, m5, g5⟩ := rcv hx5
    refine ⟨x5, d5, _, rfl, g5, x5, 4, _, _, rfl, hx5, Cl.fs (cl.lk (on_by (by decide +kernel))) (by decide), fun H6 s6 => ⟨_, rfl, ?_⟩⟩
    rw [d_2, tx_2]
    have hy6 := hy5.same s6
    have t6 := t5.ext s6
    have ⟨d7, m7, g7⟩ := rcv hy6
    refine ⟨_, rfl, y, d7, _, rfl, g7, rfl, by show 2 ≤ sizeLine; decide, fun a7 n7 => ?_⟩
    have s7 := same_new n7 (.tup (nv [0, 1]))
    refine ⟨y, a7, 4, Sc, [0, 1], rfl, hy6.same s7, cl, by decide, by decide, SqT.of upd_same, by decide +kernel, t6.ext s7, fun H8 x8 e8 t8 hx8 nx8 => ?_⟩
    have ⟨d8, m8, g8⟩ := rcv hx8
    refine ⟨x8, d8, _, rfl, g8, x8, 4, _, _, rfl, hx8, Cl.fs (cl.lk (on_by (by decide +kernel))) (by decide), fun H9 s9 => ⟨_, rfl, ?_⟩⟩
    rw [d_3, tx_3]
    have t9 := t8.ext s9
    refine ⟨Nat.zero_le _, fun c1 j1 => ?_⟩
    have w1 := same_new j1 (.tup [])
    dsimp only [tNil]
    refine mk_lit (K := K) (C := O.C) (rs := []) (n := 3) (G := []) (SqT.of upd_same) .nil (by decide +kernel) (by decide) (by decide) (by decide) (t9.ext w1) fun H10 x10 e10 t10 hx10 f10 => ?_
    rw [f_5] at hx10 f10
    have ⟨d10, m10, g10⟩ := rcv hx10
    refine ⟨x10, d10, _, rfl, g10, rfl, by show 1 ≤ sizeLine; decide, fun a11 n11 => ?_⟩
    have s11 := same_new n11 (.tup (nv [1]))
    refine ⟨x10, a11, 3, [], [1], rfl, hx10.same s11, f10.cl, by decide, by decide, SqT.of upd_same, on_by (by decide +kernel), t10.ext s11, fun H12 x12 e12 t12 hx12 nx12 => ?_⟩
    have ⟨d12, m12, g12⟩ := rcv hx12
    refine ⟨x12, d12, _, rfl, g12, x12, 3, _, _, rfl, hx12, Cl.fs (f10.cl.rst _) (by decide), fun H13 s13 => ⟨_, rfl, ?_⟩⟩
    rw [d_4, tx_4]
    refine ⟨by show 4 ≤ sizeLine; decide, fun z hz => ?_⟩
    exact q _ z upd_same
theorem lw3 (T : Txt K mg) (hr : Room 13 (XL T P w base cdv A outer s H0 E).A) : PS (XL T P w base cdv A outer s H0 E) (stL 3)
    (fun D σ H => ∃ v0 v1 v2 v3 v4 z, σ = [v0, v1, v2, v3, v4, some (.ref z)] ∧ H z = some (.lst toldL) ∧ ∀ H', D.rt (.bl true) H') := by
  refine PS.weak' (ps_ret (pe_cmpR (op_eqD hr.units) (pv 5) (pe_lst (pa_cons pe_str (pa_cons pe_str (pa_cons pe_str (pa_cons pe_str pa_nil))))) (nomark _))) ?i
  case i =>
    rintro D σ H ⟨v0, v1, v2, v3, v4, z, rfl, hz, q⟩
    refine ⟨_, rfl, by show 4 ≤ sizeLine; decide, fun l nl => ?_⟩
    have sl := same_new nl (.lst toldL)
    refine ⟨.list [.str ("03 23 on 4" : Str), .str ("0 2 on 4" : Str), .str ("- on 4" : Str), .str ("none on 3" : Str)], .list [.str ("03 23 on 4" : Str), .str ("0 2 on 4" : Str), .str ("- on 4" : Str), .str ("none on 3" : Str)], .lst (SqL.of (sl _ _ hz)) (.cons (.str _) (.cons (.str _) (.cons (.str _) (.cons (.str _) .nil)))),
      .lst (SqL.of upd_same) (.cons (.str _) (.cons (.str _) (.cons (.str _) (.cons (.str _) .nil)))), by decide +kernel, by decide +kernel, ?_⟩
    rw [show PyData.eqv (.list [.str ("03 23 on 4" : Str), .str ("0 2 on 4" : Str), .str ("- on 4" : Str), .str ("none on 3" : Str)]) (.list [.str ("03 23 on 4" : Str), .str ("0 2 on 4" : Str), .str ("- on 4" : Str), .str ("none on 3" : Str)]) = true by decide +kernel]
    exact q _
end
section
variable {P : Program} {w : World} {base : Heap}
theorem ok_law (T : Txt K mg) (O : FamT K mg) (TB : LamX.TabB base mg T.c_ordered tO) : FnOk P w K mg base CX0 14 T.a_law T.d_law ["_law_script"] (sp_law K) := by
  refine T.F_law.ok sc_law (fun vs H Q E h => ?_) (fun cdv A outer s H vs Q E hr h => ?_)
  · obtain ⟨a, ns, rfl, _⟩ := h
    rfl
  · obtain ⟨a, ns, rfl, hS, hl, tab, q⟩ := h
    refine ⟨_, pss_cons (lw0 T O TB hr) (pss_cons (lw1 T O TB hr) (pss_cons (lw2 T O TB hr) (pss_one (lw3 T hr)))), ?_⟩
    refine ⟨a, ns, rfl, hS, hl, tab, fun H1 v1 v2 v3 t1 => ⟨_, _, _, _, rfl, t1, fun H2 y t2 hy fy => ⟨_, _, _, _, y, rfl, t2, hy, fy, fun H3 z hz => ⟨_, _, _, _, _, z, rfl, hz, fun H4 => q H4⟩⟩⟩⟩
end
end
end K39

namespace K39
open PySem PySem.Spec PyProof.Rows L2 RZ L5 XX LK M38
/-! ### the end -/
theorem exm_b {K : PySem.W.Frag} {S C : Addr} {b : Bool} (h1 : PySem.W.subIn K (.ref C) (.type "BaseException") = some true) (h2 : PySem.W.isClsIn K C = true) (h3 : PySem.W.typeIn K (.ref C) = some (.type "type")) (h4 : PySem.W.subIn K (.ref S) (.ref C) = some b) : PySem.W.exmOne K (.ref S) (.ref C) = some b := by
  have e1 : (PySem.W.subIn K (.ref C) (.type "BaseException") == some true) = true := by rw [h1] <;> rfl
  have h5 : PySem.W.kitCls K (.ref S) (.ref C) = some b := by
    have h2' : (PySem.W.clsIn K C).isSome = true := h2
    have e2 : ((PySem.W.clsIn K C).isSome && PySem.W.typeIn K (.ref C) == some (.type "type")) = true := by rw [h2', h3] <;> rfl
    exact (if_pos e2).trans h4
  exact (if_pos e1).trans h5
theorem all_mk {l : PySem.W.OpenLaw} {w : World} {K : PySem.W.Frag} {h : Heap} {mg : Str → Option Value} {fa CFamily : Addr} (X : K.In h) (G : h.Ns mainGlobals mg) (hfa : mg "law" = some (.ref fa))
    {od_is_number an_is_number : Option Addr} {sl_is_number : Array (Option Value)} {oc_is_number kV_is_number dc_is_number pm_is_number cd_is_number ct_is_number : Value} {f_is_number : Addr}
    (a_is_number : PySem.W.nsIn K mainGlobals "is_number" = some (some (.ref f_is_number))) (l_is_number : K.lookup f_is_number = some ⟨oc_is_number, od_is_number, .func (PySem.W.fnOf "is_number" "is_number" (defArgs s_is_number) (defBody s_is_number) (defScope s_is_number) .none kV_is_number dc_is_number pm_is_number an_is_number cd_is_number ct_is_number), sl_is_number⟩) (cc_is_number : PySem.W.codeIn K cd_is_number "is_number" = true) (k_is_number : PySem.W.keepIn K (.ref f_is_number) = true)
    {od_is_within an_is_within : Option Addr} {sl_is_within : Array (Option Value)} {oc_is_within kV_is_within dc_is_within pm_is_within cd_is_within ct_is_within : Value} {f_is_within : Addr}
    (a_is_within : PySem.W.nsIn K mainGlobals "is_within" = some (some (.ref f_is_within))) (l_is_within : K.lookup f_is_within = some ⟨oc_is_within, od_is_within, .func (PySem.W.fnOf "is_within" "is_within" (defArgs s_is_within) (defBody s_is_within) (defScope s_is_within) .none kV_is_within dc_is_within pm_is_within an_is_within cd_is_within ct_is_within), sl_is_within⟩) (cc_is_within : PySem.W.codeIn K cd_is_within "is_within" = true) (k_is_within : PySem.W.keepIn K (.ref f_is_within) = true)
    {od_check_within an_check_within : Option Addr} {sl_check_within : Array (Option Value)} {oc_check_within kV_check_within dc_check_within pm_check_within cd_check_within ct_check_within : Value} {f_check_within : Addr}
    (a_check_within : PySem.W.nsIn K mainGlobals "check_within" = some (some (.ref f_check_within))) (l_check_within : K.lookup f_check_within = some ⟨oc_check_within, od_check_within, .func (PySem.W.fnOf "check_within" "check_within" (defArgs s_check_within) (defBody s_check_within) (defScope s_check_within) .none kV_check_within dc_check_within pm_check_within an_check_within cd_check_within ct_check_within), sl_check_within⟩) (cc_check_within : PySem.W.codeIn K cd_check_within "check_within" = true) (k_check_within : PySem.W.keepIn K (.ref f_check_within) = true)
    {od_is_set an_is_set : Option Addr} {sl_is_set : Array (Option Value)} {oc_is_set kV_is_set dc_is_set pm_is_set cd_is_set ct_is_set : Value} {f_is_set : Addr}
    (a_is_set : PySem.W.nsIn K mainGlobals "is_set" = some (some (.ref f_is_set))) (l_is_set : K.lookup f_is_set = some ⟨oc_is_set, od_is_set, .func (PySem.W.fnOf "is_set" "is_set" (defArgs s_is_set) (defBody s_is_set) (defScope s_is_set) .none kV_is_set dc_is_set pm_is_set an_is_set cd_is_set ct_is_set), sl_is_set⟩) (cc_is_set : PySem.W.codeIn K cd_is_set "is_set" = true) (k_is_set : PySem.W.keepIn K (.ref f_is_set) = true)
    {od_ordered an_ordered : Option Addr} {sl_ordered : Array (Option Value)} {oc_ordered kV_ordered dc_ordered pm_ordered ct_ordered : Value} {f_ordered c_ordered : Addr}
    (a_ordered : PySem.W.nsIn K mainGlobals "ordered" = some (some (.ref f_ordered))) (l_ordered : K.lookup f_ordered = some ⟨oc_ordered, od_ordered, .func (PySem.W.fnOf "ordered" "ordered" (defArgs s_ordered) (defBody s_ordered) (defScope s_ordered) .none kV_ordered dc_ordered pm_ordered an_ordered (.ref c_ordered) ct_ordered), sl_ordered⟩) (cc_ordered : PySem.W.codeIn K (.ref c_ordered) "ordered" = true) (k_ordered : PySem.W.keepIn K (.ref f_ordered) = true)
    (hd_ordered : PySem.W.codeHdIn K c_ordered 106 = true) (nl_ordered : K.lookup 106 = none) (hT_ordered : h.get? 106 = some { cls := .none, data := .fields #[] })
    {od_smaller_sets an_smaller_sets : Option Addr} {sl_smaller_sets : Array (Option Value)} {oc_smaller_sets kV_smaller_sets dc_smaller_sets pm_smaller_sets cd_smaller_sets ct_smaller_sets : Value} {f_smaller_sets : Addr}
    (a_smaller_sets : PySem.W.nsIn K mainGlobals "smaller_sets" = some (some (.ref f_smaller_sets))) (l_smaller_sets : K.lookup f_smaller_sets = some ⟨oc_smaller_sets, od_smaller_sets, .func (PySem.W.fnOf "smaller_sets" "smaller_sets" (defArgs s_smaller_sets) (defBody s_smaller_sets) (defScope s_smaller_sets) .none kV_smaller_sets dc_smaller_sets pm_smaller_sets an_smaller_sets cd_smaller_sets ct_smaller_sets), sl_smaller_sets⟩) (cc_smaller_sets : PySem.W.codeIn K cd_smaller_sets "smaller_sets" = true) (k_smaller_sets : PySem.W.keepIn K (.ref f_smaller_sets) = true)
    {od_all_within an_all_within : Option Addr} {sl_all_within : Array (Option Value)} {oc_all_within kV_all_within dc_all_within pm_all_within cd_all_within ct_all_within : Value} {f_all_within : Addr}
    (a_all_within : PySem.W.nsIn K mainGlobals "all_within" = some (some (.ref f_all_within))) (l_all_within : K.lookup f_all_within = some ⟨oc_all_within, od_all_within, .func (PySem.W.fnOf "all_within" "all_within" (defArgs s_all_within) (defBody s_all_within) (defScope s_all_within) .none kV_all_within dc_all_within pm_all_within an_all_within cd_all_within ct_all_within), sl_all_within⟩) (cc_all_within : PySem.W.codeIn K cd_all_within "all_within" = true) (k_all_within : PySem.W.keepIn K (.ref f_all_within) = true)
    {od_greatest_sets an_greatest_sets : Option Addr} {sl_greatest_sets : Array (Option Value)} {oc_greatest_sets kV_greatest_sets dc_greatest_sets pm_greatest_sets cd_greatest_sets ct_greatest_sets : Value} {f_greatest_sets : Addr}
    (a_greatest_sets : PySem.W.nsIn K mainGlobals "greatest_sets" = some (some (.ref f_greatest_sets))) (l_greatest_sets : K.lookup f_greatest_sets = some ⟨oc_greatest_sets, od_greatest_sets, .func (PySem.W.fnOf "greatest_sets" "greatest_sets" (defArgs s_greatest_sets) (defBody s_greatest_sets) (defScope s_greatest_sets) .none kV_greatest_sets dc_greatest_sets pm_greatest_sets an_greatest_sets cd_greatest_sets ct_greatest_sets), sl_greatest_sets⟩) (cc_greatest_sets : PySem.W.codeIn K cd_greatest_sets "greatest_sets" = true) (k_greatest_sets : PySem.W.keepIn K (.ref f_greatest_sets) = true)
    {od_is_inside an_is_inside : Option Addr} {sl_is_inside : Array (Option Value)} {oc_is_inside kV_is_inside dc_is_inside pm_is_inside cd_is_inside ct_is_inside : Value} {f_is_inside : Addr}
    (a_is_inside : PySem.W.nsIn K mainGlobals "is_inside" = some (some (.ref f_is_inside))) (l_is_inside : K.lookup f_is_inside = some ⟨oc_is_inside, od_is_inside, .func (PySem.W.fnOf "is_inside" "is_inside" (defArgs s_is_inside) (defBody s_is_inside) (defScope s_is_inside) .none kV_is_inside dc_is_inside pm_is_inside an_is_inside cd_is_inside ct_is_inside), sl_is_inside⟩) (cc_is_inside : PySem.W.codeIn K cd_is_inside "is_inside" = true) (k_is_inside : PySem.W.keepIn K (.ref f_is_inside) = true)
    {od_sets_inside an_sets_inside : Option Addr} {sl_sets_inside : Array (Option Value)} {oc_sets_inside kV_sets_inside dc_sets_inside pm_sets_inside cd_sets_inside ct_sets_inside : Value} {f_sets_inside : Addr}
    (a_sets_inside : PySem.W.nsIn K mainGlobals "sets_inside" = some (some (.ref f_sets_inside))) (l_sets_inside : K.lookup f_sets_inside = some ⟨oc_sets_inside, od_sets_inside, .func (PySem.W.fnOf "sets_inside" "sets_inside" (defArgs s_sets_inside) (defBody s_sets_inside) (defScope s_sets_inside) .none kV_sets_inside dc_sets_inside pm_sets_inside an_sets_inside cd_sets_inside ct_sets_inside), sl_sets_inside⟩) (cc_sets_inside : PySem.W.codeIn K cd_sets_inside "sets_inside" = true) (k_sets_inside : PySem.W.keepIn K (.ref f_sets_inside) = true)
    {od_link_sets an_link_sets : Option Addr} {sl_link_sets : Array (Option Value)} {oc_link_sets kV_link_sets dc_link_sets pm_link_sets cd_link_sets ct_link_sets : Value} {f_link_sets : Addr}
    (a_link_sets : PySem.W.nsIn K mainGlobals "link_sets" = some (some (.ref f_link_sets))) (l_link_sets : K.lookup f_link_sets = some ⟨oc_link_sets, od_link_sets, .func (PySem.W.fnOf "link_sets" "link_sets" (defArgs s_link_sets) (defBody s_link_sets) (defScope s_link_sets) .none kV_link_sets dc_link_sets pm_link_sets an_link_sets cd_link_sets ct_link_sets), sl_link_sets⟩) (cc_link_sets : PySem.W.codeIn K cd_link_sets "link_sets" = true) (k_link_sets : PySem.W.keepIn K (.ref f_link_sets) = true)
    {od_family_text an_family_text : Option Addr} {sl_family_text : Array (Option Value)} {oc_family_text kV_family_text dc_family_text pm_family_text cd_family_text ct_family_text : Value} {f_family_text : Addr}
    (a_family_text : PySem.W.nsIn K mainGlobals "family_text" = some (some (.ref f_family_text))) (l_family_text : K.lookup f_family_text = some ⟨oc_family_text, od_family_text, .func (PySem.W.fnOf "family_text" "family_text" (defArgs s_family_text) (defBody s_family_text) (defScope s_family_text) .none kV_family_text dc_family_text pm_family_text an_family_text cd_family_text ct_family_text), sl_family_text⟩) (cc_family_text : PySem.W.codeIn K cd_family_text "family_text" = true) (k_family_text : PySem.W.keepIn K (.ref f_family_text) = true)
    {od_set_text an_set_text : Option Addr} {sl_set_text : Array (Option Value)} {oc_set_text kV_set_text dc_set_text pm_set_text cd_set_text ct_set_text : Value} {f_set_text : Addr}
    (a_set_text : PySem.W.nsIn K mainGlobals "set_text" = some (some (.ref f_set_text))) (l_set_text : K.lookup f_set_text = some ⟨oc_set_text, od_set_text, .func (PySem.W.fnOf "set_text" "set_text" (defArgs s_set_text) (defBody s_set_text) (defScope s_set_text) .none kV_set_text dc_set_text pm_set_text an_set_text cd_set_text ct_set_text), sl_set_text⟩) (cc_set_text : PySem.W.codeIn K cd_set_text "set_text" = true) (k_set_text : PySem.W.keepIn K (.ref f_set_text) = true)
    {od_are_sets an_are_sets : Option Addr} {sl_are_sets : Array (Option Value)} {oc_are_sets kV_are_sets dc_are_sets pm_are_sets cd_are_sets ct_are_sets : Value} {f_are_sets : Addr}
    (a_are_sets : PySem.W.nsIn K mainGlobals "are_sets" = some (some (.ref f_are_sets))) (l_are_sets : K.lookup f_are_sets = some ⟨oc_are_sets, od_are_sets, .func (PySem.W.fnOf "are_sets" "are_sets" (defArgs s_are_sets) (defBody s_are_sets) (defScope s_are_sets) .none kV_are_sets dc_are_sets pm_are_sets an_are_sets cd_are_sets ct_are_sets), sl_are_sets⟩) (cc_are_sets : PySem.W.codeIn K cd_are_sets "are_sets" = true) (k_are_sets : PySem.W.keepIn K (.ref f_are_sets) = true)
    {od_made_family an_made_family : Option Addr} {sl_made_family : Array (Option Value)} {oc_made_family kV_made_family dc_made_family pm_made_family cd_made_family ct_made_family : Value} {f_made_family : Addr}
    (a_made_family : PySem.W.nsIn K mainGlobals "made_family" = some (some (.ref f_made_family))) (l_made_family : K.lookup f_made_family = some ⟨oc_made_family, od_made_family, .func (PySem.W.fnOf "made_family" "made_family" (defArgs s_made_family) (defBody s_made_family) (defScope s_made_family) .none kV_made_family dc_made_family pm_made_family an_made_family cd_made_family ct_made_family), sl_made_family⟩) (cc_made_family : PySem.W.codeIn K cd_made_family "made_family" = true) (k_made_family : PySem.W.keepIn K (.ref f_made_family) = true)
    {od_w_pot an_w_pot : Option Addr} {sl_w_pot : Array (Option Value)} {oc_w_pot kV_w_pot dc_w_pot pm_w_pot cd_w_pot ct_w_pot : Value} {f_w_pot : Addr}
    (a_w_pot : PySem.W.nsIn K mainGlobals "_law_pot" = some (some (.ref f_w_pot))) (l_w_pot : K.lookup f_w_pot = some ⟨oc_w_pot, od_w_pot, .func (PySem.W.fnOf "_law_pot" "_law_pot" (defArgs s_w_pot) (defBody s_w_pot) (defScope s_w_pot) .none kV_w_pot dc_w_pot pm_w_pot an_w_pot cd_w_pot ct_w_pot), sl_w_pot⟩) (cc_w_pot : PySem.W.codeIn K cd_w_pot "_law_pot" = true) (k_w_pot : PySem.W.keepIn K (.ref f_w_pot) = true)
    {od_w_dip an_w_dip : Option Addr} {sl_w_dip : Array (Option Value)} {oc_w_dip kV_w_dip dc_w_dip pm_w_dip cd_w_dip ct_w_dip : Value} {f_w_dip : Addr}
    (a_w_dip : PySem.W.nsIn K mainGlobals "_law_dip" = some (some (.ref f_w_dip))) (l_w_dip : K.lookup f_w_dip = some ⟨oc_w_dip, od_w_dip, .func (PySem.W.fnOf "_law_dip" "_law_dip" (defArgs s_w_dip) (defBody s_w_dip) (defScope s_w_dip) .none kV_w_dip dc_w_dip pm_w_dip an_w_dip cd_w_dip ct_w_dip), sl_w_dip⟩) (cc_w_dip : PySem.W.codeIn K cd_w_dip "_law_dip" = true) (k_w_dip : PySem.W.keepIn K (.ref f_w_dip) = true)
    {od_w_pick an_w_pick : Option Addr} {sl_w_pick : Array (Option Value)} {oc_w_pick kV_w_pick dc_w_pick pm_w_pick cd_w_pick ct_w_pick : Value} {f_w_pick : Addr}
    (a_w_pick : PySem.W.nsIn K mainGlobals "_law_pick" = some (some (.ref f_w_pick))) (l_w_pick : K.lookup f_w_pick = some ⟨oc_w_pick, od_w_pick, .func (PySem.W.fnOf "_law_pick" "_law_pick" (defArgs s_w_pick) (defBody s_w_pick) (defScope s_w_pick) .none kV_w_pick dc_w_pick pm_w_pick an_w_pick cd_w_pick ct_w_pick), sl_w_pick⟩) (cc_w_pick : PySem.W.codeIn K cd_w_pick "_law_pick" = true) (k_w_pick : PySem.W.keepIn K (.ref f_w_pick) = true)
    {od_w_subsets an_w_subsets : Option Addr} {sl_w_subsets : Array (Option Value)} {oc_w_subsets kV_w_subsets dc_w_subsets pm_w_subsets cd_w_subsets ct_w_subsets : Value} {f_w_subsets : Addr}
    (a_w_subsets : PySem.W.nsIn K mainGlobals "_law_subsets" = some (some (.ref f_w_subsets))) (l_w_subsets : K.lookup f_w_subsets = some ⟨oc_w_subsets, od_w_subsets, .func (PySem.W.fnOf "_law_subsets" "_law_subsets" (defArgs s_w_subsets) (defBody s_w_subsets) (defScope s_w_subsets) .none kV_w_subsets dc_w_subsets pm_w_subsets an_w_subsets cd_w_subsets ct_w_subsets), sl_w_subsets⟩) (cc_w_subsets : PySem.W.codeIn K cd_w_subsets "_law_subsets" = true) (k_w_subsets : PySem.W.keepIn K (.ref f_w_subsets) = true)
    {od_w_inside an_w_inside : Option Addr} {sl_w_inside : Array (Option Value)} {oc_w_inside kV_w_inside dc_w_inside pm_w_inside cd_w_inside ct_w_inside : Value} {f_w_inside : Addr}
    (a_w_inside : PySem.W.nsIn K mainGlobals "_law_inside" = some (some (.ref f_w_inside))) (l_w_inside : K.lookup f_w_inside = some ⟨oc_w_inside, od_w_inside, .func (PySem.W.fnOf "_law_inside" "_law_inside" (defArgs s_w_inside) (defBody s_w_inside) (defScope s_w_inside) .none kV_w_inside dc_w_inside pm_w_inside an_w_inside cd_w_inside ct_w_inside), sl_w_inside⟩) (cc_w_inside : PySem.W.codeIn K cd_w_inside "_law_inside" = true) (k_w_inside : PySem.W.keepIn K (.ref f_w_inside) = true)
    {od_w_sets an_w_sets : Option Addr} {sl_w_sets : Array (Option Value)} {oc_w_sets kV_w_sets dc_w_sets pm_w_sets cd_w_sets ct_w_sets : Value} {f_w_sets : Addr}
    (a_w_sets : PySem.W.nsIn K mainGlobals "_law_sets" = some (some (.ref f_w_sets))) (l_w_sets : K.lookup f_w_sets = some ⟨oc_w_sets, od_w_sets, .func (PySem.W.fnOf "_law_sets" "_law_sets" (defArgs s_w_sets) (defBody s_w_sets) (defScope s_w_sets) .none kV_w_sets dc_w_sets pm_w_sets an_w_sets cd_w_sets ct_w_sets), sl_w_sets⟩) (cc_w_sets : PySem.W.codeIn K cd_w_sets "_law_sets" = true) (k_w_sets : PySem.W.keepIn K (.ref f_w_sets) = true)
    {od_w_all an_w_all : Option Addr} {sl_w_all : Array (Option Value)} {oc_w_all kV_w_all dc_w_all pm_w_all cd_w_all ct_w_all : Value} {f_w_all : Addr}
    (a_w_all : PySem.W.nsIn K mainGlobals "_law_all" = some (some (.ref f_w_all))) (l_w_all : K.lookup f_w_all = some ⟨oc_w_all, od_w_all, .func (PySem.W.fnOf "_law_all" "_law_all" (defArgs s_w_all) (defBody s_w_all) (defScope s_w_all) .none kV_w_all dc_w_all pm_w_all an_w_all cd_w_all ct_w_all), sl_w_all⟩) (cc_w_all : PySem.W.codeIn K cd_w_all "_law_all" = true) (k_w_all : PySem.W.keepIn K (.ref f_w_all) = true)
    {od_w_link an_w_link : Option Addr} {sl_w_link : Array (Option Value)} {oc_w_link kV_w_link dc_w_link pm_w_link cd_w_link ct_w_link : Value} {f_w_link : Addr}
    (a_w_link : PySem.W.nsIn K mainGlobals "_law_link" = some (some (.ref f_w_link))) (l_w_link : K.lookup f_w_link = some ⟨oc_w_link, od_w_link, .func (PySem.W.fnOf "_law_link" "_law_link" (defArgs s_w_link) (defBody s_w_link) (defScope s_w_link) .none kV_w_link dc_w_link pm_w_link an_w_link cd_w_link ct_w_link), sl_w_link⟩) (cc_w_link : PySem.W.codeIn K cd_w_link "_law_link" = true) (k_w_link : PySem.W.keepIn K (.ref f_w_link) = true)
    {od_w_common an_w_common : Option Addr} {sl_w_common : Array (Option Value)} {oc_w_common kV_w_common dc_w_common pm_w_common cd_w_common ct_w_common : Value} {f_w_common : Addr}
    (a_w_common : PySem.W.nsIn K mainGlobals "_law_common" = some (some (.ref f_w_common))) (l_w_common : K.lookup f_w_common = some ⟨oc_w_common, od_w_common, .func (PySem.W.fnOf "_law_common" "_law_common" (defArgs s_w_common) (defBody s_w_common) (defScope s_w_common) .none kV_w_common dc_w_common pm_w_common an_w_common cd_w_common ct_w_common), sl_w_common⟩) (cc_w_common : PySem.W.codeIn K cd_w_common "_law_common" = true) (k_w_common : PySem.W.keepIn K (.ref f_w_common) = true)
    {od_w_right an_w_right : Option Addr} {sl_w_right : Array (Option Value)} {oc_w_right kV_w_right dc_w_right pm_w_right cd_w_right ct_w_right : Value} {f_w_right : Addr}
    (a_w_right : PySem.W.nsIn K mainGlobals "_law_right" = some (some (.ref f_w_right))) (l_w_right : K.lookup f_w_right = some ⟨oc_w_right, od_w_right, .func (PySem.W.fnOf "_law_right" "_law_right" (defArgs s_w_right) (defBody s_w_right) (defScope s_w_right) .none kV_w_right dc_w_right pm_w_right an_w_right cd_w_right ct_w_right), sl_w_right⟩) (cc_w_right : PySem.W.codeIn K cd_w_right "_law_right" = true) (k_w_right : PySem.W.keepIn K (.ref f_w_right) = true)
    {od_law an_law : Option Addr} {sl_law : Array (Option Value)} {oc_law kV_law dc_law pm_law cd_law ct_law : Value} {f_law : Addr}
    (a_law : PySem.W.nsIn K mainGlobals "law" = some (some (.ref f_law))) (l_law : K.lookup f_law = some ⟨oc_law, od_law, .func (PySem.W.fnOf "law" "law" (defArgs s_law) (defBody s_law) (defScope s_law) .none kV_law dc_law pm_law an_law cd_law ct_law), sl_law⟩) (cc_law : PySem.W.codeIn K cd_law "law" = true) (k_law : PySem.W.keepIn K (.ref f_law) = true)
    (aCFamily : PySem.W.nsIn K mainGlobals "Family" = some (some (.ref CFamily)))
    {od_init an_init : Option Addr} {sl_init : Array (Option Value)} {oc_init kV_init dc_init pm_init cd_init ct_init : Value} {f_init : Addr}
    (a_init : PySem.W.findIn K (.ref CFamily) "__init__" = some (some (.ref f_init))) (i_init : PySem.W.isFn K (.ref f_init) = true) (l_init : K.lookup f_init = some ⟨oc_init, od_init, .func (PySem.W.fnOf "__init__" "Family.__init__" (defArgs s_init) (defBody s_init) (defScope s_init) .none kV_init dc_init pm_init an_init cd_init ct_init), sl_init⟩) (cc_init : PySem.W.codeIn K cd_init "Family.__init__" = true) (k_init : PySem.W.keepIn K (.ref f_init) = true)
    {od_res an_res : Option Addr} {sl_res : Array (Option Value)} {oc_res kV_res dc_res pm_res cd_res ct_res : Value} {f_res : Addr}
    (a_res : PySem.W.findIn K (.ref CFamily) "restricted" = some (some (.ref f_res))) (i_res : PySem.W.isFn K (.ref f_res) = true) (l_res : K.lookup f_res = some ⟨oc_res, od_res, .func (PySem.W.fnOf "restricted" "Family.restricted" (defArgs s_res) (defBody s_res) (defScope s_res) .none kV_res dc_res pm_res an_res cd_res ct_res), sl_res⟩) (cc_res : PySem.W.codeIn K cd_res "Family.restricted" = true) (k_res : PySem.W.keepIn K (.ref f_res) = true)
    {od_link an_link : Option Addr} {sl_link : Array (Option Value)} {oc_link kV_link dc_link pm_link cd_link ct_link : Value} {f_link : Addr}
    (a_link : PySem.W.findIn K (.ref CFamily) "link" = some (some (.ref f_link))) (i_link : PySem.W.isFn K (.ref f_link) = true) (l_link : K.lookup f_link = some ⟨oc_link, od_link, .func (PySem.W.fnOf "link" "Family.link" (defArgs s_link) (defBody s_link) (defScope s_link) .none kV_link dc_link pm_link an_link cd_link ct_link), sl_link⟩) (cc_link : PySem.W.codeIn K cd_link "Family.link" = true) (k_link : PySem.W.keepIn K (.ref f_link) = true)
    {od_has an_has : Option Addr} {sl_has : Array (Option Value)} {oc_has kV_has dc_has pm_has cd_has ct_has : Value} {f_has : Addr}
    (a_has : PySem.W.findIn K (.ref CFamily) "__contains__" = some (some (.ref f_has))) (i_has : PySem.W.isFn K (.ref f_has) = true) (l_has : K.lookup f_has = some ⟨oc_has, od_has, .func (PySem.W.fnOf "__contains__" "Family.__contains__" (defArgs s_has) (defBody s_has) (defScope s_has) .none kV_has dc_has pm_has an_has cd_has ct_has), sl_has⟩) (cc_has : PySem.W.codeIn K cd_has "Family.__contains__" = true) (k_has : PySem.W.keepIn K (.ref f_has) = true)
    {od_eq an_eq : Option Addr} {sl_eq : Array (Option Value)} {oc_eq kV_eq dc_eq pm_eq cd_eq ct_eq : Value} {f_eq : Addr}
    (a_eq : PySem.W.findIn K (.ref CFamily) "__eq__" = some (some (.ref f_eq))) (i_eq : PySem.W.isFn K (.ref f_eq) = true) (l_eq : K.lookup f_eq = some ⟨oc_eq, od_eq, .func (PySem.W.fnOf "__eq__" "Family.__eq__" (defArgs s_eq) (defBody s_eq) (defScope s_eq) .none kV_eq dc_eq pm_eq an_eq cd_eq ct_eq), sl_eq⟩) (cc_eq : PySem.W.codeIn K cd_eq "Family.__eq__" = true) (k_eq : PySem.W.keepIn K (.ref f_eq) = true)
    {od_len an_len : Option Addr} {sl_len : Array (Option Value)} {oc_len kV_len dc_len pm_len cd_len ct_len : Value} {f_len : Addr}
    (a_len : PySem.W.findIn K (.ref CFamily) "__len__" = some (some (.ref f_len))) (i_len : PySem.W.isFn K (.ref f_len) = true) (l_len : K.lookup f_len = some ⟨oc_len, od_len, .func (PySem.W.fnOf "__len__" "Family.__len__" (defArgs s_len) (defBody s_len) (defScope s_len) .none kV_len dc_len pm_len an_len cd_len ct_len), sl_len⟩) (cc_len : PySem.W.codeIn K cd_len "Family.__len__" = true) (k_len : PySem.W.keepIn K (.ref f_len) = true)
    {od_iter an_iter : Option Addr} {sl_iter : Array (Option Value)} {oc_iter kV_iter dc_iter pm_iter cd_iter ct_iter : Value} {f_iter : Addr}
    (a_iter : PySem.W.findIn K (.ref CFamily) "__iter__" = some (some (.ref f_iter))) (i_iter : PySem.W.isFn K (.ref f_iter) = true) (l_iter : K.lookup f_iter = some ⟨oc_iter, od_iter, .func (PySem.W.fnOf "__iter__" "Family.__iter__" (defArgs s_iter) (defBody s_iter) (defScope s_iter) .none kV_iter dc_iter pm_iter an_iter cd_iter ct_iter), sl_iter⟩) (cc_iter : PySem.W.codeIn K cd_iter "Family.__iter__" = true) (k_iter : PySem.W.keepIn K (.ref f_iter) = true)
    {od_str an_str : Option Addr} {sl_str : Array (Option Value)} {oc_str kV_str dc_str pm_str cd_str ct_str : Value} {f_str : Addr}
    (a_str : PySem.W.findIn K (.ref CFamily) "__str__" = some (some (.ref f_str))) (i_str : PySem.W.isFn K (.ref f_str) = true) (l_str : K.lookup f_str = some ⟨oc_str, od_str, .func (PySem.W.fnOf "__str__" "Family.__str__" (defArgs s_str) (defBody s_str) (defScope s_str) .none kV_str dc_str pm_str an_str cd_str ct_str), sl_str⟩) (cc_str : PySem.W.codeIn K cd_str "Family.__str__" = true) (k_str : PySem.W.keepIn K (.ref f_str) = true)
    {pp_corners : Addr} {re_corners : List Value}
    {od_corners an_corners : Option Addr} {sl_corners : Array (Option Value)} {oc_corners kV_corners dc_corners pm_corners cd_corners ct_corners : Value} {f_corners : Addr}
    (a_corners : PySem.W.findIn K (.ref CFamily) "corners" = some (some (.ref pp_corners))) (g_corners : PySem.W.specialIn K (.ref pp_corners) "__get__" = some (some (.builtin "property.__get__"))) (tk_corners : PySem.W.takesIn K (.ref pp_corners) = some true) (r_corners : PySem.W.recIn K pp_corners "property" = some (.ref f_corners :: re_corners)) (l_corners : K.lookup f_corners = some ⟨oc_corners, od_corners, .func (PySem.W.fnOf "corners" "Family.corners" (defArgs s_corners) (defBody s_corners) (defScope s_corners) .none kV_corners dc_corners pm_corners an_corners cd_corners ct_corners), sl_corners⟩) (cc_corners : PySem.W.codeIn K cd_corners "Family.corners" = true) (k_corners : PySem.W.keepIn K (.ref f_corners) = true)
    (pgFamily : PySem.W.plainGet K CFamily Str.empty = true)
    (hdFamily : PySem.W.hasDictIn K CFamily = true)
    (poFamily : PySem.W.plainOver K CFamily = true)
    (saFamily : PySem.W.findIn K (.ref CFamily) "__setattr__" = some (some (.builtin "object.__setattr__")))
    (mkFamily : PySem.W.makesIn K CFamily = true)
    (kcFamily : PySem.W.keepIn K (.ref CFamily) = true)
    (n_cornersFamily : PySem.W.findIn K (.ref CFamily) "_corners" = some none)
    (n_setsFamily : PySem.W.findIn K (.ref CFamily) "_sets" = some none)
    (c1Family : PySem.W.findIn K (.ref CFamily) "__class__" = some (some (.builtin "object.__class__")))
    (c2Family : PySem.W.specialIn K (.builtin "object.__class__") "__get__" = some (some (.builtin "getset_descriptor.__get__")))
    (c3Family : PySem.W.takesIn K (.builtin "object.__class__") = some true)
    (hmFamily : PySem.W.mroIn K CFamily (.type "object") = some true)
    (kitFamily : PySem.W.kitOne K (.ref CFamily) (.ref CFamily) = some true)
    (hneFamily : PySem.W.findIn K (.ref CFamily) "__ne__" = some (some (.builtin "object.__ne__")))
    (z_isinstance : PySem.W.nsIn K mainGlobals "isinstance" = some none)
    (z_int : PySem.W.nsIn K mainGlobals "int" = some none)
    (z_bool : PySem.W.nsIn K mainGlobals "bool" = some none)
    (z_tuple : PySem.W.nsIn K mainGlobals "tuple" = some none)
    (z_all : PySem.W.nsIn K mainGlobals "all" = some none)
    (z_zip : PySem.W.nsIn K mainGlobals "zip" = some none)
    (z_len : PySem.W.nsIn K mainGlobals "len" = some none)
    (z_sorted : PySem.W.nsIn K mainGlobals "sorted" = some none)
    (z_range : PySem.W.nsIn K mainGlobals "range" = some none)
    (z_list : PySem.W.nsIn K mainGlobals "list" = some none)
    (z_str : PySem.W.nsIn K mainGlobals "str" = some none)
    (z_abs : PySem.W.nsIn K mainGlobals "abs" = some none)
    (z_max : PySem.W.nsIn K mainGlobals "max" = some none)
    (z_set : PySem.W.nsIn K mainGlobals "set" = some none)
    (z_min : PySem.W.nsIn K mainGlobals "min" = some none)
    (z_ValueError : PySem.W.nsIn K mainGlobals "ValueError" = some none)
    (z_IndexError : PySem.W.nsIn K mainGlobals "IndexError" = some none)
    (z_iter : PySem.W.nsIn K mainGlobals "iter" = some none)
    (z_property : PySem.W.nsIn K mainGlobals "property" = some none)
    {t_MAX_CORNERS : Nat} (g_MAX_CORNERS : PySem.W.nsIn K mainGlobals "MAX_CORNERS" = some (some (.int 8 t_MAX_CORNERS)))
    {t_MAX_GIVEN : Nat} (g_MAX_GIVEN : PySem.W.nsIn K mainGlobals "MAX_GIVEN" = some (some (.int 256 t_MAX_GIVEN)))
    : LamX.LawAtS l w K CX0 14 63 "_law_script" mg fa h := by
  have e := hfa.symm.trans (PySem.W.mg_of X G a_law)
  cases e
  have F_is_number := fun_mk (st := s_is_number) l_is_number cc_is_number k_is_number
  have b_is_number := F_is_number.binds (ps := ["value"]) fun _ _ _ _ _ _ us hl => match us, hl with | [_], _ => rfl
  have F_is_within := fun_mk (st := s_is_within) l_is_within cc_is_within k_is_within
  have b_is_within := F_is_within.binds (ps := ["value", "least", "most"]) fun _ _ _ _ _ _ us hl => match us, hl with | [_, _, _], _ => rfl
  have F_check_within := fun_mk (st := s_check_within) l_check_within cc_check_within k_check_within
  have b_check_within := F_check_within.binds (ps := ["value", "least", "most"]) fun _ _ _ _ _ _ us hl => match us, hl with | [_, _, _], _ => rfl
  have F_is_set := fun_mk (st := s_is_set) l_is_set cc_is_set k_is_set
  have b_is_set := F_is_set.binds (ps := ["value", "many"]) fun _ _ _ _ _ _ us hl => match us, hl with | [_, _], _ => rfl
  have F_ordered := fun_mk (st := s_ordered) l_ordered cc_ordered k_ordered
  have b_ordered := F_ordered.binds (ps := ["sets"]) fun _ _ _ _ _ _ us hl => match us, hl with | [_], _ => rfl
  have F_smaller_sets := fun_mk (st := s_smaller_sets) l_smaller_sets cc_smaller_sets k_smaller_sets
  have b_smaller_sets := F_smaller_sets.binds (ps := ["chosen"]) fun _ _ _ _ _ _ us hl => match us, hl with | [_], _ => rfl
  have F_all_within := fun_mk (st := s_all_within) l_all_within cc_all_within k_all_within
  have b_all_within := F_all_within.binds (ps := ["sets"]) fun _ _ _ _ _ _ us hl => match us, hl with | [_], _ => rfl
  have F_greatest_sets := fun_mk (st := s_greatest_sets) l_greatest_sets cc_greatest_sets k_greatest_sets
  have b_greatest_sets := F_greatest_sets.binds (ps := ["sets"]) fun _ _ _ _ _ _ us hl => match us, hl with | [_], _ => rfl
  have F_is_inside := fun_mk (st := s_is_inside) l_is_inside cc_is_inside k_is_inside
  have b_is_inside := F_is_inside.binds (ps := ["chosen", "other"]) fun _ _ _ _ _ _ us hl => match us, hl with | [_, _], _ => rfl
  have F_sets_inside := fun_mk (st := s_sets_inside) l_sets_inside cc_sets_inside k_sets_inside
  have b_sets_inside := F_sets_inside.binds (ps := ["sets", "outer"]) fun _ _ _ _ _ _ us hl => match us, hl with | [_, _], _ => rfl
  have F_link_sets := fun_mk (st := s_link_sets) l_link_sets cc_link_sets k_link_sets
  have b_link_sets := F_link_sets.binds (ps := ["sets", "member"]) fun _ _ _ _ _ _ us hl => match us, hl with | [_, _], _ => rfl
  have F_family_text := fun_mk (st := s_family_text) l_family_text cc_family_text k_family_text
  have b_family_text := F_family_text.binds (ps := ["corners", "members"]) fun _ _ _ _ _ _ us hl => match us, hl with | [_, _], _ => rfl
  have F_set_text := fun_mk (st := s_set_text) l_set_text cc_set_text k_set_text
  have b_set_text := F_set_text.binds (ps := ["chosen"]) fun _ _ _ _ _ _ us hl => match us, hl with | [_], _ => rfl
  have F_are_sets := fun_mk (st := s_are_sets) l_are_sets cc_are_sets k_are_sets
  have b_are_sets := F_are_sets.binds (ps := ["value", "corners"]) fun _ _ _ _ _ _ us hl => match us, hl with | [_, _], _ => rfl
  have F_made_family := fun_mk (st := s_made_family) l_made_family cc_made_family k_made_family
  have b_made_family := F_made_family.binds (ps := ["corners", "sets"]) fun _ _ _ _ _ _ us hl => match us, hl with | [_, _], _ => rfl
  have F_w_pot := fun_mk (st := s_w_pot) l_w_pot cc_w_pot k_w_pot
  have b_w_pot := F_w_pot.binds (ps := ["_law_script", "_law_at"]) fun _ _ _ _ _ _ us hl => match us, hl with | [_, _], _ => rfl
  have F_w_dip := fun_mk (st := s_w_dip) l_w_dip cc_w_dip k_w_dip
  have b_w_dip := F_w_dip.binds (ps := ["_law_pot_here", "_law_total"]) fun _ _ _ _ _ _ us hl => match us, hl with | [_, _], _ => rfl
  have F_w_pick := fun_mk (st := s_w_pick) l_w_pick cc_w_pick k_w_pick
  have b_w_pick := F_w_pick.binds (ps := ["_law_pot_here", "_law_items"]) fun _ _ _ _ _ _ us hl => match us, hl with | [_, _], _ => rfl
  have F_w_subsets := fun_mk (st := s_w_subsets) l_w_subsets cc_w_subsets k_w_subsets
  have b_w_subsets := F_w_subsets.binds (ps := ["_law_size"]) fun _ _ _ _ _ _ us hl => match us, hl with | [_], _ => rfl
  have F_w_inside := fun_mk (st := s_w_inside) l_w_inside cc_w_inside k_w_inside
  have b_w_inside := F_w_inside.binds (ps := ["_law_one", "_law_other"]) fun _ _ _ _ _ _ us hl => match us, hl with | [_, _], _ => rfl
  have F_w_sets := fun_mk (st := s_w_sets) l_w_sets cc_w_sets k_w_sets
  have b_w_sets := F_w_sets.binds (ps := ["_law_pot_here", "_law_size"]) fun _ _ _ _ _ _ us hl => match us, hl with | [_, _], _ => rfl
  have F_w_all := fun_mk (st := s_w_all) l_w_all cc_w_all k_w_all
  have b_w_all := F_w_all.binds (ps := ["_law_size", "_law_sets_here"]) fun _ _ _ _ _ _ us hl => match us, hl with | [_, _], _ => rfl
  have F_w_link := fun_mk (st := s_w_link) l_w_link cc_w_link k_w_link
  have b_w_link := F_w_link.binds (ps := ["_law_members", "_law_one"]) fun _ _ _ _ _ _ us hl => match us, hl with | [_, _], _ => rfl
  have F_w_common := fun_mk (st := s_w_common) l_w_common cc_w_common k_w_common
  have b_w_common := F_w_common.binds (ps := ["_law_one", "_law_other"]) fun _ _ _ _ _ _ us hl => match us, hl with | [_, _], _ => rfl
  have F_w_right := fun_mk (st := s_w_right) l_w_right cc_w_right k_w_right
  have b_w_right := F_w_right.binds (ps := ["_law_pot_here"]) fun _ _ _ _ _ _ us hl => match us, hl with | [_], _ => rfl
  have F_law := fun_mk (st := s_law) l_law cc_law k_law
  have b_law := F_law.binds (ps := ["_law_script"]) fun _ _ _ _ _ _ us hl => match us, hl with | [_], _ => rfl
  have F_init := fun_mk (st := s_init) l_init cc_init k_init
  have b_init := F_init.binds (ps := ["self", "corners", "members"]) fun _ _ _ _ _ _ us hl => match us, hl with | [_, _, _], _ => rfl
  have F_res := fun_mk (st := s_res) l_res cc_res k_res
  have b_res := F_res.binds (ps := ["self", "corners"]) fun _ _ _ _ _ _ us hl => match us, hl with | [_, _], _ => rfl
  have F_link := fun_mk (st := s_link) l_link cc_link k_link
  have b_link := F_link.binds (ps := ["self", "member"]) fun _ _ _ _ _ _ us hl => match us, hl with | [_, _], _ => rfl
  have F_has := fun_mk (st := s_has) l_has cc_has k_has
  have b_has := F_has.binds (ps := ["self", "value"]) fun _ _ _ _ _ _ us hl => match us, hl with | [_, _], _ => rfl
  have F_eq := fun_mk (st := s_eq) l_eq cc_eq k_eq
  have b_eq := F_eq.binds (ps := ["self", "other"]) fun _ _ _ _ _ _ us hl => match us, hl with | [_, _], _ => rfl
  have F_len := fun_mk (st := s_len) l_len cc_len k_len
  have b_len := F_len.binds (ps := ["self"]) fun _ _ _ _ _ _ us hl => match us, hl with | [_], _ => rfl
  have F_iter := fun_mk (st := s_iter) l_iter cc_iter k_iter
  have b_iter := F_iter.binds (ps := ["self"]) fun _ _ _ _ _ _ us hl => match us, hl with | [_], _ => rfl
  have F_str := fun_mk (st := s_str) l_str cc_str k_str
  have b_str := F_str.binds (ps := ["self"]) fun _ _ _ _ _ _ us hl => match us, hl with | [_], _ => rfl
  have F_corners := fun_mk (st := s_corners) l_corners cc_corners k_corners
  have b_corners := F_corners.binds (ps := ["self"]) fun _ _ _ _ _ _ us hl => match us, hl with | [_], _ => rfl
  let T : Txt K mg := ⟨_, _, F_is_number, b_is_number, PySem.W.mg_of X G a_is_number, _, _, F_is_within, b_is_within, PySem.W.mg_of X G a_is_within, _, _, F_check_within, b_check_within, PySem.W.mg_of X G a_check_within, _, _, F_is_set, b_is_set, PySem.W.mg_of X G a_is_set, _, _, F_ordered, _, ⟨_, _, _, _, _, _, _, _, rfl, l_ordered, cc_ordered⟩, b_ordered, PySem.W.mg_of X G a_ordered, _, _, F_smaller_sets, b_smaller_sets, PySem.W.mg_of X G a_smaller_sets, _, _, F_all_within, b_all_within, PySem.W.mg_of X G a_all_within, _, _, F_greatest_sets, b_greatest_sets, PySem.W.mg_of X G a_greatest_sets, _, _, F_is_inside, b_is_inside, PySem.W.mg_of X G a_is_inside, _, _, F_sets_inside, b_sets_inside, PySem.W.mg_of X G a_sets_inside, _, _, F_link_sets, b_link_sets, PySem.W.mg_of X G a_link_sets, _, _, F_family_text, b_family_text, PySem.W.mg_of X G a_family_text, _, _, F_set_text, b_set_text, PySem.W.mg_of X G a_set_text, _, _, F_are_sets, b_are_sets, PySem.W.mg_of X G a_are_sets, _, _, F_made_family, b_made_family, PySem.W.mg_of X G a_made_family, _, _, F_w_pot, b_w_pot, PySem.W.mg_of X G a_w_pot, _, _, F_w_dip, b_w_dip, PySem.W.mg_of X G a_w_dip, _, _, F_w_pick, b_w_pick, PySem.W.mg_of X G a_w_pick, _, _, F_w_subsets, b_w_subsets, PySem.W.mg_of X G a_w_subsets, _, _, F_w_inside, b_w_inside, PySem.W.mg_of X G a_w_inside, _, _, F_w_sets, b_w_sets, PySem.W.mg_of X G a_w_sets, _, _, F_w_all, b_w_all, PySem.W.mg_of X G a_w_all, _, _, F_w_link, b_w_link, PySem.W.mg_of X G a_w_link, _, _, F_w_common, b_w_common, PySem.W.mg_of X G a_w_common, _, _, F_w_right, b_w_right, PySem.W.mg_of X G a_w_right, _, _, F_law, b_law, PySem.W.mg_of X G a_law, PySem.W.mg_none_of X G z_isinstance, PySem.W.mg_none_of X G z_int, PySem.W.mg_none_of X G z_bool, PySem.W.mg_none_of X G z_tuple, PySem.W.mg_none_of X G z_all, PySem.W.mg_none_of X G z_zip, PySem.W.mg_none_of X G z_len, PySem.W.mg_none_of X G z_sorted, PySem.W.mg_none_of X G z_range, PySem.W.mg_none_of X G z_list, PySem.W.mg_none_of X G z_str, PySem.W.mg_none_of X G z_abs, PySem.W.mg_none_of X G z_max, PySem.W.mg_none_of X G z_set, PySem.W.mg_none_of X G z_min, PySem.W.mg_none_of X G z_ValueError, PySem.W.mg_none_of X G z_IndexError, PySem.W.mg_none_of X G z_iter, PySem.W.mg_none_of X G z_property, _, PySem.W.mg_of X G g_MAX_CORNERS, _, PySem.W.mg_of X G g_MAX_GIVEN⟩
  have clFamily : Cls K CFamily := ⟨pgFamily, hdFamily, poFamily, saFamily⟩
  let O : FamT K mg := ⟨CFamily, clFamily, n_cornersFamily, n_setsFamily, PySem.W.mg_of X G aCFamily, _, _, F_init, b_init, ⟨mkFamily, a_init, i_init, kcFamily⟩, fun H a dx fs h => .base (.ins h clFamily c1Family c2Family c3Family hmFamily), kitFamily, _, _, _, ⟨a_corners, g_corners, tk_corners, ⟨_, r_corners⟩⟩, F_corners, b_corners, _, _, F_res, b_res, ⟨a_res, i_res, k_res⟩, _, _, F_link, b_link, ⟨a_link, i_link, k_link⟩, _, _, F_has, b_has, a_has, i_has, _, _, F_eq, b_eq, a_eq, i_eq, _, _, F_len, b_len, a_len, i_len, _, _, F_iter, b_iter, a_iter, i_iter, _, _, F_str, b_str, a_str, i_str, hmFamily, hneFamily⟩
  refine ⟨_, [(c_ordered, 106)], sp_law K, ?_, ?_, ?_, fun s v => .of_eq rfl, fun H a ns hl _ hT hS => ?_, fun base _ _ TB => ok_law T O ?_⟩
  · intro p hp
    rcases List.mem_cons.mp hp with rfl | hp
    · exact hT_ordered
    cases hp
  · intro p hp
    rcases List.mem_cons.mp hp with rfl | hp
    · exact nl_ordered
    cases hp
  · intro p hp
    rcases List.mem_cons.mp hp with rfl | hp
    · exact PySem.W.codeHd_of_K X hd_ordered
    cases hp
  · exact ⟨a, ns, rfl, hS, hl, tabs0 (hT _ List.mem_cons_self), fun _ => rfl⟩
  · exact TB _ List.mem_cons_self
end K39

open PySem PySem.W PyProof.Rows
set_option maxRecDepth 100000 in
set_option maxHeartbeats 0 in
theorem PySem.Challenge.cw_pureladders_k39_whole_restricted_familie_holds : PySem.Challenge.rw_pureladders_k39_whole_restricted_familie.Holds := by
  w_on; o_law; k_head; (case hw => w_witness2)
  k_fill
  refine LamX.walk_ofTs (l := PySem.Challenge.rw_pureladders_k39_whole_restricted_familie) (n := 63) (k := 14) (x := "_law_script") (CX := fun _ => L2.CX0) rfl (by decide) rfl ⟨rfl, by decide, by decide⟩ (fun w h Y => PySem.W.km_in_of Y) ?F (fun _ _ _ _ _ h => h)
  case F =>
    intro w mg fa h Y KX G hmg
    have Z := PySem.W.km_tabs_of Y
    refine' K39.all_mk KX G hmg ?a_is_number ?l_is_number ?cc_is_number ?k_is_number ?a_is_within ?l_is_within ?cc_is_within ?k_is_within ?a_check_within ?l_check_within ?cc_check_within ?k_check_within ?a_is_set ?l_is_set ?cc_is_set ?k_is_set ?a_ordered ?l_ordered ?cc_ordered ?k_ordered ?hd_ordered ?nl_ordered ?hT_ordered ?a_smaller_sets ?l_smaller_sets ?cc_smaller_sets ?k_smaller_sets ?a_all_within ?l_all_within ?cc_all_within ?k_all_within ?a_greatest_sets ?l_greatest_sets ?cc_greatest_sets ?k_greatest_sets ?a_is_inside ?l_is_inside ?cc_is_inside ?k_is_inside ?a_sets_inside ?l_sets_inside ?cc_sets_inside ?k_sets_inside ?a_link_sets ?l_link_sets ?cc_link_sets ?k_link_sets ?a_family_text ?l_family_text ?cc_family_text ?k_family_text ?a_set_text ?l_set_text ?cc_set_text ?k_set_text ?a_are_sets ?l_are_sets ?cc_are_sets ?k_are_sets ?a_made_family ?l_made_family ?cc_made_family ?k_made_family ?a_w_pot ?l_w_pot ?cc_w_pot ?k_w_pot ?a_w_dip ?l_w_dip ?cc_w_dip ?k_w_dip ?a_w_pick ?l_w_pick ?cc_w_pick ?k_w_pick ?a_w_subsets ?l_w_subsets ?cc_w_subsets ?k_w_subsets ?a_w_inside ?l_w_inside ?cc_w_inside ?k_w_inside ?a_w_sets ?l_w_sets ?cc_w_sets ?k_w_sets ?a_w_all ?l_w_all ?cc_w_all ?k_w_all ?a_w_link ?l_w_link ?cc_w_link ?k_w_link ?a_w_common ?l_w_common ?cc_w_common ?k_w_common ?a_w_right ?l_w_right ?cc_w_right ?k_w_right ?a_law ?l_law ?cc_law ?k_law ?aCFamily ?a_init ?i_init ?l_init ?cc_init ?k_init ?a_res ?i_res ?l_res ?cc_res ?k_res ?a_link ?i_link ?l_link ?cc_link ?k_link ?a_has ?i_has ?l_has ?cc_has ?k_has ?a_eq ?i_eq ?l_eq ?cc_eq ?k_eq ?a_len ?i_len ?l_len ?cc_len ?k_len ?a_iter ?i_iter ?l_iter ?cc_iter ?k_iter ?a_str ?i_str ?l_str ?cc_str ?k_str ?a_corners ?g_corners ?tk_corners ?r_corners ?l_corners ?cc_corners ?k_corners ?pgFamily ?hdFamily ?poFamily ?saFamily ?mkFamily ?kcFamily ?n_cornersFamily ?n_setsFamily ?c1Family ?c2Family ?c3Family ?hmFamily ?kitFamily ?hneFamily ?z_isinstance ?z_int ?z_bool ?z_tuple ?z_all ?z_zip ?z_len ?z_sorted ?z_range ?z_list ?z_str ?z_abs ?z_max ?z_set ?z_min ?z_ValueError ?z_IndexError ?z_iter ?z_property ?g_MAX_CORNERS ?g_MAX_GIVEN
    (case a_is_number => first | k_is | kernel_rfl | rfl)
    (case l_is_number => first | k_is | kernel_rfl | rfl)
    (case cc_is_number => first | k_is | kernel_rfl | rfl)
    (case k_is_number => first | k_is | kernel_rfl | rfl)
    (case a_is_within => first | k_is | kernel_rfl | rfl)
    (case l_is_within => first | k_is | kernel_rfl | rfl)
    (case cc_is_within => first | k_is | kernel_rfl | rfl)
    (case k_is_within => first | k_is | kernel_rfl | rfl)
    (case a_check_within => first | k_is | kernel_rfl | rfl)
    (case l_check_within => first | k_is | kernel_rfl | rfl)
    (case cc_check_within => first | k_is | kernel_rfl | rfl)
    (case k_check_within => first | k_is | kernel_rfl | rfl)
    (case a_is_set => first | k_is | kernel_rfl | rfl)
    (case l_is_set => first | k_is | kernel_rfl | rfl)
    (case cc_is_set => first | k_is | kernel_rfl | rfl)
    (case k_is_set => first | k_is | kernel_rfl | rfl)
    (case a_ordered => first | k_is | kernel_rfl | rfl)
    (case l_ordered => first | k_is | kernel_rfl | rfl)
    (case cc_ordered => first | k_is | kernel_rfl | rfl)
    (case k_ordered => first | k_is | kernel_rfl | rfl)
    (case hd_ordered => first | rfl | decide | kernel_rfl | k_is)
    (case nl_ordered => first | rfl | decide | kernel_rfl | k_is)
    (case hT_ordered => exact Z _ (by repeat' first | exact List.mem_cons_self | apply List.mem_cons_of_mem))
    (case a_smaller_sets => first | k_is | kernel_rfl | rfl)
    (case l_smaller_sets => first | k_is | kernel_rfl | rfl)
    (case cc_smaller_sets => first | k_is | kernel_rfl | rfl)
    (case k_smaller_sets => first | k_is | kernel_rfl | rfl)
    (case a_all_within => first | k_is | kernel_rfl | rfl)
    (case l_all_within => first | k_is | kernel_rfl | rfl)
    (case cc_all_within => first | k_is | kernel_rfl | rfl)
    (case k_all_within => first | k_is | kernel_rfl | rfl)
    (case a_greatest_sets => first | k_is | kernel_rfl | rfl)
    (case l_greatest_sets => first | k_is | kernel_rfl | rfl)
    (case cc_greatest_sets => first | k_is | kernel_rfl | rfl)
    (case k_greatest_sets => first | k_is | kernel_rfl | rfl)
    (case a_is_inside => first | k_is | kernel_rfl | rfl)
    (case l_is_inside => first | k_is | kernel_rfl | rfl)
    (case cc_is_inside => first | k_is | kernel_rfl | rfl)
    (case k_is_inside => first | k_is | kernel_rfl | rfl)
    (case a_sets_inside => first | k_is | kernel_rfl | rfl)
    (case l_sets_inside => first | k_is | kernel_rfl | rfl)
    (case cc_sets_inside => first | k_is | kernel_rfl | rfl)
    (case k_sets_inside => first | k_is | kernel_rfl | rfl)
    (case a_link_sets => first | k_is | kernel_rfl | rfl)
    (case l_link_sets => first | k_is | kernel_rfl | rfl)
    (case cc_link_sets => first | k_is | kernel_rfl | rfl)
    (case k_link_sets => first | k_is | kernel_rfl | rfl)
    (case a_family_text => first | k_is | kernel_rfl | rfl)
    (case l_family_text => first | k_is | kernel_rfl | rfl)
    (case cc_family_text => first | k_is | kernel_rfl | rfl)
    (case k_family_text => first | k_is | kernel_rfl | rfl)
    (case a_set_text => first | k_is | kernel_rfl | rfl)
    (case l_set_text => first | k_is | kernel_rfl | rfl)
    (case cc_set_text => first | k_is | kernel_rfl | rfl)
    (case k_set_text => first | k_is | kernel_rfl | rfl)
    (case a_are_sets => first | k_is | kernel_rfl | rfl)
    (case l_are_sets => first | k_is | kernel_rfl | rfl)
    (case cc_are_sets => first | k_is | kernel_rfl | rfl)
    (case k_are_sets => first | k_is | kernel_rfl | rfl)
    (case a_made_family => first | k_is | kernel_rfl | rfl)
    (case l_made_family => first | k_is | kernel_rfl | rfl)
    (case cc_made_family => first | k_is | kernel_rfl | rfl)
    (case k_made_family => first | k_is | kernel_rfl | rfl)
    (case a_w_pot => first | k_is | kernel_rfl | rfl)
    (case l_w_pot => first | k_is | kernel_rfl | rfl)
    (case cc_w_pot => first | k_is | kernel_rfl | rfl)
    (case k_w_pot => first | k_is | kernel_rfl | rfl)
    (case a_w_dip => first | k_is | kernel_rfl | rfl)
    (case l_w_dip => first | k_is | kernel_rfl | rfl)
    (case cc_w_dip => first | k_is | kernel_rfl | rfl)
    (case k_w_dip => first | k_is | kernel_rfl | rfl)
    (case a_w_pick => first | k_is | kernel_rfl | rfl)
    (case l_w_pick => first | k_is | kernel_rfl | rfl)
    (case cc_w_pick => first | k_is | kernel_rfl | rfl)
    (case k_w_pick => first | k_is | kernel_rfl | rfl)
    (case a_w_subsets => first | k_is | kernel_rfl | rfl)
    (case l_w_subsets => first | k_is | kernel_rfl | rfl)
    (case cc_w_subsets => first | k_is | kernel_rfl | rfl)
    (case k_w_subsets => first | k_is | kernel_rfl | rfl)
    (case a_w_inside => first | k_is | kernel_rfl | rfl)
    (case l_w_inside => first | k_is | kernel_rfl | rfl)
    (case cc_w_inside => first | k_is | kernel_rfl | rfl)
    (case k_w_inside => first | k_is | kernel_rfl | rfl)
    (case a_w_sets => first | k_is | kernel_rfl | rfl)
    (case l_w_sets => first | k_is | kernel_rfl | rfl)
    (case cc_w_sets => first | k_is | kernel_rfl | rfl)
    (case k_w_sets => first | k_is | kernel_rfl | rfl)
    (case a_w_all => first | k_is | kernel_rfl | rfl)
    (case l_w_all => first | k_is | kernel_rfl | rfl)
    (case cc_w_all => first | k_is | kernel_rfl | rfl)
    (case k_w_all => first | k_is | kernel_rfl | rfl)
    (case a_w_link => first | k_is | kernel_rfl | rfl)
    (case l_w_link => first | k_is | kernel_rfl | rfl)
    (case cc_w_link => first | k_is | kernel_rfl | rfl)
    (case k_w_link => first | k_is | kernel_rfl | rfl)
    (case a_w_common => first | k_is | kernel_rfl | rfl)
    (case l_w_common => first | k_is | kernel_rfl | rfl)
    (case cc_w_common => first | k_is | kernel_rfl | rfl)
    (case k_w_common => first | k_is | kernel_rfl | rfl)
    (case a_w_right => first | k_is | kernel_rfl | rfl)
    (case l_w_right => first | k_is | kernel_rfl | rfl)
    (case cc_w_right => first | k_is | kernel_rfl | rfl)
    (case k_w_right => first | k_is | kernel_rfl | rfl)
    (case a_law => first | k_is | kernel_rfl | rfl)
    (case l_law => first | k_is | kernel_rfl | rfl)
    (case cc_law => first | k_is | kernel_rfl | rfl)
    (case k_law => first | k_is | kernel_rfl | rfl)
    (case aCFamily => first | k_is | kernel_rfl | rfl)
    (case a_init => first | k_is | kernel_rfl | rfl)
    (case i_init => first | k_is | kernel_rfl | rfl)
    (case l_init => first | k_is | kernel_rfl | rfl)
    (case cc_init => first | k_is | kernel_rfl | rfl)
    (case k_init => first | k_is | kernel_rfl | rfl)
    (case a_res => first | k_is | kernel_rfl | rfl)
    (case i_res => first | k_is | kernel_rfl | rfl)
    (case l_res => first | k_is | kernel_rfl | rfl)
    (case cc_res => first | k_is | kernel_rfl | rfl)
    (case k_res => first | k_is | kernel_rfl | rfl)
    (case a_link => first | k_is | kernel_rfl | rfl)
    (case i_link => first | k_is | kernel_rfl | rfl)
    (case l_link => first | k_is | kernel_rfl | rfl)
    (case cc_link => first | k_is | kernel_rfl | rfl)
    (case k_link => first | k_is | kernel_rfl | rfl)
    (case a_has => first | k_is | kernel_rfl | rfl)
    (case i_has => first | k_is | kernel_rfl | rfl)
    (case l_has => first | k_is | kernel_rfl | rfl)
    (case cc_has => first | k_is | kernel_rfl | rfl)
    (case k_has => first | k_is | kernel_rfl | rfl)
    (case a_eq => first | k_is | kernel_rfl | rfl)
    (case i_eq => first | k_is | kernel_rfl | rfl)
    (case l_eq => first | k_is | kernel_rfl | rfl)
    (case cc_eq => first | k_is | kernel_rfl | rfl)
    (case k_eq => first | k_is | kernel_rfl | rfl)
    (case a_len => first | k_is | kernel_rfl | rfl)
    (case i_len => first | k_is | kernel_rfl | rfl)
    (case l_len => first | k_is | kernel_rfl | rfl)
    (case cc_len => first | k_is | kernel_rfl | rfl)
    (case k_len => first | k_is | kernel_rfl | rfl)
    (case a_iter => first | k_is | kernel_rfl | rfl)
    (case i_iter => first | k_is | kernel_rfl | rfl)
    (case l_iter => first | k_is | kernel_rfl | rfl)
    (case cc_iter => first | k_is | kernel_rfl | rfl)
    (case k_iter => first | k_is | kernel_rfl | rfl)
    (case a_str => first | k_is | kernel_rfl | rfl)
    (case i_str => first | k_is | kernel_rfl | rfl)
    (case l_str => first | k_is | kernel_rfl | rfl)
    (case cc_str => first | k_is | kernel_rfl | rfl)
    (case k_str => first | k_is | kernel_rfl | rfl)
    (case a_corners => first | k_is | kernel_rfl | rfl)
    (case g_corners => first | k_is | kernel_rfl | rfl)
    (case tk_corners => first | k_is | kernel_rfl | rfl)
    (case r_corners => first | k_is | kernel_rfl | rfl)
    (case l_corners => first | k_is | kernel_rfl | rfl)
    (case cc_corners => first | k_is | kernel_rfl | rfl)
    (case k_corners => first | k_is | kernel_rfl | rfl)
    (case pgFamily => first | k_is | kernel_rfl | rfl)
    (case hdFamily => first | k_is | kernel_rfl | rfl)
    (case poFamily => first | k_is | kernel_rfl | rfl)
    (case saFamily => first | k_is | kernel_rfl | rfl)
    (case mkFamily => first | k_is | kernel_rfl | rfl)
    (case kcFamily => first | k_is | kernel_rfl | rfl)
    (case n_cornersFamily => first | k_is | kernel_rfl | rfl)
    (case n_setsFamily => first | k_is | kernel_rfl | rfl)
    (case c1Family => first | k_is | kernel_rfl | rfl)
    (case c2Family => first | k_is | kernel_rfl | rfl)
    (case c3Family => first | k_is | kernel_rfl | rfl)
    (case hmFamily => first | k_is | kernel_rfl | rfl)
    (case kitFamily => first | k_is | kernel_rfl | rfl)
    (case hneFamily => first | k_is | kernel_rfl | rfl)
    (case z_isinstance => first | k_is | kernel_rfl | rfl)
    (case z_int => first | k_is | kernel_rfl | rfl)
    (case z_bool => first | k_is | kernel_rfl | rfl)
    (case z_tuple => first | k_is | kernel_rfl | rfl)
    (case z_all => first | k_is | kernel_rfl | rfl)
    (case z_zip => first | k_is | kernel_rfl | rfl)
    (case z_len => first | k_is | kernel_rfl | rfl)
    (case z_sorted => first | k_is | kernel_rfl | rfl)
    (case z_range => first | k_is | kernel_rfl | rfl)
    (case z_list => first | k_is | kernel_rfl | rfl)
    (case z_str => first | k_is | kernel_rfl | rfl)
    (case z_abs => first | k_is | kernel_rfl | rfl)
    (case z_max => first | k_is | kernel_rfl | rfl)
    (case z_set => first | k_is | kernel_rfl | rfl)
    (case z_min => first | k_is | kernel_rfl | rfl)
    (case z_ValueError => first | k_is | kernel_rfl | rfl)
    (case z_IndexError => first | k_is | kernel_rfl | rfl)
    (case z_iter => first | k_is | kernel_rfl | rfl)
    (case z_property => first | k_is | kernel_rfl | rfl)
    (case g_MAX_CORNERS => first | k_is | kernel_rfl | rfl)
    (case g_MAX_GIVEN => first | k_is | kernel_rfl | rfl)
