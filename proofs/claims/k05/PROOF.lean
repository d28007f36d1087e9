import PyProof.Rows.All
import Wide.All
import OpenK.AllK
import Wide.FinOn
import HandS.Base
import HandS.Call
import HandS.List
import HandS.Comp
import HandS.Ends
import HandS.Iter
import HandS.Words
import HandS.WordsList
import HandS.TupMul
import HandS.TupAny
import HandS.IsInst
import HandS.Zip
import HandS.Style
import HandS.Wide
import HandS.GenList
import KE.SortData
import KE.KTupSum
import KE.KEqSeq
import PySem.Challenge.RW_pureladders_k05_whole_all_products_in_th
set_option Elab.async false
set_option linter.all false
set_option maxRecDepth 100000
set_option maxHeartbeats 4000000
/-! the products of a degree: a mirror in plain Lean, and what is checked of it once for all -/
namespace L5
def foundN (d : Nat) : Nat → List (List Nat)
  | 0 => [[]]
  | n + 1 => (foundN d n).flatMap fun t => (List.range (d + 1 - t.sum)).map fun e => t ++ [e]
def asc (l d : Nat) : List (List Nat) := (foundN d (l - 1)).map fun t => t ++ [d - t.sum]
def listed (l d : Nat) : List (List Nat) := (asc l d).reverse
def lastPos (t : List Nat) : Nat → Option Nat
  | 0 => none
  | n + 1 => if t.getD n 0 = 0 then lastPos t n else some n
def nextAt (t : List Nat) (k : Nat) : List Nat := t.take k ++ [t.getD k 0 - 1, t.getD (t.length - 1) 0 + 1] ++ List.replicate (t.length - 1 - k - 1) 0
def next (t : List Nat) : Option (List Nat) := (lastPos t (t.length - 1)).map (nextAt t)
def chainB : List (List Nat) → Bool
  | [] => true
  | t :: r => (match r with
    | [] => (lastPos t (t.length - 1)).isNone
    | u :: _ => match lastPos t (t.length - 1) with
      | none => false
      | some k => nextAt t k == u) && chainB r
def sums : Nat → List Nat → List Nat
  | _, [] => []
  | a, x :: r => (a + x) :: sums (a + x) r
def rowN (d : Nat) : Nat → List Nat
  | 0 => 1 :: List.replicate d 0
  | n + 1 => sums 0 (rowN d n)
def choicesN (l d : Nat) : Nat := (rowN d l).getD d 0
def unitN (l k : Nat) : List Nat := (List.range l).map fun p => if p = k then 1 else 0
def lexB : List Nat → List Nat → Bool
  | [], _ => true
  | _ :: _, [] => false
  | x :: xs, y :: ys => if x < y then true else if x = y then lexB xs ys else false
def ascB : List (List Nat) → Bool
  | [] => true
  | t :: r => (match r with
    | [] => true
    | u :: _ => lexB t u) && ascB r
def prodB (l d : Nat) (t : List Nat) : Bool := t.length == l && t.sum == d && t.all (fun e => Nat.ble e 20)
def okB (l d : Nat) : Bool :=
  let L := listed l d
  let M := asc l (d + 1)
  (match L with | [] => false | t :: _ => t == d :: List.replicate (l - 1) 0) && chainB L && ascB (asc l d) && ascB M && L.length == choicesN l d && L.all (prodB l d) && M.all (prodB l (d + 1)) && Nat.ble M.length 400 &&
    (List.range l).all fun k => (L.map fun t => List.zipWith (· + ·) t (unitN l k)) == M.reverse.filter fun t => Nat.blt 0 (t.getD k 0)
def top (l : Nat) : Nat := if l < 4 then 13 else if l ≤ 6 then 5 else 4
def szB (l d : Nat) : Bool := (List.range l).all fun n => Nat.ble (foundN d n).length 400
theorem all_ok : (List.range 8).all (fun i => (List.range (top (i + 1))).all fun d => okB (i + 1) d && (szB (i + 1) d && szB (i + 1) (d + 1))) = true := by decide +kernel
theorem ok_of {l d : Nat} (h1 : 1 ≤ l) (h8 : l ≤ 8) (hd : d < top l) : okB l d = true ∧ szB l d = true ∧ szB l (d + 1) = true := by
  have h := List.all_eq_true.mp all_ok (l - 1) (List.mem_range.mpr (by omega))
  rw [show l - 1 + 1 = l by omega] at h
  have g := List.all_eq_true.mp h d (List.mem_range.mpr hd)
  rw [Bool.and_eq_true, Bool.and_eq_true] at g
  exact ⟨g.1, g.2.1, g.2.2⟩
theorem sz_of {l d n : Nat} (h : szB l d = true) (hn : n < l) : (foundN d n).length ≤ 400 := Nat.le_of_ble_eq_true (List.all_eq_true.mp h n (List.mem_range.mpr hn))
structure Ok (l d : Nat) : Prop where
  head : ∃ r, listed l d = (d :: List.replicate (l - 1) 0) :: r
  chain : chainB (listed l d) = true
  asc1 : ascB (asc l d) = true
  asc2 : ascB (asc l (d + 1)) = true
  len : (listed l d).length = choicesN l d
  prod1 : ∀ t ∈ listed l d, prodB l d t = true
  prod2 : ∀ t ∈ asc l (d + 1), prodB l (d + 1) t = true
  size : (asc l (d + 1)).length ≤ 400
  more : ∀ k, k < l → ((listed l d).map fun t => List.zipWith (· + ·) t (unitN l k)) = (listed l (d + 1)).filter fun t => Nat.blt 0 (t.getD k 0)
theorem okS {l d : Nat} (h : okB l d = true) : Ok l d := by
  unfold okB at h
  simp only [Bool.and_eq_true] at h
  obtain ⟨⟨⟨⟨⟨⟨⟨⟨h1, h2⟩, h3⟩, h4⟩, h5⟩, h6⟩, h7⟩, h8⟩, h9⟩ := h
  refine ⟨?_, h2, h3, h4, beq_iff_eq.mp h5, fun t ht => List.all_eq_true.mp h6 t ht, fun t ht => List.all_eq_true.mp h7 t ht, Nat.le_of_ble_eq_true h8, fun k hk => beq_iff_eq.mp (List.all_eq_true.mp h9 k (List.mem_range.mpr hk))⟩
  cases e : listed l d with
  | nil =>
    rw [e] at h1
    cases h1
  | cons t r =>
    rw [e] at h1
    rw [beq_iff_eq.mp h1]
    exact ⟨r, rfl⟩
theorem prod_of {l d : Nat} {t : List Nat} (h : prodB l d t = true) : t.length = l ∧ t.sum = d ∧ ∀ e ∈ t, e ≤ 20 := by
  unfold prodB at h
  rw [Bool.and_eq_true, Bool.and_eq_true] at h
  exact ⟨beq_iff_eq.mp h.1.1, beq_iff_eq.mp h.1.2, fun e he => Nat.le_of_ble_eq_true (List.all_eq_true.mp h.2 e he)⟩
theorem chain_last : ∀ {L : List (List Nat)} {i : Nat} {t : List Nat}, chainB L = true → L[i]? = some t → L[i + 1]? = none → lastPos t (t.length - 1) = none
  | [], _, _, _, h, _ => by simp at h
  | [u], 0, t, h, e, _ => by
    have e' : u = t := Option.some.inj e
    subst e'
    have h' : ((lastPos u (u.length - 1)).isNone && true) = true := h
    rw [Bool.and_true] at h'
    exact Option.isNone_iff_eq_none.mp h'
  | [_], i + 1, _, _, e, _ => by simp at e
  | u :: v :: r, 0, t, h, e, n => by simp at n
  | u :: v :: r, i + 1, t, h, e, n => by
    have h' : (_ && chainB (v :: r)) = true := h
    rw [Bool.and_eq_true] at h'
    exact chain_last h'.2 e n
theorem chain_next : ∀ {L : List (List Nat)} {i : Nat} {t u : List Nat}, chainB L = true → L[i]? = some t → L[i + 1]? = some u → ∃ k, lastPos t (t.length - 1) = some k ∧ nextAt t k = u
  | [], _, _, _, _, h, _ => by simp at h
  | [_], _, _, _, _, _, n => by simp at n
  | u :: v :: r, 0, t, w, h, e, n => by
    have e' : u = t := Option.some.inj e
    have n' : v = w := Option.some.inj n
    subst e' n'
    have h' : ((match lastPos u (u.length - 1) with | none => false | some k => nextAt u k == v) && chainB (v :: r)) = true := h
    rw [Bool.and_eq_true] at h'
    cases q : lastPos u (u.length - 1) with
    | none =>
      rw [q] at h'
      cases h'.1
    | some k =>
      rw [q] at h'
      exact ⟨k, rfl, beq_iff_eq.mp h'.1⟩
  | u :: v :: r, i + 1, t, w, h, e, n => by
    have h' : (_ && chainB (v :: r)) = true := h
    rw [Bool.and_eq_true] at h'
    exact chain_next (L := v :: r) h'.2 e n
theorem found_len (d : Nat) : ∀ n, ∀ t ∈ foundN d n, t.length = n
  | 0, t, h => by
    rw [List.mem_singleton.mp h]
    rfl
  | n + 1, t, h => by
    obtain ⟨u, hu, h2⟩ := List.mem_flatMap.mp h
    obtain ⟨e, _, rfl⟩ := List.mem_map.mp h2
    rw [List.length_append, found_len d n u hu]
    rfl
theorem found_sum (d : Nat) : ∀ n, ∀ t ∈ foundN d n, t.sum ≤ d
  | 0, t, h => by
    rw [List.mem_singleton.mp h]
    exact Nat.zero_le _
  | n + 1, t, h => by
    obtain ⟨u, hu, h2⟩ := List.mem_flatMap.mp h
    obtain ⟨e, he, rfl⟩ := List.mem_map.mp h2
    have h1 := found_sum d n u hu
    have h3 := List.mem_range.mp he
    rw [List.sum_append, List.sum_singleton]
    omega
theorem top_le (l : Nat) : top l ≤ 13 := by
  unfold top
  split
  · omega
  · split <;> omega
end L5

/-! rules that the layer lacks -/
namespace L5
open PySem PySem.Spec PyProof.Rows L2
/-! ### powers of great numbers -/
def CPowW (i j : Int) : Prop := 0 ≤ j ∧ (Builtin.Int.intBits i : Int) * j ≤ 2 ^ 27
theorem op_powW {X : Cx} : OpR X (binaryOp .Pow) (rI CPowW fun i j => .int (i ^ j.toNat)) := opI fun _ _ _ _ _ _ _ hc q => pow_int hc.1 hc.2 q
/-! ### sum and max of a tuple of ints -/
section
variable {pr : Program} {wd : World} {A : Around} {E : Value → Shared → Prop} {s : Shared} {tp : Addr} {us : List Value} {ms : List Int} {G : Value → Shared → Prop}
/-- a row of ints, as the library's walks want it -/
theorem items_of (hi : IntsAre us ms) : ∃ ws : Array (Int × Tok), us.toArray = intItems ws ∧ ws.toList.map (·.1) = ms := by
  obtain ⟨ws, ew⟩ := hi.allInts.items
  refine ⟨ws, ew, ?_⟩
  rw [← nums_intItems, ← ew]
  exact hi.numsOf
abbrev Stays (s : Shared) (h : Heap) : Prop := ∀ b o, s.heap.get? b = some o → h.get? b = some o
theorem sum_of_tuple (hh : A.handled = none) (ht : s.heap.IsTuple tp us.toArray) (hi : IntsAre us ms) (q : ∀ h n t, Stays s h → G (.int ms.sum t) { s with heap := h, toks := n }) :
    wpAny (model pr wd) A (call (.builtin "sum") [.ref tp]) G E s := by
  obtain ⟨ws, ew, en⟩ := items_of hi
  rw [ew] at ht
  refine PySem.W.ktm_sumG hh ht fun h n t kept => ?_
  have g := q h n t kept
  rw [← en] at g
  rw [preSum_eq, List.take_of_length_le (by rw [List.length_map, Array.length_toList]; exact Nat.le_refl _)]
  exact g
theorem max_of_tuple (hh : A.handled = none) (ht : s.heap.IsTuple tp us.toArray) (hi : IntsAre us ms) (some1 : 0 < ms.length) (q : ∀ h n M t, Stays s h → M ∈ ms → (∀ a, a ∈ ms → a ≤ M) → G (.int M t) { s with heap := h, toks := n }) :
    wpAny (model pr wd) A (call (.builtin "max") [.ref tp]) G E s := by
  obtain ⟨ws, ew, en⟩ := items_of hi
  subst en
  rw [ew] at ht
  have pos : 0 < ws.size := by simpa using some1
  have esz : (intItems ws).size = ws.size := by simp [intItems]
  obtain ⟨ob, hob, _⟩ := id ht
  have apart : tp ≠ s.heap.objs.size := Nat.ne_of_lt (Heap.lt_size hob)
  refine call_max_walk (wpAny_pyIter_tuple ht ?_)
  refine ⟨_, _, _, _, _, _, _, rfl, Walks.tuple (A := A.in1) hh s.heap.objs.size tp apart (intItems ws), ⟨⟨_, Heap.get?_push_size _ rfl, rfl, rfl⟩, ht.at fun o e => Heap.get?_push_of_some _ e⟩, fun b hb => ?_, by rw [esz]; exact pos, CmpOf.ints_gt (numAt ws) (fun _ _ => intItems_at), fun v h n hv kept => ?_⟩
  · have two : b = s.heap.objs.size ∨ b = tp := by simpa using hb
    rcases two with rfl | rfl
    · exact Heap.lt_size (o := _) (Heap.get?_push_size _ rfl)
    · exact Heap.lt_size (o := ob) (Heap.get?_push_of_some _ hob)
  · obtain ⟨t, rfl⟩ := intItems_at hv
    rw [esz] at *
    obtain ⟨top1, top2⟩ := argBest_gt (numAt ws) (ws.size - 1)
    have at_of : ∀ i, numAt ws i = (ws.toList.map (·.1)).getD i 0 := fun i => numAt_eq ..
    refine q h n _ t (fun b o e => kept b o (fun hb => ?_) (Heap.get?_push_of_some _ e)) ?_ fun a ha => ?_
    · rw [List.mem_singleton.mp hb] at e
      exact Nat.lt_irrefl _ (Heap.lt_size e)
    · rw [at_of]
      refine PySem.getD_mem ?_
      rw [List.length_map, Array.length_toList]
      omega
    · obtain ⟨i, less, rfl⟩ := mem_getD ha
      rw [List.length_map, Array.length_toList] at less
      rw [← at_of]
      exact top2 i (by omega)
end
section
variable {X : Cx}
def rSumT (K : PySem.W.Frag) : List V → Hp → VK → Prop := fun vs H Q => ∃ (a : Addr) (ns : List Int), vs = [V.ref a] ∧ SqT K H a (ns.map V.int) ∧ Q (.int ns.sum) H
theorem cr_sumT (calm : X.calm = true) : CallR X (.builtin "sum") (rSumT X.K) := fun _ _ _ _ _ _ _ I r h => by
  obtain ⟨_, _, rfl, ht, q⟩ := h
  obtain ⟨_, rv, plain, _⟩ := I.tuple ht
  rw [Vals.ref1 r]
  exact sum_of_tuple (I.ok.hd calm) plain rv.ints fun _ _ _ kept => ⟨.int _, _, I.kept kept, ⟨_, rfl⟩, q⟩
def rMaxT (K : PySem.W.Frag) : List V → Hp → VK → Prop := fun vs H Q => ∃ (a : Addr) (ns : List Int), vs = [V.ref a] ∧ SqT K H a (ns.map V.int) ∧ 0 < ns.length ∧ ∀ m, m ∈ ns → (∀ y, y ∈ ns → y ≤ m) → Q (.int m) H
theorem cr_maxT (calm : X.calm = true) : CallR X (.builtin "max") (rMaxT X.K) := fun _ _ _ _ _ _ _ I r h => by
  obtain ⟨_, _, rfl, ht, some1, q⟩ := h
  obtain ⟨_, rv, plain, _⟩ := I.tuple ht
  rw [Vals.ref1 r]
  exact max_of_tuple (I.ok.hd calm) plain rv.ints some1 fun _ _ m _ kept g1 g2 => ⟨.int m, _, I.kept kept, ⟨_, rfl⟩, q m g1 g2⟩
end
/-! ### tuple * int, any int: the tuple itself, the empty one, or a longer one -/
abbrev tupObj (items : Array Value) (n : Nat) (dd : Option Addr) (sl : Array (Option Value)) : Obj := { cls := .type "tuple", dict := dd, data := .seq items n, slots := sl }
theorem off_of {b : Bool} (h : b = false) : decide (b = true) = false := decide_eq_false (Bool.eq_false_iff.mp h)
theorem mul_same (tp : Addr) (items : Array Value) (n : Nat) (dd : Option Addr) (sl : Array (Option Value)) (x : Int) (u : Tok) (fits : (decide (x < -(2 ^ 63)) || decide (x ≥ 2 ^ 63)) = false) (same : (items.isEmpty || x == 1) = true) :
    Meets (Builtin.«tuple.__mul__» ⟨[.ref tp, .int x u], []⟩) (fun _ R s => s.heap.get? tp = some (tupObj items n dd sl) ∧ R (.ok (.ret (Value.ref tp))) { s with heap := s.heap, toks := s.toks }) :=
  .of_wp fun _ _ _ _ st both => by
    obtain ⟨_, _, _, _, _⟩ := st
    obtain ⟨at1, q⟩ := both
    have ix := AutoSeq1.idx_int
    wp_walk using wpAny_loadPart' at1
    repeat (first
      | (refine wpAny_ite_false (off_of fits) ?_; wp_walk using wpAny_loadPart' at1)
      | (refine wpAny_ite_true (decide_eq_true same) ?_; wp_walk using wpAny_loadPart' at1))
    exact ⟨_, rfl, q⟩
theorem mul_none (tp : Addr) (items : Array Value) (n : Nat) (dd : Option Addr) (sl : Array (Option Value)) (x : Int) (u : Tok) (fits : (decide (x < -(2 ^ 63)) || decide (x ≥ 2 ^ 63)) = false) (other : (items.isEmpty || x == 1) = false) (less : (decide (x ≤ 0) || items.isEmpty) = true) :
    Meets (Builtin.«tuple.__mul__» ⟨[.ref tp, .int x u], []⟩) (fun _ R s => s.heap.get? tp = some (tupObj items n dd sl) ∧
      R (.ok (.ret (Value.ref s.heap.objs.size))) { s with heap := s.heap.push { cls := Value.type "tuple", data := Data.seq #[] }, toks := s.toks }) :=
  .of_wp fun _ _ _ _ st both => by
    obtain ⟨_, _, _, _, _⟩ := st
    obtain ⟨at1, q⟩ := both
    have ix := AutoSeq1.idx_int
    wp_walk using wpAny_loadPart' at1
    repeat (first
      | (refine wpAny_ite_false (off_of fits) ?_; wp_walk using wpAny_loadPart' at1)
      | (refine wpAny_ite_false (off_of other) ?_; wp_walk using wpAny_loadPart' at1)
      | (refine wpAny_ite_true (decide_eq_true less) ?_; wp_walk using wpAny_loadPart' at1))
    exact ⟨_, rfl, q⟩
def rRepA (K : PySem.W.Frag) : R2 := fun x y H Q => ∃ l k xs, x = .ref l ∧ y = .int k ∧ SqT K H l xs ∧ xs ≠ [] ∧ -1000 ≤ k ∧ k ≤ 1000 ∧ xs.length ≤ 1000 ∧
  (k = 1 → Q (.ref l) H) ∧ (k ≠ 1 → ∀ p, H p = none → Q (.ref p) (upd H p (.tup (List.replicate k.toNat xs).flatten)))
section
variable {X : Cx}
theorem op_repA : OpR X (binaryOp .Mult) (rRepA X.K) := fun pins s σ H x y v u Q I rx ry h => by
  obtain ⟨tp, k, xs, rfl, rfl, isT, full, lo, hi, short, qa, qb⟩ := h
  by_cases two : 2 ≤ k
  · exact op_repT pins s σ H _ _ v u Q I rx ry ⟨tp, k, xs, rfl, rfl, isT, full, two, hi, short, qb (by omega)⟩
  cases rx
  obtain ⟨tk, rfl⟩ := ry
  obtain ⟨its, r, ⟨⟨c, dd, dt, sl⟩, ho, hc, n, hd⟩, _⟩ := I.tuple isT
  simp only at hc hd
  subst hc hd
  have filled : its.toArray.isEmpty = false := by
    cases its with
    | nil =>
      cases r
      exact absurd rfl full
    | cons _ _ => rfl
  have fits : (decide (k < -(2 ^ 63)) || decide (k ≥ 2 ^ 63)) = false := Bool.or_eq_false_iff.mpr ⟨decide_eq_false (by omega), decide_eq_false (by omega)⟩
  by_cases one : k = 1
  · subst one
    refine wpAny_binaryOp_repeat_ref (T := "tuple") (U := "int") (by decide) ⟨_, ho, rfl⟩ (fun z => typeIs_int z _ tk) noFill_tuple_mul F.fills_int_mul F.slot_int_rmul repeat_tuple F.slot_int_index.lookup
      (call_meets F.slot_int_rmul (typeIs_int s _ tk) F.entry_int_rmul (F.args_int_rmul_2 _ _) (int_rmul_tuple _ tk tp its.toArray n dd sl)
        ⟨ho, rfl, ⟨_, ho, rfl⟩, call_meets F.slot_tuple_mul ⟨_, ho, rfl⟩ F.entry_tuple_mul (F.args_tuple_mul_2 _ _) (mul_same tp its.toArray n dd sl 1 tk fits (by rw [filled]; rfl)) ⟨ho, ?_⟩⟩)
    exact ⟨.ref tp, H, I, rfl, qa rfl⟩
  · have other : (its.toArray.isEmpty || k == 1) = false := Bool.or_eq_false_iff.mpr ⟨filled, beq_eq_false_iff_ne.mpr one⟩
    have less : (decide (k ≤ 0) || its.toArray.isEmpty) = true := Bool.or_eq_true_iff.mpr (.inl (decide_eq_true (by omega)))
    refine wpAny_binaryOp_repeat_ref (T := "tuple") (U := "int") (by decide) ⟨_, ho, rfl⟩ (fun z => typeIs_int z k tk) noFill_tuple_mul F.fills_int_mul F.slot_int_rmul repeat_tuple F.slot_int_index.lookup
      (call_meets F.slot_int_rmul (typeIs_int s k tk) F.entry_int_rmul (F.args_int_rmul_2 _ _) (int_rmul_tuple k tk tp its.toArray n dd sl)
        ⟨ho, rfl, ⟨_, ho, rfl⟩, call_meets F.slot_tuple_mul ⟨_, ho, rfl⟩ F.entry_tuple_mul (F.args_tuple_mul_2 _ _) (mul_none tp its.toArray n dd sl k tk fits other less) ⟨ho, ?_⟩⟩)
    have e0 : (List.replicate k.toNat xs).flatten = [] := by
      rw [show k.toNat = 0 by omega]
      rfl
    have q := qb one s.heap.objs.size (I.hok.fresh (Nat.le_refl _))
    rw [e0] at q
    exact ⟨.ref s.heap.objs.size, _, I.laid (t' := s.toks) (o := .tup []) (fun _ _ e => Heap.get?_push_of_some _ e) (Nat.le_refl _) ⟨Nat.zero_le _, [], .nil, IsTup.new _ _⟩, rfl, q⟩
end
/-! ### words for what stands in the heap -/
section
variable {K : PySem.W.Frag} {H H' : Hp}
abbrev nv (t : List Nat) : List V := t.map fun n => V.int ((n : Nat) : Int)
theorem nv_ints (t : List Nat) : nv t = (t.map fun n => ((n : Nat) : Int)).map V.int := by
  rw [List.map_map]
  rfl
theorem nv_len (t : List Nat) : (nv t).length = t.length := List.length_map _
theorem nv_app (t u : List Nat) : nv (t ++ u) = nv t ++ nv u := List.map_append
theorem nv_get {t : List Nat} {i : Nat} {x : V} (h : (nv t)[i]? = some x) : ∃ n, t[i]? = some n ∧ x = .int ((n : Nat) : Int) := by
  rw [List.getElem?_map] at h
  cases e : t[i]? with
  | none =>
    rw [e] at h
    cases h
  | some n =>
    rw [e] at h
    exact ⟨n, rfl, (Option.some.inj h).symm⟩
theorem nv_at {t : List Nat} {i n : Nat} (h : t[i]? = some n) : atI (nv t) (i : Int) = some (.int ((n : Nat) : Int)) := atI_nat (by rw [List.getElem?_map, h] <;> rfl)
theorem sizeK {n : Nat} (h : n ≤ 1000000) : n < sizeLine := Nat.lt_of_le_of_lt h (by decide)
theorem same_updL {p : Addr} {o : HO} (s : Same H H') (hp : H p = none) : Same H (upd H' p o) := fun b u q => by
  rw [upd_ne (ne_of_none q hp)]
  exact s b u q
theorem sqt_updL {a p : Addr} {xs ys : List V} {o : HO} (hp : H p = some (.lst ys)) (h : SqT K H a xs) : SqT K (upd H p o) a xs := by
  have ne : ∀ u, H a = some u → u ≠ .lst ys → a ≠ p := fun u e n z => by
    rw [z, hp] at e
    exact n (Option.some.inj e).symm
  rcases h with (h | ⟨o, h⟩) | h
  · exact .inl (.inl (by rw [upd_ne (ne _ h (by intro z; cases z))]; exact h))
  · exact .inl (.inr ⟨o, by rw [upd_ne (ne _ h (by intro z; cases z))]; exact h⟩)
  · exact .inr h
theorem sql_updL {a p : Addr} {xs : List V} {o : HO} (hne : a ≠ p) (h : SqL K H a xs) : SqL K (upd H p o) a xs := by
  rcases h with (h | ⟨o, h⟩) | h
  · exact .inl (.inl (by rw [upd_ne hne]; exact h))
  · exact .inl (.inr ⟨o, by rw [upd_ne hne]; exact h⟩)
  · exact .inr h
theorem sum_cast (t : List Nat) : (t.map fun n => ((n : Nat) : Int)).sum = ((t.sum : Nat) : Int) := by
  induction t with
  | nil => rfl
  | cons x r ih => rw [List.map_cons, List.sum_cons, List.sum_cons, ih]; omega
theorem same_sqt {a : Addr} {xs : List V} (e : Same H H') (h : SqT K H a xs) : SqT K H' a xs := by
  rcases h with (h | ⟨o, h⟩) | h
  · exact .inl (.inl (e _ _ h))
  · exact .inl (.inr ⟨o, e _ _ h⟩)
  · exact .inr h
theorem same_new {p : Addr} (h : H p = none) (o : HO) : Same H (upd H p o) := fun b u q => by rw [upd_ne (ne_of_none q h)]; exact q
def Tups (K : PySem.W.Frag) (H : Hp) : List Addr → List (List Nat) → Prop := Paired fun a t => SqT K H a (nv t)
theorem Tups.same (e : Same H H') : ∀ {rs : List Addr} {L : List (List Nat)}, Tups K H rs L → Tups K H' rs L
  | _, _, .nil => .nil
  | _, _, .cons h t => .cons (same_sqt e h) (Tups.same e t)
theorem Tups.updL {p : Addr} {ys : List V} {o : HO} (hp : H p = some (.lst ys)) : ∀ {rs : List Addr} {L : List (List Nat)}, Tups K H rs L → Tups K (upd H p o) rs L
  | _, _, .nil => .nil
  | _, _, .cons h t => .cons (sqt_updL hp h) (Tups.updL hp t)
theorem Tups.length : ∀ {rs : List Addr} {L : List (List Nat)}, Tups K H rs L → rs.length = L.length
  | _, _, .nil => rfl
  | _, _, .cons _ t => congrArg (· + 1) (Tups.length t)
theorem Tups.app : ∀ {rs qs : List Addr} {L M : List (List Nat)}, Tups K H rs L → Tups K H qs M → Tups K H (rs ++ qs) (L ++ M)
  | _, _, _, _, .nil, s => s
  | _, _, _, _, .cons r t, s => .cons r (Tups.app t s)
theorem Tups.rev {rs : List Addr} {L : List (List Nat)} (h : Tups K H rs L) : Tups K H rs.reverse L.reverse := by
  induction h with
  | nil => exact .nil
  | cons r t ih =>
    rw [List.reverse_cons, List.reverse_cons]
    exact ih.app (.cons r .nil)
theorem Tups.get : ∀ {rs : List Addr} {L : List (List Nat)} {i : Nat} {a : Addr}, Tups K H rs L → rs[i]? = some a → ∃ t, L[i]? = some t ∧ SqT K H a (nv t)
  | _, _, _, _, .nil, e => by simp at e
  | _, _, 0, _, .cons r _, e => by simp at e; subst e; exact ⟨_, rfl, r⟩
  | _, _, i + 1, a, .cons _ t, e => by
    obtain ⟨u, h1, h2⟩ := Tups.get (i := i) (a := a) t (by simpa using e)
    exact ⟨u, by simpa using h1, h2⟩
theorem sqt_ty {a : Addr} {xs : List V} (h : SqT K H a xs) : TyX K H (.ref a) (.type "tuple") := by
  rcases h with (h | ⟨o, h⟩) | ⟨o, its, n, e, c, _⟩
  · exact .base (.tup h)
  · exact .fTuple h
  · exact .kTuple e c
/-- as data -/
abbrev encT (t : List Nat) : PyData := .tuple (t.map fun n => PyData.int ((n : Nat) : Int))
theorem dp_nats : ∀ (t : List Nat), DpAll K H (nv t) (t.map fun n => PyData.int ((n : Nat) : Int))
  | [] => .nil
  | n :: t => .cons (.int _) (dp_nats t)
theorem dp_tup {a : Addr} {t : List Nat} (h : SqT K H a (nv t)) : Dp K H (.ref a) (encT t) := .tup h (dp_nats t)
theorem dp_tups : ∀ {rs : List Addr} {L : List (List Nat)}, Tups K H rs L → DpAll K H (rs.map V.ref) (L.map encT)
  | _, _, .nil => .nil
  | _, _, .cons h t => .cons (dp_tup h) (dp_tups t)
theorem can_nats : ∀ t : List Nat, PyData.canLayAll0 (t.map fun n => PyData.int ((n : Nat) : Int)) = true ∧ PyData.depthAll (t.map fun n => PyData.int ((n : Nat) : Int)) = 0
  | [] => by simp [PyData.canLayAll0, PyData.depthAll]
  | n :: t => by
    have h := can_nats t
    simp only [List.map_cons, PyData.canLayAll0, PyData.depthAll, h.1, h.2, PyData.canLay0, PyData.depth]
    simp
theorem can_tups : ∀ L : List (List Nat), PyData.canLayAll0 (L.map encT) = true ∧ PyData.depthAll (L.map encT) ≤ 1
  | [] => by simp [PyData.canLayAll0, PyData.depthAll]
  | t :: L => by
    have h := can_tups L
    have g := can_nats t
    simp only [List.map_cons, PyData.canLayAll0, PyData.depthAll, h.1, PyData.canLay0, PyData.depth, g.1, g.2]
    exact ⟨by simp, by omega⟩
theorem shaped_tups (L : List (List Nat)) : SeqAt.shaped (.list (L.map encT)) = true := by
  have h := can_tups L
  unfold SeqAt.shaped
  simp only [PyData.canLay0, PyData.depth, h.1, Bool.true_and]
  exact decide_eq_true (by omega)
theorem eqv_tups (L : List (List Nat)) : PyData.eqv (.list (L.map encT)) (.list (L.map encT)) = true := SeqAt.eqv_refl _ (by
  simp only [PyData.canLay0]
  exact (can_tups L).1)
theorem shaped_tup (t : List Nat) : SeqAt.shaped (encT t) = true := by
  have g := can_nats t
  unfold SeqAt.shaped
  simp only [encT, PyData.canLay0, PyData.depth, g.1, g.2, Bool.true_and]
  exact decide_eq_true (by omega)
theorem eqv_tup (t : List Nat) : PyData.eqv (encT t) (encT t) = true := SeqAt.eqv_refl _ (by
  simp only [encT, PyData.canLay0]
  exact (can_nats t).1)
end
/-! ### sorted: a list of tuples of numbers that ascends already -/
theorem lexB_not : ∀ a b : List Nat, lexB a b = true → ¬ (b.map fun n => ((n : Nat) : Int)) < (a.map fun n => ((n : Nat) : Int))
  | [], b, _ => by simp
  | _ :: _, [], h => by cases h
  | x :: xs, y :: ys, h => by
    intro q
    rw [List.map_cons, List.map_cons, List.cons_lt_cons_iff] at q
    unfold lexB at h
    by_cases c : x < y
    · rcases q with q | ⟨q, _⟩ <;> omega
    · rw [if_neg c] at h
      by_cases d : x = y
      · rw [if_pos d] at h
        rcases q with q | ⟨_, q⟩
        · omega
        · exact lexB_not xs ys h q
      · rw [if_neg d] at h
        cases h
theorem lexB_le (a b : List Nat) (h : lexB a b = true) : PySem.W.dataLe false encT a b = true := by
  have e : PySem.W.dataLe false encT = PySem.W.dataLe false (fun t : List Nat => PyData.list ((t.map fun n => ((n : Nat) : Int)).map .int)) := by
    funext p q
    rw [PySem.W.dataLe_eq, PySem.W.dataLe_eq]
    simp only [PySem.W.dataLt, encT, PySem.W.keyToks, List.map_map]
    rfl
  rw [e, PySem.W.dataLe_rows (fun t : List Nat => t.map fun n => ((n : Nat) : Int))]
  exact decide_eq_true (List.not_lt.mp (lexB_not a b h))
theorem asc_sorted : ∀ L : List (List Nat), ascB L = true → L.Pairwise fun a b => PySem.W.dataLe false encT a b = true
  | [], _ => .nil
  | [t], _ => List.pairwise_singleton _ _
  | t :: u :: r, h => by
    have h' : (lexB t u && ascB (u :: r)) = true := h
    rw [Bool.and_eq_true] at h'
    have ih := asc_sorted (u :: r) h'.2
    have le := lexB_le t u h'.1
    refine List.pairwise_cons.mpr ⟨fun z hz => ?_, ih⟩
    rcases List.mem_cons.mp hz with e | hz
    · rw [e]
      exact le
    · exact (PySem.W.sortLe_total (PyProof.Rows.listOrd PyProof.Rows.itemOrd) false fun b => PySem.W.keyToks (encT b)).trans t u z le ((List.pairwise_cons.mp ih).1 z hz)
theorem each_tups {K : PySem.W.Frag} {H : Hp} : ∀ {rs : List Addr} {L : List (List Nat)} {us : List Value}, Tups K H rs L → Vals (rs.map V.ref) us → PySem.W.EachIs (fun v t => ∃ a, v = Value.ref a ∧ SqT K H a (nv t)) us L
  | _, _, _, .nil, .nil => .nil
  | _, _, _, .cons h t, .cons r r' => .cons ⟨_, r, h⟩ (each_tups t r')
theorem tups_each {K : PySem.W.Frag} {H : Hp} : ∀ {us : List Value} {L : List (List Nat)}, PySem.W.EachIs (fun v t => ∃ a, v = Value.ref a ∧ SqT K H a (nv t)) us L → ∃ rs : List Addr, Tups K H rs L ∧ Vals (rs.map V.ref) us
  | _, _, .nil => ⟨[], .nil, .nil⟩
  | _, _, .cons ⟨a, e, h⟩ t => by
    obtain ⟨rs, h1, h2⟩ := tups_each t
    exact ⟨a :: rs, .cons h h1, .cons e h2⟩
def rSortT (K : PySem.W.Frag) : List V → Hp → VK → Prop := fun vs H Q => ∃ (a : Addr) (rs : List Addr) (L : List (List Nat)), vs = [V.ref a] ∧ SqL K H a (rs.map V.ref) ∧ Tups K H rs L ∧ (∀ t ∈ L, t ≠ []) ∧ ascB L = true ∧
  ∀ (p : Addr) (qs : List Addr), H p = none → Tups K H qs L → Q (.ref p) (upd H p (.lst (qs.map V.ref)))
theorem cr_sortT {X : Cx} (hu : X.A.units + 64 < cLine) : CallR X (.builtin "sorted") (rSortT X.K) := by
  intro pins s σ H vs us Q I r h
  obtain ⟨a, rs, L, rfl, hs, hT, hne, hasc, q⟩ := h
  obtain ⟨its, rv, hl, hz⟩ := I.list hs
  rw [Vals.ref1 r]
  have e1 := each_tups hT rv
  have e2 : PySem.W.EachIs (fun v t => ∃ as, Reads s.heap v (encT t) as) its L := e1.mono fun v t ⟨a, e, h⟩ => by
    obtain ⟨as, h'⟩ := Dp.reads I _ _ v (dp_tup h) e
    exact ⟨as, h'⟩
  have hlen : its.length = L.length := e1.length
  have hz' : L.length ≤ sizeLine := by
    rw [← hT.length, ← List.length_map (f := V.ref)]
    exact hz
  refine PySem.W.sorted_data hl.isList e1 e2 (PySem.W.AllAlike.of fun b b' => ?_) (.inl fun d hd => ?_) hz' (fun b _ => ?_) fun out ho eo => ?_
  · have e3 : ∀ t : List Nat, encT t = .tuple ((t.map fun n => ((n : Nat) : Int)).map .int) := fun t => by
      rw [List.map_map]
      rfl
    rw [e3, e3]
    exact PySem.W.alike_ints _ _
  · obtain ⟨t, ht, rfl⟩ := List.mem_map.mp hd
    cases t with
    | nil => exact absurd rfl (hne _ ht)
    | cons n t => exact ⟨_, _, rfl⟩
  · have g := can_nats b
    simp only [encT, PyData.depth, g.2]
    omega
  · rw [List.mergeSort_of_pairwise (asc_sorted L hasc)] at eo
    obtain ⟨qs, hq, rq⟩ := tups_each eo
    obtain ⟨ep, he'⟩ := PyProof.Rows.sortedAll_at s.heap its (List.toArray out)
    have hl2 : (qs.map V.ref).length ≤ sizeLine := by rw [List.length_map, hq.length]; exact hz'
    exact ⟨.ref _, upd H (s.heap.objs.size + 1) (.lst (qs.map V.ref)), I.laid (t' := s.toks) (fun _ _ => PyProof.Rows.sortedAll_old) (Nat.le_succ _) ⟨hl2, out, ep, rq, he'⟩, rfl, q _ qs (I.hok.fresh (Nat.le_succ _)) hq⟩
end L5

namespace L5
open PySem PySem.Spec PyProof.Rows L2 RZ
/-! ### the text by places -/
def topS (i : Nat) : Stmt := PySem.Challenge.pw_pureladders_k05_whole_all_products_in_th.main.body.getD i (.Pass ⟨0, 0, 0, 0⟩)
abbrev s_is_number : Stmt := topS 6
abbrev N_is_number : List Str := ["value"]
theorem sc_is_number : FnScope N_is_number ["value"] (defScope s_is_number) := ⟨rfl, rfl, rfl, by decide +kernel, rfl, by decide +kernel, by decide +kernel⟩
abbrev s_is_within : Stmt := topS 7
abbrev N_is_within : List Str := ["value", "least", "most"]
theorem sc_is_within : FnScope N_is_within ["value", "least", "most"] (defScope s_is_within) := ⟨rfl, rfl, rfl, by decide +kernel, rfl, by decide +kernel, by decide +kernel⟩
abbrev s_check_within : Stmt := topS 8
abbrev N_check_within : List Str := ["value", "least", "most"]
theorem sc_check_within : FnScope N_check_within ["value", "least", "most"] (defScope s_check_within) := ⟨rfl, rfl, rfl, by decide +kernel, rfl, by decide +kernel, by decide +kernel⟩
abbrev s_are_exponents : Stmt := topS 10
abbrev N_are_exponents : List Str := ["value", "letters", "most", "exponent"]
theorem sc_are_exponents : FnScope N_are_exponents ["value", "letters", "most"] (defScope s_are_exponents) := ⟨rfl, rfl, rfl, by decide +kernel, rfl, by decide +kernel, by decide +kernel⟩
abbrev s_added : Stmt := topS 11
abbrev N_added : List Str := ["one", "other", "a", "b"]
theorem sc_added : FnScope N_added ["one", "other"] (defScope s_added) := ⟨rfl, rfl, rfl, by decide +kernel, rfl, by decide +kernel, by decide +kernel⟩
abbrev s_check_product : Stmt := topS 16
abbrev N_check_product : List Str := ["value", "letters"]
theorem sc_check_product : FnScope N_check_product ["value", "letters"] (defScope s_check_product) := ⟨rfl, rfl, rfl, by decide +kernel, rfl, by decide +kernel, by decide +kernel⟩
abbrev s_check_any_product : Stmt := topS 17
abbrev N_check_any_product : List Str := ["value"]
theorem sc_check_any_product : FnScope N_check_any_product ["value"] (defScope s_check_any_product) := ⟨rfl, rfl, rfl, by decide +kernel, rfl, by decide +kernel, by decide +kernel⟩
abbrev s_check_both : Stmt := topS 18
abbrev N_check_both : List Str := ["one", "other"]
theorem sc_check_both : FnScope N_check_both ["one", "other"] (defScope s_check_both) := ⟨rfl, rfl, rfl, by decide +kernel, rfl, by decide +kernel, by decide +kernel⟩
abbrev s_degree_of : Stmt := topS 19
abbrev N_degree_of : List Str := ["product"]
theorem sc_degree_of : FnScope N_degree_of ["product"] (defScope s_degree_of) := ⟨rfl, rfl, rfl, by decide +kernel, rfl, by decide +kernel, by decide +kernel⟩
abbrev s_is_product : Stmt := topS 20
abbrev N_is_product : List Str := ["letters", "value"]
theorem sc_is_product : FnScope N_is_product ["letters", "value"] (defScope s_is_product) := ⟨rfl, rfl, rfl, by decide +kernel, rfl, by decide +kernel, by decide +kernel⟩
abbrev s_product_times : Stmt := topS 21
abbrev N_product_times : List Str := ["one", "other", "both"]
theorem sc_product_times : FnScope N_product_times ["one", "other"] (defScope s_product_times) := ⟨rfl, rfl, rfl, by decide +kernel, rfl, by decide +kernel, by decide +kernel⟩
abbrev s_all_products : Stmt := topS 22
abbrev N_all_products : List Str := ["letters", "degree", "product"]
theorem sc_all_products : GScope N_all_products ["letters", "degree"] (defScope s_all_products) := ⟨rfl, rfl, rfl, by decide +kernel, rfl, by decide +kernel, by decide +kernel⟩
abbrev s_following : Stmt := topS 23
abbrev N_following : List Str := ["product", "last", "at", "rest"]
theorem sc_following : FnScope N_following ["product"] (defScope s_following) := ⟨rfl, rfl, rfl, by decide +kernel, rfl, by decide +kernel, by decide +kernel⟩
abbrev s_w_pail : Stmt := topS 25
abbrev N_w_pail : List Str := ["_law_script", "_law_spot", "_law_cell", "_law_great", "_law_mixed"]
theorem sc_w_pail : FnScope N_w_pail ["_law_script", "_law_spot"] (defScope s_w_pail) := ⟨rfl, rfl, rfl, by decide +kernel, rfl, by decide +kernel, by decide +kernel⟩
abbrev s_w_dipped : Stmt := topS 26
abbrev N_w_dipped : List Str := ["_law_pail_here", "_law_many", "_law_found", "_law_one", "_law_two"]
theorem sc_w_dipped : FnScope N_w_dipped ["_law_pail_here", "_law_many"] (defScope s_w_dipped) := ⟨rfl, rfl, rfl, by decide +kernel, rfl, by decide +kernel, by decide +kernel⟩
abbrev s_w_some : Stmt := topS 27
abbrev N_w_some : List Str := ["_law_pail_here", "_law_items"]
theorem sc_w_some : FnScope N_w_some ["_law_pail_here", "_law_items"] (defScope s_w_some) := ⟨rfl, rfl, rfl, by decide +kernel, rfl, by decide +kernel, by decide +kernel⟩
abbrev s_w_all : Stmt := topS 28
abbrev N_w_all : List Str := ["_law_letters", "_law_degree", "_law_found", "_law_at", "_law_more", "_law_one", "_law_e"]
theorem sc_w_all : FnScope N_w_all ["_law_letters", "_law_degree"] (defScope s_w_all) := ⟨rfl, rfl, rfl, by decide +kernel, rfl, by decide +kernel, by decide +kernel⟩
abbrev s_w_choices : Stmt := topS 29
abbrev N_w_choices : List Str := ["_law_letters", "_law_degree", "_law_row", "_law_turn", "_law_at"]
theorem sc_w_choices : FnScope N_w_choices ["_law_letters", "_law_degree"] (defScope s_w_choices) := ⟨rfl, rfl, rfl, by decide +kernel, rfl, by decide +kernel, by decide +kernel⟩
abbrev s_w_right : Stmt := topS 30
abbrev N_w_right : List Str := ["_law_pail_here", "_law_letters", "_law_degree", "_law_told", "_law_at", "_law_letter", "_law_more", "_law_one", "_law_place"]
theorem sc_w_right : FnScope N_w_right ["_law_pail_here"] (defScope s_w_right) := ⟨rfl, rfl, rfl, by decide +kernel, rfl, by decide +kernel, by decide +kernel⟩
abbrev s_law : Stmt := topS 31
abbrev N_law : List Str := ["_law_script", "_law_spot", "_law_pail_here"]
theorem sc_law : FnScope N_law ["_law_script"] (defScope s_law) := ⟨rfl, rfl, rfl, by decide +kernel, rfl, by decide +kernel, by decide +kernel⟩
/-! ### what the top has written -/
structure Txt (K : PySem.W.Frag) (mg : Str → Option Value) where
  a_is_number : Addr
  d_is_number : FuncData
  F_is_number : Fun K "is_number" "is_number" s_is_number a_is_number d_is_number
  b_is_number : Binds K d_is_number ["value"] []
  m_is_number : mg "is_number" = some (.ref a_is_number)
  a_is_within : Addr
  d_is_within : FuncData
  F_is_within : Fun K "is_within" "is_within" s_is_within a_is_within d_is_within
  b_is_within : Binds K d_is_within ["value", "least", "most"] []
  m_is_within : mg "is_within" = some (.ref a_is_within)
  a_check_within : Addr
  d_check_within : FuncData
  F_check_within : Fun K "check_within" "check_within" s_check_within a_check_within d_check_within
  b_check_within : Binds K d_check_within ["value", "least", "most"] []
  m_check_within : mg "check_within" = some (.ref a_check_within)
  a_are_exponents : Addr
  d_are_exponents : FuncData
  F_are_exponents : Fun K "are_exponents" "are_exponents" s_are_exponents a_are_exponents d_are_exponents
  b_are_exponents : Binds K d_are_exponents ["value", "letters", "most"] []
  m_are_exponents : mg "are_exponents" = some (.ref a_are_exponents)
  a_added : Addr
  d_added : FuncData
  F_added : Fun K "added" "added" s_added a_added d_added
  b_added : Binds K d_added ["one", "other"] []
  m_added : mg "added" = some (.ref a_added)
  a_check_product : Addr
  d_check_product : FuncData
  F_check_product : Fun K "check_product" "check_product" s_check_product a_check_product d_check_product
  b_check_product : Binds K d_check_product ["value", "letters"] []
  m_check_product : mg "check_product" = some (.ref a_check_product)
  a_check_any_product : Addr
  d_check_any_product : FuncData
  F_check_any_product : Fun K "check_any_product" "check_any_product" s_check_any_product a_check_any_product d_check_any_product
  b_check_any_product : Binds K d_check_any_product ["value"] []
  m_check_any_product : mg "check_any_product" = some (.ref a_check_any_product)
  a_check_both : Addr
  d_check_both : FuncData
  F_check_both : Fun K "check_both" "check_both" s_check_both a_check_both d_check_both
  b_check_both : Binds K d_check_both ["one", "other"] []
  m_check_both : mg "check_both" = some (.ref a_check_both)
  a_degree_of : Addr
  d_degree_of : FuncData
  F_degree_of : Fun K "degree_of" "degree_of" s_degree_of a_degree_of d_degree_of
  b_degree_of : Binds K d_degree_of ["product"] []
  m_degree_of : mg "degree_of" = some (.ref a_degree_of)
  a_is_product : Addr
  d_is_product : FuncData
  F_is_product : Fun K "is_product" "is_product" s_is_product a_is_product d_is_product
  b_is_product : Binds K d_is_product ["letters", "value"] []
  m_is_product : mg "is_product" = some (.ref a_is_product)
  a_product_times : Addr
  d_product_times : FuncData
  F_product_times : Fun K "product_times" "product_times" s_product_times a_product_times d_product_times
  b_product_times : Binds K d_product_times ["one", "other"] []
  m_product_times : mg "product_times" = some (.ref a_product_times)
  a_all_products : Addr
  d_all_products : FuncData
  F_all_products : Fun K "all_products" "all_products" s_all_products a_all_products d_all_products
  b_all_products : Binds K d_all_products ["letters", "degree"] []
  m_all_products : mg "all_products" = some (.ref a_all_products)
  a_following : Addr
  d_following : FuncData
  F_following : Fun K "following" "following" s_following a_following d_following
  b_following : Binds K d_following ["product"] []
  m_following : mg "following" = some (.ref a_following)
  a_w_pail : Addr
  d_w_pail : FuncData
  F_w_pail : Fun K "_law_pail" "_law_pail" s_w_pail a_w_pail d_w_pail
  b_w_pail : Binds K d_w_pail ["_law_script", "_law_spot"] []
  m_w_pail : mg "_law_pail" = some (.ref a_w_pail)
  a_w_dipped : Addr
  d_w_dipped : FuncData
  F_w_dipped : Fun K "_law_dipped" "_law_dipped" s_w_dipped a_w_dipped d_w_dipped
  b_w_dipped : Binds K d_w_dipped ["_law_pail_here", "_law_many"] []
  m_w_dipped : mg "_law_dipped" = some (.ref a_w_dipped)
  a_w_some : Addr
  d_w_some : FuncData
  F_w_some : Fun K "_law_some" "_law_some" s_w_some a_w_some d_w_some
  b_w_some : Binds K d_w_some ["_law_pail_here", "_law_items"] []
  m_w_some : mg "_law_some" = some (.ref a_w_some)
  a_w_all : Addr
  d_w_all : FuncData
  F_w_all : Fun K "_law_all" "_law_all" s_w_all a_w_all d_w_all
  b_w_all : Binds K d_w_all ["_law_letters", "_law_degree"] []
  m_w_all : mg "_law_all" = some (.ref a_w_all)
  a_w_choices : Addr
  d_w_choices : FuncData
  F_w_choices : Fun K "_law_choices" "_law_choices" s_w_choices a_w_choices d_w_choices
  b_w_choices : Binds K d_w_choices ["_law_letters", "_law_degree"] []
  m_w_choices : mg "_law_choices" = some (.ref a_w_choices)
  a_w_right : Addr
  d_w_right : FuncData
  F_w_right : Fun K "_law_right" "_law_right" s_w_right a_w_right d_w_right
  b_w_right : Binds K d_w_right ["_law_pail_here"] []
  m_w_right : mg "_law_right" = some (.ref a_w_right)
  a_law : Addr
  d_law : FuncData
  F_law : Fun K "law" "law" s_law a_law d_law
  b_law : Binds K d_law ["_law_script"] []
  m_law : mg "law" = some (.ref a_law)
  z_isinstance : mg "isinstance" = none
  z_int : mg "int" = none
  z_bool : mg "bool" = none
  z_tuple : mg "tuple" = none
  z_len : mg "len" = none
  z_all : mg "all" = none
  z_zip : mg "zip" = none
  z_sum : mg "sum" = none
  z_max : mg "max" = none
  z_abs : mg "abs" = none
  z_range : mg "range" = none
  z_list : mg "list" = none
  z_sorted : mg "sorted" = none
  z_min : mg "min" = none
  t_MAX_LETTERS : Nat
  c_MAX_LETTERS : mg "MAX_LETTERS" = some (.int 8 t_MAX_LETTERS)
  t_MAX_EXPONENT : Nat
  c_MAX_EXPONENT : mg "MAX_EXPONENT" = some (.int 60 t_MAX_EXPONENT)
  t_MAX_LISTED_DEGREE : Nat
  c_MAX_LISTED_DEGREE : mg "MAX_LISTED_DEGREE" = some (.int 12 t_MAX_LISTED_DEGREE)
section
variable {P : Program} {w : World} {K : PySem.W.Frag} {mg : Str → Option Value} {base : Heap}
/-! ### is_number, is_within, check_within, of ints -/
def sp_num : Sp := fun vs H Q _ => ∃ i : Int, vs = [.int i] ∧ Q (.bl true) H
theorem ok_num (T : Txt K mg) : FnOk P w K mg base CX0 1 T.a_is_number T.d_is_number ["value"] sp_num := by
  refine T.F_is_number.ok sc_is_number (fun vs H Q E h => ?_) (fun cdv A outer s H vs Q E hr h => ?_)
  · obtain ⟨i, rfl, _⟩ := h
    rfl
  · obtain ⟨i, rfl, q⟩ := h
    refine ⟨_, pss_one (ps_ret (pe_and (pe_callB call_isi (by rfl) T.z_isinstance boot_isinstance (pa_cons (pv 0) (pa_cons (pe_bltn (v := .ty "int") (by rfl) T.z_int boot_int rfl) pa_nil)))
      (pe_one (pe_not (pe_callB call_isi (by rfl) T.z_isinstance boot_isinstance (pa_cons (pv 0) (pa_cons (pe_bltn (v := .ty "bool") (by rfl) T.z_bool boot_bool rfl) pa_nil))))))), ?_⟩
    refine ⟨_, rfl, _, _, _, _, true, rfl, .ty _, .base (.int i), kit_ty (by decide +kernel), true, rfl, iteT ?_⟩
    exact ⟨_, rfl, _, _, _, _, false, rfl, .ty _, .base (.int i), kit_ty (by decide +kernel), false, rfl, q⟩
def sp_within : Sp := fun vs H Q _ => ∃ i a b : Int, vs = [.int i, .int a, .int b] ∧ Q (.bl (decide (a ≤ i) && decide (i ≤ b))) H
theorem ok_within (T : Txt K mg) : FnOk P w K mg base CX0 2 T.a_is_within T.d_is_within ["value", "least", "most"] sp_within := by
  refine T.F_is_within.ok sc_is_within (fun vs H Q E h => ?_) (fun cdv A outer s H vs Q E hr h => ?_)
  · obtain ⟨i, a, b, rfl, _⟩ := h
    rfl
  · obtain ⟨i, a, b, rfl, q⟩ := h
    refine ⟨_, pss_one (ps_ret (pe_and (pe_call (ok_num T) hr (by rfl) T.m_is_number T.F_is_number.kp T.b_is_number .nil pass0 (pa_cons (pv 0) pa_nil)) (pe_one (pe_chain op_le op_le (pv 1) (pv 0) (pv 2))))), ?_⟩
    refine ⟨_, rfl, i, rfl, true, rfl, iteT ?_⟩
    refine ⟨_, rfl, _, rfl, _, _, rfl, rfl, _, rfl, ite2 (fun c => ?_) (fun c => ?_)⟩
    · refine ⟨_, rfl, _, _, rfl, rfl, ?_⟩
      rw [c] at q
      exact q
    · rw [Bool.eq_false_iff.mpr c] at q
      exact q
def sp_checkw : Sp := fun vs H Q _ => ∃ i a b : Int, vs = [.int i, .int a, .int b] ∧ a ≤ i ∧ i ≤ b ∧ Q .non H
theorem ok_checkw (T : Txt K mg) : FnOk P w K mg base CX0 3 T.a_check_within T.d_check_within ["value", "least", "most"] sp_checkw := by
  refine T.F_check_within.ok sc_check_within (fun vs H Q E h => ?_) (fun cdv A outer s H vs Q E hr h => ?_)
  · obtain ⟨i, a, b, rfl, _⟩ := h
    rfl
  · obtain ⟨i, a, b, rfl, h1, h2, q⟩ := h
    refine ⟨_, pss_one (ps_if (pt_not (pt_val (pe_call (ok_within T) hr (by rfl) T.m_is_within T.F_is_within.kp T.b_is_within .nil pass0 (pa_cons (pv 0) (pa_cons (pv 1) (pa_cons (pv 2) pa_nil)))))) (pss_one ps_never) pss_nil), ?_⟩
    refine ⟨_, rfl, _, rfl, _, rfl, i, a, b, rfl, true, ?_, iteF q⟩
    rw [decide_eq_true h1, decide_eq_true h2]
    rfl
/-! ### are_exponents, of tuples that are products -/
def sp_are (K : PySem.W.Frag) : Sp := fun vs H Q _ => ∃ (p : Addr) (t : List Nat) (m : Int), vs = [.ref p, .int ((t.length : Nat) : Int), .int m] ∧ SqT K H p (nv t) ∧ t.length ≤ 1000 ∧ (∀ e ∈ t, ((e : Nat) : Int) ≤ m) ∧ ∀ H', Same H H' → Q (.bl true) H'
theorem ok_are (T : Txt K mg) : FnOk P w K mg base CX0 3 T.a_are_exponents T.d_are_exponents ["value", "letters", "most"] (sp_are K) := by
  refine T.F_are_exponents.ok sc_are_exponents (fun vs H Q E h => ?_) (fun cdv A outer s H vs Q E hr h => ?_)
  · obtain ⟨p, t, m, rfl, _⟩ := h
    rfl
  · obtain ⟨p, t, m, rfl, hT, hz, hm, q⟩ := h
    refine ⟨_, pss_cons (ps_if (PW.pt (pw_or (pt_not (pt_val (pe_callB call_isi (by rfl) T.z_isinstance boot_isinstance (pa_cons (pv 0) (pa_cons (pe_bltn (v := .ty "tuple") (by rfl) T.z_tuple boot_tuple rfl) pa_nil)))))
        (pw_or1 (pt_cmpR op_ne (pe_callB call_len_seq (by rfl) T.z_len boot_len (pa_cons (pv 0) pa_nil)) (pv 1) (nomark _))))) (pss_one (ps_ret pe_bl)) pss_nil)
      (pss_one (ps_ret (pe_callB (cr_all rfl) (by rfl) T.z_all (by decide +kernel) (pa_cons
        (pe_lc (own := [("exponent", 3)]) (g := gName 3) (tt := tYes) rfl sc_are_exponents.nd (pi_tup (pv 0)) (blkOk_by (own := [("exponent", 3)]) (N := N_are_exponents) (sc := defScope s_are_exponents) (by decide +kernel))
          (fun _ _ _ _ _ => pg_name (i := 3) sc_are_exponents.nd rfl (Or.inl rfl)) (fun _ _ _ _ _ => pts_nil)
          (fun _ _ _ _ _ => pe_call (ok_within T) hr (by rfl) T.m_is_within T.F_is_within.kp T.b_is_within .nil pass0 (pa_cons (pv 3) (pa_cons pe_int (pa_cons (pv 2) pa_nil))))) pa_nil)))), ?_⟩
    refine ⟨_, rfl, _, _, _, _, true, rfl, .ty _, sqt_ty hT, kit_ty (by decide +kernel), true, rfl, ?_⟩
    refine iteF ⟨_, rfl, p, _, rfl, .inr hT, _, rfl, ?_⟩
    have e1 : (!decide (V.int (((nv t).length : Nat) : Int) = V.int ((t.length : Nat) : Int))) = false := by
      rw [nv_len, decide_eq_true rfl]
      rfl
    refine ⟨rfl, _, rfl, ?_⟩
    rw [e1]
    refine iteF ?_
    refine ⟨_, rfl, p, rfl, ⟨_, hT⟩, fun D hD => ?_⟩
    have s1 : Same H (upd H D (.lst [])) := same_new hD _
    refine lc_tup (K := K) (a := p) (xs := nv t) (fun i H' => Same H H' ∧ H' D = some (.lst ((List.replicate i true).map V.bl))) ⟨s1, upd_same⟩ (fun i H' _ h => same_sqt h.1 hT) (fun i x H' hi h => ?_) (fun H' h => ?_)
    · obtain ⟨sm, eD⟩ := h
      obtain ⟨n, hn, rfl⟩ := nv_get hi
      have hle : ((n : Nat) : Int) ≤ m := hm n (List.mem_of_getElem? hn)
      have hb : (decide ((0 : Int) ≤ ((n : Nat) : Int)) && decide (((n : Nat) : Int) ≤ m)) = true := by
        rw [decide_eq_true hle, decide_eq_true (Int.natCast_nonneg n)]
        rfl
      have hlt : i < t.length := (List.getElem?_eq_some_iff.mp hn).1
      refine ⟨rfl, _, rfl, _, rfl, _, _, _, rfl, ?_⟩
      rw [hb]
      refine ⟨_, eD, by rw [List.length_map, List.length_replicate]; exact sizeK (by omega), same_updL sm hD, ?_⟩
      rw [upd_same, List.replicate_succ', List.map_append]
      rfl
    · obtain ⟨sm, eD⟩ := h
      refine ⟨D, _, rfl, SqL.of eD, ?_⟩
      rw [show (List.replicate (nv t).length true).all id = true by rw [List.all_replicate]; simp]
      exact q H' sm
/-! ### check_product, check_any_product, check_both, degree_of, is_product -/
def Prod60 (t : List Nat) : Prop := 1 ≤ t.length ∧ t.length ≤ 8 ∧ ∀ e ∈ t, e ≤ 60
theorem Prod60.i {t : List Nat} (h : Prod60 t) : ∀ e ∈ t, ((e : Nat) : Int) ≤ 60 := fun e he => by
  have := h.2.2 e he
  omega
def sp_checkp (K : PySem.W.Frag) : Sp := fun vs H Q _ => ∃ (p : Addr) (t : List Nat), vs = [.ref p, .int ((t.length : Nat) : Int)] ∧ SqT K H p (nv t) ∧ Prod60 t ∧ ∀ H', Same H H' → Q .non H'
theorem ok_checkp (T : Txt K mg) : FnOk P w K mg base CX0 4 T.a_check_product T.d_check_product ["value", "letters"] (sp_checkp K) := by
  refine T.F_check_product.ok sc_check_product (fun vs H Q E h => ?_) (fun cdv A outer s H vs Q E hr h => ?_)
  · obtain ⟨p, t, rfl, _⟩ := h
    rfl
  · obtain ⟨p, t, rfl, hT, hp, q⟩ := h
    refine ⟨_, pss_one (ps_if (pt_not (pt_val (pe_call (ok_are T) hr (by rfl) T.m_are_exponents T.F_are_exponents.kp T.b_are_exponents .nil pass0 (pa_cons (pv 0) (pa_cons (pv 1) (pa_cons (pe_glob (v := .int 60) rfl T.c_MAX_EXPONENT ⟨_, rfl⟩) pa_nil)))))) (pss_one ps_never) pss_nil), ?_⟩
    have h8 := hp.2.1
    exact ⟨_, rfl, _, rfl, p, t, 60, rfl, hT, by omega, hp.i, fun H' sm => ⟨true, rfl, iteF (q H' sm)⟩⟩
def sp_any (K : PySem.W.Frag) : Sp := fun vs H Q _ => ∃ (p : Addr) (t : List Nat), vs = [.ref p] ∧ SqT K H p (nv t) ∧ Prod60 t ∧ ∀ H', Same H H' → Q .non H'
theorem ok_any (T : Txt K mg) : FnOk P w K mg base CX0 5 T.a_check_any_product T.d_check_any_product ["value"] (sp_any K) := by
  refine T.F_check_any_product.ok sc_check_any_product (fun vs H Q E h => ?_) (fun cdv A outer s H vs Q E hr h => ?_)
  · obtain ⟨p, t, rfl, _⟩ := h
    rfl
  · obtain ⟨p, t, rfl, hT, hp, q⟩ := h
    refine ⟨_, pss_cons (ps_if (PW.pt (pw_or (pt_not (pt_val (pe_callB call_isi (by rfl) T.z_isinstance boot_isinstance (pa_cons (pv 0) (pa_cons (pe_bltn (v := .ty "tuple") (by rfl) T.z_tuple boot_tuple rfl) pa_nil)))))
        (pw_or1 (pt_not (pt_chain op_le op_le pe_int (pe_callB call_len_seq (by rfl) T.z_len boot_len (pa_cons (pv 0) pa_nil)) (pe_glob (v := .int 8) rfl T.c_MAX_LETTERS ⟨_, rfl⟩)))))) (pss_one ps_never) pss_nil)
      (pss_one (ps_expr (pe_call (ok_checkp T) hr (by rfl) T.m_check_product T.F_check_product.kp T.b_check_product .nil pass0 (pa_cons (pv 0) (pa_cons (pe_callB call_len_seq (by rfl) T.z_len boot_len (pa_cons (pv 0) pa_nil)) pa_nil))))), ?_⟩
    have h1 := hp.1
    have h8 := hp.2.1
    refine ⟨_, rfl, _, _, _, _, true, rfl, .ty _, sqt_ty hT, kit_ty (by decide +kernel), true, rfl, ?_⟩
    refine iteF ⟨_, rfl, p, _, rfl, .inr hT, _, _, rfl, rfl, _, rfl, ?_⟩
    have c1 : decide ((1 : Int) ≤ (((nv t).length : Nat) : Int)) = true := decide_eq_true (by rw [nv_len]; omega)
    have c2 : decide ((((nv t).length : Nat) : Int) ≤ (8 : Int)) = true := decide_eq_true (by rw [nv_len]; omega)
    rw [c1]
    refine iteT ⟨_, _, rfl, rfl, true, ?_, ?_⟩
    · exact congrArg V.bl c2
    · refine iteF ⟨_, rfl, _, rfl, p, _, rfl, .inr hT, p, t, ?_, hT, hp, q⟩
      rw [nv_len]
      rfl
def sp_both (K : PySem.W.Frag) : Sp := fun vs H Q _ => ∃ (p r : Addr) (t u : List Nat), vs = [.ref p, .ref r] ∧ SqT K H p (nv t) ∧ SqT K H r (nv u) ∧ Prod60 t ∧ Prod60 u ∧ u.length = t.length ∧ ∀ H', Same H H' → Q .non H'
theorem ok_both (T : Txt K mg) : FnOk P w K mg base CX0 6 T.a_check_both T.d_check_both ["one", "other"] (sp_both K) := by
  refine T.F_check_both.ok sc_check_both (fun vs H Q E h => ?_) (fun cdv A outer s H vs Q E hr h => ?_)
  · obtain ⟨p, r, t, u, rfl, _⟩ := h
    rfl
  · obtain ⟨p, r, t, u, rfl, hT, hU, hp, hq, hl, q⟩ := h
    refine ⟨_, pss_cons (ps_expr (pe_call (ok_any T) hr (by rfl) T.m_check_any_product T.F_check_any_product.kp T.b_check_any_product .nil pass0 (pa_cons (pv 0) pa_nil)))
      (pss_one (ps_expr (pe_call (ok_checkp T) (hr.mono (by decide)) (by rfl) T.m_check_product T.F_check_product.kp T.b_check_product .nil pass0 (pa_cons (pv 1) (pa_cons (pe_callB call_len_seq (by rfl) T.z_len boot_len (pa_cons (pv 0) pa_nil)) pa_nil))))), ?_⟩
    refine ⟨_, rfl, p, t, rfl, hT, hp, fun H1 s1 => ?_⟩
    refine ⟨_, rfl, _, rfl, p, _, rfl, .inr (same_sqt s1 hT), r, u, ?_, same_sqt s1 hU, hq, fun H2 s2 => q H2 (s1.trans s2)⟩
    rw [nv_len, hl]
    rfl
def sp_deg (K : PySem.W.Frag) : Sp := fun vs H Q _ => ∃ (p : Addr) (t : List Nat), vs = [.ref p] ∧ SqT K H p (nv t) ∧ Prod60 t ∧ ∀ H', Same H H' → Q (.int ((t.sum : Nat) : Int)) H'
theorem ok_deg (T : Txt K mg) : FnOk P w K mg base CX0 6 T.a_degree_of T.d_degree_of ["product"] (sp_deg K) := by
  refine T.F_degree_of.ok sc_degree_of (fun vs H Q E h => ?_) (fun cdv A outer s H vs Q E hr h => ?_)
  · obtain ⟨p, t, rfl, _⟩ := h
    rfl
  · obtain ⟨p, t, rfl, hT, hp, q⟩ := h
    refine ⟨_, pss_cons (ps_expr (pe_call (ok_any T) hr (by rfl) T.m_check_any_product T.F_check_any_product.kp T.b_check_any_product .nil pass0 (pa_cons (pv 0) pa_nil)))
      (pss_one (ps_ret (pe_callB (cr_sumT rfl) (by rfl) T.z_sum boot_sum (pa_cons (pv 0) pa_nil)))), ?_⟩
    refine ⟨_, rfl, p, t, rfl, hT, hp, fun H1 s1 => ?_⟩
    refine ⟨_, rfl, p, _, rfl, by rw [← nv_ints]; exact same_sqt s1 hT, ?_⟩
    rw [sum_cast]
    exact q H1 s1
def sp_isp (K : PySem.W.Frag) : Sp := fun vs H Q _ => ∃ (p : Addr) (t : List Nat), vs = [.int ((t.length : Nat) : Int), .ref p] ∧ SqT K H p (nv t) ∧ Prod60 t ∧ ∀ H', Same H H' → Q (.bl true) H'
theorem ok_isp (T : Txt K mg) : FnOk P w K mg base CX0 4 T.a_is_product T.d_is_product ["letters", "value"] (sp_isp K) := by
  refine T.F_is_product.ok sc_is_product (fun vs H Q E h => ?_) (fun cdv A outer s H vs Q E hr h => ?_)
  · obtain ⟨p, t, rfl, _⟩ := h
    rfl
  · obtain ⟨p, t, rfl, hT, hp, q⟩ := h
    refine ⟨_, pss_cons (ps_expr (pe_call (ok_checkw T) hr (by rfl) T.m_check_within T.F_check_within.kp T.b_check_within .nil pass0 (pa_cons (pv 0) (pa_cons pe_int (pa_cons (pe_glob (v := .int 8) rfl T.c_MAX_LETTERS ⟨_, rfl⟩) pa_nil)))))
      (pss_one (ps_ret (pe_call (ok_are T) hr (by rfl) T.m_are_exponents T.F_are_exponents.kp T.b_are_exponents .nil pass0 (pa_cons (pv 1) (pa_cons (pv 0) (pa_cons (pe_glob (v := .int 60) rfl T.c_MAX_EXPONENT ⟨_, rfl⟩) pa_nil)))))), ?_⟩
    have h1 := hp.1
    have h8 := hp.2.1
    refine ⟨_, rfl, _, _, _, rfl, by omega, by omega, ?_⟩
    exact ⟨_, rfl, _, rfl, p, t, 60, rfl, hT, by omega, hp.i, q⟩
end
end L5

namespace L5
open PySem PySem.Spec PyProof.Rows L2 RZ
section
variable {P : Program} {w : World} {K : PySem.W.Frag} {mg : Str → Option Value} {base : Heap}
/-! ### a comprehension over zip of two tuples of one length -/
abbrev lcTurn (D : Addr) (g : TG) (tt : TT) (te : TE) (vs : List Nat) (σ : L2.St) (Nx : Hp → Prop) (v : V) (H : Hp) : Prop := g v (wipe σ vs) H fun σ2 H2 => wipe σ2 vs = wipe σ vs ∧ tt σ2 H2 fun b H3 =>
  if b = true then te σ2 H3 fun y H4 => ∃ acc, H4 D = some (.lst acc) ∧ acc.length < sizeLine ∧ Nx (upd H4 D (.lst (acc ++ [y]))) else Nx H3
theorem lc_zipT {a b : Addr} {xs ys : List V} {g : TG} {tt : TT} {te : TE} {vs : List Nat} {σ : L2.St} {H1 : Hp} {D : Addr} {Qd : Hp → Prop} (hl : xs.length = ys.length) (Pv : Nat → Hp → Prop) (h0 : Pv 0 (upd H1 D (.lst []))) (hq : ∀ i H, Pv i H → SqT K H a xs ∧ SqT K H b ys)
    (hs : ∀ (i : Nat) (x y : V) (T : Addr) (H : Hp), xs[i]? = some x → ys[i]? = some y → Pv i H → H T = none → lcTurn D g tt te vs σ (Pv (i + 1)) (.ref T) (upd H T (.tup [x, y]))) (hd : ∀ H, Pv xs.length H → Qd H) :
    ∃ W : Nat → Nat → Hp → Prop, (∃ m, W 0 m (upd H1 D (.lst []))) ∧ ∀ i m H0, W i m H0 →
      ((ItzT K a b).stop i H0 ∧ Qd H0) ∨ ((ItzT K a b).go i H0 ∧ ∃ Nx : Hp → Prop, (∀ H', Nx H' → ∃ m', m' < m ∧ W (i + 1) m' H') ∧ ∀ v H', (ItzT K a b).yld i H0 v H' → lcTurn D g tt te vs σ Nx v H') := by
  refine ⟨fun i m H => i + m = xs.length ∧ Pv i H, ⟨xs.length, Nat.zero_add _, h0⟩, fun i m H0 hw => ?_⟩
  obtain ⟨em, pi⟩ := hw
  obtain ⟨ta, tb⟩ := hq i H0 pi
  cases m with
  | zero =>
    have ei : i = xs.length := em
    subst ei
    exact .inl ⟨⟨xs, ys, ta, tb, Or.inl (Nat.le_refl _)⟩, hd H0 pi⟩
  | succ m =>
    have i1 : i < xs.length := by omega
    have i2 : i < ys.length := hl ▸ i1
    refine .inr ⟨⟨xs, ys, _, _, ta, tb, List.getElem?_eq_getElem i1, List.getElem?_eq_getElem i2⟩, Pv (i + 1), fun H' p => ⟨m, Nat.lt_succ_self m, by omega, p⟩, fun v H' out => ?_⟩
    obtain ⟨T, _, _, rfl, free, rfl, fx, fy⟩ := out
    exact hs i _ _ T H0 (fx xs ta) (fy ys tb) pi free
/-! ### added, product_times -/
abbrev addN (t u : List Nat) : List Nat := List.zipWith (· + ·) t u
theorem addN_get {t u : List Nat} {i n m : Nat} (h1 : t[i]? = some n) (h2 : u[i]? = some m) : (addN t u)[i]? = some (n + m) := by
  rw [List.getElem?_zipWith, h1, h2]
theorem take_more {α : Type} {l : List α} {i : Nat} {x : α} (h : l[i]? = some x) : l.take (i + 1) = l.take i ++ [x] := by
  rw [List.take_add_one, h]
  rfl
def sp_added (K : PySem.W.Frag) : Sp := fun vs H Q _ => ∃ (p r : Addr) (t u : List Nat), vs = [.ref p, .ref r] ∧ SqT K H p (nv t) ∧ SqT K H r (nv u) ∧ u.length = t.length ∧ t.length ≤ 1000 ∧ ∀ H' z, Same H H' → SqT K H' z (nv (addN t u)) → Q (.ref z) H'
theorem ok_added (T : Txt K mg) : FnOk P w K mg base CX0 1 T.a_added T.d_added ["one", "other"] (sp_added K) := by
  refine T.F_added.ok sc_added (fun vs H Q E h => ?_) (fun cdv A outer s H vs Q E hr h => ?_)
  · obtain ⟨p, r, t, u, rfl, _⟩ := h
    rfl
  · obtain ⟨p, r, t, u, rfl, hT, hU, hl, hz, q⟩ := h
    refine ⟨_, pss_one (ps_ret (pe_callTy call_tuple_of (by rfl) T.z_tuple boot_tuple (pa_cons
      (pe_lc (own := [("a", 2), ("b", 3)]) (g := gTup K 2 (gCons (gName 2) (gCons (gName 3) gNil))) (tt := tYes) rfl sc_added.nd (pi_zipA (by rfl) T.z_zip (pa_cons (pv 0) (pa_cons (pv 1) pa_nil))) (blkOk_by (own := [("a", 2), ("b", 3)]) (N := N_added) (sc := defScope s_added) (by decide +kernel))
        (fun _ _ _ _ _ => pg_tup (by rfl) (pgs_cons (pg_name (i := 2) sc_added.nd rfl (Or.inl rfl)) (pgs_cons (pg_name (i := 3) sc_added.nd rfl (Or.inl rfl)) pgs_nil))) (fun _ _ _ _ _ => pts_nil)
        (fun _ _ _ _ _ => pe_op op_add (pv 2) (pv 3))) pa_nil))), ?_⟩
    refine ⟨_, rfl, _, rfl, p, r, nv t, nv u, rfl, .inr ⟨hT, hU, fun D hD => ?_⟩⟩
    have s1 : Same H (upd H D (.lst [])) := same_new hD _
    refine lc_zipT (by rw [nv_len, nv_len, hl]) (fun i H' => Same H H' ∧ H' D = some (.lst (nv ((addN t u).take i)))) ⟨s1, upd_same⟩ (fun i H' h => ⟨same_sqt h.1 hT, same_sqt h.1 hU⟩) (fun i x y T' H' hx hy h hT' => ?_) (fun H' h => ?_)
    · obtain ⟨sm, eD⟩ := h
      obtain ⟨n, hn, rfl⟩ := nv_get hx
      obtain ⟨m, hm, rfl⟩ := nv_get hy
      have hlt : i < t.length := (List.getElem?_eq_some_iff.mp hn).1
      have sT : Same H' (upd H' T' (.tup [.int ((n : Nat) : Int), .int ((m : Nat) : Int)])) := same_new hT' _
      refine ⟨T', _, rfl, SqT.of upd_same, rfl, _, _, rfl, _, _, rfl, rfl, ?_⟩
      refine ⟨rfl, _, rfl, _, rfl, _, _, rfl, rfl, ?_⟩
      refine ⟨_, sT _ _ eD, by rw [nv_len, List.length_take]; exact sizeK (by omega), same_updL (sm.trans sT) hD, ?_⟩
      rw [upd_same, take_more (addN_get hn hm), nv_app]
      rfl
    · obtain ⟨sm, eD⟩ := h
      have e2 : (addN t u).take (nv t).length = addN t u := List.take_of_length_le (by rw [nv_len, List.length_zipWith]; omega)
      rw [e2] at eD
      refine ⟨D, _, rfl, .inl ⟨SqL.of eD, fun z hz' => ?_⟩⟩
      exact q _ z (sm.trans (same_new hz' _)) (SqT.of upd_same)
def sp_times (K : PySem.W.Frag) : Sp := fun vs H Q _ => ∃ (p r : Addr) (t u : List Nat), vs = [.ref p, .ref r] ∧ SqT K H p (nv t) ∧ SqT K H r (nv u) ∧ Prod60 t ∧ Prod60 u ∧ u.length = t.length ∧ (∀ e ∈ addN t u, e ≤ 60) ∧ ∀ H' z, Same H H' → SqT K H' z (nv (addN t u)) → Q (.ref z) H'
theorem ok_times (T : Txt K mg) : FnOk P w K mg base CX0 7 T.a_product_times T.d_product_times ["one", "other"] (sp_times K) := by
  refine T.F_product_times.ok sc_product_times (fun vs H Q E h => ?_) (fun cdv A outer s H vs Q E hr h => ?_)
  · obtain ⟨p, r, t, u, rfl, _⟩ := h
    rfl
  · obtain ⟨p, r, t, u, rfl, hT, hU, hp, hq, hl, h60, q⟩ := h
    refine ⟨_, pss_cons (ps_expr (pe_call (ok_both T) hr (by rfl) T.m_check_both T.F_check_both.kp T.b_check_both .nil pass0 (pa_cons (pv 0) (pa_cons (pv 1) pa_nil))))
      (pss_cons (ps_set (i := 2) sc_product_times.nd rfl (Or.inl rfl) (pe_call (ok_added T) (hr.mono (by decide)) (by rfl) T.m_added T.F_added.kp T.b_added .nil pass0 (pa_cons (pv 0) (pa_cons (pv 1) pa_nil))))
      (pss_cons (ps_if (pt_cmpR op_gt (pe_callB (cr_maxT rfl) (by rfl) T.z_max boot_max (pa_cons (pv 2) pa_nil)) (pe_glob (v := .int 60) rfl T.c_MAX_EXPONENT ⟨_, rfl⟩) (nomark _)) (pss_one ps_never) pss_nil)
      (pss_one (ps_ret (pv 2))))), ?_⟩
    refine ⟨_, rfl, _, rfl, p, r, t, u, rfl, hT, hU, hp, hq, hl, fun H1 s1 => ?_⟩
    have h1 := hp.1
    have h8 := hp.2.1
    refine ⟨_, rfl, _, rfl, p, r, t, u, rfl, same_sqt s1 hT, same_sqt s1 hU, hl, by omega, fun H2 z s2 hZ => ?_⟩
    refine ⟨_, rfl, z, _, rfl, by rw [← nv_ints]; exact hZ, ?_, fun m hm _ => ?_⟩
    · rw [List.length_map, List.length_zipWith]
      omega
    · obtain ⟨e, he, rfl⟩ := List.mem_map.mp hm
      have := h60 e he
      refine ⟨_, _, rfl, rfl, _, rfl, ?_⟩
      rw [decide_eq_false (by omega)]
      exact iteF ⟨_, rfl, q H2 z (s1.trans s2) hZ⟩
end
end L5

namespace L5
open PySem PySem.Spec PyProof.Rows L2 RZ
section
variable {P : Program} {w : World} {K : PySem.W.Frag} {mg : Str → Option Value} {base : Heap}
/-! ### following -/
theorem lastPos_some {t : List Nat} : ∀ {n k : Nat}, lastPos t n = some k → k < n ∧ t.getD k 0 ≠ 0
  | 0, _, h => by cases h
  | n + 1, k, h => by
    unfold lastPos at h
    by_cases c : t.getD n 0 = 0
    · rw [if_pos c] at h
      have := lastPos_some h
      exact ⟨by omega, this.2⟩
    · rw [if_neg c] at h
      cases h
      exact ⟨Nat.lt_succ_self _, c⟩
theorem getD_at {t : List Nat} {i : Nat} (h : i < t.length) : t[i]? = some (t.getD i 0) := by
  rw [List.getD_eq_getElem?_getD, List.getElem?_eq_getElem h]
  rfl
theorem nv_take (t : List Nat) (k : Nat) : nv (t.take k) = (nv t).take k := List.map_take
theorem cut_to (xs : List V) (k : Nat) (h : k ≤ xs.length) : cutV xs none (some (k : Int)) = xs.take k := by
  unfold cutV
  rw [show HT.sIx xs.length xs.length (some (k : Int)) = min k xs.length from HT.sIx_nat xs.length xs.length k, HT.sIx_none, Nat.min_eq_left h]
  rfl
theorem rep_nv (k : Nat) : (List.replicate k [V.int 0]).flatten = nv (List.replicate k 0) := by
  induction k with
  | zero => rfl
  | succ k ih =>
    rw [List.replicate_succ, List.flatten_cons, ih, List.replicate_succ]
    rfl
/-! ### tuple rules whose answer is told alike in all cases -/
def rCatB (K : PySem.W.Frag) : R2 := fun x y H Q => ∃ a b xs ys, x = .ref a ∧ y = .ref b ∧ SqT K H a xs ∧ SqT K H b ys ∧ xs.length + ys.length ≤ sizeLine ∧ ∀ H' z, Same H H' → SqT K H' z (xs ++ ys) → Q (.ref z) H'
theorem op_catB {X : Cx} : OpR X (binaryOp .Add) (rCatB X.K) := by
  intro pins s σ H x y v u Q I rx ry h
  obtain ⟨a, b, xs, ys, rfl, rfl, hx, hy, hz, q⟩ := h
  refine op_catA pins s σ H _ _ v u Q I rx ry ⟨a, b, xs, ys, rfl, rfl, hx, hy, hz, fun e => ?_, fun _ e => ?_, fun _ _ p hp => q _ p (same_new hp _) (SqT.of upd_same)⟩
  · subst e
    exact q H b (Same.refl H) hy
  · subst e
    rw [List.append_nil] at q
    exact q H a (Same.refl H) hx
def rSlB (K : PySem.W.Frag) : V → Option Int → Option Int → Hp → VK → Prop := fun x lo hi H Q => ∃ a xs, x = .ref a ∧ SqT K H a xs ∧ ∀ H' z, Same H H' → SqT K H' z (cutV xs lo hi) → Q (.ref z) H'
theorem sl_tupB {X : Cx} : SlR X (rSlB X.K) := by
  intro pins s σ H x v vl vu lo hi sl Q I rx hs pl pu h
  obtain ⟨a, xs, rfl, hx, q⟩ := h
  refine sl_tupA pins s σ H _ v vl vu lo hi sl Q I rx hs pl pu ⟨a, xs, rfl, hx, fun e => ?_, fun _ p hp => q _ p (same_new hp _) (SqT.of upd_same)⟩
  have e2 : cutV xs lo hi = xs := by
    unfold cutV
    rw [e.1, e.2]
    exact List.take_length
  rw [e2] at q
  exact q H a (Same.refl H) hx
def rRepB (K : PySem.W.Frag) : R2 := fun x y H Q => ∃ l k xs, x = .ref l ∧ y = .int k ∧ SqT K H l xs ∧ xs ≠ [] ∧ -1000 ≤ k ∧ k ≤ 1000 ∧ xs.length ≤ 1000 ∧ ∀ H' z, Same H H' → SqT K H' z (List.replicate k.toNat xs).flatten → Q (.ref z) H'
theorem op_repB {X : Cx} : OpR X (binaryOp .Mult) (rRepB X.K) := by
  intro pins s σ H x y v u Q I rx ry h
  obtain ⟨l, k, xs, rfl, rfl, hx, hne, h1, h2, hz, q⟩ := h
  refine op_repA pins s σ H _ _ v u Q I rx ry ⟨l, k, xs, rfl, rfl, hx, hne, h1, h2, hz, fun e => ?_, fun _ p hp => q _ p (same_new hp _) (SqT.of upd_same)⟩
  subst e
  refine q H l (Same.refl H) ?_
  have e2 : (List.replicate (1 : Int).toNat xs).flatten = xs := by
    show (List.replicate 1 xs).flatten = xs
    simp
  rw [e2]
  exact hx
def sp_fol (K : PySem.W.Frag) : Sp := fun vs H Q _ => ∃ (p : Addr) (t : List Nat), vs = [.ref p] ∧ SqT K H p (nv t) ∧ Prod60 t ∧ (lastPos t (t.length - 1) = none → ∀ H', Same H H' → Q .non H') ∧
  ∀ k, lastPos t (t.length - 1) = some k → ∀ H' z, Same H H' → SqT K H' z (nv (nextAt t k)) → Q (.ref z) H'
theorem ok_fol (T : Txt K mg) : FnOk P w K mg base CX0 1 T.a_following T.d_following ["product"] (sp_fol K) := by
  refine T.F_following.ok sc_following (fun vs H Q E h => ?_) (fun cdv A outer s H vs Q E hr h => ?_)
  · obtain ⟨p, t, rfl, _⟩ := h
    rfl
  · obtain ⟨p, t, rfl, hT, hp, q0, q1⟩ := h
    refine ⟨_, pss_cons (ps_set (i := 1) sc_following.nd rfl (Or.inl rfl) (pe_op op_sub (pe_callB call_len_seq (by rfl) T.z_len boot_len (pa_cons (pv 0) pa_nil)) pe_int))
      (pss_cons (ps_set (i := 2) sc_following.nd rfl (Or.inl rfl) (pe_op op_sub (pv 1) pe_int))
      (pss_cons (ps_while PassesOwn.never (PW.pt (pw_and (pt_cmpR op_ge (pv 2) pe_int (nomark _)) (pw_and1 (pt_cmpR op_eq (pe_ix ix_tup (pv 0) (pv 2) (fun _ _ => rfl)) pe_int (nomark _))))) (pss_one (ps_aug (i := 2) sc_following.nd rfl (Or.inl rfl) pe_int ip_sub)))
      (pss_cons (ps_if (pt_cmpR op_lt (pv 2) pe_int (nomark _)) (pss_one (ps_ret pe_non)) pss_nil)
      (pss_cons (ps_set (i := 3) sc_following.nd rfl (Or.inl rfl) (pe_op op_add (pe_ix ix_tup (pv 0) (pv 1) (fun _ _ => rfl)) pe_int))
      (pss_one (ps_ret (pe_op op_catB (pe_op op_catB (pe_slice sl_tupB (pv 0) po_none (po_some (pv 2))) (pe_tup (pa_cons (pe_op op_sub (pe_ix ix_tup (pv 0) (pv 2) (fun _ _ => rfl)) pe_int) (pa_cons (pv 3) pa_nil))))
        (pe_op op_repB (pe_tup (pa_cons pe_int pa_nil)) (pe_op op_sub (pe_op op_sub (pv 1) (pv 2)) pe_int))))))))), ?_⟩
    have h1 := hp.1
    have h8 := hp.2.1
    refine ⟨_, rfl, p, _, rfl, .inr hT, _, _, rfl, rfl, ?_⟩
    rw [nv_len]
    refine ⟨_, rfl, _, _, rfl, rfl, ?_⟩
    refine ⟨fun m σ H' => H' = H ∧ m ≤ t.length - 1 ∧ lastPos t (t.length - 1) = lastPos t m ∧ σ = [some (.ref p), some (.int ((t.length : Nat) - 1)), some (.int ((m : Nat) - 1)), none], ⟨t.length - 1, rfl, Nat.le_refl _, rfl, ?_⟩, ?_⟩
    · have e1 : ((t.length : Nat) : Int) - 1 - 1 = ((t.length - 1 : Nat) : Int) - 1 := by omega
      show [some (V.ref p), some (V.int ((t.length : Nat) - 1)), some (V.int ((t.length : Nat) - 1 - 1)), none] = _
      rw [e1]
    · rintro m σ H' ⟨rfl, hm, hl, rfl⟩
      have hlast : atI (nv t) (((t.length : Nat) : Int) - 1) = some (.int ((t.getD (t.length - 1) 0 : Nat) : Int)) := by
        rw [show ((t.length : Nat) : Int) - 1 = ((t.length - 1 : Nat) : Int) by omega]
        exact nv_at (getD_at (by omega))
      refine ⟨_, rfl, _, _, rfl, rfl, _, rfl, ite2 (fun c => ?_) (fun c => ?_)⟩
      · have c' := of_decide_eq_true c
        have hat : atI (nv t) (((m : Nat) : Int) - 1) = some (.int ((t.getD (m - 1) 0 : Nat) : Int)) := by
          rw [show ((m : Nat) : Int) - 1 = ((m - 1 : Nat) : Int) by omega]
          exact nv_at (getD_at (by omega))
        have hstep : lastPos t m = if t.getD (m - 1) 0 = 0 then lastPos t (m - 1) else some (m - 1) := by
          obtain ⟨k, rfl⟩ : ∃ k, m = k + 1 := ⟨m - 1, by omega⟩
          rfl
        refine ⟨_, rfl, _, rfl, p, _, _, _, rfl, rfl, hT, hat, rfl, _, rfl, ite2 (fun d => ?_) (fun d => ?_)⟩
        · have d' : t.getD (m - 1) 0 = 0 := by
            have := V.int.inj (of_decide_eq_true d)
            omega
          refine ⟨fun σ' H'' => H'' = H' ∧ m - 1 ≤ t.length - 1 ∧ lastPos t (t.length - 1) = lastPos t (m - 1) ∧ σ' = [some (.ref p), some (.int ((t.length : Nat) - 1)), some (.int ((m - 1 : Nat) - 1)), none], fun σ' H'' h => ⟨m - 1, by omega, h⟩, ?_⟩
          refine ⟨_, rfl, _, _, rfl, rfl, rfl, by omega, by rw [hl, hstep, if_pos d'], ?_⟩
          have e1 : ((m : Nat) : Int) - 1 - 1 = ((m - 1 : Nat) : Int) - 1 := by omega
          show [some (V.ref p), some (V.int ((t.length : Nat) - 1)), some (V.int ((m : Nat) - 1 - 1)), none] = _
          rw [e1]
        · have d' : t.getD (m - 1) 0 ≠ 0 := fun z => d (decide_eq_true (by rw [z]; rfl))
          rw [if_neg d'] at hstep
          refine ⟨_, rfl, _, _, rfl, rfl, _, rfl, ite2 (fun z => ?_) (fun _ => ?_)⟩
          · have := of_decide_eq_true z
            omega
          · refine ⟨_, rfl, _, rfl, p, _, _, _, rfl, rfl, hT, hlast, _, _, rfl, rfl, ?_⟩
            refine ⟨_, rfl, _, rfl, _, rfl, p, _, rfl, hT, fun H1 z1 s1 hz1 => ?_⟩
            refine ⟨_, rfl, _, rfl, p, _, _, _, rfl, rfl, same_sqt s1 hT, hat, _, _, rfl, rfl, _, rfl, (by show 2 ≤ sizeLine; decide), fun z2 hz2 => ?_⟩
            have s2 := same_new hz2 (.tup [V.int (((t.getD (m - 1) 0 : Nat) : Int) - 1), V.int (((t.getD (t.length - 1) 0 : Nat) : Int) + 1)])
            have ek : cutV (nv t) none (some (((m : Nat) : Int) - 1)) = nv (t.take (m - 1)) := by
              rw [show ((m : Nat) : Int) - 1 = ((m - 1 : Nat) : Int) by omega, cut_to _ _ (by rw [nv_len]; omega)]
              exact (nv_take t (m - 1)).symm
            have etup : [V.int (((t.getD (m - 1) 0 : Nat) : Int) - 1), V.int (((t.getD (t.length - 1) 0 : Nat) : Int) + 1)] = nv [t.getD (m - 1) 0 - 1, t.getD (t.length - 1) 0 + 1] := by
              show _ = [V.int _, V.int _]
              rw [show (((t.getD (m - 1) 0 - 1 : Nat)) : Int) = ((t.getD (m - 1) 0 : Nat) : Int) - 1 by omega, show (((t.getD (t.length - 1) 0 + 1 : Nat)) : Int) = ((t.getD (t.length - 1) 0 : Nat) : Int) + 1 by omega]
            rw [ek] at hz1
            refine ⟨z1, z2, _, _, rfl, rfl, same_sqt s2 hz1, SqT.of upd_same, ?_, fun H3 z3 s3 hz3 => ?_⟩
            · rw [nv_len, List.length_take]
              show _ + 2 ≤ sizeLine
              exact Nat.le_of_lt (sizeK (by omega))
            rw [etup, ← nv_app] at hz3
            refine ⟨by show 1 ≤ sizeLine; decide, fun z4 hz4 => ?_⟩
            have s4 := same_new hz4 (.tup [V.int 0])
            refine ⟨_, rfl, _, rfl, _, _, rfl, rfl, _, _, rfl, rfl, z4, _, _, rfl, rfl, SqT.of upd_same, by simp, by omega, by omega, by simp, fun H5 z5 s5 hz5 => ?_⟩
            rw [rep_nv] at hz5
            refine ⟨z3, z5, _, _, rfl, rfl, same_sqt s5 (same_sqt s4 hz3), hz5, ?_, fun H6 z6 s6 hz6 => ?_⟩
            · rw [nv_len, nv_len, List.length_append, List.length_take, List.length_replicate]
              exact Nat.le_of_lt (sizeK (by simp only [List.length_cons, List.length_nil]; omega))
            rw [← nv_app, show (((t.length : Nat) : Int) - 1 - (((m : Nat) : Int) - 1) - 1).toNat = t.length - 1 - (m - 1) - 1 by omega] at hz6
            exact q1 (m - 1) (by rw [hl, hstep]) H6 z6 (s1.trans (s2.trans (s3.trans (s4.trans (s5.trans s6))))) hz6
      · have m0 : m = 0 := by
          have c' : ¬ _ := fun z => c (decide_eq_true z)
          omega
        subst m0
        refine ⟨_, rfl, _, _, rfl, rfl, _, rfl, ite2 (fun _ => ?_) (fun z => ?_)⟩
        · exact q0 hl _ (Same.refl _)
        · exact absurd (decide_eq_true (by omega)) z
end
end L5

namespace L5
open PySem PySem.Spec PyProof.Rows L2 RZ
section
variable {P : Program} {w : World} {K : PySem.W.Frag} {mg : Str → Option Value} {base : Heap}
/-! ### all_products -/
theorem prod60 {l d : Nat} (h1 : 1 ≤ l) (h8 : l ≤ 8) {t : List Nat} (h : prodB l d t = true) : Prod60 t := by
  obtain ⟨e, _, b⟩ := prod_of h
  exact ⟨by omega, by omega, fun x hx => by have := b x hx; omega⟩
def sp_gen (K : PySem.W.Frag) : SpG := fun vs H cont _ => ∃ l d : Nat, vs = [.int ((l : Nat) : Int), .int ((d : Nat) : Int)] ∧ 1 ≤ l ∧ l ≤ 8 ∧ d < top l ∧ ∀ (H' : Hp) (rs : List Addr), Same H H' → Tups K H' rs (listed l d) → cont (rs.map V.ref) H'
theorem ok_gen (T : Txt K mg) : GFn P w K mg base 5 T.a_all_products T.d_all_products ["letters", "degree"] (sp_gen K) := by
  obtain ⟨oc, od, kV, doc, pm, an, cdv, ct, osl, e, lk, hcd⟩ := T.F_all_products.ex
  rw [e] at lk ⊢
  refine gfn_of lk hcd sc_all_products (fun vs H Q E h => ?_) (fun A outer s H vs Q E pn hr h => ?_)
  · obtain ⟨l, d, rfl, _⟩ := h
    rfl
  · obtain ⟨l, d, rfl, h1, h8, hd, q⟩ := h
    have O := okS (ok_of h1 h8 hd).1
    have ht := top_le l
    refine ⟨_, gss_cons (gs_ps (ps_expr (pe_call (ok_checkw T) (hr.mono (by decide)) (by rfl) T.m_check_within T.F_check_within.kp T.b_check_within .nil pass0 (pa_cons (pv 0) (pa_cons pe_int (pa_cons (pe_glob (v := .int 8) rfl T.c_MAX_LETTERS ⟨_, rfl⟩) pa_nil))))))
      (gss_cons (gs_ps (ps_expr (pe_call (ok_checkw T) (hr.mono (by decide)) (by rfl) T.m_check_within T.F_check_within.kp T.b_check_within .nil pass0 (pa_cons (pv 1) (pa_cons pe_int (pa_cons (pe_glob (v := .int 12) rfl T.c_MAX_LISTED_DEGREE ⟨_, rfl⟩) pa_nil))))))
      (gss_cons (gs_ps (ps_set (i := 2) sc_all_products.nd rfl (Or.inl rfl) (pe_op op_catB (pe_tup (pa_cons (pv 1) pa_nil)) (pe_op op_repB (pe_tup (pa_cons pe_int pa_nil)) (pe_op op_sub (pv 0) pe_int)))))
      (gss_cons (gs_while owns_gcx (pt_cmpR op_notN (pv 2) pe_non (nomark _))
        (gss_cons (gs_yield (pv 2)) (gss_cons (gs_ps (ps_set (i := 2) sc_all_products.nd rfl (Or.inl rfl) (pe_call (ok_fol T) (hr.mono (by decide)) (by rfl) T.m_following T.F_following.kp T.b_following .nil pass0 (pa_cons (pv 2) pa_nil)))) gss_nil))) gss_nil))), ?_⟩
    refine ⟨_, rfl, _, _, _, rfl, by omega, by omega, ?_⟩
    refine ⟨_, rfl, _, _, _, rfl, by omega, by omega, ?_⟩
    refine ⟨_, rfl, by show 1 ≤ sizeLine; decide, fun z1 hz1 => ?_⟩
    have s1 := same_new hz1 (.tup [V.int ((d : Nat) : Int)])
    refine ⟨by show 1 ≤ sizeLine; decide, fun z2 hz2 => ?_⟩
    have s2 := same_new hz2 (.tup [V.int 0])
    refine ⟨_, rfl, _, _, rfl, rfl, z2, _, _, rfl, rfl, SqT.of upd_same, by simp, by omega, by omega, by simp, fun H3 z3 s3 hz3 => ?_⟩
    rw [rep_nv, show (((l : Nat) : Int) - 1).toNat = l - 1 by omega] at hz3
    refine ⟨z1, z3, _, _, rfl, rfl, same_sqt s3 (same_sqt s2 (SqT.of upd_same)), hz3, ?_, fun H4 z4 s4 hz4 => ?_⟩
    · rw [nv_len, List.length_replicate]
      exact Nat.le_of_lt (sizeK (by simp only [List.length_cons, List.length_nil]; omega))
    have S4 : Same H H4 := s1.trans (s2.trans (s3.trans s4))
    have hz4' : SqT K H4 z4 (nv (d :: List.replicate (l - 1) 0)) := hz4
    obtain ⟨r, hr0⟩ := O.head
    have hL0 : (listed l d)[0]? = some (d :: List.replicate (l - 1) 0) := by rw [hr0] <;> rfl
    have hlen : (listed l d).length ≤ 1000 := by
      have e1 : (listed l d).length = (asc l d).length := List.length_reverse
      have e2 : (asc l d).length = (foundN d (l - 1)).length := List.length_map _
      have := sz_of (ok_of h1 h8 hd).2.1 (show l - 1 < l by omega)
      omega
    refine ⟨fun m ys σ H' => ∃ (i : Nat) (rs : List Addr), ys = rs.map V.ref ∧ Tups K H' rs ((listed l d).take i) ∧ Same H H' ∧ i + m = (listed l d).length ∧
        ((m = 0 ∧ σ = [some (.int ((l : Nat) : Int)), some (.int ((d : Nat) : Int)), some .non]) ∨ ∃ p t, (listed l d)[i]? = some t ∧ SqT K H' p (nv t) ∧ σ = [some (.int ((l : Nat) : Int)), some (.int ((d : Nat) : Int)), some (.ref p)]),
      ⟨(listed l d).length, 0, [], rfl, .nil, S4, by omega, .inr ⟨z4, _, hL0, hz4', rfl⟩⟩, ?_⟩
    rintro m ys σ H' ⟨i, rs, rfl, hrs, S', hm, ⟨rfl, rfl⟩ | ⟨p, t, hti, hpt, rfl⟩⟩
    · refine ⟨_, rfl, rfl, _, rfl, ?_⟩
      rw [List.take_of_length_le (by omega)] at hrs
      exact iteNS rfl (q H' rs S' hrs)
    · have hi : i < (listed l d).length := (List.getElem?_eq_some_iff.mp hti).1
      have hb := O.prod1 t (List.mem_of_getElem? hti)
      refine ⟨_, rfl, rfl, _, rfl, ite2 (fun _ => ?_) (fun c => absurd rfl c)⟩
      refine ⟨_, fun ys' σ' H'' h => ⟨m - 1, by omega, h⟩, ?_⟩
      refine ⟨by rw [List.length_map, hrs.length, List.length_take]; exact sizeK (by omega), _, rfl, ?_⟩
      have more : ∀ H5, Same H' H5 → Tups K H5 (rs ++ [p]) ((listed l d).take (i + 1)) := fun H5 s5 => by
        rw [take_more hti]
        exact (hrs.same s5).app (.cons (same_sqt s5 hpt) .nil)
      refine ⟨_, rfl, p, t, rfl, hpt, prod60 h1 h8 hb, fun hn H5 s5 => ?_, fun k hk H5 z5 s5 hz5 => ?_⟩
      · have hlast : (listed l d)[i + 1]? = none := by
          cases e2 : (listed l d)[i + 1]? with
          | none => rfl
          | some u =>
            obtain ⟨k, hk, _⟩ := chain_next O.chain hti e2
            rw [hn] at hk
            cases hk
        have := List.getElem?_eq_none_iff.mp hlast
        refine ⟨i + 1, rs ++ [p], by rw [List.map_append]; rfl, more H5 s5, S'.trans s5, by omega, .inl ⟨by omega, rfl⟩⟩
      · refine ⟨i + 1, rs ++ [p], by rw [List.map_append]; rfl, more H5 s5, S'.trans s5, by omega, .inr ⟨z5, nextAt t k, ?_, hz5, rfl⟩⟩
        cases e2 : (listed l d)[i + 1]? with
        | none =>
          rw [chain_last O.chain hti e2] at hk
          cases hk
        | some u =>
          obtain ⟨k', hk', e3⟩ := chain_next O.chain hti e2
          rw [hk] at hk'
          cases hk'
          rw [e3]
end
end L5

namespace L5
open PySem PySem.Spec PyProof.Rows L2 RZ
section
variable {P : Program} {w : World} {K : PySem.W.Frag} {mg : Str → Option Value} {base : Heap}
/-! ### the law's own draws -/
abbrev pailO (g x c : Int) : HO := .lst [.int g, .int x, .int c]
def sp_pail (K : PySem.W.Frag) : Sp := fun vs H Q _ => ∃ (a : Addr) (ns : List Int) (k : Nat), vs = [.ref a, .int ((k : Nat) : Int)] ∧ SqL K H a (ns.map V.int) ∧ k < 1000 ∧ ∀ (H' : Hp) (r : Addr) (g x c : Int), Same H H' → H r = none → H' r = some (pailO g x c) → Q (.ref r) H'
theorem mpos {j : Int} (h : (0 : Int) < j) : (0 : Int) < j := h
theorem same_back {H H' : Hp} (s : Same H H') {r : Addr} (h : H' r = none) : H r = none := s.free h
theorem PE.weak {X : Cx} {e : Expr} {t t' : TE} (h : PE X e t) (i : ∀ σ H Q, t' σ H Q → t σ H Q) : PE X e t' := ⟨fun pins s σ H Q I h' => h.run pins s σ H Q I (i σ H Q h')⟩
theorem ok_pail (T : Txt K mg) : FnOk P w K mg base CX0 1 T.a_w_pail T.d_w_pail ["_law_script", "_law_spot"] (sp_pail K) := by
  refine T.F_w_pail.ok sc_w_pail (fun vs H Q E h => ?_) (fun cdv A outer s H vs Q E hr h => ?_)
  · obtain ⟨a, ns, k, rfl, _⟩ := h
    rfl
  · obtain ⟨a, ns, k, rfl, hS, hk, q⟩ := h
    refine ⟨_, pss_cons (ps_set (i := 2) sc_w_pail.nd rfl (Or.inl rfl) (PE.weak (t' := fun σ' H' Q' => σ' = start N_w_pail [.ref a, .int ((k : Nat) : Int)] ∧ H' = H ∧ ∀ (i : Int) H1, Same H H1 → Q' (.int i) H1) (pe_ifExp (pt_cmpR op_lt (pv 1) (pe_callB call_len_seq (by rfl) T.z_len boot_len (pa_cons (pv 0) pa_nil)) (nomark _))
        (pe_callTy call_int1 (by rfl) T.z_int boot_int (pa_cons (pe_ix ix_list (pv 0) (pv 1) (fun _ _ => rfl)) pa_nil))
        (pe_op op_add (pe_op op_add (pe_op op_mul pe_int (pv 1)) pe_int) (pe_op op_mod (pe_callTy call_int1 (by rfl) T.z_int boot_int (pa_cons (pe_callB (cr_sum rfl) (by rfl) T.z_sum boot_sum (pa_cons (pe_slice sl_list (pv 0) po_none (po_some pe_int)) pa_nil)) pa_nil)) pe_int))) ?imp))
      (pss_cons (ps_set (i := 3) sc_w_pail.nd rfl (Or.inl rfl) (pe_op op_mod (pe_callTy call_int1 (by rfl) T.z_int boot_int (pa_cons (pe_callB call_abs (by rfl) T.z_abs boot_abs (pa_cons (pv 2) pa_nil)) pa_nil)) (pe_op op_powW (pe_op op_pow pe_int pe_int) pe_int)))
      (pss_cons (ps_set (i := 4) sc_w_pail.nd rfl (Or.inl rfl) (pe_op op_mod (pe_callTy call_int1 (by rfl) T.z_int boot_int (pa_cons (pe_op op_add (pe_op op_add (pe_op op_add (pe_op op_mul (pe_op op_mod (pv 3) pe_int) pe_int) (pe_op op_mul pe_int (pv 1))) (pe_op op_mul pe_int (pe_callTy call_int1 (by rfl) T.z_int boot_int (pa_cons (pe_cmpR op_lt (pv 2) pe_int (nomark _)) pa_nil)))) pe_int) pa_nil)) pe_int))
      (pss_one (ps_ret (pe_lst (pa_cons (pe_callB (call_max2 rfl) (by rfl) T.z_max boot_max (pa_cons pe_int (pa_cons (pe_op op_sub (pv 3) (pe_op op_pow pe_int pe_int)) pa_nil))) (pa_cons (pv 4) (pa_cons pe_int pa_nil)))))))), ?_⟩
    case imp =>
      rintro σ' H' Q' ⟨rfl, rfl, h⟩
      refine ⟨_, rfl, _, rfl, a, _, rfl, .inl hS, _, _, rfl, rfl, _, rfl, ite2 (fun c => ?_) (fun c => ?_)⟩
      · have c' := of_decide_eq_true c
        rw [List.length_map] at c'
        have hlt : k < ns.length := by omega
        refine ⟨_, rfl, _, rfl, a, _, _, .int ns[k], rfl, rfl, hS, atI_nat (by rw [List.getElem?_map, List.getElem?_eq_getElem hlt] <;> rfl), .inl ⟨_, rfl, ?_⟩⟩
        exact h _ _ (Same.refl _)
      · refine ⟨_, rfl, _, _, rfl, rfl, .inl ⟨by decide, by decide⟩, _, _, rfl, rfl, _, rfl, _, rfl, a, _, rfl, hS, fun z hz => ?_⟩
        have e1 : cutV (ns.map V.int) none (some 1) = (ns.take 1).map V.int := by
          unfold cutV
          rw [show HT.sIx (ns.map V.int).length (ns.map V.int).length (some 1) = min 1 (ns.map V.int).length from HT.sIx_nat _ _ 1, HT.sIx_none, List.map_take]
          show List.take (min 1 (ns.map V.int).length) (ns.map V.int) = _
          rcases ns with _ | ⟨n, r⟩
          · rfl
          · rw [List.map_cons, List.length_cons, show min 1 ((r.map V.int).length + 1) = 1 by omega]
        refine ⟨z, ns.take 1, rfl, SqL.of (by rw [upd_same, e1]), .inl ⟨_, rfl, _, _, rfl, rfl, mpos (by decide), _, _, rfl, rfl, ?_⟩⟩
        exact h _ _ (same_new hz _)
    refine ⟨rfl, rfl, fun cell H1 s1 => ?_⟩
    refine ⟨_, rfl, _, rfl, .inl ⟨_, rfl, _, _, rfl, rfl, ⟨by decide, by decide, by decide⟩, _, _, rfl, rfl, ⟨by decide, by decide +kernel⟩, _, _, rfl, rfl, Int.pow_pos (Int.pow_pos (by decide)), ?_⟩⟩
    refine ⟨_, rfl, _, _, rfl, rfl, mpos (by decide), _, _, rfl, rfl, .inr ⟨by decide, by decide⟩, _, rfl, _, _, rfl, rfl, .inl ⟨by decide, by decide⟩, _, _, rfl, rfl, _, rfl, _, _, rfl, rfl, .inr ⟨_, rfl, _, _, rfl, rfl, .inl ⟨by decide, by decide⟩, _, _, rfl, rfl, _, _, rfl, rfl, .inl ⟨_, rfl, _, _, rfl, rfl, mpos (by decide), ?_⟩⟩⟩
    refine ⟨_, rfl, _, _, rfl, rfl, ⟨by decide, by decide, by decide⟩, _, _, rfl, rfl, _, _, rfl, _, rfl, by show 3 ≤ sizeLine; decide, fun z hz => ?_⟩
    exact q _ z _ _ _ (s1.trans (same_new hz _)) (s1.free hz) upd_same
abbrev rDip (H : Hp) (p : Addr) (m : Int) (Q : VK) : Prop := ∀ g x c r : Int, 0 ≤ r → r < m → Q (.int r) (upd H p (pailO g x c))
def sp_dip : Sp := fun vs H Q _ => ∃ (p : Addr) (m g x c : Int), vs = [.ref p, .int m] ∧ H p = some (pailO g x c) ∧ 0 < m ∧ m < 1073741824 ∧ rDip H p m Q
theorem ok_dip (T : Txt K mg) : FnOk P w K mg base CX0 1 T.a_w_dipped T.d_w_dipped ["_law_pail_here", "_law_many"] sp_dip := by
  refine T.F_w_dipped.ok sc_w_dipped (fun vs H Q E h => ?_) (fun cdv A outer s H vs Q E hr h => ?_)
  · obtain ⟨p, m, g, x, c, rfl, _⟩ := h
    rfl
  · obtain ⟨p, m, g, x, c, rfl, hp, h0, h1, q⟩ := h
    refine ⟨_, pss_cons (ps_if (pt_cmpR op_gt (pe_ix ix_list (pv 0) pe_int (fun _ _ => rfl)) pe_int (nomark _))
        (pss_cons (ps_set (i := 2) sc_w_dipped.nd rfl (Or.inl rfl) (pe_op op_mod (pe_callTy call_int1 (by rfl) T.z_int boot_int (pa_cons (pe_ix ix_list (pv 0) pe_int (fun _ _ => rfl)) pa_nil)) (pv 1)))
        (pss_cons (ps_asg (pe_op op_fdiv (pe_ix ix_list (pv 0) pe_int (fun _ _ => rfl)) (pv 1)) (pg_sub (pv 0) pe_int set_list))
        (pss_one (ps_ret (pv 2))))) pss_nil)
      (pss_cons (ps_asg (pe_op op_add (pe_ix ix_list (pv 0) pe_int (fun _ _ => rfl)) pe_int) (pg_sub (pv 0) pe_int set_list))
      (pss_cons (ps_set (i := 3) sc_w_dipped.nd rfl (Or.inl rfl) (pe_op op_mod (pe_callTy call_int1 (by rfl) T.z_int boot_int (pa_cons (pe_op op_add (pe_ix ix_list (pv 0) pe_int (fun _ _ => rfl)) (pe_op op_mul pe_int (pe_ix ix_list (pv 0) pe_int (fun _ _ => rfl)))) pa_nil)) pe_int))
      (pss_cons (ps_set (i := 4) sc_w_dipped.nd rfl (Or.inl rfl) (pe_op op_add (pe_op op_add (pe_op op_mul (pe_op op_mod (pe_callTy call_int1 (by rfl) T.z_int boot_int (pa_cons (pe_op op_mul (pv 3) (pv 3)) pa_nil)) pe_int) pe_int) (pv 3)) (pe_op op_mul pe_int (pe_ix ix_list (pv 0) pe_int (fun _ _ => rfl)))))
      (pss_one (ps_ret (pe_op op_mod (pe_callTy call_int1 (by rfl) T.z_int boot_int (pa_cons (pe_op op_fdiv (pv 4) pe_int) pa_nil)) (pv 1))))))), ?_⟩
    have a0 : atI [V.int g, V.int x, V.int c] (0 : Int) = some (.int g) := rfl
    refine ⟨_, rfl, p, _, _, _, rfl, rfl, SqL.of hp, a0, _, _, rfl, rfl, _, rfl, ite2 (fun d => ?_) (fun d => ?_)⟩
    · refine ⟨_, rfl, p, _, _, _, rfl, rfl, SqL.of hp, a0, .inl ⟨_, rfl, _, rfl, _, _, rfl, rfl, h0, ?_⟩⟩
      refine ⟨_, rfl, p, _, _, _, rfl, rfl, SqL.of hp, a0, _, rfl, _, _, rfl, rfl, ⟨h0, h1⟩, ?_⟩
      refine ⟨_, rfl, p, _, _, 0, rfl, rfl, hp, rfl, ?_⟩
      exact ⟨_, rfl, q _ _ _ _ (Int.emod_nonneg _ (by omega)) (Int.emod_lt_of_pos _ h0)⟩
    · have a2 : atI [V.int g, V.int x, V.int c] (2 : Int) = some (.int c) := rfl
      refine ⟨_, rfl, p, _, _, _, rfl, rfl, SqL.of hp, a2, _, _, rfl, rfl, _, rfl, p, _, _, 2, rfl, rfl, hp, rfl, ?_⟩
      have hp' : (upd H p (.lst [V.int g, V.int x, V.int (c + 1)])) p = some (.lst [V.int g, V.int x, V.int (c + 1)]) := upd_same
      have b1 : atI [V.int g, V.int x, V.int (c + 1)] (1 : Int) = some (.int x) := rfl
      have b2 : atI [V.int g, V.int x, V.int (c + 1)] (2 : Int) = some (.int (c + 1)) := rfl
      refine ⟨_, rfl, p, _, _, _, rfl, rfl, SqL.of hp', b1, _, rfl, p, _, _, _, rfl, rfl, SqL.of hp', b2, _, _, rfl, rfl, .inl ⟨by decide, by decide⟩, _, _, rfl, rfl, .inl ⟨_, rfl, _, _, rfl, rfl, mpos (by decide), ?_⟩⟩
      have r0 := Int.emod_nonneg (x + 49979693 * (c + 1)) (show (2305843009213693907 : Int) ≠ 0 by decide)
      have r1 := Int.emod_lt_of_pos (x + 49979693 * (c + 1)) (show (0 : Int) < 2305843009213693907 by decide)
      generalize (x + 49979693 * (c + 1)) % 2305843009213693907 = one at r0 r1 ⊢
      refine ⟨_, rfl, _, rfl, _, _, rfl, rfl, .inl ⟨by omega, by omega⟩, .inl ⟨_, rfl, _, _, rfl, rfl, mpos (by decide), _, _, rfl, rfl, .inr ⟨by decide, by decide⟩, _, rfl, _, _, rfl, rfl, _, rfl, p, _, _, _, rfl, rfl, SqL.of hp', b2, _, _, rfl, rfl, .inl ⟨by decide, by decide⟩, _, _, rfl, rfl, ?_⟩⟩
      refine ⟨_, rfl, _, _, rfl, rfl, ⟨by decide, by decide⟩, .inl ⟨_, rfl, _, rfl, _, _, rfl, rfl, h0, ?_⟩⟩
      exact q _ _ _ _ (Int.emod_nonneg _ (by omega)) (Int.emod_lt_of_pos _ h0)
/-- items[dipped(pail, len(items))] -/
def sp_some (K : PySem.W.Frag) : Sp := fun vs H Q _ => ∃ (p a : Addr) (xs : List V) (g x c : Int), vs = [.ref p, .ref a] ∧ H p = some (pailO g x c) ∧ a ≠ p ∧ SqL K H a xs ∧ xs ≠ [] ∧ xs.length ≤ 1000 ∧ ∀ g x c v, v ∈ xs → Q v (upd H p (pailO g x c))
theorem ok_some (T : Txt K mg) : FnOk P w K mg base CX0 2 T.a_w_some T.d_w_some ["_law_pail_here", "_law_items"] (sp_some K) := by
  refine T.F_w_some.ok sc_w_some (fun vs H Q E h => ?_) (fun cdv A outer s H vs Q E hr h => ?_)
  · obtain ⟨p, a, xs, g, x, c, rfl, _⟩ := h
    rfl
  · obtain ⟨p, a, xs, g, x, c, rfl, hp, hne, hS, hn, hz, q⟩ := h
    refine ⟨_, pss_one (ps_ret (pe_ix ix_list (pv 1) (pe_call (ok_dip T) hr (by rfl) T.m_w_dipped T.F_w_dipped.kp T.b_w_dipped .nil pass0 (pa_cons (pv 0) (pa_cons (pe_callB call_len_seq (by rfl) T.z_len boot_len (pa_cons (pv 1) pa_nil)) pa_nil))) (fun _ _ => rfl))), ?_⟩
    have hpos : 0 < xs.length := List.length_pos_iff.mpr hn
    refine ⟨_, rfl, _, rfl, _, rfl, a, _, rfl, .inl hS, p, _, g, x, c, rfl, hp, by omega, by omega, fun g' x' c' r h0 h1 => ?_⟩
    have hlt : r.toNat < xs.length := by omega
    refine ⟨a, xs, r, xs[r.toNat], rfl, rfl, sql_updL hne hS, ?_, q _ _ _ _ (List.getElem_mem hlt)⟩
    have := atI_nat (xs := xs) (List.getElem?_eq_getElem hlt)
    rw [show ((r.toNat : Nat) : Int) = r by omega] at this
    exact this
end
end L5

namespace L5
open PySem PySem.Spec PyProof.Rows L2 RZ
section
variable {P : Program} {w : World} {K : PySem.W.Frag} {mg : Str → Option Value} {base : Heap}
/-! ### _law_all: all products of a degree, made of lesser ones -/
abbrev ext (d : Nat) (t : List Nat) : List (List Nat) := (List.range (d + 1 - t.sum)).map fun e => t ++ [e]
theorem flat_take_le {α β : Type} (f : α → List β) (L : List α) (j : Nat) : ((L.take j).flatMap f).length ≤ (L.flatMap f).length := by
  have e : L.flatMap f = (L.take j).flatMap f ++ (L.drop j).flatMap f := by rw [← List.flatMap_append, List.take_append_drop]
  rw [e, List.length_append]
  omega
theorem ref_get {rs : List Addr} {i : Nat} {x : V} (h : (rs.map V.ref)[i]? = some x) : ∃ a, rs[i]? = some a ∧ x = .ref a := by
  rw [List.getElem?_map] at h
  cases e : rs[i]? with
  | none =>
    rw [e] at h
    cases h
  | some n =>
    rw [e] at h
    exact ⟨n, rfl, (Option.some.inj h).symm⟩
def sp_all (K : PySem.W.Frag) : Sp := fun vs H Q _ => ∃ l d : Nat, vs = [.int ((l : Nat) : Int), .int ((d : Nat) : Int)] ∧ 1 ≤ l ∧ l ≤ 8 ∧ d ≤ 13 ∧ szB l d = true ∧ ascB (asc l d) = true ∧
  ∀ (H' : Hp) (z : Addr) (rs : List Addr), Same H H' → H z = none → H' z = some (.lst (rs.map V.ref)) → Tups K H' rs (listed l d) → Q (.ref z) H'
theorem ok_all (T : Txt K mg) : FnOk P w K mg base CX0 1 T.a_w_all T.d_w_all ["_law_letters", "_law_degree"] (sp_all K) := by
  refine T.F_w_all.ok sc_w_all (fun vs H Q E h => ?_) (fun cdv A outer s H vs Q E hr h => ?_)
  · obtain ⟨l, d, rfl, _⟩ := h
    rfl
  · obtain ⟨l, d, rfl, h1, h8, hd, hsz, hasc, q⟩ := h
    refine ⟨_, pss_cons (ps_set (i := 2) sc_w_all.nd rfl (Or.inl rfl) (pe_lst (pa_cons (pe_tup pa_nil) pa_nil)))
      (pss_cons (ps_for PassesOwn.never rfl (pi_range1 rfl T.z_range (pa_cons (pe_op op_sub (pv 0) pe_int) pa_nil)) (pg_name (i := 3) sc_w_all.nd rfl (Or.inl rfl))
        (pss_cons (ps_set (i := 4) sc_w_all.nd rfl (Or.inl rfl) (pe_lst pa_nil))
        (pss_cons (ps_for PassesOwn.never rfl (pi_list (pv 2)) (pg_name (i := 5) sc_w_all.nd rfl (Or.inr rfl))
          (pss_one (ps_expr (pe_bm PySem.F.plainAttrs_list PySem.F.slot_list_extend PySem.F.type_list_extend mt_extend (pv 4) (pa_cons
            (pe_lc (own := [("_law_e", 6)]) (g := gName 6) (tt := tYes) rfl sc_w_all.nd (pi_range1 rfl T.z_range (pa_cons (pe_op op_add (pe_op op_sub (pv 1) (pe_callB (cr_sumT rfl) (by rfl) T.z_sum boot_sum (pa_cons (pv 5) pa_nil))) pe_int) pa_nil)) (blkOk_by (own := [("_law_e", 6)]) (N := N_w_all) (sc := defScope s_w_all) (by decide +kernel))
              (fun _ _ _ _ _ => pg_name (i := 6) sc_w_all.nd rfl (Or.inl rfl)) (fun _ _ _ _ _ => pts_nil)
              (fun _ _ _ _ _ => pe_op (show OpR _ _ (rCatB K) from op_catB) (pv 5) (pe_tup (pa_cons (pv 6) pa_nil)))) pa_nil)))))
        (pss_one (ps_set (i := 2) sc_w_all.nd rfl (Or.inl rfl) (pe_callTy call_list_of (by rfl) T.z_list boot_list (pa_cons (pv 4) pa_nil)))))))
      (pss_one (ps_ret (pe_revL (pe_callB (cr_sortT hr.units) (by rfl) T.z_sorted boot_sorted (pa_cons
        (pe_lc (own := [("_law_one", 5)]) (g := gName 5) (tt := tYes) rfl sc_w_all.nd (pi_list (pv 2)) (blkOk_by (own := [("_law_one", 5)]) (N := N_w_all) (sc := defScope s_w_all) (by decide +kernel))
          (fun _ _ _ _ _ => pg_name (i := 5) sc_w_all.nd rfl (Or.inl rfl)) (fun _ _ _ _ _ => pts_nil)
          (fun _ _ _ _ _ => pe_op (show OpR _ _ (rCatB K) from op_catB) (pv 5) (pe_tup (pa_cons (pe_op op_sub (pv 1) (pe_callB (show CallR _ _ (rSumT K) from cr_sumT rfl) (by rfl) T.z_sum boot_sum (pa_cons (pv 5) pa_nil))) pa_nil)))) pa_nil)))))), ?_⟩
    -- found = [()]
    refine ⟨Nat.zero_le _, fun z0 hz0 => ⟨by show 1 ≤ sizeLine; decide, fun f0 hf0 => ?_⟩⟩
    have s0 := same_new hz0 (.tup [])
    have s1 := same_new hf0 (.lst [V.ref z0])
    have tf0 : Tups K (upd (upd H z0 (.tup [])) f0 (.lst [V.ref z0])) [z0] (foundN d 0) := .cons (same_sqt s1 (SqT.of upd_same)) .nil
    refine ⟨_, rfl, _, _, rfl, rfl, _, rfl, by omega, by omega, ?_⟩
    refine for_range (lo := 0) (n := (((l : Nat) : Int) - 1).toNat) (fun i σ H' => ∃ (f : Addr) (rs : List Addr) (v3 v4 v5 : Option V), σ = [some (.int ((l : Nat) : Int)), some (.int ((d : Nat) : Int)), some (.ref f), v3, v4, v5, none] ∧ Same H H' ∧ H' f = some (.lst (rs.map V.ref)) ∧ Tups K H' rs (foundN d i))
      ⟨f0, [z0], none, none, none, rfl, s0.trans s1, upd_same, tf0⟩ ?_ ?_
    · rintro i σ H1 hi ⟨f, rs, v3, v4, v5, rfl, sH, hf, hT⟩
      have sz1 := sz_of hsz (show i + 1 < l by omega)
      have sz0 := sz_of hsz (show i < l by omega)
      refine ⟨Nat.zero_le _, fun m hm => ?_⟩
      have sm := same_new hm (.lst [])
      refine ⟨_, rfl, f, rfl, ⟨_, sm.seq (SqL.of hf)⟩, ?_⟩
      refine for_list (K := K) (a := f) (xs := rs.map V.ref) (fun j σ H2 => ∃ (ms : List Addr) (v5 : Option V), σ = [some (.int ((l : Nat) : Int)), some (.int ((d : Nat) : Int)), some (.ref f), some (.int (0 + ((i : Nat) : Int))), some (.ref m), v5, none] ∧ Same H1 H2 ∧ H2 m = some (.lst (ms.map V.ref)) ∧ Tups K H2 ms (((foundN d i).take j).flatMap (ext d)))
        ⟨[], v5, rfl, sm, upd_same, .nil⟩ (fun j σ H2 _ ⟨_, _, _, s2, _⟩ => s2.seq (SqL.of hf)) ?_ ?_
      · rintro j x σ H2 hx ⟨ms, v5, rfl, s2, hm2, hT2⟩
        obtain ⟨a, ha, rfl⟩ := ref_get hx
        obtain ⟨t, ht, hta⟩ := (hT.same s2).get ha
        have htm := List.mem_of_getElem? ht
        have hsum := found_sum d i t htm
        have hl := found_len d i t htm
        refine ⟨_, rfl, .inl ⟨rfl, _, SqL.of hm2⟩, ?_⟩
        refine ⟨_, rfl, _, rfl, a, _, rfl, by rw [← nv_ints]; exact hta, _, _, rfl, rfl, _, _, rfl, rfl, ?_⟩
        rw [sum_cast]
        refine ⟨_, rfl, by omega, by omega, fun D hD => ?_⟩
        have sD := same_new hD (.lst [])
        refine lc_range (lo := 0) (n := (((d : Nat) : Int) - ((t.sum : Nat) : Int) + 1).toNat) (fun k H3 => ∃ ds : List Addr, Same H2 H3 ∧ H3 D = some (.lst (ds.map V.ref)) ∧ Tups K H3 ds ((List.range k).map fun e => t ++ [e])) ⟨[], sD, upd_same, .nil⟩ ?_ ?_
        · rintro k H3 hk ⟨ds, s3, hD3, hT3⟩
          refine ⟨rfl, _, rfl, _, rfl, by show 1 ≤ sizeLine; decide, fun z hz => ?_⟩
          have sz := same_new hz (.tup [V.int (0 + ((k : Nat) : Int))])
          refine ⟨a, z, _, _, rfl, rfl, same_sqt sz (same_sqt s3 hta), SqT.of upd_same, ?_, fun H5 z5 s5 hz5 => ?_⟩
          · rw [nv_len]
            exact Nat.le_of_lt (sizeK (by simp only [List.length_cons, List.length_nil]; omega))
          have s6 : Same H3 H5 := sz.trans s5
          have hlen3 := hT3.length
          rw [List.length_map, List.length_range] at hlen3
          refine ⟨ds.map V.ref, s6 _ _ hD3, by rw [List.length_map]; exact sizeK (by omega), ds ++ [z5], same_updL (s3.trans s6) hD, by rw [upd_same, List.map_append]; rfl, ?_⟩
          rw [List.range_succ, List.map_append]
          have hz6 : SqT K H5 z5 (nv (t ++ [k])) := by
            have e1 : nv t ++ [V.int (0 + ((k : Nat) : Int))] = nv (t ++ [k]) := by
              rw [nv_app, Int.zero_add]
              rfl
            rw [← e1]
            exact hz5
          exact ((hT3.same s6).updL (s6 _ _ hD3)).app (.cons (sqt_updL (s6 _ _ hD3) hz6) .nil)
        · rintro H3 ⟨ds, s3, hD3, hT3⟩
          rw [show (((d : Nat) : Int) - ((t.sum : Nat) : Int) + 1).toNat = d + 1 - t.sum by omega] at hT3
          have hflat : (((foundN d i).take (j + 1)).flatMap (ext d)) = ((foundN d i).take j).flatMap (ext d) ++ ext d t := by
            rw [take_more ht, List.flatMap_append]
            simp
          have hle : (ms ++ ds).length ≤ 400 := by
            rw [List.length_append, hT2.length, hT3.length]
            have e1 := flat_take_le (ext d) (foundN d i) (j + 1)
            rw [hflat, List.length_append] at e1
            have e2 : (foundN d (i + 1)).length = ((foundN d i).flatMap (ext d)).length := rfl
            have e3 : (ext d t).length = ((List.range (d + 1 - t.sum)).map fun e => t ++ [e]).length := rfl
            omega
          have hmD : m ≠ D := ne_of_none hm2 hD
          refine ⟨m, D, _, _, rfl, rfl, s3 _ _ hm2, hD3, ?_, ms ++ ds, some (.ref a), rfl, same_updL (s2.trans s3) hm, by rw [upd_same, List.map_append], ?_⟩
          · rw [← List.length_append, ← List.map_append, List.length_map]
            exact Nat.le_of_lt (sizeK (by omega))
          · rw [hflat]
            exact ((hT2.same s3).updL (s3 _ _ hm2)).app (hT3.updL (s3 _ _ hm2))
      · rintro σ H2 ⟨ms, v5, rfl, s2, hm2, hT2⟩
        rw [List.length_map, hT.length, List.take_length] at hT2
        refine ⟨_, rfl, m, _, rfl, .inl (SqL.of hm2), fun z hz => ?_⟩
        have s3 := same_new hz (.lst (ms.map V.ref))
        exact ⟨z, ms, some (.int (0 + ((i : Nat) : Int))), some (.ref m), v5, rfl, sH.trans (s2.trans s3), upd_same, hT2.same s3⟩
    · rintro σ H1 ⟨f, rs, v3, v4, v5, rfl, sH, hf, hT⟩
      rw [show (((l : Nat) : Int) - 1).toNat = l - 1 by omega] at hT
      have sz0 := sz_of hsz (show l - 1 < l by omega)
      refine ⟨_, rfl, f, rfl, ⟨_, SqL.of hf⟩, fun D hD => ?_⟩
      have sD := same_new hD (.lst [])
      have eas : ∀ j : Nat, (asc l d).take j = ((foundN d (l - 1)).take j).map fun t => t ++ [d - t.sum] := fun j => List.map_take.symm
      refine lc_list (K := K) (a := f) (xs := rs.map V.ref) (fun j H2 => ∃ ds : List Addr, Same H1 H2 ∧ H2 D = some (.lst (ds.map V.ref)) ∧ Tups K H2 ds ((asc l d).take j)) ⟨[], sD, upd_same, .nil⟩ (fun j H2 _ ⟨_, s2, _⟩ => s2.seq (SqL.of hf)) ?_ ?_
      · rintro j x H2 hx ⟨ds, s2, hD2, hT2⟩
        obtain ⟨a, ha, rfl⟩ := ref_get hx
        obtain ⟨t, ht, hta⟩ := (hT.same s2).get ha
        have htm := List.mem_of_getElem? ht
        have hsum := found_sum d (l - 1) t htm
        have hl := found_len d (l - 1) t htm
        refine ⟨rfl, _, rfl, _, rfl, _, rfl, a, _, rfl, by rw [← nv_ints]; exact hta, _, _, rfl, rfl, by show 1 ≤ sizeLine; decide, fun z hz => ?_⟩
        rw [sum_cast]
        have sz := same_new hz (.tup [V.int (((d : Nat) : Int) - ((t.sum : Nat) : Int))])
        refine ⟨a, z, _, _, rfl, rfl, same_sqt sz hta, SqT.of upd_same, ?_, fun H5 z5 s5 hz5 => ?_⟩
        · rw [nv_len]
          exact Nat.le_of_lt (sizeK (by simp only [List.length_cons, List.length_nil]; omega))
        have s6 : Same H2 H5 := sz.trans s5
        have hlen3 := hT2.length
        rw [eas, List.length_map, List.length_take] at hlen3
        refine ⟨ds.map V.ref, s6 _ _ hD2, by rw [List.length_map]; exact sizeK (by omega), ds ++ [z5], same_updL (s2.trans s6) hD, by rw [upd_same, List.map_append]; rfl, ?_⟩
        have hz6 : SqT K H5 z5 (nv (t ++ [d - t.sum])) := by
          have e1 : nv t ++ [V.int (((d : Nat) : Int) - ((t.sum : Nat) : Int))] = nv (t ++ [d - t.sum]) := by
            rw [nv_app, show ((d : Nat) : Int) - ((t.sum : Nat) : Int) = ((d - t.sum : Nat) : Int) by omega]
            rfl
          rw [← e1]
          exact hz5
        rw [eas, take_more ht, List.map_append, ← eas]
        exact ((hT2.same s6).updL (s6 _ _ hD2)).app (.cons (sqt_updL (s6 _ _ hD2) hz6) .nil)
      · rintro H2 ⟨ds, s2, hD2, hT2⟩
        have el : (asc l d).length = rs.length := by
          rw [hT.length]
          exact List.length_map _
        rw [List.length_map, ← el, List.take_length] at hT2
        refine ⟨D, ds, asc l d, rfl, SqL.of hD2, hT2, fun t ht => ?_, hasc, fun z qs hz hq => ?_⟩
        · obtain ⟨u, _, rfl⟩ := List.mem_map.mp ht
          simp
        · have s3 := same_new hz (.lst (qs.map V.ref))
          refine ⟨z, _, rfl, SqL.of upd_same, fun z2 hz2 => ?_⟩
          have s4 := same_new hz2 (.lst (qs.map V.ref).reverse)
          have sall := sH.trans (s2.trans (s3.trans s4))
          refine q _ z2 qs.reverse sall (Same.free (sH.trans (s2.trans s3)) hz2) (by rw [upd_same, List.map_reverse]) ?_
          exact (hq.same (s3.trans s4)).rev
end
end L5

namespace L5
open PySem PySem.Spec PyProof.Rows L2 RZ
section
variable {P : Program} {w : World} {K : PySem.W.Frag} {mg : Str → Option Value} {base : Heap}
/-! ### _law_choices: how many products there are, by sums of sums -/
theorem sums_len : ∀ (a : Nat) (r : List Nat), (sums a r).length = r.length
  | _, [] => rfl
  | a, x :: r => congrArg (· + 1) (sums_len (a + x) r)
theorem sums_head (r : List Nat) : (sums 0 r).take 1 ++ r.drop 1 = r := by
  cases r with
  | nil => rfl
  | cons x r =>
    show (0 + x) :: [] ++ r = x :: r
    rw [Nat.zero_add]
    rfl
theorem sums_get : ∀ (a : Nat) (r : List Nat) (k u v : Nat), (sums a r)[k]? = some u → r[k + 1]? = some v → (sums a r)[k + 1]? = some (u + v)
  | _, [], _, _, _, h, _ => by simp [sums] at h
  | a, [x], k, _, _, _, h => by simp at h
  | a, x :: y :: r, 0, u, v, h, g => by
    have e1 : a + x = u := Option.some.inj h
    have e2 : y = v := Option.some.inj g
    rw [← e1, ← e2]
    rfl
  | a, x :: y :: r, k + 1, u, v, h, g => sums_get (a + x) (y :: r) k u v h g
abbrev part (k : Nat) (r : List Nat) : List Nat := (sums 0 r).take (k + 1) ++ r.drop (k + 1)
theorem part_len (k : Nat) (r : List Nat) : (part k r).length = r.length := by
  rw [List.length_append, List.length_take, List.length_drop, sums_len]
  omega
theorem part_step {k : Nat} {r : List Nat} {n : Nat} (hk : k + 1 < r.length) (hn : (sums 0 r)[k + 1]? = some n) : (part k r).set (k + 1) n = part (k + 1) r := by
  have hl : ((sums 0 r).take (k + 1)).length = k + 1 := by
    rw [List.length_take, sums_len]
    omega
  rw [List.set_append_right _ _ (by omega), hl, Nat.sub_self, List.drop_eq_getElem_cons hk, List.set_cons_zero]
  show _ = (sums 0 r).take (k + 1 + 1) ++ _
  rw [take_more hn, List.append_assoc]
  rfl
theorem part_at {k : Nat} {r : List Nat} (hk : k + 1 < r.length) : ∃ u v, (part k r)[k]? = some u ∧ (part k r)[k + 1]? = some v ∧ (sums 0 r)[k + 1]? = some (u + v) := by
  have hl : ((sums 0 r).take (k + 1)).length = k + 1 := by
    rw [List.length_take, sums_len]
    omega
  have h1 : k < (sums 0 r).length := by rw [sums_len]; omega
  refine ⟨(sums 0 r)[k], r[k + 1], ?_, ?_, sums_get 0 r k _ _ (List.getElem?_eq_getElem h1) (List.getElem?_eq_getElem hk)⟩
  · rw [List.getElem?_append_left (by omega), List.getElem?_take_of_lt (by omega), List.getElem?_eq_getElem h1]
  · rw [List.getElem?_append_right (by omega), hl, Nat.sub_self, List.getElem?_drop]
    exact List.getElem?_eq_getElem hk
theorem row_len (d : Nat) : ∀ n, (rowN d n).length = d + 1
  | 0 => by
    show (List.replicate d 0).length + 1 = d + 1
    rw [List.length_replicate]
  | n + 1 => by
    show (sums 0 (rowN d n)).length = d + 1
    rw [sums_len, row_len d n]
theorem ixN_of {n j : Nat} (hj : j < n) : ixN n (j : Int) = some j := by
  unfold ixN
  rw [if_pos (Int.natCast_nonneg j), if_pos (by omega)]
  rfl
theorem nv_set (t : List Nat) (k n : Nat) : (nv t).set k (.int ((n : Nat) : Int)) = nv (t.set k n) := List.map_set.symm
def sp_cho : Sp := fun vs H Q _ => ∃ l d : Nat, vs = [.int ((l : Nat) : Int), .int ((d : Nat) : Int)] ∧ l ≤ 8 ∧ d ≤ 13 ∧ ∀ H', Same H H' → Q (.int ((choicesN l d : Nat) : Int)) H'
theorem ok_cho (T : Txt K mg) : FnOk P w K mg base CX0 1 T.a_w_choices T.d_w_choices ["_law_letters", "_law_degree"] sp_cho := by
  refine T.F_w_choices.ok sc_w_choices (fun vs H Q E h => ?_) (fun cdv A outer s H vs Q E hr h => ?_)
  · obtain ⟨l, d, rfl, _⟩ := h
    rfl
  · obtain ⟨l, d, rfl, h8, hd, q⟩ := h
    refine ⟨_, pss_cons (ps_set (i := 2) sc_w_choices.nd rfl (Or.inl rfl) (pe_op op_cat (pe_lst (pa_cons pe_int pa_nil)) (pe_op op_rep (pe_lst (pa_cons pe_int pa_nil)) (pv 1))))
      (pss_cons (ps_for PassesOwn.never rfl (pi_range1 rfl T.z_range (pa_cons (pv 0) pa_nil)) (pg_name (i := 3) sc_w_choices.nd rfl (Or.inl rfl))
        (pss_one (ps_for PassesOwn.never rfl (pi_range2 (by rfl) T.z_range (pa_cons pe_int (pa_cons (pe_op op_add (pv 1) pe_int) pa_nil))) (pg_name (i := 4) sc_w_choices.nd rfl (Or.inl rfl))
          (pss_one (ps_asg (pe_op op_add (pe_ix ix_list (pv 2) (pv 4) (fun _ _ => rfl)) (pe_ix ix_list (pv 2) (pe_op op_sub (pv 4) pe_int) (fun _ _ => rfl))) (pg_sub (pv 2) (pv 4) set_list))))))
      (pss_one (ps_ret (pe_ix ix_list (pv 2) (pv 1) (fun _ _ => rfl))))), ?_⟩
    refine ⟨by show 1 ≤ sizeLine; decide, fun z1 hz1 => ⟨by show 1 ≤ sizeLine; decide, fun z2 hz2 => ?_⟩⟩
    have s1 := same_new hz1 (.lst [V.int 1])
    have s2 := same_new hz2 (.lst [V.int 0])
    refine ⟨_, rfl, z2, _, _, rfl, rfl, upd_same, by omega, by omega, ?_, fun z3 hz3 => ?_⟩
    · exact Nat.le_of_lt (sizeK (by simp only [List.length_cons, List.length_nil]; omega))
    have s3 := same_new hz3 (.lst (List.replicate ((d : Nat) : Int).toNat [V.int 0]).flatten)
    refine ⟨z1, z3, _, _, rfl, rfl, s3 _ _ (s2 _ _ upd_same), upd_same, ?_, fun p hp => ?_⟩
    · rw [rep_nv, nv_len, List.length_replicate]
      exact Nat.le_of_lt (sizeK (by simp only [List.length_cons, List.length_nil]; omega))
    have hpn : H p = none := Same.free (s1.trans (s2.trans s3)) hp
    have sH := s1.trans (s2.trans (s3.trans (same_new hp (.lst ([V.int 1] ++ (List.replicate ((d : Nat) : Int).toNat [V.int 0]).flatten)))))
    have e0 : [V.int 1] ++ (List.replicate ((d : Nat) : Int).toNat [V.int 0]).flatten = nv (rowN d 0) := by
      rw [rep_nv]
      rfl
    refine ⟨_, rfl, _, rfl, by omega, by omega, ?_⟩
    refine for_range (lo := 0) (n := ((l : Nat) : Int).toNat) (fun i σ H' => ∃ v3 v4 : Option V, σ = [some (.int ((l : Nat) : Int)), some (.int ((d : Nat) : Int)), some (.ref p), v3, v4] ∧ Same H H' ∧ H' p = some (.lst (nv (rowN d i)))) ⟨none, none, rfl, sH, by rw [upd_same, e0]⟩ ?_ ?_
    · rintro i σ H1 hi ⟨v3, v4, rfl, sm, hp1⟩
      refine ⟨_, rfl, _, _, rfl, rfl, 1, _, rfl, ⟨by omega, by omega, by omega, by omega⟩, ?_⟩
      refine for_range (lo := 1) (n := (((d : Nat) : Int) + 1 - 1).toNat) (fun k σ H' => ∃ v4 : Option V, σ = [some (.int ((l : Nat) : Int)), some (.int ((d : Nat) : Int)), some (.ref p), some (.int (0 + ((i : Nat) : Int))), v4] ∧ Same H H' ∧ H' p = some (.lst (nv (part k (rowN d i))))) ⟨v4, rfl, sm, by rw [show part 0 (rowN d i) = rowN d i from sums_head _]; exact hp1⟩ ?_ ?_
      · rintro k σ H2 hk ⟨v4, rfl, sm2, hp2⟩
        have hkl : k + 1 < (rowN d i).length := by rw [row_len]; omega
        obtain ⟨u, v, hu, hv, hs⟩ := part_at hkl
        have ei1 : (1 : Int) + ((k : Nat) : Int) = ((k + 1 : Nat) : Int) := by omega
        have a1 : atI (nv (part k (rowN d i))) (1 + ((k : Nat) : Int)) = some (.int ((v : Nat) : Int)) := by
          rw [ei1]
          exact nv_at hv
        have a2 : atI (nv (part k (rowN d i))) (1 + ((k : Nat) : Int) - 1) = some (.int ((u : Nat) : Int)) := by
          rw [show (1 : Int) + ((k : Nat) : Int) - 1 = ((k : Nat) : Int) by omega]
          exact nv_at hu
        refine ⟨_, rfl, _, rfl, p, _, _, _, rfl, rfl, SqL.of hp2, a1, _, rfl, _, rfl, _, _, rfl, rfl, p, _, _, _, rfl, rfl, SqL.of hp2, a2, _, _, rfl, rfl, ?_⟩
        refine ⟨_, rfl, _, rfl, p, _, _, k + 1, rfl, rfl, hp2, ?_, some (.int (1 + ((k : Nat) : Int))), rfl, same_updL sm2 hpn, ?_⟩
        · rw [ei1, nv_len]
          exact ixN_of (by rw [part_len]; exact hkl)
        · have e1 : ((v : Nat) : Int) + ((u : Nat) : Int) = ((u + v : Nat) : Int) := by omega
          rw [upd_same, ← part_step hkl hs, ← nv_set, ← e1]
      · rintro σ H2 ⟨v4, rfl, sm2, hp2⟩
        refine ⟨some (.int (0 + ((i : Nat) : Int))), v4, rfl, sm2, ?_⟩
        have e1 : part (((d : Nat) : Int) + 1 - 1).toNat (rowN d i) = rowN d (i + 1) := by
          show (sums 0 (rowN d i)).take _ ++ (rowN d i).drop _ = sums 0 (rowN d i)
          rw [List.take_of_length_le (by rw [sums_len, row_len]; omega), List.drop_eq_nil_of_le (by rw [row_len]; omega), List.append_nil]
        rw [e1] at hp2
        exact hp2
    · rintro σ H1 ⟨v3, v4, rfl, sm, hp1⟩
      rw [show ((l : Nat) : Int).toNat = l by omega] at hp1
      refine ⟨_, rfl, _, rfl, p, _, _, _, rfl, rfl, SqL.of hp1, nv_at (getD_at (by rw [row_len]; omega)), ?_⟩
      exact q H1 sm
end
end L5

namespace L5
open PySem PySem.Spec PyProof.Rows L2 RZ
section
variable {P : Program} {w : World} {K : PySem.W.Frag} {mg : Str → Option Value} {base : Heap}
/-! ### all but the pail stands -/
def Bar (p : Addr) (H H' : Hp) : Prop := ∀ b o, b ≠ p → H b = some o → H' b = some o
theorem Bar.trans {p : Addr} {A B C : Hp} (a : Bar p A B) (b : Bar p B C) : Bar p A C := fun c o n h => b c o n (a c o n h)
theorem Bar.same {p : Addr} {A B : Hp} (a : Same A B) : Bar p A B := fun c o _ h => a c o h
theorem Bar.upd {p : Addr} {A : Hp} {o : HO} : Bar p A (upd A p o) := fun c u n h => by
  rw [upd_ne n]
  exact h
theorem passG {X : Cx} : Passes (CX X.prog X.w) X E0 := fun _ _ _ _ _ _ _ c => by
  obtain ⟨_, _, _, _, _, _, _, _, _, _, _, _, no⟩ := c
  exact no.elim
theorem nostop : NoStop K E0 := fun _ _ _ no => no.elim
theorem unit_len (l k : Nat) : (unitN l k).length = l := by
  unfold unitN
  rw [List.length_map, List.length_range]
theorem unit_get {l k i : Nat} (h : i < l) : (unitN l k)[i]? = some (if i = k then 1 else 0) := by
  unfold unitN
  rw [List.getElem?_map, List.getElem?_range h]
  rfl
theorem unit_60 {l k : Nat} (h1 : 1 ≤ l) (h8 : l ≤ 8) : Prod60 (unitN l k) := by
  refine ⟨by rw [unit_len]; exact h1, by rw [unit_len]; exact h8, fun e he => ?_⟩
  obtain ⟨i, _, rfl⟩ := List.mem_map.mp he
  split <;> omega
theorem add_60 {t u : List Nat} (ht : ∀ e ∈ t, e ≤ 20) (hu : Prod60 u) (h1 : ∀ e ∈ u, e ≤ 1) : ∀ e ∈ addN t u, e ≤ 60 := fun e he => by
  obtain ⟨i, hi, rfl⟩ := List.mem_iff_getElem.mp he
  rw [List.length_zipWith] at hi
  rw [List.getElem_zipWith]
  have a := ht _ (List.getElem_mem (show i < t.length by omega))
  have b := h1 _ (List.getElem_mem (show i < u.length by omega))
  omega
theorem unit_1 (l k : Nat) : ∀ e ∈ unitN l k, e ≤ 1 := fun e he => by
  obtain ⟨i, _, rfl⟩ := List.mem_map.mp he
  split <;> omega
def sp_right : Sp := fun vs H Q _ => ∃ (p : Addr) (g x c : Int), vs = [.ref p] ∧ H p = some (pailO g x c) ∧ ∀ H' g x c, Bar p H H' → H' p = some (pailO g x c) → Q (.bl true) H'
theorem ok_right (T : Txt K mg) : FnOk P w K mg base CX0 9 T.a_w_right T.d_w_right ["_law_pail_here"] sp_right := by
  refine T.F_w_right.ok sc_w_right (fun vs H Q E h => ?_) (fun cdv A outer s H vs Q E hr h => ?_)
  · obtain ⟨p, g, x, c, rfl, _⟩ := h
    rfl
  · obtain ⟨p, g, x, c, rfl, hp0, q⟩ := h
    refine ⟨_, pss_cons (ps_set (i := 1) sc_w_right.nd rfl (Or.inr rfl) (PE.weak (t' := fun σ' H' Q' => σ' = start N_w_right [.ref p] ∧ H' = H ∧ ∀ (l : Nat) (g x c : Int), 1 ≤ l → l ≤ 8 → Q' (.int ((l : Nat) : Int)) (upd H p (pailO g x c)))
        (pe_op op_add pe_int (pe_call (ok_dip T) (hr.mono (by decide)) (by rfl) T.m_w_dipped T.F_w_dipped.kp T.b_w_dipped .nil pass0 (pa_cons (pv 0) (pa_cons pe_int pa_nil)))) ?w1))
      (pss_cons (ps_set (i := 2) sc_w_right.nd rfl (Or.inr rfl) (PE.weak (t' := fun σ' H' Q' => ∃ (l : Nat) (g x c : Int), σ'[0]? = some (some (.ref p)) ∧ σ'[1]? = some (some (.int ((l : Nat) : Int))) ∧ H' p = some (pailO g x c) ∧ 1 ≤ l ∧ l ≤ 8 ∧
          ∀ (d : Nat) (g x c : Int) H2, d < top l → Bar p H' H2 → H2 p = some (pailO g x c) → Q' (.int ((d : Nat) : Int)) H2)
        (pe_call (ok_dip T) (hr.mono (by decide)) (by rfl) T.m_w_dipped T.F_w_dipped.kp T.b_w_dipped .nil pass0 (pa_cons (pv 0) (pa_cons (pe_ifExp (pt_cmpR op_lt (pv 1) pe_int (nomark _))
          (pe_call (ok_some T) (hr.mono (by decide)) (by rfl) T.m_w_some T.F_w_some.kp T.b_w_some .nil pass0 (pa_cons (pv 0) (pa_cons (pe_lst (pa_cons pe_int (pa_cons pe_int (pa_cons pe_int (pa_cons pe_int pa_nil))))) pa_nil)))
          (pe_op op_sub pe_int (pe_callTy call_int1 (by rfl) T.z_int boot_int (pa_cons (pe_cmpR op_gt (pv 1) pe_int (nomark _)) pa_nil)))) pa_nil))) ?w2))
      (pss_cons (ps_set (i := 3) sc_w_right.nd rfl (Or.inl rfl) (pe_listG (pgen_call (E := E0) (ok_gen T) (hr.mono (by decide)) (by rfl) T.m_all_products T.F_all_products.kp T.b_all_products .nil (pa_cons (pv 1) (pa_cons (pv 2) pa_nil))) passG nostop (hr.mono (by decide)) (by rfl) T.z_list boot_list))
      (pss_cons (ps_if (PW.pt (pw_or (pt_cmpR (op_neD hr.units) (pv 3) (pe_call (ok_all T) (hr.mono (by decide)) (by rfl) T.m_w_all T.F_w_all.kp T.b_w_all .nil pass0 (pa_cons (pv 1) (pa_cons (pv 2) pa_nil))) (nomark _))
          (pw_or1 (pt_cmpR op_ne (pe_callB call_len_seq (by rfl) T.z_len boot_len (pa_cons (pv 3) pa_nil)) (pe_call (ok_cho T) (hr.mono (by decide)) (by rfl) T.m_w_choices T.F_w_choices.kp T.b_w_choices .nil pass0 (pa_cons (pv 1) (pa_cons (pv 2) pa_nil))) (nomark _))))) (pss_one (ps_ret pe_bl)) pss_nil)
      (pss_cons (ps_if (pt_cmpR (op_neD hr.units) (pe_lc (own := [("_law_one", 7)]) (g := gName 7) rfl sc_w_right.nd (pi_list (pv 3)) (blkOk_by (own := [("_law_one", 7)]) (N := N_w_right) (sc := defScope s_w_right) (by decide +kernel))
          (fun _ _ _ _ _ => pg_name (i := 7) sc_w_right.nd rfl (Or.inl rfl))
          (fun _ _ _ _ _ => pts_one (PW.pt (pw_or (pt_not (pt_val (pe_call (ok_isp T) (hr.mono (by decide)) (by rfl) T.m_is_product T.F_is_product.kp T.b_is_product .nil pass0 (pa_cons (pv 1) (pa_cons (pv 7) pa_nil)))))
            (pw_or1 (pt_cmpR op_ne (pe_call (ok_deg T) (hr.mono (by decide)) (by rfl) T.m_degree_of T.F_degree_of.kp T.b_degree_of .nil pass0 (pa_cons (pv 7) pa_nil)) (pv 2) (nomark _))))))
          (fun _ _ _ _ _ => pv 7)) (pe_lst pa_nil) (nomark _)) (pss_one (ps_ret pe_bl)) pss_nil)
      (pss_cons (ps_set (i := 4) sc_w_right.nd rfl (Or.inr rfl) (pe_call (ok_dip T) (hr.mono (by decide)) (by rfl) T.m_w_dipped T.F_w_dipped.kp T.b_w_dipped .nil pass0 (pa_cons (pv 0) (pa_cons (pv 1) pa_nil))))
      (pss_cons (ps_set (i := 5) sc_w_right.nd rfl (Or.inr rfl) (pe_callTy call_tuple_of (by rfl) T.z_tuple boot_tuple (pa_cons (pe_lc (own := [("_law_place", 8)]) (g := gName 8) (tt := tYes) rfl sc_w_right.nd (pi_range1 rfl T.z_range (pa_cons (pv 1) pa_nil)) (blkOk_by (own := [("_law_place", 8)]) (N := N_w_right) (sc := defScope s_w_right) (by decide +kernel))
          (fun _ _ _ _ _ => pg_name (i := 8) sc_w_right.nd rfl (Or.inl rfl)) (fun _ _ _ _ _ => pts_nil)
          (fun _ _ _ _ _ => pe_callTy call_int1 (by rfl) T.z_int boot_int (pa_cons (pe_cmpR op_eq (pv 8) (pv 4) (nomark _)) pa_nil))) pa_nil)))
      (pss_cons (ps_setLc (i := 6) (own := [("_law_one", 7)]) (g := gName 7) (tt := tYes) rfl sc_w_right.nd rfl rfl (sw_true rfl rfl rfl (by decide +kernel)) (pi_list (pv 3)) (blkOk_by (own := [("_law_one", 7)]) (N := N_w_right) (sc := defScope s_w_right) (by decide +kernel))
          (fun _ _ _ _ _ => pg_name (i := 7) sc_w_right.nd rfl (Or.inl rfl)) (fun _ _ _ _ _ => pts_nil)
          (fun _ _ _ _ _ => pe_call (ok_times T) (hr.mono (by decide)) (by rfl) T.m_product_times T.F_product_times.kp T.b_product_times .nil pass0 (pa_cons (pv 7) (pa_cons (pv 5) pa_nil))))
      (pss_cons (ps_if (pt_cmpR (op_neD hr.units) (pv 6) (pe_lc (own := [("_law_one", 7)]) (g := gName 7) rfl sc_w_right.nd (pi_list (pe_call (ok_all T) (hr.mono (by decide)) (by rfl) T.m_w_all T.F_w_all.kp T.b_w_all .nil pass0 (pa_cons (pv 1) (pa_cons (pe_op op_add (pv 2) pe_int) pa_nil)))) (blkOk_by (own := [("_law_one", 7)]) (N := N_w_right) (sc := defScope s_w_right) (by decide +kernel))
          (fun _ _ _ _ _ => pg_name (i := 7) sc_w_right.nd rfl (Or.inl rfl))
          (fun _ _ _ _ _ => pts_one (pt_cmpR op_gt (pe_ix (show IxR _ (rIxT K) from ix_tup) (pv 7) (pv 4) (fun _ _ => rfl)) pe_int (nomark _)))
          (fun _ _ _ _ _ => pv 7)) (nomark _)) (pss_one (ps_ret pe_bl)) pss_nil)
      (pss_one (ps_ret (pe_cmpR (op_eqD hr.units) (pe_ix ix_list (pv 3) pe_int (fun _ _ => rfl)) (pe_op op_catB (pe_tup (pa_cons (pv 2) pa_nil)) (pe_op op_repB (pe_tup (pa_cons pe_int pa_nil)) (pe_op op_sub (pv 1) pe_int))) (nomark _)))))))))))), ?_⟩
    case w1 =>
      rintro σ' H' Q' ⟨rfl, rfl, h⟩
      refine ⟨_, rfl, p, _, g, x, c, rfl, hp0, by decide, by decide, fun g' x' c' r h0 h1 => ?_⟩
      have q' := h (1 + r).toNat g' x' c' (by omega) (by omega)
      rw [show (((1 + r).toNat : Nat) : Int) = 1 + r by omega] at q'
      exact ⟨_, _, rfl, rfl, q'⟩
    case w2 =>
      rintro σ' H' Q' ⟨l, g, x, c, e0, e1, hp, h1, h8, h⟩
      have fin : ∀ (H1 : Hp) (m g x c : Int), Bar p H' H1 → H1 p = some (pailO g x c) → 0 < m → m ≤ ((top l : Nat) : Int) → sp_dip ([.ref p, .int m] ++ []) H1 Q' E0 := fun H1 m g x c b1 hp1 h0 hm => by
        have := top_le l
        refine ⟨p, m, g, x, c, rfl, hp1, h0, by omega, fun g' x' c' r h2 h3 => ?_⟩
        have q' := h r.toNat g' x' c' (upd H1 p (pailO g' x' c')) (by omega) (b1.trans Bar.upd) upd_same
        rw [show ((r.toNat : Nat) : Int) = r by omega] at q'
        exact q'
      refine ⟨_, e0, _, e1, _, _, rfl, rfl, _, rfl, ite2 (fun d => ?_) (fun d => ?_)⟩
      · have d' := of_decide_eq_true d
        have ht : top l = 13 := if_pos (by omega)
        refine ⟨_, e0, by show 4 ≤ sizeLine; decide, fun z hz => ?_⟩
        have sz := same_new hz (.lst [V.int 13, V.int 13, V.int 8, V.int 4])
        have hne : z ≠ p := fun e => by
          rw [e, hp] at hz
          cases hz
        refine ⟨p, z, _, g, x, c, rfl, sz _ _ hp, hne, SqL.of upd_same, by simp, by simp, fun g' x' c' v hv => ?_⟩
        have b1 : Bar p H' (upd (upd H' z (.lst [V.int 13, V.int 13, V.int 8, V.int 4])) p (pailO g' x' c')) := (Bar.same sz).trans Bar.upd
        have hv' : v = V.int 13 ∨ v = V.int 8 ∨ v = V.int 4 := by
          simp only [List.mem_cons, List.not_mem_nil, or_false] at hv
          rcases hv with e | e | e | e
          · exact .inl e
          · exact .inl e
          · exact .inr (.inl e)
          · exact .inr (.inr e)
        rcases hv' with rfl | rfl | rfl
        · exact fin _ 13 g' x' c' b1 upd_same (by decide) (by rw [ht]; decide)
        · exact fin _ 8 g' x' c' b1 upd_same (by decide) (by rw [ht]; decide)
        · exact fin _ 4 g' x' c' b1 upd_same (by decide) (by rw [ht]; decide)
      · have d' : ¬ _ := fun z => d (decide_eq_true z)
        have ht : top l = if l ≤ 6 then 5 else 4 := if_neg (by omega)
        refine ⟨_, e1, _, _, rfl, rfl, .inr ⟨_, rfl, _, _, rfl, rfl, ?_⟩⟩
        by_cases h6 : l ≤ 6
        · rw [if_pos h6] at ht
          have e2 : decide ((6 : Int) < ((l : Nat) : Int)) = false := decide_eq_false (by omega)
          rw [e2]
          exact fin H' 5 g x c (fun _ _ _ z => z) hp (by decide) (by rw [ht]; decide)
        · rw [if_neg h6] at ht
          have e2 : decide ((6 : Int) < ((l : Nat) : Int)) = true := decide_eq_true (by omega)
          rw [e2]
          exact fin H' 4 g x c (fun _ _ _ z => z) hp (by decide) (by rw [ht]; decide)
    -- letters, degree
    refine ⟨rfl, rfl, fun l g1 x1 c1 h1 h8 => ?_⟩
    refine ⟨l, g1, x1, c1, rfl, rfl, upd_same, h1, h8, fun d g2 x2 c2 H2 hd b2 hp2 => ?_⟩
    have O := okS (ok_of h1 h8 hd).1
    have hz := (ok_of h1 h8 hd).2
    have ht := top_le l
    have B2 : Bar p H H2 := Bar.upd.trans b2
    -- told
    refine ⟨_, rfl, _, rfl, l, d, rfl, h1, h8, hd, fun H3 rs s3 hT3 a ha => ?_⟩
    have s4 := same_new ha (.lst (rs.map V.ref))
    have hap : a ≠ p := fun e => by
      rw [e, s3 _ _ hp2] at ha
      cases ha
    have hlenL : (listed l d).length ≤ 400 := by
      have e1 : (listed l d).length = (asc l d).length := List.length_reverse
      have e2 : (asc l d).length = (foundN d (l - 1)).length := List.length_map _
      have := sz_of hz.1 (show l - 1 < l by omega)
      omega
    -- told != all
    refine ⟨_, rfl, _, rfl, _, rfl, l, d, rfl, h1, h8, by omega, hz.1, O.asc1, fun H5 z5 qs s5 _ hz5 hT5 => ?_⟩
    have S5 : Same H3 H5 := s4.trans s5
    have ha5 : H5 a = some (.lst (rs.map V.ref)) := s5 _ _ upd_same
    refine ⟨_, _, .lst (SqL.of ha5) (dp_tups (hT3.same S5)), .lst (SqL.of hz5) (dp_tups hT5), shaped_tups _, shaped_tups _, false, congrArg V.bl (by rw [eqv_tups] <;> rfl), iteF ?_⟩
    refine ⟨_, rfl, a, _, rfl, .inl (SqL.of ha5), _, rfl, _, rfl, l, d, rfl, h8, by omega, fun H6 s6 => ?_⟩
    have e6 : (!decide (V.int (((rs.map V.ref).length : Nat) : Int) = V.int ((choicesN l d : Nat) : Int))) = false := by
      rw [List.length_map, hT3.length, O.len, decide_eq_true rfl]
      rfl
    refine ⟨rfl, false, congrArg V.bl e6, iteF ?_⟩
    have S6 : Same H3 H6 := S5.trans s6
    have ha6 := s6 _ _ ha5
    have hT6 := hT3.same S6
    -- each told one is a product of the degree
    refine ⟨_, rfl, a, rfl, ⟨_, SqL.of ha6⟩, fun D hD => ?_⟩
    have sD := same_new hD (.lst [])
    refine lc_list (K := K) (a := a) (xs := rs.map V.ref) (fun i H' => Same H6 H' ∧ H' D = some (.lst [])) ⟨sD, upd_same⟩ (fun i H' _ h => h.1.seq (SqL.of ha6)) ?_ ?_
    · rintro i x H' hx ⟨s7, hD7⟩
      obtain ⟨b, hb, rfl⟩ := ref_get hx
      obtain ⟨t, hti, htb⟩ := (hT6.same s7).get hb
      have hpr := O.prod1 t (List.mem_of_getElem? hti)
      obtain ⟨hl, hs, _⟩ := prod_of hpr
      refine ⟨rfl, _, rfl, _, rfl, b, t, by rw [hl]; rfl, htb, prod60 h1 h8 hpr, fun H8 s8 => ⟨true, rfl, iteF ?_⟩⟩
      refine ⟨_, rfl, b, t, rfl, same_sqt s8 htb, prod60 h1 h8 hpr, fun H9 s9 => ⟨_, rfl, rfl, false, congrArg V.bl ?_, ?_⟩⟩
      · rw [hs, decide_eq_true rfl]
        rfl
      · exact ⟨s7.trans (s8.trans s9), s9 _ _ (s8 _ _ hD7)⟩
    · rintro H7 ⟨s7, hD7⟩
      refine ⟨Nat.zero_le _, fun z hz8 => ?_⟩
      have s8 := same_new hz8 (.lst [])
      refine ⟨.list [], .list [], .lst (SqL.of (s8 _ _ hD7)) .nil, .lst (SqL.of upd_same) .nil, by decide, by decide, false, rfl, iteF ?_⟩
      -- at
      have S8 := S6.trans (s7.trans s8)
      have S28 := s3.trans S8
      refine ⟨_, rfl, _, rfl, p, _, g2, x2, c2, rfl, S28 _ _ hp2, by omega, by omega, fun g3 x3 c3 k hk0 hk1 => ?_⟩
      obtain ⟨k, rfl⟩ : ∃ n : Nat, k = ((n : Nat) : Int) := ⟨k.toNat, by omega⟩
      have hkl : k < l := by omega
      have B9 : Bar p H (upd (upd H7 z (.lst [])) p (pailO g3 x3 c3)) := B2.trans ((Bar.same S28).trans Bar.upd)
      have ha9 : (upd (upd H7 z (.lst [])) p (pailO g3 x3 c3)) a = some (.lst (rs.map V.ref)) := by
        rw [upd_ne hap]
        exact s8 _ _ (s7 _ _ ha6)
      have hT9 : Tups K (upd (upd H7 z (.lst [])) p (pailO g3 x3 c3)) rs (listed l d) := (hT3.same S8).updL (S28 _ _ hp2)
      have hp9 : (upd (upd H7 z (.lst [])) p (pailO g3 x3 c3)) p = some (pailO g3 x3 c3) := upd_same
      generalize (upd (upd H7 z (.lst [])) p (pailO g3 x3 c3)) = H9 at B9 ha9 hT9 hp9
      -- letter
      refine ⟨_, rfl, _, rfl, by omega, by omega, fun D2 hD2 => ?_⟩
      have sE := same_new hD2 (.lst [])
      refine lc_range (lo := 0) (n := ((l : Nat) : Int).toNat) (fun i H' => Same H9 H' ∧ H' D2 = some (.lst (nv ((unitN l k).take i)))) ⟨sE, upd_same⟩ ?_ ?_
      · rintro i H' hi ⟨s10, hD10⟩
        have hil : i < l := by omega
        have hu := unit_get (k := k) hil
        refine ⟨rfl, _, rfl, _, rfl, rfl, .inr ⟨_, rfl, _, hD10, ?_, same_updL s10 hD2, ?_⟩⟩
        · rw [nv_len, List.length_take]
          exact sizeK (by omega)
        · rw [upd_same, take_more hu, nv_app]
          by_cases e : i = k
          · subst e
            rw [if_pos rfl, Int.zero_add, decide_eq_true rfl]
            rfl
          · rw [if_neg e, Int.zero_add, decide_eq_false (fun z => e (by have := V.int.inj z; omega))]
            rfl
      · rintro H10 ⟨s10, hD10⟩
        rw [List.take_of_length_le (by rw [unit_len]; omega)] at hD10
        refine ⟨D2, _, rfl, .inl ⟨SqL.of hD10, fun u hu => ?_⟩⟩
        have s11 := same_new hu (.tup (nv (unitN l k)))
        have hU : SqT K (upd H10 u (.tup (nv (unitN l k)))) u (nv (unitN l k)) := SqT.of upd_same
        have S11 := s10.trans s11
        have ha11 := S11 _ _ ha9
        have hT11 := hT9.same S11
        have hp11 := S11 _ _ hp9
        have B11 := B9.trans (Bar.same S11)
        generalize (upd H10 u (.tup (nv (unitN l k)))) = H11 at hU ha11 hT11 hp11 B11
        -- more
        refine ⟨_, rfl, a, rfl, ⟨_, SqL.of ha11⟩, fun D3 hD3 => ?_⟩
        have sF := same_new hD3 (.lst [])
        have emap : ∀ i : Nat, ((listed l d).map fun t => addN t (unitN l k)).take i = ((listed l d).take i).map fun t => addN t (unitN l k) := fun i => List.map_take.symm
        refine lc_list (K := K) (a := a) (xs := rs.map V.ref) (fun i H' => ∃ ds : List Addr, Same H11 H' ∧ H' D3 = some (.lst (ds.map V.ref)) ∧ Tups K H' ds (((listed l d).map fun t => addN t (unitN l k)).take i)) ⟨[], sF, upd_same, .nil⟩ (fun i H' _ ⟨_, s', _⟩ => s'.seq (SqL.of ha11)) ?_ ?_
        · rintro i x H' hx ⟨ds, s12, hD12, hT12⟩
          obtain ⟨b, hb, rfl⟩ := ref_get hx
          obtain ⟨t, hti, htb⟩ := (hT11.same s12).get hb
          have hpr := O.prod1 t (List.mem_of_getElem? hti)
          obtain ⟨hl, hs, h20⟩ := prod_of hpr
          have hdl := hT12.length
          rw [emap, List.length_map, List.length_take] at hdl
          refine ⟨rfl, _, rfl, _, rfl, b, u, t, unitN l k, rfl, htb, same_sqt s12 hU, prod60 h1 h8 hpr, unit_60 h1 h8, by rw [unit_len, hl], add_60 h20 (unit_60 h1 h8) (unit_1 l k), fun H' w s13 hw => ?_⟩
          refine ⟨ds.map V.ref, s13 _ _ hD12, by rw [List.length_map]; exact sizeK (by omega), ds ++ [w], same_updL (s12.trans s13) hD3, by rw [upd_same, List.map_append]; rfl, ?_⟩
          rw [emap, take_more hti, List.map_append, ← emap]
          exact ((hT12.same s13).updL (s13 _ _ hD12)).app (.cons (sqt_updL (s13 _ _ hD12) hw) .nil)
        · rintro H12 ⟨ds, s12, hD12, hT12⟩
          have el : ((listed l d).map fun t => addN t (unitN l k)).length = rs.length := by
            rw [List.length_map, hT11.length]
          rw [List.length_map, ← el, List.take_length] at hT12
          have ha12 := s12 _ _ ha11
          -- those of the next degree that the letter divides
          refine ⟨_, rfl, _, rfl, _, rfl, _, _, rfl, rfl, l, d + 1, rfl, h1, h8, by omega, hz.2, O.asc2, fun H13 z13 ws s13 _ hz13 hT13 => ?_⟩
          refine ⟨z13, rfl, ⟨_, SqL.of hz13⟩, fun D4 hD4 => ?_⟩
          have sG := same_new hD4 (.lst [])
          have hlen13 : (listed l (d + 1)).length ≤ 400 := by
            have e1 : (listed l (d + 1)).length = (asc l (d + 1)).length := List.length_reverse
            have := O.size
            omega
          refine lc_list (K := K) (a := z13) (xs := ws.map V.ref) (fun i H' => ∃ es : List Addr, Same H13 H' ∧ H' D4 = some (.lst (es.map V.ref)) ∧ Tups K H' es (((listed l (d + 1)).take i).filter fun t => Nat.blt 0 (t.getD k 0))) ⟨[], sG, upd_same, .nil⟩ (fun i H' _ ⟨_, s', _⟩ => s'.seq (SqL.of hz13)) ?_ ?_
          · rintro i x H' hx ⟨es, s14, hD14, hT14⟩
            obtain ⟨b, hb, rfl⟩ := ref_get hx
            obtain ⟨t, hti, htb⟩ := (hT13.same s14).get hb
            have hpr := O.prod2 t (List.mem_reverse.mp (List.mem_of_getElem? hti))
            obtain ⟨hl, hs, h20⟩ := prod_of hpr
            have hel := hT14.length
            have hfl := List.length_filter_le (fun t => Nat.blt 0 (t.getD k 0)) ((listed l (d + 1)).take i)
            rw [List.length_take] at hfl
            refine ⟨rfl, _, rfl, _, rfl, b, _, _, _, rfl, rfl, htb, nv_at (getD_at (by omega)), _, _, rfl, rfl, _, rfl, ite2 (fun e => ?_) (fun e => ?_)⟩
            · have e' := of_decide_eq_true e
              have hb0 : Nat.blt 0 (t.getD k 0) = true := Nat.ble_eq_true_of_le (by omega)
              refine ⟨_, rfl, es.map V.ref, hD14, by rw [List.length_map]; exact sizeK (by omega), es ++ [b], same_updL s14 hD4, by rw [upd_same, List.map_append]; rfl, ?_⟩
              have ef : [t].filter (fun t => Nat.blt 0 (t.getD k 0)) = [t] := List.filter_cons_of_pos (p := fun t : List Nat => Nat.blt 0 (t.getD k 0)) hb0
              rw [take_more hti, List.filter_append, ef]
              exact (hT14.updL hD14).app (.cons (sqt_updL hD14 htb) .nil)
            · have e' : ¬ _ := fun z => e (decide_eq_true z)
              have h0 : t.getD k 0 = 0 := by omega
              have hb0 : ¬ Nat.blt 0 (t.getD k 0) = true := by
                rw [h0]
                decide
              refine ⟨es, s14, hD14, ?_⟩
              have ef : [t].filter (fun t => Nat.blt 0 (t.getD k 0)) = [] := List.filter_cons_of_neg (p := fun t : List Nat => Nat.blt 0 (t.getD k 0)) hb0
              rw [take_more hti, List.filter_append, ef, List.append_nil]
              exact hT14
          · rintro H14 ⟨es, s14, hD14, hT14⟩
            rw [List.length_map, hT13.length, List.take_length, ← O.more k hkl] at hT14
            have S14 := s13.trans s14
            refine ⟨_, _, .lst (SqL.of (S14 _ _ hD12)) (dp_tups (hT12.same S14)), .lst (SqL.of hD14) (dp_tups hT14), shaped_tups _, shaped_tups _, false, congrArg V.bl (by rw [eqv_tups] <;> rfl), iteF ?_⟩
            -- told[0]
            have S := s12.trans S14
            have haE := S _ _ ha11
            obtain ⟨r, hr0⟩ := O.head
            have hT15 := hT11.same S
            rw [hr0] at hT15
            cases hT15 with
            | @cons b0 _ rs' _ hb0 hrs =>
              refine ⟨_, rfl, a, _, 0, .ref b0, rfl, rfl, SqL.of haE, atI_nat (j := 0) rfl, ?_⟩
              refine ⟨_, rfl, by show 1 ≤ sizeLine; decide, fun y1 hy1 => ?_⟩
              have t1 := same_new hy1 (.tup [V.int ((d : Nat) : Int)])
              refine ⟨by show 1 ≤ sizeLine; decide, fun y2 hy2 => ?_⟩
              have t2 := same_new hy2 (.tup [V.int 0])
              refine ⟨_, rfl, _, _, rfl, rfl, y2, _, _, rfl, rfl, SqT.of upd_same, by simp, by omega, by omega, by simp, fun H15 y3 t3 hy3 => ?_⟩
              rw [rep_nv, show (((l : Nat) : Int) - 1).toNat = l - 1 by omega] at hy3
              refine ⟨y1, y3, _, _, rfl, rfl, same_sqt t3 (same_sqt t2 (SqT.of upd_same)), hy3, ?_, fun H16 y4 t4 hy4 => ?_⟩
              · rw [nv_len, List.length_replicate]
                exact Nat.le_of_lt (sizeK (by simp only [List.length_cons, List.length_nil]; omega))
              have Tt := t1.trans (t2.trans (t3.trans t4))
              refine ⟨_, _, dp_tup (same_sqt Tt hb0), dp_tup (t := d :: List.replicate (l - 1) 0) hy4, shaped_tup _, shaped_tup _, ?_⟩
              rw [eqv_tup]
              exact q H16 g3 x3 c3 (B11.trans (Bar.same (S.trans Tt))) (Tt _ _ (S _ _ hp11))
end
end L5

namespace L5
open PySem PySem.Spec PyProof.Rows L2 RZ
section
variable {P : Program} {w : World} {K : PySem.W.Frag} {mg : Str → Option Value} {base : Heap}
/-! ### the law -/
def sp_law (K : PySem.W.Frag) : Sp := fun vs H Q _ => ∃ (a : Addr) (ns : List Int), vs = [.ref a] ∧ SqL K H a (ns.map V.int) ∧ ns.length ≤ 63 ∧ ∀ H', Q (.bl true) H'
theorem bar_sql {p a : Addr} {H H' : Hp} {xs : List V} (b : Bar p H H') (hne : a ≠ p) (h : SqL K H a xs) : SqL K H' a xs := by
  rcases h with (h | ⟨o, h⟩) | h
  · exact .inl (.inl (b _ _ hne h))
  · exact .inl (.inr ⟨o, b _ _ hne h⟩)
  · exact .inr h
theorem bar_back {z : Addr} {H A B : Hp} (s : Same H A) (b : Bar z A B) (hz : H z = none) : Same H B := fun c o h => b c o (ne_of_none h hz) (s c o h)
theorem list23 : listed 2 3 = [[3, 0], [2, 1], [1, 2], [0, 3]] := by decide +kernel
theorem list112 : listed 1 12 = [[12]] := by decide +kernel
theorem ok_law (T : Txt K mg) : FnOk P w K mg base CX0 10 T.a_law T.d_law ["_law_script"] (sp_law K) := by
  refine T.F_law.ok sc_law (fun vs H Q E h => ?_) (fun cdv A outer s H vs Q E hr h => ?_)
  · obtain ⟨a, ns, rfl, _⟩ := h
    rfl
  · obtain ⟨a, ns, rfl, hS, hn, q⟩ := h
    refine ⟨_, pss_cons (ps_for PassesOwn.never rfl (pi_range1 rfl T.z_range (pa_cons (pe_callB (call_max2 rfl) (by rfl) T.z_max boot_max (pa_cons pe_int (pa_cons (pe_callB (call_min2 rfl) (by rfl) T.z_min (by decide +kernel) (pa_cons pe_int (pa_cons (pe_callB call_len_seq (by rfl) T.z_len boot_len (pa_cons (pv 0) pa_nil)) pa_nil))) pa_nil))) pa_nil)) (pg_name (i := 1) sc_law.nd rfl (Or.inl rfl))
        (pss_cons (ps_set (i := 2) sc_law.nd rfl (Or.inl rfl) (pe_call (ok_pail T) (hr.mono (by decide)) (by rfl) T.m_w_pail T.F_w_pail.kp T.b_w_pail .nil pass0 (pa_cons (pv 0) (pa_cons (pv 1) pa_nil))))
        (pss_one (ps_if (PW.pt (pw_or (pt_not (pt_val (pe_call (ok_right T) hr (by rfl) T.m_w_right T.F_w_right.kp T.b_w_right .nil pass0 (pa_cons (pv 2) pa_nil))))
          (pw_or1 (pt_not (pt_val (pe_call (ok_right T) hr (by rfl) T.m_w_right T.F_w_right.kp T.b_w_right .nil pass0 (pa_cons (pv 2) pa_nil))))))) (pss_one (ps_ret pe_bl)) pss_nil))))
      (pss_one (ps_ret (pe_and
        (pe_cmpR (op_eqD hr.units) (pe_listG (pgen_call (E := E0) (ok_gen T) (hr.mono (by decide)) (by rfl) T.m_all_products T.F_all_products.kp T.b_all_products .nil (pa_cons pe_int (pa_cons pe_int pa_nil))) passG nostop (hr.mono (by decide)) (by rfl) T.z_list boot_list)
          (pe_lst (pa_cons (pe_tup (pa_cons pe_int (pa_cons pe_int pa_nil))) (pa_cons (pe_tup (pa_cons pe_int (pa_cons pe_int pa_nil))) (pa_cons (pe_tup (pa_cons pe_int (pa_cons pe_int pa_nil))) (pa_cons (pe_tup (pa_cons pe_int (pa_cons pe_int pa_nil))) pa_nil))))) (nomark _))
        (pe_one (pe_cmpR (op_eqD hr.units) (pe_listG (pgen_call (E := E0) (ok_gen T) (hr.mono (by decide)) (by rfl) T.m_all_products T.F_all_products.kp T.b_all_products .nil (pa_cons pe_int (pa_cons pe_int pa_nil))) passG nostop (hr.mono (by decide)) (by rfl) T.z_list boot_list)
          (pe_lst (pa_cons (pe_tup (pa_cons pe_int pa_nil)) pa_nil)) (nomark _)))))), ?_⟩
    have hm1 : ∀ m : Int, (if (if ((ns.map V.int).length : Int) < 3 then ((ns.map V.int).length : Int) else 3) > 1 then (if ((ns.map V.int).length : Int) < 3 then ((ns.map V.int).length : Int) else 3) else 1) = m → 1 ≤ m ∧ m ≤ 3 := fun m e => by
      rw [← e]
      split <;> split <;> omega
    refine ⟨_, rfl, a, _, rfl, .inl hS, _, _, rfl, _, _, rfl, _, rfl, ?_⟩
    have hb := hm1 _ rfl
    refine ⟨Int.le_trans (by decide) hb.1, Int.lt_of_le_of_lt hb.2 (by decide), ?_⟩
    refine for_range (lo := 0) (n := _) (fun i σ H' => ∃ v1 v2 : Option V, σ = [some (.ref a), v1, v2] ∧ Same H H') ⟨none, none, rfl, Same.refl H⟩ ?_ ?_
    · rintro i σ H1 hi ⟨v1, v2, rfl, s1⟩
      have hi3 : i < 1000 := by
        have := hb.2
        omega
      refine ⟨_, rfl, _, rfl, a, ns, i, by rw [Int.zero_add]; rfl, s1.seq hS, hi3, fun H2 z g x c s2 hz hz2 => ?_⟩
      have hzn : H z = none := Same.free s1 hz
      refine ⟨_, rfl, z, g, x, c, rfl, hz2, fun H3 g x c b3 hz3 => ⟨true, rfl, iteF ?_⟩⟩
      refine ⟨_, rfl, z, g, x, c, rfl, hz3, fun H4 g x c b4 hz4 => ⟨true, rfl, iteF ?_⟩⟩
      exact ⟨_, _, rfl, bar_back (bar_back (s1.trans s2) b3 hzn) b4 hzn⟩
    · rintro σ H1 ⟨v1, v2, rfl, s1⟩
      refine ⟨2, 3, rfl, by decide, by decide, by decide, fun H2 rs s2 hT p hp => ?_⟩
      have t0 := same_new hp (.lst (rs.map V.ref))
      refine ⟨by show 2 ≤ sizeLine; decide, fun z1 h1 => ⟨by show 2 ≤ sizeLine; decide, fun z2 h2 => ⟨by show 2 ≤ sizeLine; decide, fun z3 h3 => ⟨by show 2 ≤ sizeLine; decide, fun z4 h4 => ⟨by show 4 ≤ sizeLine; decide, fun y hy => ?_⟩⟩⟩⟩⟩
      have t1 := same_new h1 (.tup [V.int 3, V.int 0])
      have t2 := same_new h2 (.tup [V.int 2, V.int 1])
      have t3 := same_new h3 (.tup [V.int 1, V.int 2])
      have t4 := same_new h4 (.tup [V.int 0, V.int 3])
      have t5 := same_new hy (.lst [V.ref z1, V.ref z2, V.ref z3, V.ref z4])
      rw [list23] at hT
      refine ⟨_, _, .lst (SqL.of (t5 _ _ (t4 _ _ (t3 _ _ (t2 _ _ (t1 _ _ upd_same)))))) (dp_tups (hT.same (t0.trans (t1.trans (t2.trans (t3.trans (t4.trans t5))))))),
        .lst (SqL.of upd_same) (dp_tups (rs := [z1, z2, z3, z4]) (L := [[3, 0], [2, 1], [1, 2], [0, 3]])
          (.cons (SqT.of (t5 _ _ (t4 _ _ (t3 _ _ (t2 _ _ upd_same))))) (.cons (SqT.of (t5 _ _ (t4 _ _ (t3 _ _ upd_same)))) (.cons (SqT.of (t5 _ _ (t4 _ _ upd_same))) (.cons (SqT.of (t5 _ _ upd_same)) .nil))))),
        shaped_tups _, shaped_tups _, true, congrArg V.bl (eqv_tups _), iteT ?_⟩
      refine ⟨1, 12, rfl, by decide, by decide, by decide, fun H3 qs s3 hT3 p3 hp3 => ?_⟩
      have u0 := same_new hp3 (.lst (qs.map V.ref))
      refine ⟨by show 1 ≤ sizeLine; decide, fun x1 g1 => ⟨by show 1 ≤ sizeLine; decide, fun y3 hy3 => ?_⟩⟩
      have u1 := same_new g1 (.tup [V.int 12])
      have u2 := same_new hy3 (.lst [V.ref x1])
      rw [list112] at hT3
      refine ⟨_, _, .lst (SqL.of (u2 _ _ (u1 _ _ upd_same))) (dp_tups (hT3.same (u0.trans (u1.trans u2)))),
        .lst (SqL.of upd_same) (dp_tups (rs := [x1]) (L := [[12]]) (.cons (SqT.of (u2 _ _ upd_same)) .nil)), shaped_tups _, shaped_tups _, ?_⟩
      rw [eqv_tups]
      exact q _
end
end L5

namespace L5
open PySem PySem.Spec PyProof.Rows L2 RZ
/-! ### the end -/
theorem all_mk {l : PySem.W.OpenLaw} {w : World} {K : PySem.W.Frag} {h : Heap} {mg : Str → Option Value} {fa : Addr} (X : K.In h) (G : h.Ns mainGlobals mg) (hfa : mg "law" = some (.ref fa))
    {od_is_number an_is_number : Option Addr} {sl_is_number : Array (Option Value)} {oc_is_number kV_is_number dc_is_number pm_is_number cd_is_number ct_is_number : Value} {f_is_number : Addr}
    (a_is_number : PySem.W.nsIn K mainGlobals "is_number" = some (some (.ref f_is_number))) (l_is_number : K.lookup f_is_number = some ⟨oc_is_number, od_is_number, .func (PySem.W.fnOf "is_number" "is_number" (defArgs s_is_number) (defBody s_is_number) (defScope s_is_number) .none kV_is_number dc_is_number pm_is_number an_is_number cd_is_number ct_is_number), sl_is_number⟩) (c_is_number : PySem.W.codeIn K cd_is_number "is_number" = true) (k_is_number : PySem.W.keepIn K (.ref f_is_number) = true)
    {od_is_within an_is_within : Option Addr} {sl_is_within : Array (Option Value)} {oc_is_within kV_is_within dc_is_within pm_is_within cd_is_within ct_is_within : Value} {f_is_within : Addr}
    (a_is_within : PySem.W.nsIn K mainGlobals "is_within" = some (some (.ref f_is_within))) (l_is_within : K.lookup f_is_within = some ⟨oc_is_within, od_is_within, .func (PySem.W.fnOf "is_within" "is_within" (defArgs s_is_within) (defBody s_is_within) (defScope s_is_within) .none kV_is_within dc_is_within pm_is_within an_is_within cd_is_within ct_is_within), sl_is_within⟩) (c_is_within : PySem.W.codeIn K cd_is_within "is_within" = true) (k_is_within : PySem.W.keepIn K (.ref f_is_within) = true)
    {od_check_within an_check_within : Option Addr} {sl_check_within : Array (Option Value)} {oc_check_within kV_check_within dc_check_within pm_check_within cd_check_within ct_check_within : Value} {f_check_within : Addr}
    (a_check_within : PySem.W.nsIn K mainGlobals "check_within" = some (some (.ref f_check_within))) (l_check_within : K.lookup f_check_within = some ⟨oc_check_within, od_check_within, .func (PySem.W.fnOf "check_within" "check_within" (defArgs s_check_within) (defBody s_check_within) (defScope s_check_within) .none kV_check_within dc_check_within pm_check_within an_check_within cd_check_within ct_check_within), sl_check_within⟩) (c_check_within : PySem.W.codeIn K cd_check_within "check_within" = true) (k_check_within : PySem.W.keepIn K (.ref f_check_within) = true)
    {od_are_exponents an_are_exponents : Option Addr} {sl_are_exponents : Array (Option Value)} {oc_are_exponents kV_are_exponents dc_are_exponents pm_are_exponents cd_are_exponents ct_are_exponents : Value} {f_are_exponents : Addr}
    (a_are_exponents : PySem.W.nsIn K mainGlobals "are_exponents" = some (some (.ref f_are_exponents))) (l_are_exponents : K.lookup f_are_exponents = some ⟨oc_are_exponents, od_are_exponents, .func (PySem.W.fnOf "are_exponents" "are_exponents" (defArgs s_are_exponents) (defBody s_are_exponents) (defScope s_are_exponents) .none kV_are_exponents dc_are_exponents pm_are_exponents an_are_exponents cd_are_exponents ct_are_exponents), sl_are_exponents⟩) (c_are_exponents : PySem.W.codeIn K cd_are_exponents "are_exponents" = true) (k_are_exponents : PySem.W.keepIn K (.ref f_are_exponents) = true)
    {od_added an_added : Option Addr} {sl_added : Array (Option Value)} {oc_added kV_added dc_added pm_added cd_added ct_added : Value} {f_added : Addr}
    (a_added : PySem.W.nsIn K mainGlobals "added" = some (some (.ref f_added))) (l_added : K.lookup f_added = some ⟨oc_added, od_added, .func (PySem.W.fnOf "added" "added" (defArgs s_added) (defBody s_added) (defScope s_added) .none kV_added dc_added pm_added an_added cd_added ct_added), sl_added⟩) (c_added : PySem.W.codeIn K cd_added "added" = true) (k_added : PySem.W.keepIn K (.ref f_added) = true)
    {od_check_product an_check_product : Option Addr} {sl_check_product : Array (Option Value)} {oc_check_product kV_check_product dc_check_product pm_check_product cd_check_product ct_check_product : Value} {f_check_product : Addr}
    (a_check_product : PySem.W.nsIn K mainGlobals "check_product" = some (some (.ref f_check_product))) (l_check_product : K.lookup f_check_product = some ⟨oc_check_product, od_check_product, .func (PySem.W.fnOf "check_product" "check_product" (defArgs s_check_product) (defBody s_check_product) (defScope s_check_product) .none kV_check_product dc_check_product pm_check_product an_check_product cd_check_product ct_check_product), sl_check_product⟩) (c_check_product : PySem.W.codeIn K cd_check_product "check_product" = true) (k_check_product : PySem.W.keepIn K (.ref f_check_product) = true)
    {od_check_any_product an_check_any_product : Option Addr} {sl_check_any_product : Array (Option Value)} {oc_check_any_product kV_check_any_product dc_check_any_product pm_check_any_product cd_check_any_product ct_check_any_product : Value} {f_check_any_product : Addr}
    (a_check_any_product : PySem.W.nsIn K mainGlobals "check_any_product" = some (some (.ref f_check_any_product))) (l_check_any_product : K.lookup f_check_any_product = some ⟨oc_check_any_product, od_check_any_product, .func (PySem.W.fnOf "check_any_product" "check_any_product" (defArgs s_check_any_product) (defBody s_check_any_product) (defScope s_check_any_product) .none kV_check_any_product dc_check_any_product pm_check_any_product an_check_any_product cd_check_any_product ct_check_any_product), sl_check_any_product⟩) (c_check_any_product : PySem.W.codeIn K cd_check_any_product "check_any_product" = true) (k_check_any_product : PySem.W.keepIn K (.ref f_check_any_product) = true)
    {od_check_both an_check_both : Option Addr} {sl_check_both : Array (Option Value)} {oc_check_both kV_check_both dc_check_both pm_check_both cd_check_both ct_check_both : Value} {f_check_both : Addr}
    (a_check_both : PySem.W.nsIn K mainGlobals "check_both" = some (some (.ref f_check_both))) (l_check_both : K.lookup f_check_both = some ⟨oc_check_both, od_check_both, .func (PySem.W.fnOf "check_both" "check_both" (defArgs s_check_both) (defBody s_check_both) (defScope s_check_both) .none kV_check_both dc_check_both pm_check_both an_check_both cd_check_both ct_check_both), sl_check_both⟩) (c_check_both : PySem.W.codeIn K cd_check_both "check_both" = true) (k_check_both : PySem.W.keepIn K (.ref f_check_both) = true)
    {od_degree_of an_degree_of : Option Addr} {sl_degree_of : Array (Option Value)} {oc_degree_of kV_degree_of dc_degree_of pm_degree_of cd_degree_of ct_degree_of : Value} {f_degree_of : Addr}
    (a_degree_of : PySem.W.nsIn K mainGlobals "degree_of" = some (some (.ref f_degree_of))) (l_degree_of : K.lookup f_degree_of = some ⟨oc_degree_of, od_degree_of, .func (PySem.W.fnOf "degree_of" "degree_of" (defArgs s_degree_of) (defBody s_degree_of) (defScope s_degree_of) .none kV_degree_of dc_degree_of pm_degree_of an_degree_of cd_degree_of ct_degree_of), sl_degree_of⟩) (c_degree_of : PySem.W.codeIn K cd_degree_of "degree_of" = true) (k_degree_of : PySem.W.keepIn K (.ref f_degree_of) = true)
    {od_is_product an_is_product : Option Addr} {sl_is_product : Array (Option Value)} {oc_is_product kV_is_product dc_is_product pm_is_product cd_is_product ct_is_product : Value} {f_is_product : Addr}
    (a_is_product : PySem.W.nsIn K mainGlobals "is_product" = some (some (.ref f_is_product))) (l_is_product : K.lookup f_is_product = some ⟨oc_is_product, od_is_product, .func (PySem.W.fnOf "is_product" "is_product" (defArgs s_is_product) (defBody s_is_product) (defScope s_is_product) .none kV_is_product dc_is_product pm_is_product an_is_product cd_is_product ct_is_product), sl_is_product⟩) (c_is_product : PySem.W.codeIn K cd_is_product "is_product" = true) (k_is_product : PySem.W.keepIn K (.ref f_is_product) = true)
    {od_product_times an_product_times : Option Addr} {sl_product_times : Array (Option Value)} {oc_product_times kV_product_times dc_product_times pm_product_times cd_product_times ct_product_times : Value} {f_product_times : Addr}
    (a_product_times : PySem.W.nsIn K mainGlobals "product_times" = some (some (.ref f_product_times))) (l_product_times : K.lookup f_product_times = some ⟨oc_product_times, od_product_times, .func (PySem.W.fnOf "product_times" "product_times" (defArgs s_product_times) (defBody s_product_times) (defScope s_product_times) .none kV_product_times dc_product_times pm_product_times an_product_times cd_product_times ct_product_times), sl_product_times⟩) (c_product_times : PySem.W.codeIn K cd_product_times "product_times" = true) (k_product_times : PySem.W.keepIn K (.ref f_product_times) = true)
    {od_all_products an_all_products : Option Addr} {sl_all_products : Array (Option Value)} {oc_all_products kV_all_products dc_all_products pm_all_products cd_all_products ct_all_products : Value} {f_all_products : Addr}
    (a_all_products : PySem.W.nsIn K mainGlobals "all_products" = some (some (.ref f_all_products))) (l_all_products : K.lookup f_all_products = some ⟨oc_all_products, od_all_products, .func (PySem.W.fnOf "all_products" "all_products" (defArgs s_all_products) (defBody s_all_products) (defScope s_all_products) .none kV_all_products dc_all_products pm_all_products an_all_products cd_all_products ct_all_products), sl_all_products⟩) (c_all_products : PySem.W.codeIn K cd_all_products "all_products" = true) (k_all_products : PySem.W.keepIn K (.ref f_all_products) = true)
    {od_following an_following : Option Addr} {sl_following : Array (Option Value)} {oc_following kV_following dc_following pm_following cd_following ct_following : Value} {f_following : Addr}
    (a_following : PySem.W.nsIn K mainGlobals "following" = some (some (.ref f_following))) (l_following : K.lookup f_following = some ⟨oc_following, od_following, .func (PySem.W.fnOf "following" "following" (defArgs s_following) (defBody s_following) (defScope s_following) .none kV_following dc_following pm_following an_following cd_following ct_following), sl_following⟩) (c_following : PySem.W.codeIn K cd_following "following" = true) (k_following : PySem.W.keepIn K (.ref f_following) = true)
    {od_w_pail an_w_pail : Option Addr} {sl_w_pail : Array (Option Value)} {oc_w_pail kV_w_pail dc_w_pail pm_w_pail cd_w_pail ct_w_pail : Value} {f_w_pail : Addr}
    (a_w_pail : PySem.W.nsIn K mainGlobals "_law_pail" = some (some (.ref f_w_pail))) (l_w_pail : K.lookup f_w_pail = some ⟨oc_w_pail, od_w_pail, .func (PySem.W.fnOf "_law_pail" "_law_pail" (defArgs s_w_pail) (defBody s_w_pail) (defScope s_w_pail) .none kV_w_pail dc_w_pail pm_w_pail an_w_pail cd_w_pail ct_w_pail), sl_w_pail⟩) (c_w_pail : PySem.W.codeIn K cd_w_pail "_law_pail" = true) (k_w_pail : PySem.W.keepIn K (.ref f_w_pail) = true)
    {od_w_dipped an_w_dipped : Option Addr} {sl_w_dipped : Array (Option Value)} {oc_w_dipped kV_w_dipped dc_w_dipped pm_w_dipped cd_w_dipped ct_w_dipped : Value} {f_w_dipped : Addr}
    (a_w_dipped : PySem.W.nsIn K mainGlobals "_law_dipped" = some (some (.ref f_w_dipped))) (l_w_dipped : K.lookup f_w_dipped = some ⟨oc_w_dipped, od_w_dipped, .func (PySem.W.fnOf "_law_dipped" "_law_dipped" (defArgs s_w_dipped) (defBody s_w_dipped) (defScope s_w_dipped) .none kV_w_dipped dc_w_dipped pm_w_dipped an_w_dipped cd_w_dipped ct_w_dipped), sl_w_dipped⟩) (c_w_dipped : PySem.W.codeIn K cd_w_dipped "_law_dipped" = true) (k_w_dipped : PySem.W.keepIn K (.ref f_w_dipped) = true)
    {od_w_some an_w_some : Option Addr} {sl_w_some : Array (Option Value)} {oc_w_some kV_w_some dc_w_some pm_w_some cd_w_some ct_w_some : Value} {f_w_some : Addr}
    (a_w_some : PySem.W.nsIn K mainGlobals "_law_some" = some (some (.ref f_w_some))) (l_w_some : K.lookup f_w_some = some ⟨oc_w_some, od_w_some, .func (PySem.W.fnOf "_law_some" "_law_some" (defArgs s_w_some) (defBody s_w_some) (defScope s_w_some) .none kV_w_some dc_w_some pm_w_some an_w_some cd_w_some ct_w_some), sl_w_some⟩) (c_w_some : PySem.W.codeIn K cd_w_some "_law_some" = true) (k_w_some : PySem.W.keepIn K (.ref f_w_some) = true)
    {od_w_all an_w_all : Option Addr} {sl_w_all : Array (Option Value)} {oc_w_all kV_w_all dc_w_all pm_w_all cd_w_all ct_w_all : Value} {f_w_all : Addr}
    (a_w_all : PySem.W.nsIn K mainGlobals "_law_all" = some (some (.ref f_w_all))) (l_w_all : K.lookup f_w_all = some ⟨oc_w_all, od_w_all, .func (PySem.W.fnOf "_law_all" "_law_all" (defArgs s_w_all) (defBody s_w_all) (defScope s_w_all) .none kV_w_all dc_w_all pm_w_all an_w_all cd_w_all ct_w_all), sl_w_all⟩) (c_w_all : PySem.W.codeIn K cd_w_all "_law_all" = true) (k_w_all : PySem.W.keepIn K (.ref f_w_all) = true)
    {od_w_choices an_w_choices : Option Addr} {sl_w_choices : Array (Option Value)} {oc_w_choices kV_w_choices dc_w_choices pm_w_choices cd_w_choices ct_w_choices : Value} {f_w_choices : Addr}
    (a_w_choices : PySem.W.nsIn K mainGlobals "_law_choices" = some (some (.ref f_w_choices))) (l_w_choices : K.lookup f_w_choices = some ⟨oc_w_choices, od_w_choices, .func (PySem.W.fnOf "_law_choices" "_law_choices" (defArgs s_w_choices) (defBody s_w_choices) (defScope s_w_choices) .none kV_w_choices dc_w_choices pm_w_choices an_w_choices cd_w_choices ct_w_choices), sl_w_choices⟩) (c_w_choices : PySem.W.codeIn K cd_w_choices "_law_choices" = true) (k_w_choices : PySem.W.keepIn K (.ref f_w_choices) = true)
    {od_w_right an_w_right : Option Addr} {sl_w_right : Array (Option Value)} {oc_w_right kV_w_right dc_w_right pm_w_right cd_w_right ct_w_right : Value} {f_w_right : Addr}
    (a_w_right : PySem.W.nsIn K mainGlobals "_law_right" = some (some (.ref f_w_right))) (l_w_right : K.lookup f_w_right = some ⟨oc_w_right, od_w_right, .func (PySem.W.fnOf "_law_right" "_law_right" (defArgs s_w_right) (defBody s_w_right) (defScope s_w_right) .none kV_w_right dc_w_right pm_w_right an_w_right cd_w_right ct_w_right), sl_w_right⟩) (c_w_right : PySem.W.codeIn K cd_w_right "_law_right" = true) (k_w_right : PySem.W.keepIn K (.ref f_w_right) = true)
    {od_law an_law : Option Addr} {sl_law : Array (Option Value)} {oc_law kV_law dc_law pm_law cd_law ct_law : Value} {f_law : Addr}
    (a_law : PySem.W.nsIn K mainGlobals "law" = some (some (.ref f_law))) (l_law : K.lookup f_law = some ⟨oc_law, od_law, .func (PySem.W.fnOf "law" "law" (defArgs s_law) (defBody s_law) (defScope s_law) .none kV_law dc_law pm_law an_law cd_law ct_law), sl_law⟩) (c_law : PySem.W.codeIn K cd_law "law" = true) (k_law : PySem.W.keepIn K (.ref f_law) = true)
    (z_isinstance : PySem.W.nsIn K mainGlobals "isinstance" = some none)
    (z_int : PySem.W.nsIn K mainGlobals "int" = some none)
    (z_bool : PySem.W.nsIn K mainGlobals "bool" = some none)
    (z_tuple : PySem.W.nsIn K mainGlobals "tuple" = some none)
    (z_len : PySem.W.nsIn K mainGlobals "len" = some none)
    (z_all : PySem.W.nsIn K mainGlobals "all" = some none)
    (z_zip : PySem.W.nsIn K mainGlobals "zip" = some none)
    (z_sum : PySem.W.nsIn K mainGlobals "sum" = some none)
    (z_max : PySem.W.nsIn K mainGlobals "max" = some none)
    (z_abs : PySem.W.nsIn K mainGlobals "abs" = some none)
    (z_range : PySem.W.nsIn K mainGlobals "range" = some none)
    (z_list : PySem.W.nsIn K mainGlobals "list" = some none)
    (z_sorted : PySem.W.nsIn K mainGlobals "sorted" = some none)
    (z_min : PySem.W.nsIn K mainGlobals "min" = some none)
    {t_MAX_LETTERS : Nat} (g_MAX_LETTERS : PySem.W.nsIn K mainGlobals "MAX_LETTERS" = some (some (.int 8 t_MAX_LETTERS)))
    {t_MAX_EXPONENT : Nat} (g_MAX_EXPONENT : PySem.W.nsIn K mainGlobals "MAX_EXPONENT" = some (some (.int 60 t_MAX_EXPONENT)))
    {t_MAX_LISTED_DEGREE : Nat} (g_MAX_LISTED_DEGREE : PySem.W.nsIn K mainGlobals "MAX_LISTED_DEGREE" = some (some (.int 12 t_MAX_LISTED_DEGREE)))
    : ∃ fd : FuncData, (∀ (s : Shared) (v : Value), BindsTo s fd ⟨[v], []⟩ [("_law_script", v)]) ∧ ∀ base : Heap, K.In base → base.Ns mainGlobals mg → FnOk l.prog w K mg base CX0 10 fa fd ["_law_script"] (sp_law K) := by
  have e := hfa.symm.trans (PySem.W.mg_of X G a_law)
  cases e
  have F_is_number := fun_mk (st := s_is_number) l_is_number c_is_number k_is_number
  have b_is_number := F_is_number.binds (ps := ["value"]) fun _ _ _ _ _ _ us hl => match us, hl with | [_], _ => rfl
  have F_is_within := fun_mk (st := s_is_within) l_is_within c_is_within k_is_within
  have b_is_within := F_is_within.binds (ps := ["value", "least", "most"]) fun _ _ _ _ _ _ us hl => match us, hl with | [_, _, _], _ => rfl
  have F_check_within := fun_mk (st := s_check_within) l_check_within c_check_within k_check_within
  have b_check_within := F_check_within.binds (ps := ["value", "least", "most"]) fun _ _ _ _ _ _ us hl => match us, hl with | [_, _, _], _ => rfl
  have F_are_exponents := fun_mk (st := s_are_exponents) l_are_exponents c_are_exponents k_are_exponents
  have b_are_exponents := F_are_exponents.binds (ps := ["value", "letters", "most"]) fun _ _ _ _ _ _ us hl => match us, hl with | [_, _, _], _ => rfl
  have F_added := fun_mk (st := s_added) l_added c_added k_added
  have b_added := F_added.binds (ps := ["one", "other"]) fun _ _ _ _ _ _ us hl => match us, hl with | [_, _], _ => rfl
  have F_check_product := fun_mk (st := s_check_product) l_check_product c_check_product k_check_product
  have b_check_product := F_check_product.binds (ps := ["value", "letters"]) fun _ _ _ _ _ _ us hl => match us, hl with | [_, _], _ => rfl
  have F_check_any_product := fun_mk (st := s_check_any_product) l_check_any_product c_check_any_product k_check_any_product
  have b_check_any_product := F_check_any_product.binds (ps := ["value"]) fun _ _ _ _ _ _ us hl => match us, hl with | [_], _ => rfl
  have F_check_both := fun_mk (st := s_check_both) l_check_both c_check_both k_check_both
  have b_check_both := F_check_both.binds (ps := ["one", "other"]) fun _ _ _ _ _ _ us hl => match us, hl with | [_, _], _ => rfl
  have F_degree_of := fun_mk (st := s_degree_of) l_degree_of c_degree_of k_degree_of
  have b_degree_of := F_degree_of.binds (ps := ["product"]) fun _ _ _ _ _ _ us hl => match us, hl with | [_], _ => rfl
  have F_is_product := fun_mk (st := s_is_product) l_is_product c_is_product k_is_product
  have b_is_product := F_is_product.binds (ps := ["letters", "value"]) fun _ _ _ _ _ _ us hl => match us, hl with | [_, _], _ => rfl
  have F_product_times := fun_mk (st := s_product_times) l_product_times c_product_times k_product_times
  have b_product_times := F_product_times.binds (ps := ["one", "other"]) fun _ _ _ _ _ _ us hl => match us, hl with | [_, _], _ => rfl
  have F_all_products := fun_mk (st := s_all_products) l_all_products c_all_products k_all_products
  have b_all_products := F_all_products.binds (ps := ["letters", "degree"]) fun _ _ _ _ _ _ us hl => match us, hl with | [_, _], _ => rfl
  have F_following := fun_mk (st := s_following) l_following c_following k_following
  have b_following := F_following.binds (ps := ["product"]) fun _ _ _ _ _ _ us hl => match us, hl with | [_], _ => rfl
  have F_w_pail := fun_mk (st := s_w_pail) l_w_pail c_w_pail k_w_pail
  have b_w_pail := F_w_pail.binds (ps := ["_law_script", "_law_spot"]) fun _ _ _ _ _ _ us hl => match us, hl with | [_, _], _ => rfl
  have F_w_dipped := fun_mk (st := s_w_dipped) l_w_dipped c_w_dipped k_w_dipped
  have b_w_dipped := F_w_dipped.binds (ps := ["_law_pail_here", "_law_many"]) fun _ _ _ _ _ _ us hl => match us, hl with | [_, _], _ => rfl
  have F_w_some := fun_mk (st := s_w_some) l_w_some c_w_some k_w_some
  have b_w_some := F_w_some.binds (ps := ["_law_pail_here", "_law_items"]) fun _ _ _ _ _ _ us hl => match us, hl with | [_, _], _ => rfl
  have F_w_all := fun_mk (st := s_w_all) l_w_all c_w_all k_w_all
  have b_w_all := F_w_all.binds (ps := ["_law_letters", "_law_degree"]) fun _ _ _ _ _ _ us hl => match us, hl with | [_, _], _ => rfl
  have F_w_choices := fun_mk (st := s_w_choices) l_w_choices c_w_choices k_w_choices
  have b_w_choices := F_w_choices.binds (ps := ["_law_letters", "_law_degree"]) fun _ _ _ _ _ _ us hl => match us, hl with | [_, _], _ => rfl
  have F_w_right := fun_mk (st := s_w_right) l_w_right c_w_right k_w_right
  have b_w_right := F_w_right.binds (ps := ["_law_pail_here"]) fun _ _ _ _ _ _ us hl => match us, hl with | [_], _ => rfl
  have F_law := fun_mk (st := s_law) l_law c_law k_law
  have b_law := F_law.binds (ps := ["_law_script"]) fun _ _ _ _ _ _ us hl => match us, hl with | [_], _ => rfl
  let T : Txt K mg := ⟨_, _, F_is_number, b_is_number, PySem.W.mg_of X G a_is_number, _, _, F_is_within, b_is_within, PySem.W.mg_of X G a_is_within, _, _, F_check_within, b_check_within, PySem.W.mg_of X G a_check_within, _, _, F_are_exponents, b_are_exponents, PySem.W.mg_of X G a_are_exponents, _, _, F_added, b_added, PySem.W.mg_of X G a_added, _, _, F_check_product, b_check_product, PySem.W.mg_of X G a_check_product, _, _, F_check_any_product, b_check_any_product, PySem.W.mg_of X G a_check_any_product, _, _, F_check_both, b_check_both, PySem.W.mg_of X G a_check_both, _, _, F_degree_of, b_degree_of, PySem.W.mg_of X G a_degree_of, _, _, F_is_product, b_is_product, PySem.W.mg_of X G a_is_product, _, _, F_product_times, b_product_times, PySem.W.mg_of X G a_product_times, _, _, F_all_products, b_all_products, PySem.W.mg_of X G a_all_products, _, _, F_following, b_following, PySem.W.mg_of X G a_following, _, _, F_w_pail, b_w_pail, PySem.W.mg_of X G a_w_pail, _, _, F_w_dipped, b_w_dipped, PySem.W.mg_of X G a_w_dipped, _, _, F_w_some, b_w_some, PySem.W.mg_of X G a_w_some, _, _, F_w_all, b_w_all, PySem.W.mg_of X G a_w_all, _, _, F_w_choices, b_w_choices, PySem.W.mg_of X G a_w_choices, _, _, F_w_right, b_w_right, PySem.W.mg_of X G a_w_right, _, _, F_law, b_law, PySem.W.mg_of X G a_law, PySem.W.mg_none_of X G z_isinstance, PySem.W.mg_none_of X G z_int, PySem.W.mg_none_of X G z_bool, PySem.W.mg_none_of X G z_tuple, PySem.W.mg_none_of X G z_len, PySem.W.mg_none_of X G z_all, PySem.W.mg_none_of X G z_zip, PySem.W.mg_none_of X G z_sum, PySem.W.mg_none_of X G z_max, PySem.W.mg_none_of X G z_abs, PySem.W.mg_none_of X G z_range, PySem.W.mg_none_of X G z_list, PySem.W.mg_none_of X G z_sorted, PySem.W.mg_none_of X G z_min, _, PySem.W.mg_of X G g_MAX_LETTERS, _, PySem.W.mg_of X G g_MAX_EXPONENT, _, PySem.W.mg_of X G g_MAX_LISTED_DEGREE⟩
  exact ⟨_, fun s v => .of_eq rfl, fun base _ _ => ok_law T⟩
end L5
open PySem PySem.W PyProof.Rows
set_option maxRecDepth 100000 in
set_option maxHeartbeats 0 in
theorem PySem.Challenge.cw_pureladders_k05_whole_all_products_in_th_holds : PySem.Challenge.rw_pureladders_k05_whole_all_products_in_th.Holds := by
  w_on; o_law; k_head; (case hw => w_witness2)
  k_fill
  refine L2.walk_of (l := PySem.Challenge.rw_pureladders_k05_whole_all_products_in_th) (n := 63) (k := 10) (x := "_law_script") (CX := fun _ => L2.CX0) (sp := fun w => L5.sp_law _) rfl (by decide) rfl ⟨rfl, by decide, by decide⟩ (fun w h Y => PySem.W.kIn_of Y) ?F (fun _ _ a ns hl _ hS => ⟨a, ns, rfl, hS, hl, fun _ => rfl⟩) (fun _ _ _ _ _ h => h)
  case F =>
    intro w mg fa h KX G hmg
    refine' L5.all_mk KX G hmg ?a_is_number ?l_is_number ?c_is_number ?k_is_number ?a_is_within ?l_is_within ?c_is_within ?k_is_within ?a_check_within ?l_check_within ?c_check_within ?k_check_within ?a_are_exponents ?l_are_exponents ?c_are_exponents ?k_are_exponents ?a_added ?l_added ?c_added ?k_added ?a_check_product ?l_check_product ?c_check_product ?k_check_product ?a_check_any_product ?l_check_any_product ?c_check_any_product ?k_check_any_product ?a_check_both ?l_check_both ?c_check_both ?k_check_both ?a_degree_of ?l_degree_of ?c_degree_of ?k_degree_of ?a_is_product ?l_is_product ?c_is_product ?k_is_product ?a_product_times ?l_product_times ?c_product_times ?k_product_times ?a_all_products ?l_all_products ?c_all_products ?k_all_products ?a_following ?l_following ?c_following ?k_following ?a_w_pail ?l_w_pail ?c_w_pail ?k_w_pail ?a_w_dipped ?l_w_dipped ?c_w_dipped ?k_w_dipped ?a_w_some ?l_w_some ?c_w_some ?k_w_some ?a_w_all ?l_w_all ?c_w_all ?k_w_all ?a_w_choices ?l_w_choices ?c_w_choices ?k_w_choices ?a_w_right ?l_w_right ?c_w_right ?k_w_right ?a_law ?l_law ?c_law ?k_law ?z_isinstance ?z_int ?z_bool ?z_tuple ?z_len ?z_all ?z_zip ?z_sum ?z_max ?z_abs ?z_range ?z_list ?z_sorted ?z_min ?g_MAX_LETTERS ?g_MAX_EXPONENT ?g_MAX_LISTED_DEGREE
    (case a_is_number => k_is)
    (case l_is_number => k_is)
    (case c_is_number => k_is)
    (case k_is_number => k_is)
    (case a_is_within => k_is)
    (case l_is_within => k_is)
    (case c_is_within => k_is)
    (case k_is_within => k_is)
    (case a_check_within => k_is)
    (case l_check_within => k_is)
    (case c_check_within => k_is)
    (case k_check_within => k_is)
    (case a_are_exponents => k_is)
    (case l_are_exponents => k_is)
    (case c_are_exponents => k_is)
    (case k_are_exponents => k_is)
    (case a_added => k_is)
    (case l_added => k_is)
    (case c_added => k_is)
    (case k_added => k_is)
    (case a_check_product => k_is)
    (case l_check_product => k_is)
    (case c_check_product => k_is)
    (case k_check_product => k_is)
    (case a_check_any_product => k_is)
    (case l_check_any_product => k_is)
    (case c_check_any_product => k_is)
    (case k_check_any_product => k_is)
    (case a_check_both => k_is)
    (case l_check_both => k_is)
    (case c_check_both => k_is)
    (case k_check_both => k_is)
    (case a_degree_of => k_is)
    (case l_degree_of => k_is)
    (case c_degree_of => k_is)
    (case k_degree_of => k_is)
    (case a_is_product => k_is)
    (case l_is_product => k_is)
    (case c_is_product => k_is)
    (case k_is_product => k_is)
    (case a_product_times => k_is)
    (case l_product_times => k_is)
    (case c_product_times => k_is)
    (case k_product_times => k_is)
    (case a_all_products => k_is)
    (case l_all_products => k_is)
    (case c_all_products => k_is)
    (case k_all_products => k_is)
    (case a_following => k_is)
    (case l_following => k_is)
    (case c_following => k_is)
    (case k_following => k_is)
    (case a_w_pail => k_is)
    (case l_w_pail => k_is)
    (case c_w_pail => k_is)
    (case k_w_pail => k_is)
    (case a_w_dipped => k_is)
    (case l_w_dipped => k_is)
    (case c_w_dipped => k_is)
    (case k_w_dipped => k_is)
    (case a_w_some => k_is)
    (case l_w_some => k_is)
    (case c_w_some => k_is)
    (case k_w_some => k_is)
    (case a_w_all => k_is)
    (case l_w_all => k_is)
    (case c_w_all => k_is)
    (case k_w_all => k_is)
    (case a_w_choices => k_is)
    (case l_w_choices => k_is)
    (case c_w_choices => k_is)
    (case k_w_choices => k_is)
    (case a_w_right => k_is)
    (case l_w_right => k_is)
    (case c_w_right => k_is)
    (case k_w_right => k_is)
    (case a_law => k_is)
    (case l_law => k_is)
    (case c_law => k_is)
    (case k_law => k_is)
    (case z_isinstance => k_is)
    (case z_int => k_is)
    (case z_bool => k_is)
    (case z_tuple => k_is)
    (case z_len => k_is)
    (case z_all => k_is)
    (case z_zip => k_is)
    (case z_sum => k_is)
    (case z_max => k_is)
    (case z_abs => k_is)
    (case z_range => k_is)
    (case z_list => k_is)
    (case z_sorted => k_is)
    (case z_min => k_is)
    (case g_MAX_LETTERS => k_is)
    (case g_MAX_EXPONENT => k_is)
    (case g_MAX_LISTED_DEGREE => k_is)
