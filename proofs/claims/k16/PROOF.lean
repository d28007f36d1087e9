import PyProof.Rows.All
import Wide.All
import OpenK.AllK
import Wide.FinOn
import HandS.Base
import HandS.Call
import HandS.List
import HandS.Comp
import HandS.Ends
import HandS.Iter
import HandS.Words
import HandS.WordsList
import HandS.TupMul
import HandS.TupAny
import HandS.IsInst
import HandS.Zip
import HandS.Style
import HandS.Wide
import HandS.GenList
import KE.KTupSum
import KE.KEqSeq
import KE.KMathGC
import KE.GoesMore
import HandS.TupLe
import HandS.RevRange
import HandS.Gcd
import PySem.Challenge.RW_pureladders_k16_whole_places_in_the_orde
set_option Elab.async false
set_option linter.all false
set_option maxRecDepth 100000
set_option maxHeartbeats 4000000
/-! rules that the layer lacks -/
namespace L5
open PySem PySem.Spec PyProof.Rows L2
/-! ### powers of great numbers -/
def CPowW (i j : Int) : Prop := 0 ≤ j ∧ (Builtin.Int.intBits i : Int) * j ≤ 2 ^ 27
theorem op_powW {X : Cx} : OpR X (binaryOp .Pow) (rI CPowW fun i j => .int (i ^ j.toNat)) := opI fun _ _ _ _ _ _ _ hc q => pow_int hc.1 hc.2 q
/-! ### sum and max of a tuple of ints -/
section
variable {pr : Program} {wd : World} {A : Around} {E : Value → Shared → Prop} {s : Shared} {tp : Addr} {us : List Value} {ms : List Int} {G : Value → Shared → Prop}
/-- a row of ints, as the library's walks want it -/
theorem items_of (hi : IntsAre us ms) : ∃ ws : Array (Int × Tok), us.toArray = intItems ws ∧ ws.toList.map (·.1) = ms := by
  obtain ⟨ws, ew⟩ := hi.allInts.items
  refine ⟨ws, ew, ?_⟩
  rw [← nums_intItems, ← ew]
  exact hi.numsOf
abbrev Stays (s : Shared) (h : Heap) : Prop := ∀ b o, s.heap.get? b = some o → h.get? b = some o
theorem sum_of_tuple (hh : A.handled = none) (ht : s.heap.IsTuple tp us.toArray) (hi : IntsAre us ms) (q : ∀ h n t, Stays s h → G (.int ms.sum t) { s with heap := h, toks := n }) :
    wpAny (model pr wd) A (call (.builtin "sum") [.ref tp]) G E s := by
  obtain ⟨ws, ew, en⟩ := items_of hi
  rw [ew] at ht
  refine PySem.W.ktm_sumG hh ht fun h n t kept => ?_
  have g := q h n t kept
  rw [← en] at g
  rw [preSum_eq, List.take_of_length_le (by rw [List.length_map, Array.length_toList]; exact Nat.le_refl _)]
  exact g
theorem max_of_tuple (hh : A.handled = none) (ht : s.heap.IsTuple tp us.toArray) (hi : IntsAre us ms) (some1 : 0 < ms.length) (q : ∀ h n M t, Stays s h → M ∈ ms → (∀ a, a ∈ ms → a ≤ M) → G (.int M t) { s with heap := h, toks := n }) :
    wpAny (model pr wd) A (call (.builtin "max") [.ref tp]) G E s := by
  obtain ⟨ws, ew, en⟩ := items_of hi
  subst en
  rw [ew] at ht
  have pos : 0 < ws.size := by simpa using some1
  have esz : (intItems ws).size = ws.size := by simp [intItems]
  obtain ⟨ob, hob, _⟩ := id ht
  have apart : tp ≠ s.heap.objs.size := Nat.ne_of_lt (Heap.lt_size hob)
  refine call_max_walk (wpAny_pyIter_tuple ht ?_)
  refine ⟨_, _, _, _, _, _, _, rfl, Walks.tuple (A := A.in1) hh s.heap.objs.size tp apart (intItems ws), ⟨⟨_, Heap.get?_push_size _ rfl, rfl, rfl⟩, ht.at fun o e => Heap.get?_push_of_some _ e⟩, fun b hb => ?_, by rw [esz]; exact pos, CmpOf.ints_gt (numAt ws) (fun _ _ => intItems_at), fun v h n hv kept => ?_⟩
  · have two : b = s.heap.objs.size ∨ b = tp := by simpa using hb
    rcases two with rfl | rfl
    · exact Heap.lt_size (o := _) (Heap.get?_push_size _ rfl)
    · exact Heap.lt_size (o := ob) (Heap.get?_push_of_some _ hob)
  · obtain ⟨t, rfl⟩ := intItems_at hv
    rw [esz] at *
    obtain ⟨top1, top2⟩ := argBest_gt (numAt ws) (ws.size - 1)
    have at_of : ∀ i, numAt ws i = (ws.toList.map (·.1)).getD i 0 := fun i => numAt_eq ..
    refine q h n _ t (fun b o e => kept b o (fun hb => ?_) (Heap.get?_push_of_some _ e)) ?_ fun a ha => ?_
    · rw [List.mem_singleton.mp hb] at e
      exact Nat.lt_irrefl _ (Heap.lt_size e)
    · rw [at_of]
      refine PySem.getD_mem ?_
      rw [List.length_map, Array.length_toList]
      omega
    · obtain ⟨i, less, rfl⟩ := mem_getD ha
      rw [List.length_map, Array.length_toList] at less
      rw [← at_of]
      exact top2 i (by omega)
end
section
variable {X : Cx}
def rSumT (K : PySem.W.Frag) : List V → Hp → VK → Prop := fun vs H Q => ∃ (a : Addr) (ns : List Int), vs = [V.ref a] ∧ SqT K H a (ns.map V.int) ∧ Q (.int ns.sum) H
theorem cr_sumT (calm : X.calm = true) : CallR X (.builtin "sum") (rSumT X.K) := fun _ _ _ _ _ _ _ I r h => by
  obtain ⟨_, _, rfl, ht, q⟩ := h
  obtain ⟨_, rv, plain, _⟩ := I.tuple ht
  rw [Vals.ref1 r]
  exact sum_of_tuple (I.ok.hd calm) plain rv.ints fun _ _ _ kept => ⟨.int _, _, I.kept kept, ⟨_, rfl⟩, q⟩
def rMaxT (K : PySem.W.Frag) : List V → Hp → VK → Prop := fun vs H Q => ∃ (a : Addr) (ns : List Int), vs = [V.ref a] ∧ SqT K H a (ns.map V.int) ∧ 0 < ns.length ∧ ∀ m, m ∈ ns → (∀ y, y ∈ ns → y ≤ m) → Q (.int m) H
theorem cr_maxT (calm : X.calm = true) : CallR X (.builtin "max") (rMaxT X.K) := fun _ _ _ _ _ _ _ I r h => by
  obtain ⟨_, _, rfl, ht, some1, q⟩ := h
  obtain ⟨_, rv, plain, _⟩ := I.tuple ht
  rw [Vals.ref1 r]
  exact max_of_tuple (I.ok.hd calm) plain rv.ints some1 fun _ _ m _ kept g1 g2 => ⟨.int m, _, I.kept kept, ⟨_, rfl⟩, q m g1 g2⟩
end
/-! ### tuple * int, any int: the tuple itself, the empty one, or a longer one -/
abbrev tupObj (items : Array Value) (n : Nat) (dd : Option Addr) (sl : Array (Option Value)) : Obj := { cls := .type "tuple", dict := dd, data := .seq items n, slots := sl }
theorem off_of {b : Bool} (h : b = false) : decide (b = true) = false := decide_eq_false (Bool.eq_false_iff.mp h)
theorem mul_same (tp : Addr) (items : Array Value) (n : Nat) (dd : Option Addr) (sl : Array (Option Value)) (x : Int) (u : Tok) (fits : (decide (x < -(2 ^ 63)) || decide (x ≥ 2 ^ 63)) = false) (same : (items.isEmpty || x == 1) = true) :
    Meets (Builtin.«tuple.__mul__» ⟨[.ref tp, .int x u], []⟩) (fun _ R s => s.heap.get? tp = some (tupObj items n dd sl) ∧ R (.ok (.ret (Value.ref tp))) { s with heap := s.heap, toks := s.toks }) :=
  .of_wp fun _ _ _ _ st both => by
    obtain ⟨_, _, _, _, _⟩ := st
    obtain ⟨at1, q⟩ := both
    have ix := AutoSeq1.idx_int
    wp_walk using wpAny_loadPart' at1
    repeat (first
      | (refine wpAny_ite_false (off_of fits) ?_; wp_walk using wpAny_loadPart' at1)
      | (refine wpAny_ite_true (decide_eq_true same) ?_; wp_walk using wpAny_loadPart' at1))
    exact ⟨_, rfl, q⟩
theorem mul_none (tp : Addr) (items : Array Value) (n : Nat) (dd : Option Addr) (sl : Array (Option Value)) (x : Int) (u : Tok) (fits : (decide (x < -(2 ^ 63)) || decide (x ≥ 2 ^ 63)) = false) (other : (items.isEmpty || x == 1) = false) (less : (decide (x ≤ 0) || items.isEmpty) = true) :
    Meets (Builtin.«tuple.__mul__» ⟨[.ref tp, .int x u], []⟩) (fun _ R s => s.heap.get? tp = some (tupObj items n dd sl) ∧
      R (.ok (.ret (Value.ref s.heap.objs.size))) { s with heap := s.heap.push { cls := Value.type "tuple", data := Data.seq #[] }, toks := s.toks }) :=
  .of_wp fun _ _ _ _ st both => by
    obtain ⟨_, _, _, _, _⟩ := st
    obtain ⟨at1, q⟩ := both
    have ix := AutoSeq1.idx_int
    wp_walk using wpAny_loadPart' at1
    repeat (first
      | (refine wpAny_ite_false (off_of fits) ?_; wp_walk using wpAny_loadPart' at1)
      | (refine wpAny_ite_false (off_of other) ?_; wp_walk using wpAny_loadPart' at1)
      | (refine wpAny_ite_true (decide_eq_true less) ?_; wp_walk using wpAny_loadPart' at1))
    exact ⟨_, rfl, q⟩
def rRepA (K : PySem.W.Frag) : R2 := fun x y H Q => ∃ l k xs, x = .ref l ∧ y = .int k ∧ SqT K H l xs ∧ xs ≠ [] ∧ -1000 ≤ k ∧ k ≤ 1000 ∧ xs.length ≤ 1000 ∧
  (k = 1 → Q (.ref l) H) ∧ (k ≠ 1 → ∀ p, H p = none → Q (.ref p) (upd H p (.tup (List.replicate k.toNat xs).flatten)))
section
variable {X : Cx}
theorem op_repA : OpR X (binaryOp .Mult) (rRepA X.K) := fun pins s σ H x y v u Q I rx ry h => by
  obtain ⟨tp, k, xs, rfl, rfl, isT, full, lo, hi, short, qa, qb⟩ := h
  by_cases two : 2 ≤ k
  · exact op_repT pins s σ H _ _ v u Q I rx ry ⟨tp, k, xs, rfl, rfl, isT, full, two, hi, short, qb (by omega)⟩
  cases rx
  obtain ⟨tk, rfl⟩ := ry
  obtain ⟨its, r, ⟨⟨c, dd, dt, sl⟩, ho, hc, n, hd⟩, _⟩ := I.tuple isT
  simp only at hc hd
  subst hc hd
  have filled : its.toArray.isEmpty = false := by
    cases its with
    | nil =>
      cases r
      exact absurd rfl full
    | cons _ _ => rfl
  have fits : (decide (k < -(2 ^ 63)) || decide (k ≥ 2 ^ 63)) = false := Bool.or_eq_false_iff.mpr ⟨decide_eq_false (by omega), decide_eq_false (by omega)⟩
  by_cases one : k = 1
  · subst one
    refine wpAny_binaryOp_repeat_ref (T := "tuple") (U := "int") (by decide) ⟨_, ho, rfl⟩ (fun z => typeIs_int z _ tk) noFill_tuple_mul F.fills_int_mul F.slot_int_rmul repeat_tuple F.slot_int_index.lookup
      (call_meets F.slot_int_rmul (typeIs_int s _ tk) F.entry_int_rmul (F.args_int_rmul_2 _ _) (int_rmul_tuple _ tk tp its.toArray n dd sl)
        ⟨ho, rfl, ⟨_, ho, rfl⟩, call_meets F.slot_tuple_mul ⟨_, ho, rfl⟩ F.entry_tuple_mul (F.args_tuple_mul_2 _ _) (mul_same tp its.toArray n dd sl 1 tk fits (by rw [filled]; rfl)) ⟨ho, ?_⟩⟩)
    exact ⟨.ref tp, H, I, rfl, qa rfl⟩
  · have other : (its.toArray.isEmpty || k == 1) = false := Bool.or_eq_false_iff.mpr ⟨filled, beq_eq_false_iff_ne.mpr one⟩
    have less : (decide (k ≤ 0) || its.toArray.isEmpty) = true := Bool.or_eq_true_iff.mpr (.inl (decide_eq_true (by omega)))
    refine wpAny_binaryOp_repeat_ref (T := "tuple") (U := "int") (by decide) ⟨_, ho, rfl⟩ (fun z => typeIs_int z k tk) noFill_tuple_mul F.fills_int_mul F.slot_int_rmul repeat_tuple F.slot_int_index.lookup
      (call_meets F.slot_int_rmul (typeIs_int s k tk) F.entry_int_rmul (F.args_int_rmul_2 _ _) (int_rmul_tuple k tk tp its.toArray n dd sl)
        ⟨ho, rfl, ⟨_, ho, rfl⟩, call_meets F.slot_tuple_mul ⟨_, ho, rfl⟩ F.entry_tuple_mul (F.args_tuple_mul_2 _ _) (mul_none tp its.toArray n dd sl k tk fits other less) ⟨ho, ?_⟩⟩)
    have e0 : (List.replicate k.toNat xs).flatten = [] := by
      rw [show k.toNat = 0 by omega]
      rfl
    have q := qb one s.heap.objs.size (I.hok.fresh (Nat.le_refl _))
    rw [e0] at q
    exact ⟨.ref s.heap.objs.size, _, I.laid (t' := s.toks) (o := .tup []) (fun _ _ e => Heap.get?_push_of_some _ e) (Nat.le_refl _) ⟨Nat.zero_le _, [], .nil, IsTup.new _ _⟩, rfl, q⟩
end
/-! ### words for what stands in the heap -/
section
variable {K : PySem.W.Frag} {H H' : Hp}
abbrev nv (t : List Nat) : List V := t.map fun n => V.int ((n : Nat) : Int)
theorem nv_ints (t : List Nat) : nv t = (t.map fun n => ((n : Nat) : Int)).map V.int := by
  rw [List.map_map]
  rfl
theorem nv_len (t : List Nat) : (nv t).length = t.length := List.length_map _
theorem nv_app (t u : List Nat) : nv (t ++ u) = nv t ++ nv u := List.map_append
theorem nv_get {t : List Nat} {i : Nat} {x : V} (h : (nv t)[i]? = some x) : ∃ n, t[i]? = some n ∧ x = .int ((n : Nat) : Int) := by
  rw [List.getElem?_map] at h
  cases e : t[i]? with
  | none =>
    rw [e] at h
    cases h
  | some n =>
    rw [e] at h
    exact ⟨n, rfl, (Option.some.inj h).symm⟩
theorem nv_at {t : List Nat} {i n : Nat} (h : t[i]? = some n) : atI (nv t) (i : Int) = some (.int ((n : Nat) : Int)) := atI_nat (by rw [List.getElem?_map, h] <;> rfl)
theorem sizeK {n : Nat} (h : n ≤ 1000000) : n < sizeLine := Nat.lt_of_le_of_lt h (by decide)
theorem same_updL {p : Addr} {o : HO} (s : Same H H') (hp : H p = none) : Same H (upd H' p o) := fun b u q => by
  rw [upd_ne (ne_of_none q hp)]
  exact s b u q
theorem sqt_updL {a p : Addr} {xs ys : List V} {o : HO} (hp : H p = some (.lst ys)) (h : SqT K H a xs) : SqT K (upd H p o) a xs := by
  have ne : ∀ u, H a = some u → u ≠ .lst ys → a ≠ p := fun u e n z => by
    rw [z, hp] at e
    exact n (Option.some.inj e).symm
  rcases h with (h | ⟨o, h⟩) | h
  · exact .inl (.inl (by rw [upd_ne (ne _ h (by intro z; cases z))]; exact h))
  · exact .inl (.inr ⟨o, by rw [upd_ne (ne _ h (by intro z; cases z))]; exact h⟩)
  · exact .inr h
theorem sql_updL {a p : Addr} {xs : List V} {o : HO} (hne : a ≠ p) (h : SqL K H a xs) : SqL K (upd H p o) a xs := by
  rcases h with (h | ⟨o, h⟩) | h
  · exact .inl (.inl (by rw [upd_ne hne]; exact h))
  · exact .inl (.inr ⟨o, by rw [upd_ne hne]; exact h⟩)
  · exact .inr h
theorem sum_cast (t : List Nat) : (t.map fun n => ((n : Nat) : Int)).sum = ((t.sum : Nat) : Int) := by
  induction t with
  | nil => rfl
  | cons x r ih => rw [List.map_cons, List.sum_cons, List.sum_cons, ih]; omega
theorem same_sqt {a : Addr} {xs : List V} (e : Same H H') (h : SqT K H a xs) : SqT K H' a xs := by
  rcases h with (h | ⟨o, h⟩) | h
  · exact .inl (.inl (e _ _ h))
  · exact .inl (.inr ⟨o, e _ _ h⟩)
  · exact .inr h
theorem same_new {p : Addr} (h : H p = none) (o : HO) : Same H (upd H p o) := fun b u q => by rw [upd_ne (ne_of_none q h)]; exact q
def Tups (K : PySem.W.Frag) (H : Hp) : List Addr → List (List Nat) → Prop := Paired fun a t => SqT K H a (nv t)
theorem Tups.same (e : Same H H') : ∀ {rs : List Addr} {L : List (List Nat)}, Tups K H rs L → Tups K H' rs L
  | _, _, .nil => .nil
  | _, _, .cons h t => .cons (same_sqt e h) (Tups.same e t)
theorem Tups.updL {p : Addr} {ys : List V} {o : HO} (hp : H p = some (.lst ys)) : ∀ {rs : List Addr} {L : List (List Nat)}, Tups K H rs L → Tups K (upd H p o) rs L
  | _, _, .nil => .nil
  | _, _, .cons h t => .cons (sqt_updL hp h) (Tups.updL hp t)
theorem Tups.length : ∀ {rs : List Addr} {L : List (List Nat)}, Tups K H rs L → rs.length = L.length
  | _, _, .nil => rfl
  | _, _, .cons _ t => congrArg (· + 1) (Tups.length t)
theorem Tups.app : ∀ {rs qs : List Addr} {L M : List (List Nat)}, Tups K H rs L → Tups K H qs M → Tups K H (rs ++ qs) (L ++ M)
  | _, _, _, _, .nil, s => s
  | _, _, _, _, .cons r t, s => .cons r (Tups.app t s)
theorem Tups.rev {rs : List Addr} {L : List (List Nat)} (h : Tups K H rs L) : Tups K H rs.reverse L.reverse := by
  induction h with
  | nil => exact .nil
  | cons r t ih =>
    rw [List.reverse_cons, List.reverse_cons]
    exact ih.app (.cons r .nil)
theorem Tups.get : ∀ {rs : List Addr} {L : List (List Nat)} {i : Nat} {a : Addr}, Tups K H rs L → rs[i]? = some a → ∃ t, L[i]? = some t ∧ SqT K H a (nv t)
  | _, _, _, _, .nil, e => by simp at e
  | _, _, 0, _, .cons r _, e => by simp at e; subst e; exact ⟨_, rfl, r⟩
  | _, _, i + 1, a, .cons _ t, e => by
    obtain ⟨u, h1, h2⟩ := Tups.get (i := i) (a := a) t (by simpa using e)
    exact ⟨u, by simpa using h1, h2⟩
theorem sqt_ty {a : Addr} {xs : List V} (h : SqT K H a xs) : TyX K H (.ref a) (.type "tuple") := by
  rcases h with (h | ⟨o, h⟩) | ⟨o, its, n, e, c, _⟩
  · exact .base (.tup h)
  · exact .fTuple h
  · exact .kTuple e c
/-- as data -/
abbrev encT (t : List Nat) : PyData := .tuple (t.map fun n => PyData.int ((n : Nat) : Int))
theorem dp_nats : ∀ (t : List Nat), DpAll K H (nv t) (t.map fun n => PyData.int ((n : Nat) : Int))
  | [] => .nil
  | n :: t => .cons (.int _) (dp_nats t)
theorem dp_tup {a : Addr} {t : List Nat} (h : SqT K H a (nv t)) : Dp K H (.ref a) (encT t) := .tup h (dp_nats t)
theorem dp_tups : ∀ {rs : List Addr} {L : List (List Nat)}, Tups K H rs L → DpAll K H (rs.map V.ref) (L.map encT)
  | _, _, .nil => .nil
  | _, _, .cons h t => .cons (dp_tup h) (dp_tups t)
theorem can_nats : ∀ t : List Nat, PyData.canLayAll0 (t.map fun n => PyData.int ((n : Nat) : Int)) = true ∧ PyData.depthAll (t.map fun n => PyData.int ((n : Nat) : Int)) = 0
  | [] => by simp [PyData.canLayAll0, PyData.depthAll]
  | n :: t => by
    have h := can_nats t
    simp only [List.map_cons, PyData.canLayAll0, PyData.depthAll, h.1, h.2, PyData.canLay0, PyData.depth]
    simp
theorem can_tups : ∀ L : List (List Nat), PyData.canLayAll0 (L.map encT) = true ∧ PyData.depthAll (L.map encT) ≤ 1
  | [] => by simp [PyData.canLayAll0, PyData.depthAll]
  | t :: L => by
    have h := can_tups L
    have g := can_nats t
    simp only [List.map_cons, PyData.canLayAll0, PyData.depthAll, h.1, PyData.canLay0, PyData.depth, g.1, g.2]
    exact ⟨by simp, by omega⟩
theorem shaped_tups (L : List (List Nat)) : SeqAt.shaped (.list (L.map encT)) = true := by
  have h := can_tups L
  unfold SeqAt.shaped
  simp only [PyData.canLay0, PyData.depth, h.1, Bool.true_and]
  exact decide_eq_true (by omega)
theorem eqv_tups (L : List (List Nat)) : PyData.eqv (.list (L.map encT)) (.list (L.map encT)) = true := SeqAt.eqv_refl _ (by
  simp only [PyData.canLay0]
  exact (can_tups L).1)
theorem shaped_tup (t : List Nat) : SeqAt.shaped (encT t) = true := by
  have g := can_nats t
  unfold SeqAt.shaped
  simp only [encT, PyData.canLay0, PyData.depth, g.1, g.2, Bool.true_and]
  exact decide_eq_true (by omega)
theorem eqv_tup (t : List Nat) : PyData.eqv (encT t) (encT t) = true := SeqAt.eqv_refl _ (by
  simp only [encT, PyData.canLay0]
  exact (can_nats t).1)
end
end L5

/-! the products of a degree: a mirror in plain Lean, and what is checked of it once for all -/
namespace L5
def foundN (d : Nat) : Nat → List (List Nat)
  | 0 => [[]]
  | n + 1 => (foundN d n).flatMap fun t => (List.range (d + 1 - t.sum)).map fun e => t ++ [e]
def asc (l d : Nat) : List (List Nat) := (foundN d (l - 1)).map fun t => t ++ [d - t.sum]
def listed (l d : Nat) : List (List Nat) := (asc l d).reverse
def lastPos (t : List Nat) : Nat → Option Nat
  | 0 => none
  | n + 1 => if t.getD n 0 = 0 then lastPos t n else some n
def nextAt (t : List Nat) (k : Nat) : List Nat := t.take k ++ [t.getD k 0 - 1, t.getD (t.length - 1) 0 + 1] ++ List.replicate (t.length - 1 - k - 1) 0
def next (t : List Nat) : Option (List Nat) := (lastPos t (t.length - 1)).map (nextAt t)
def chainB : List (List Nat) → Bool
  | [] => true
  | t :: r => (match r with
    | [] => (lastPos t (t.length - 1)).isNone
    | u :: _ => match lastPos t (t.length - 1) with
      | none => false
      | some k => nextAt t k == u) && chainB r
def sums : Nat → List Nat → List Nat
  | _, [] => []
  | a, x :: r => (a + x) :: sums (a + x) r
def rowN (d : Nat) : Nat → List Nat
  | 0 => 1 :: List.replicate d 0
  | n + 1 => sums 0 (rowN d n)
def choicesN (l d : Nat) : Nat := (rowN d l).getD d 0
def unitN (l k : Nat) : List Nat := (List.range l).map fun p => if p = k then 1 else 0
def lexB : List Nat → List Nat → Bool
  | [], _ => true
  | _ :: _, [] => false
  | x :: xs, y :: ys => if x < y then true else if x = y then lexB xs ys else false
def ascB : List (List Nat) → Bool
  | [] => true
  | t :: r => (match r with
    | [] => true
    | u :: _ => lexB t u) && ascB r
def prodB (l d : Nat) (t : List Nat) : Bool := t.length == l && t.sum == d && t.all (fun e => Nat.ble e 20)
def okB (l d : Nat) : Bool :=
  let L := listed l d
  let M := asc l (d + 1)
  (match L with | [] => false | t :: _ => t == d :: List.replicate (l - 1) 0) && chainB L && ascB (asc l d) && ascB M && L.length == choicesN l d && L.all (prodB l d) && M.all (prodB l (d + 1)) && Nat.ble M.length 400 &&
    (List.range l).all fun k => (L.map fun t => List.zipWith (· + ·) t (unitN l k)) == M.reverse.filter fun t => Nat.blt 0 (t.getD k 0)
def top (l : Nat) : Nat := if l < 4 then 13 else if l ≤ 6 then 5 else 4
def szB (l d : Nat) : Bool := (List.range l).all fun n => Nat.ble (foundN d n).length 400
theorem all_ok : (List.range 8).all (fun i => (List.range (top (i + 1))).all fun d => okB (i + 1) d && (szB (i + 1) d && szB (i + 1) (d + 1))) = true := by decide +kernel
theorem ok_of {l d : Nat} (h1 : 1 ≤ l) (h8 : l ≤ 8) (hd : d < top l) : okB l d = true ∧ szB l d = true ∧ szB l (d + 1) = true := by
  have h := List.all_eq_true.mp all_ok (l - 1) (List.mem_range.mpr (by omega))
  rw [show l - 1 + 1 = l by omega] at h
  have g := List.all_eq_true.mp h d (List.mem_range.mpr hd)
  rw [Bool.and_eq_true, Bool.and_eq_true] at g
  exact ⟨g.1, g.2.1, g.2.2⟩
theorem sz_of {l d n : Nat} (h : szB l d = true) (hn : n < l) : (foundN d n).length ≤ 400 := Nat.le_of_ble_eq_true (List.all_eq_true.mp h n (List.mem_range.mpr hn))
structure Ok (l d : Nat) : Prop where
  head : ∃ r, listed l d = (d :: List.replicate (l - 1) 0) :: r
  chain : chainB (listed l d) = true
  asc1 : ascB (asc l d) = true
  asc2 : ascB (asc l (d + 1)) = true
  len : (listed l d).length = choicesN l d
  prod1 : ∀ t ∈ listed l d, prodB l d t = true
  prod2 : ∀ t ∈ asc l (d + 1), prodB l (d + 1) t = true
  size : (asc l (d + 1)).length ≤ 400
  more : ∀ k, k < l → ((listed l d).map fun t => List.zipWith (· + ·) t (unitN l k)) = (listed l (d + 1)).filter fun t => Nat.blt 0 (t.getD k 0)
theorem okS {l d : Nat} (h : okB l d = true) : Ok l d := by
  unfold okB at h
  simp only [Bool.and_eq_true] at h
  obtain ⟨⟨⟨⟨⟨⟨⟨⟨h1, h2⟩, h3⟩, h4⟩, h5⟩, h6⟩, h7⟩, h8⟩, h9⟩ := h
  refine ⟨?_, h2, h3, h4, beq_iff_eq.mp h5, fun t ht => List.all_eq_true.mp h6 t ht, fun t ht => List.all_eq_true.mp h7 t ht, Nat.le_of_ble_eq_true h8, fun k hk => beq_iff_eq.mp (List.all_eq_true.mp h9 k (List.mem_range.mpr hk))⟩
  cases e : listed l d with
  | nil =>
    rw [e] at h1
    cases h1
  | cons t r =>
    rw [e] at h1
    rw [beq_iff_eq.mp h1]
    exact ⟨r, rfl⟩
theorem prod_of {l d : Nat} {t : List Nat} (h : prodB l d t = true) : t.length = l ∧ t.sum = d ∧ ∀ e ∈ t, e ≤ 20 := by
  unfold prodB at h
  rw [Bool.and_eq_true, Bool.and_eq_true] at h
  exact ⟨beq_iff_eq.mp h.1.1, beq_iff_eq.mp h.1.2, fun e he => Nat.le_of_ble_eq_true (List.all_eq_true.mp h.2 e he)⟩
theorem chain_last : ∀ {L : List (List Nat)} {i : Nat} {t : List Nat}, chainB L = true → L[i]? = some t → L[i + 1]? = none → lastPos t (t.length - 1) = none
  | [], _, _, _, h, _ => by simp at h
  | [u], 0, t, h, e, _ => by
    have e' : u = t := Option.some.inj e
    subst e'
    have h' : ((lastPos u (u.length - 1)).isNone && true) = true := h
    rw [Bool.and_true] at h'
    exact Option.isNone_iff_eq_none.mp h'
  | [_], i + 1, _, _, e, _ => by simp at e
  | u :: v :: r, 0, t, h, e, n => by simp at n
  | u :: v :: r, i + 1, t, h, e, n => by
    have h' : (_ && chainB (v :: r)) = true := h
    rw [Bool.and_eq_true] at h'
    exact chain_last h'.2 e n
theorem chain_next : ∀ {L : List (List Nat)} {i : Nat} {t u : List Nat}, chainB L = true → L[i]? = some t → L[i + 1]? = some u → ∃ k, lastPos t (t.length - 1) = some k ∧ nextAt t k = u
  | [], _, _, _, _, h, _ => by simp at h
  | [_], _, _, _, _, _, n => by simp at n
  | u :: v :: r, 0, t, w, h, e, n => by
    have e' : u = t := Option.some.inj e
    have n' : v = w := Option.some.inj n
    subst e' n'
    have h' : ((match lastPos u (u.length - 1) with | none => false | some k => nextAt u k == v) && chainB (v :: r)) = true := h
    rw [Bool.and_eq_true] at h'
    cases q : lastPos u (u.length - 1) with
    | none =>
      rw [q] at h'
      cases h'.1
    | some k =>
      rw [q] at h'
      exact ⟨k, rfl, beq_iff_eq.mp h'.1⟩
  | u :: v :: r, i + 1, t, w, h, e, n => by
    have h' : (_ && chainB (v :: r)) = true := h
    rw [Bool.and_eq_true] at h'
    exact chain_next (L := v :: r) h'.2 e n
theorem found_len (d : Nat) : ∀ n, ∀ t ∈ foundN d n, t.length = n
  | 0, t, h => by
    rw [List.mem_singleton.mp h]
    rfl
  | n + 1, t, h => by
    obtain ⟨u, hu, h2⟩ := List.mem_flatMap.mp h
    obtain ⟨e, _, rfl⟩ := List.mem_map.mp h2
    rw [List.length_append, found_len d n u hu]
    rfl
theorem found_sum (d : Nat) : ∀ n, ∀ t ∈ foundN d n, t.sum ≤ d
  | 0, t, h => by
    rw [List.mem_singleton.mp h]
    exact Nat.zero_le _
  | n + 1, t, h => by
    obtain ⟨u, hu, h2⟩ := List.mem_flatMap.mp h
    obtain ⟨e, he, rfl⟩ := List.mem_map.mp h2
    have h1 := found_sum d n u hu
    have h3 := List.mem_range.mp he
    rw [List.sum_append, List.sum_singleton]
    omega
theorem top_le (l : Nat) : top l ≤ 13 := by
  unfold top
  split
  · omega
  · split <;> omega
end L5

/-! places in the order of words: a mirror in plain Lean -/
namespace L6
def C : Nat → Nat → Nat
  | _, 0 => 1
  | 0, _ + 1 => 0
  | n + 1, k + 1 => C n k + C n (k + 1)
theorem C_zero (n : Nat) : C n 0 = 1 := by cases n <;> rfl
theorem C_succ (n k : Nat) : C (n + 1) (k + 1) = C n k + C n (k + 1) := rfl
theorem C_over : ∀ {n k : Nat}, n < k → C n k = 0
  | 0, _ + 1, _ => rfl
  | n + 1, k + 1, h => by rw [C_succ, C_over (show n < k by omega), C_over (show n < k + 1 by omega)]
theorem C_self : ∀ n : Nat, C n n = 1
  | 0 => rfl
  | n + 1 => by rw [C_succ, C_self n, C_over (Nat.lt_succ_self n)]
theorem C_next : ∀ n t : Nat, t ≤ n → (t + 1) * C n (t + 1) = (n - t) * C n t
  | 0, 0, _ => rfl
  | n + 1, 0, _ => by
    have h := C_next n 0 (Nat.zero_le _)
    rw [C_zero] at h
    rw [C_succ, C_zero, C_zero]
    omega
  | n + 1, s + 1, h => by
    have h1 := C_next n s (by omega)
    rw [C_succ, C_succ, Nat.mul_add, show n + 1 - (s + 1) = n - s by omega, Nat.mul_add, ← h1]
    by_cases c : s + 1 ≤ n
    · have h2 := C_next n (s + 1) c
      rw [h2, ← Nat.add_mul, ← Nat.add_mul]
      congr 1
      omega
    · have e : n = s := by omega
      subst e
      rw [C_over (show n < n + 1 by omega), C_over (show n < n + 1 + 1 by omega)]
      simp
theorem C_symm : ∀ n k : Nat, k ≤ n → C n (n - k) = C n k
  | n, 0, _ => by rw [C_zero, Nat.sub_zero, C_self]
  | n + 1, k + 1, h => by
    by_cases c : k + 1 ≤ n
    · have h1 := C_symm n (k + 1) c
      have h2 := C_symm n k (by omega)
      obtain ⟨j, hj⟩ : ∃ j, n - k = j + 1 := ⟨n - k - 1, by omega⟩
      rw [show n + 1 - (k + 1) = j + 1 by omega, C_succ, C_succ, ← h1, ← h2, hj, show n - (k + 1) = j by omega]
      omega
    · have e : k = n := by omega
      subst e
      rw [Nat.sub_self, C_zero, C_self]
theorem C_pos : ∀ {n k : Nat}, k ≤ n → 0 < C n k
  | n, 0, _ => by rw [C_zero]; exact Nat.one_pos
  | n + 1, k + 1, h => by
    have := C_pos (show k ≤ n by omega)
    rw [C_succ]
    omega
/-- so many products in k + 1 letters have a degree below m -/
def W : Nat → Nat → Nat
  | _, 0 => 0
  | k, m + 1 => C (m + k) k
theorem W_zero (k : Nat) : W k 0 = 0 := by cases k <;> rfl
theorem W_at (k m : Nat) : W k (m + 1) = C (m + k) k := by cases k <;> rfl
theorem W_one (m : Nat) : W 0 (m + 1) = 1 := by rw [W_at, C_zero]
theorem W_step (k m : Nat) : W (k + 1) (m + 1) = W (k + 1) m + W k (m + 1) := by
  rw [W_at, W_at]
  cases m with
  | zero =>
    simp only [W_zero, Nat.zero_add, C_self]
  | succ m =>
    rw [W_at, show m + 1 + (k + 1) = (m + 1 + k) + 1 by omega, C_succ, show m + (k + 1) = m + 1 + k by omega]
    omega
theorem W_mono (k : Nat) : ∀ {m n : Nat}, m ≤ n → W k m ≤ W k n := by
  intro m n h
  induction n with
  | zero =>
    rw [show m = 0 by omega]
    exact Nat.le_refl _
  | succ n ih =>
    by_cases c : m ≤ n
    · refine Nat.le_trans (ih c) ?_
      cases k with
      | zero =>
        rw [W_one]
        cases n with
        | zero => rw [W_zero]; exact Nat.zero_le _
        | succ n => rw [W_one]; exact Nat.le_refl _
      | succ k => rw [W_step]; omega
    · rw [show m = n + 1 by omega]
      exact Nat.le_refl _
def place : List Nat → Nat
  | [] => 0
  | _ :: r => W r.length r.sum + place r
theorem place_lt : ∀ (t : List Nat) (k : Nat), t.length = k + 1 → place t < W k (t.sum + 1)
  | [], _, h => by cases h
  | [e], k, h => by
    have : k = 0 := by simp at h; omega
    subst this
    rw [W_one]
    show W 0 0 + 0 < 1
    rw [W_zero]
    exact Nat.one_pos
  | e :: f :: r, k, h => by
    obtain ⟨j, rfl⟩ : ∃ j, k = j + 1 := ⟨k - 1, by simp at h; omega⟩
    have hl : (f :: r).length = j + 1 := by simpa using h
    have ih := place_lt (f :: r) j hl
    show W (f :: r).length (f :: r).sum + place (f :: r) < _
    rw [hl]
    have h1 : W (j + 1) ((f :: r).sum + 1) ≤ W (j + 1) ((e :: f :: r).sum + 1) := W_mono _ (by simp)
    rw [W_step] at h1
    omega
theorem place_ex : ∀ (k d q : Nat), q < W k (d + 1) → ∃ t : List Nat, t.length = k + 1 ∧ t.sum = d ∧ place t = q
  | 0, d, q, h => ⟨[d], rfl, by simp, by
      rw [W_one] at h
      show W 0 0 + 0 = q
      rw [W_zero]
      omega⟩
  | k + 1, d, q, h => by
    have key : ∀ d, q < W (k + 1) (d + 1) → ∃ j, j ≤ d ∧ W (k + 1) j ≤ q ∧ q < W (k + 1) (j + 1) := by
      intro d
      induction d with
      | zero => exact fun h => ⟨0, Nat.le_refl _, by rw [W_zero]; exact Nat.zero_le _, h⟩
      | succ d ih =>
        intro h
        by_cases c : q < W (k + 1) (d + 1)
        · obtain ⟨j, h1, h2⟩ := ih c
          exact ⟨j, by omega, h2⟩
        · exact ⟨d + 1, Nat.le_refl _, by omega, h⟩
    obtain ⟨j, hj, h1, h2⟩ := key d h
    rw [W_step] at h2
    obtain ⟨t, ht, hs, hp⟩ := place_ex k j (q - W (k + 1) j) (by omega)
    refine ⟨(d - j) :: t, by simp [ht], by simp [hs]; omega, ?_⟩
    show W t.length t.sum + place t = q
    rw [ht, hs, hp]
    omega
/-- u stands ahead of t: it is greater -/
def gtB : List Nat → List Nat → Bool
  | x :: xs, y :: ys => if x = y then gtB xs ys else decide (y < x)
  | _, _ => false
theorem place_gt : ∀ (t u : List Nat), t.length = u.length → t.sum = u.sum → gtB t u = true → place t < place u
  | [], _, _, _, h => by cases h
  | _ :: _, [], h, _, _ => by cases h
  | x :: xs, y :: ys, hl, hs, h => by
    have hl' : xs.length = ys.length := by simpa using hl
    have hs' : x + xs.sum = y + ys.sum := by simpa using hs
    show W xs.length xs.sum + place xs < W ys.length ys.sum + place ys
    unfold gtB at h
    by_cases c : x = y
    · rw [if_pos c] at h
      have := place_gt xs ys hl' (by omega) h
      rw [hl', show xs.sum = ys.sum by omega]
      omega
    · rw [if_neg c] at h
      have hx : y < x := of_decide_eq_true h
      cases xs with
      | nil =>
        have : ys = [] := List.eq_nil_of_length_eq_zero hl'.symm
        subst this
        simp at hs'
        omega
      | cons f r =>
        have h1 := place_lt (f :: r) r.length rfl
        have h2 : W ys.length ((f :: r).sum + 1) ≤ W ys.length ys.sum := W_mono _ (by omega)
        rw [← hl', show (f :: r).length = r.length + 1 from rfl, W_step] at h2
        rw [← hl', show (f :: r).length = r.length + 1 from rfl]
        omega
theorem gt_tri : ∀ (t u : List Nat), t.length = u.length → t = u ∨ gtB t u = true ∨ gtB u t = true
  | [], [], _ => .inl rfl
  | [], _ :: _, h => by cases h
  | _ :: _, [], h => by cases h
  | x :: xs, y :: ys, h => by
    have h' : xs.length = ys.length := by simpa using h
    unfold gtB
    by_cases c : x = y
    · subst c
      rw [if_pos rfl, if_pos rfl]
      rcases gt_tri xs ys h' with e | e
      · exact .inl (by rw [e])
      · exact .inr e
    · rw [if_neg c, if_neg (fun e => c e.symm)]
      by_cases d : y < x
      · exact .inr (.inl (decide_eq_true d))
      · exact .inr (.inr (decide_eq_true (by omega)))
theorem gt_iff {t u : List Nat} (hl : t.length = u.length) (hs : t.sum = u.sum) : gtB t u = decide (place t < place u) := by
  rcases gt_tri t u hl with e | e | e
  · subst e
    have : gtB t t = false := by
      cases h : gtB t t with
      | false => rfl
      | true => exact absurd (place_gt t t rfl rfl h) (Nat.lt_irrefl _)
    rw [this, decide_eq_false (Nat.lt_irrefl _)]
  · rw [e, decide_eq_true (place_gt t u hl hs e)]
  · have h := place_gt u t hl.symm hs.symm e
    rw [decide_eq_false (by omega)]
    cases g : gtB t u with
    | false => rfl
    | true =>
      have := place_gt t u hl hs g
      omega
theorem place_inj {t u : List Nat} (hl : t.length = u.length) (hs : t.sum = u.sum) (h : place t = place u) : t = u := by
  rcases gt_tri t u hl with e | e | e
  · exact e
  · have := place_gt t u hl hs e
    omega
  · have := place_gt u t hl.symm hs.symm e
    omega
/-- the ends -/
theorem sum_rep0 (n : Nat) : (List.replicate n 0).sum = 0 := by
  induction n with
  | zero => rfl
  | succ n ih => rw [List.replicate_succ, List.sum_cons, ih]
theorem place_first (d n : Nat) : place (d :: List.replicate n 0) = 0 := by
  show W _ _ + place _ = 0
  rw [sum_rep0, W_zero, Nat.zero_add]
  induction n with
  | zero => rfl
  | succ n ih =>
    rw [List.replicate_succ]
    show W _ _ + place _ = 0
    rw [sum_rep0, W_zero, ih]
theorem place_last (d : Nat) : ∀ n : Nat, place (List.replicate n 0 ++ [d]) + 1 = W n (d + 1)
  | 0 => by
    rw [W_one]
    show W 0 0 + 0 + 1 = 1
    rw [W_zero]
  | n + 1 => by
    have ih := place_last d n
    rw [List.replicate_succ, List.cons_append]
    show W (List.replicate n 0 ++ [d]).length (List.replicate n 0 ++ [d]).sum + place _ + 1 = _
    have e1 : (List.replicate n 0 ++ [d]).length = n + 1 := by simp
    have e2 : (List.replicate n 0 ++ [d]).sum = d := by rw [List.sum_append, sum_rep0]; simp
    rw [e1, e2, W_step]
    omega
end L6

/-! all products of a small degree: what is checked once for all -/
namespace L6
open L5
def pairsN (d : Nat) : Nat → List (List Nat × Nat)
  | 0 => [([], d)]
  | n + 1 => (pairsN d n).flatMap fun q => (List.range (q.2 + 1)).map fun e => (q.1 ++ [q.2 - e], e)
def rows (l d : Nat) : List (List Nat) := (pairsN d (l - 1)).map fun q => q.1 ++ [q.2]
def okB6 (l d : Nat) : Bool :=
  let L := rows l d
  (match L with | [] => false | t :: _ => t == d :: List.replicate (l - 1) 0) && chainB L && L.all (prodB l d) && (L.map place == List.range L.length) && L.length == W (l - 1) (d + 1) &&
    (List.range l).all fun n => Nat.ble (pairsN d n).length 400 && (pairsN d n).all fun q => Nat.ble q.2 d
theorem all_ok6 : (List.range 4).all (fun i => (List.range 7).all fun d => okB6 (i + 1) d) = true := by decide +kernel
structure Ok6 (l d : Nat) : Prop where
  head : ∃ r, rows l d = (d :: List.replicate (l - 1) 0) :: r
  chain : chainB (rows l d) = true
  prod : ∀ t ∈ rows l d, prodB l d t = true
  plc : (rows l d).map place = List.range (rows l d).length
  len : (rows l d).length = W (l - 1) (d + 1)
  size : ∀ n, n < l → (pairsN d n).length ≤ 400
  rest : ∀ n, n < l → ∀ q ∈ pairsN d n, q.2 ≤ d
theorem ok6 {l d : Nat} (h1 : 1 ≤ l) (h4 : l ≤ 4) (hd : d < 7) : Ok6 l d := by
  have h := List.all_eq_true.mp all_ok6 (l - 1) (List.mem_range.mpr (by omega))
  rw [show l - 1 + 1 = l by omega] at h
  have g := List.all_eq_true.mp h d (List.mem_range.mpr hd)
  unfold okB6 at g
  simp only [Bool.and_eq_true] at g
  obtain ⟨⟨⟨⟨⟨g1, g2⟩, g3⟩, g4⟩, g5⟩, g6⟩ := g
  have k6 : ∀ n, n < l → Nat.ble (pairsN d n).length 400 = true ∧ ∀ q ∈ pairsN d n, Nat.ble q.2 d = true := fun n hn => by
    have := List.all_eq_true.mp g6 n (List.mem_range.mpr hn)
    rw [Bool.and_eq_true] at this
    exact ⟨this.1, fun q hq => List.all_eq_true.mp this.2 q hq⟩
  refine ⟨?_, g2, fun t ht => List.all_eq_true.mp g3 t ht, beq_iff_eq.mp g4, beq_iff_eq.mp g5, fun n hn => Nat.le_of_ble_eq_true (k6 n hn).1, fun n hn q hq => Nat.le_of_ble_eq_true ((k6 n hn).2 q hq)⟩
  cases e : rows l d with
  | nil =>
    rw [e] at g1
    cases g1
  | cons t r =>
    rw [e] at g1
    rw [beq_iff_eq.mp g1]
    exact ⟨r, rfl⟩
theorem Ok6.at {l d i : Nat} {t : List Nat} (O : Ok6 l d) (h : (rows l d)[i]? = some t) : place t = i := by
  have h1 : ((rows l d).map place)[i]? = some (place t) := by rw [List.getElem?_map, h] <;> rfl
  rw [O.plc] at h1
  obtain ⟨hi, h2⟩ := List.getElem?_eq_some_iff.mp h1
  rw [List.getElem_range] at h2
  exact h2.symm
theorem W_le : ∀ l, l < 4 → ∀ d, d < 7 → W l (d + 1) ≤ 84 := by decide +kernel
end L6

namespace L6
open PySem PySem.W
theorem fp_up (n : Nat) : ∀ k : Nat, Builtin.Math.fallingProduct ((n : Int) + 1) (k + 1) = ((n : Int) + 1) * Builtin.Math.fallingProduct (n : Int) k
  | 0 => by rw [mc_fp_one, mc_fp_zero, Int.mul_one]
  | k + 1 => by
    rw [mc_fp_succ, fp_up n k, mc_fp_succ, Int.mul_assoc]
    congr 1
    congr 1
    omega
theorem fp_C (n : Nat) : ∀ k : Nat, k ≤ n → Builtin.Math.fallingProduct (n : Int) k = ((C n k : Nat) : Int) * Builtin.Math.fallingProduct (k : Int) k
  | 0, _ => by rw [mc_fp_zero, mc_fp_zero, C_zero]; rfl
  | k + 1, h => by
    have e := fp_up k k
    have e2 : ((k + 1 : Nat) : Int) = (k : Int) + 1 := by omega
    rw [mc_fp_succ, fp_C n k (by omega), e2, e]
    have h2 := C_next n k (by omega)
    have h3 : ((k : Int) + 1) * ((C n (k + 1) : Nat) : Int) = ((n : Int) - (k : Int)) * ((C n k : Nat) : Int) := by
      have h4 : (((k + 1) * C n (k + 1) : Nat) : Int) = (((n - k) * C n k : Nat) : Int) := by rw [h2]
      rw [Int.natCast_mul, Int.natCast_mul, e2, show ((n - k : Nat) : Int) = (n : Int) - (k : Int) by omega] at h4
      exact h4
    rw [← Int.mul_assoc, Int.mul_comm ((C n (k + 1) : Nat) : Int), h3, Int.mul_assoc, Int.mul_comm (Builtin.Math.fallingProduct (k : Int) k), ← Int.mul_assoc, Int.mul_comm ((C n k : Nat) : Int)]
theorem comb_C (n k : Nat) : mcComb (n : Int) (k : Int) = ((C n k : Nat) : Int) := by
  by_cases h : k ≤ n
  · have key : ∀ m : Nat, m ≤ n → C n m = C n k → Builtin.Math.fallingProduct (n : Int) m / Builtin.Math.fallingProduct (m : Int) m = ((C n k : Nat) : Int) := fun m hm e => by
      have hp := mc_fp_pos (n := (m : Int)) m (Int.le_refl _)
      rw [fp_C n m hm, e]
      exact Int.mul_ediv_cancel _ (by omega)
    by_cases c : k ≤ n - k
    · rw [mcComb_at (m := (k : Int)) (by omega) (by omega) (by omega)]
      exact key k h rfl
    · rw [mcComb_at (m := ((n - k : Nat) : Int)) (by omega) (by omega) (by omega)]
      exact key (n - k) (by omega) (C_symm n k h)
  · rw [mcComb_above (by omega), C_over (by omega)]
    rfl
end L6

/-! enumerate of a tuple -/
namespace PySem
open Sem (wp)
open AutoSeq1 (wpAny_loadPart')
theorem meets_enumerate_newT (l : Addr) (items : Array Value) :
    Meets (Builtin.«enumerate.__new__» ⟨[.type "enumerate", .ref l], []⟩) (fun _ R s => s.heap.IsTuple l items ∧
      R (.ok (.ret (.ref (s.heap.push { cls := .type "tuple_iterator", data := .fields #[.ref l, .int 0 0] }).objs.size)))
        { s with heap := (s.heap.push { cls := .type "tuple_iterator", data := .fields #[.ref l, .int 0 0] }).push { cls := .type "enumerate", data := .fields #[.none, .bool false, .ref s.heap.objs.size, rawInt 0, .none, .none] } }) :=
  .of_wp fun prog w A R s h => by
    obtain ⟨hp, g, d, tk, os⟩ := s; obtain ⟨hl, h⟩ := h
    have hsub := sub_enumerate
    have q1 : ∀ {A' : Around} {E : Value → Shared → Prop} {Q : Value → Shared → Prop}, Q (.ref hp.objs.size) ⟨(hp.push { cls := .type "tuple_iterator", data := .fields #[.ref l, .int 0 0] }), g, d, tk, os⟩ → wpAny (model prog w) A' (pyIter (.ref l)) Q E ⟨hp, g, d, tk, os⟩ :=
      fun q => wpAny_pyIter_tuple hl q
    wp_walk using q1
    refine wpAny_stack_any fun st => wpAny_pure ?_
    split
    · rename_i c _ _ _ _ _
      cases (c == Value.type "enumerate")
      · wp_walk using q1
        exact ⟨_, rfl, h⟩
      · wp_walk using q1
        exact ⟨_, rfl, h⟩
    · wp_walk using q1
      exact ⟨_, rfl, h⟩
section
variable {prog : Program} {w : World} {A : Around} {E : Value → Shared → Prop} {s : Shared}
theorem call_enumerate_tuple {l : Addr} {items : Array Value} {Q : Value → Shared → Prop} (hL : s.heap.IsTuple l items)
    (h : ∀ h', IsEnum h' (s.heap.objs.size + 1) s.heap.objs.size 0 .none → h'.IsTupleIter s.heap.objs.size l 0 → h'.objs.size = s.heap.objs.size + 2 →
      (∀ b o, s.heap.get? b = some o → h'.get? b = some o) → Q (.ref (s.heap.objs.size + 1)) { s with heap := h' }) :
    wpAny (model prog w) A (call (.type "enumerate") [.ref l]) Q E s := by
  refine callType_new F.called_enumerate (by decide) (F.typeCall_enumerate_1 _) (F.newCall_enumerate_1 _) (fun obj => F.args_object_init_2 obj _) F.entry_enumerate_new
    (meets_enumerate_newT l items) ⟨hL, ?_⟩
  have hz : (s.heap.push { cls := .type "tuple_iterator", data := .fields #[.ref l, .int 0 0] }).objs.size = s.heap.objs.size + 1 := Heap.size_push ..
  show _ ∧ _
  rw [hz]
  have he : IsEnum ((s.heap.push { cls := .type "tuple_iterator", data := .fields #[.ref l, .int 0 0] }).push
      { cls := .type "enumerate", data := .fields #[.none, .bool false, .ref s.heap.objs.size, rawInt 0, .none, .none] }) (s.heap.objs.size + 1) s.heap.objs.size 0 .none := by
    have := Heap.get?_push_size (s.heap.push { cls := .type "tuple_iterator", data := .fields #[.ref l, .int 0 0] })
      (o := { cls := .type "enumerate", data := .fields #[.none, .bool false, .ref s.heap.objs.size, rawInt 0, .none, .none] }) rfl
    rw [hz] at this; exact this
  refine ⟨⟨_, he, rfl⟩, h _ he ⟨_, Heap.get?_push_of_some _ (Heap.get?_push_size _ rfl), rfl, rfl⟩ (by rw [Heap.size_push, hz]) fun b o x => Heap.get?_push_of_some _ (Heap.get?_push_of_some _ x)⟩
end
end PySem
namespace L2
open PySem PySem.Spec PyProof.Rows
/-- the tuple at a, each item in a new pair -/
def IteT (K : PySem.W.Frag) (a : Addr) : It :=
  ⟨fun i H => ∃ (xs : List V) (x : V), SqT K H a xs ∧ xs[i]? = some x, fun i H v H' => ∃ T x, v = .ref T ∧ H T = none ∧ H' = upd H T (.tup [.int (i : Nat), x]) ∧ ∀ xs, SqT K H a xs → xs[i]? = some x, fun i H => ∃ xs : List V, SqT K H a xs ∧ xs.length ≤ i⟩
theorem turn_enumT {P : Program} {w : World} {K : PySem.W.Frag} {elts : List Expr} {kk : Nat} {tpos : Pos} (a e it : Addr) :
    Turn P w K (.Tuple elts kk tpos) (IteT K a) [e, it] e (fun i h => (∃ old, IsEnum h e it ((i : Nat) : Int) old) ∧ h.IsTupleIter it a i ∧ e ≠ it ∧ a < it) where
  mem := by simp
  obj := fun i h st b hb => by
    obtain ⟨⟨old, he⟩, ⟨o, ho, hc, hd⟩, _⟩ := st
    have e' : b = e ∨ b = it := by simpa using hb
    rcases e' with z | z
    · rw [z]; exact ⟨_, he, fun v q => nomatch q⟩
    · rw [z]; exact ⟨o, ho, fun v q => by rw [hd] at q; cases q⟩
  keep := fun i h h' st k => let ⟨⟨old, he⟩, hi, hne⟩ := st; ⟨⟨old, k e (by simp) _ he⟩, hi.at fun o q => k it (by simp) o q, hne⟩
  item := by
    intro X hP hw hK hc i pins s σ H E I hf st hg
    subst hP hw hK
    obtain ⟨⟨old, he⟩, hit, hne, hlt⟩ := st
    obtain ⟨xs, x, hq, hx⟩ := hg
    obtain ⟨its, rv, p, hz⟩ := I.tuple hq
    obtain ⟨u, hu, ru⟩ := rv.get hx
    have hel : e < s.heap.objs.size := Heap.lt_size he
    have hil : it < s.heap.objs.size := by obtain ⟨_, q, _⟩ := hit; exact Heap.lt_size q
    have hai : a ≠ it := Nat.ne_of_lt hlt
    have hae : a ≠ e := fun z => by
      obtain ⟨o, ho, hc', _⟩ := p
      rw [z, he] at ho
      rw [← Option.some.inj ho] at hc'
      injection hc' with q
      exact absurd q (by decide)
    have hi : i < its.toArray.size := by
      rcases Nat.lt_or_ge i its.toArray.size with z | z
      · exact z
      · rw [List.getElem?_eq_none (by simpa using z)] at hu
        cases hu
    refine wpAny_pyNext_enum_itemD (Draws.tuple (show X.A.in1.handled = none from I.ok.hd hc) it a hai its.toArray) he ⟨hit, p⟩ hi hne (by simp [hne, Ne.symm hae]) fun x' h' tk hx' ho hst hT hsz hk => ?_
    have ex : x' = u := by
      have : its.toArray[i]? = some u := by simpa using hu
      rw [this] at hx'
      exact (Option.some.inj hx').symm
    subst ex
    refine ⟨_, rfl, wpAny_letOwnedTupleGo_enum (s := { s with heap := h', toks := tk + 1 }) ho fun h'' he' sb => ?_⟩
    have hT2 : h''.get? s.heap.objs.size = some { cls := .type "tuple", data := .seq #[.int i tk, x'] } := (sb.2 _ (Nat.ne_of_gt hel)).trans hT
    have new : ObjOk X.prog X.w (upd H s.heap.objs.size (.tup [.int (i : Nat), x])) h'' s.heap.objs.size (.tup [.int (i : Nat), x]) :=
      ⟨by show 2 ≤ sizeLine; decide, [.int i tk, x'], .cons ⟨_, rfl⟩ (.cons ru .nil), ⟨_, hT2, rfl, _, rfl⟩⟩
    have I1 : Inv X pins σ (upd H s.heap.objs.size (.tup [.int (i : Nat), x])) { s with heap := h'', toks := tk + 1 } :=
      I.turnedNew (ch := [e, it]) (fun b ob hb q => (sb.2 b (fun z => hb (by simp [z]))).trans (hk b ob (fun z => hb (by simp [z])) (fun z => hb (by simp [z])) q)) hf (Nat.le_refl _) new
    refine ⟨.ref s.heap.objs.size, _, I1, rfl, ⟨_, x, rfl, I.hok.fresh (Nat.le_refl _), rfl, fun ys hy => by rw [I.tuple_inj hy hq]; exact hx⟩, ⟨⟨x', ?_⟩, hst.1.at fun o q => (sb.2 it (Ne.symm hne)).trans q, hne, hlt⟩, fun b hb => ?_⟩
    · have e1 : ((i + 1 : Nat) : Int) = (i : Int) + 1 := by omega
      rw [e1]; exact he'
    · have hb' : b < s.heap.objs.size := by
        have e' : b = e ∨ b = it := by simpa using hb
        rcases e' with z | z
        · rw [z]; exact hel
        · rw [z]; exact hil
      rw [upd_ne (Nat.ne_of_lt hb')]
      exact (hf b hb).1
  done := by
    intro X hP hw hK hc i pins s σ H E I hf st hg
    subst hP hw hK
    obtain ⟨⟨old, he⟩, hit, hne, hlt⟩ := st
    obtain ⟨xs, hq, hx⟩ := hg
    obtain ⟨its, rv, p, hz⟩ := I.tuple hq
    obtain ⟨f0, f1, f2, f3, f4, f5⟩ := hf it (by simp)
    have hl := rv.length
    have hd : X.A.handled = none := I.ok.hd hc
    have hx' : its.toArray[i]? = none := by simp; omega
    have hT : s.TypeIs (.ref e) "enumerate" := ⟨_, he, rfl⟩
    unfold pyNext
    refine wpAny_bind (wpAny_attempt (wpAny_callSpecial?_slot (name := Str.ofString "__next__") hT F.slot_enumerate_next
      (wpAny_call_entry F.slot_enumerate_next hT F.entry_enumerate_next ?_ (F.args_enumerate_next_1 _))))
    show wpAny _ _ (field (.ref e) 2 >>= _) _ _ _
    refine wpAny_bind (wpAny_field he rfl (x := .ref it) rfl ?_)
    refine wpAny_bind (wpAny_nextOf_tuple_end hd hit p hx' fun h' x he' hx2 => ?_)
    obtain ⟨o, ho, hc2⟩ := hx2
    refine wpAny_bind (wpAny_isInstance (T := "StopIteration") (b := true) ⟨o, ho, hc2⟩ isSubtype_stop ?_)
    exact wpAny_pure ⟨rfl, I.turned (t' := s.toks) (fun b o hb q => he' b o hb q) f0 f1 f3 f4 f5⟩
  self := fun A i s Q E st h => let ⟨⟨_, he⟩, _⟩ := st; wpAny_pyIter_enum he h
def iEnumT (K : PySem.W.Frag) (ta : TA) : TI := fun σ H R => ta σ H fun vs H1 => ∃ a xs, vs = [.ref a] ∧ SqT K H1 a xs ∧ R (IteT K a) H1
theorem pi_enumT {X : Cx} {e : Expr} {ta : TA} {p pos tpos : Pos} {elts : List Expr} {kk : Nat} (hg : Gl X "enumerate") (hm : X.mg "enumerate" = none) (ha : PA X [e] ta) (hs : starEach [e] X.env = [(false, eval e X.env)] := by rfl) :
    PI X (.Tuple elts kk tpos) (.Call (.Name "enumerate" p) [e] [] pos) (iEnumT X.K ta) := by
  refine ⟨fun pins s σ H R I h => ?_⟩
  refine Call_ (ld_blt I hg hm boot_enumerate (PyProof.Rows.callWith_type1 (thn (ha.run pos pins s σ H _ I h) fun us s1 ⟨vs, H1, I1, r1, q1⟩ => ?_) hs rfl))
  obtain ⟨a, xs, ex, hq, q⟩ := q1
  subst ex
  cases r1 with
  | cons r rr =>
    cases rr
    cases r
    obtain ⟨its, rv, p', hz⟩ := I1.tuple hq
    have hlt : a < s1.heap.objs.size := by obtain ⟨o, ho, _⟩ := id p'; exact Heap.lt_size ho
    refine call_enumerate_tuple p' fun h' he hit hsz hk => wpAny_pyIter_enum he ?_
    have I2 : Inv X pins σ H1 { s1 with heap := h' } := I1.kept (t' := s1.toks) hk
    refine ⟨s1.heap.objs.size + 1, [s1.heap.objs.size + 1, s1.heap.objs.size], _, _, H1, rfl, I2, turn_enumT a (s1.heap.objs.size + 1) s1.heap.objs.size, ⟨⟨.none, he⟩, hit, Nat.succ_ne_self _, hlt⟩, fun b hb => ?_, q⟩
    have e' : b = s1.heap.objs.size + 1 ∨ b = s1.heap.objs.size := by simpa using hb
    have hle : s1.heap.objs.size ≤ b := by
      rcases e' with z | z
      · rw [z]; exact Nat.le_add_right _ _
      · rw [z]; exact Nat.le_refl _
    exact I1.fpOk hle (I1.hok.fresh hle)
end L2

/-! rules -/
namespace L6
open PySem PySem.Spec PyProof.Rows L2 L5 RZ
section
variable {K : PySem.W.Frag} {H H' : Hp}
theorem take_more {α : Type} {l : List α} {i : Nat} {x : α} (h : l[i]? = some x) : l.take (i + 1) = l.take i ++ [x] := by
  rw [List.take_add_one, h]
  rfl
theorem lastPos_some {t : List Nat} : ∀ {n k : Nat}, lastPos t n = some k → k < n ∧ t.getD k 0 ≠ 0
  | 0, _, h => by cases h
  | n + 1, k, h => by
    unfold lastPos at h
    by_cases c : t.getD n 0 = 0
    · rw [if_pos c] at h
      have := lastPos_some h
      exact ⟨by omega, this.2⟩
    · rw [if_neg c] at h
      cases h
      exact ⟨Nat.lt_succ_self _, c⟩
theorem getD_at {t : List Nat} {i : Nat} (h : i < t.length) : t[i]? = some (t.getD i 0) := by
  rw [List.getD_eq_getElem?_getD, List.getElem?_eq_getElem h]
  rfl
theorem nv_take (t : List Nat) (k : Nat) : nv (t.take k) = (nv t).take k := List.map_take
theorem cut_to (xs : List V) (k : Nat) (h : k ≤ xs.length) : cutV xs none (some (k : Int)) = xs.take k := by
  unfold cutV
  rw [show HT.sIx xs.length xs.length (some (k : Int)) = min k xs.length from HT.sIx_nat xs.length xs.length k, HT.sIx_none, Nat.min_eq_left h]
  rfl
theorem rep_nv (k : Nat) : (List.replicate k [V.int 0]).flatten = nv (List.replicate k 0) := by
  induction k with
  | zero => rfl
  | succ k ih =>
    rw [List.replicate_succ, List.flatten_cons, ih, List.replicate_succ]
    rfl
/-! ### tuple rules whose answer is told alike in all cases -/
def rCatB (K : PySem.W.Frag) : R2 := fun x y H Q => ∃ a b xs ys, x = .ref a ∧ y = .ref b ∧ SqT K H a xs ∧ SqT K H b ys ∧ xs.length + ys.length ≤ sizeLine ∧ ∀ H' z, Same H H' → SqT K H' z (xs ++ ys) → Q (.ref z) H'
theorem op_catB {X : Cx} : OpR X (binaryOp .Add) (rCatB X.K) := by
  intro pins s σ H x y v u Q I rx ry h
  obtain ⟨a, b, xs, ys, rfl, rfl, hx, hy, hz, q⟩ := h
  refine op_catA pins s σ H _ _ v u Q I rx ry ⟨a, b, xs, ys, rfl, rfl, hx, hy, hz, fun e => ?_, fun _ e => ?_, fun _ _ p hp => q _ p (same_new hp _) (SqT.of upd_same)⟩
  · subst e
    exact q H b (Same.refl H) hy
  · subst e
    rw [List.append_nil] at q
    exact q H a (Same.refl H) hx
def rSlB (K : PySem.W.Frag) : V → Option Int → Option Int → Hp → VK → Prop := fun x lo hi H Q => ∃ a xs, x = .ref a ∧ SqT K H a xs ∧ ∀ H' z, Same H H' → SqT K H' z (cutV xs lo hi) → Q (.ref z) H'
theorem sl_tupB {X : Cx} : SlR X (rSlB X.K) := by
  intro pins s σ H x v vl vu lo hi sl Q I rx hs pl pu h
  obtain ⟨a, xs, rfl, hx, q⟩ := h
  refine sl_tupA pins s σ H _ v vl vu lo hi sl Q I rx hs pl pu ⟨a, xs, rfl, hx, fun e => ?_, fun _ p hp => q _ p (same_new hp _) (SqT.of upd_same)⟩
  have e2 : cutV xs lo hi = xs := by
    unfold cutV
    rw [e.1, e.2]
    exact List.take_length
  rw [e2] at q
  exact q H a (Same.refl H) hx
def rRepB (K : PySem.W.Frag) : R2 := fun x y H Q => ∃ l k xs, x = .ref l ∧ y = .int k ∧ SqT K H l xs ∧ xs ≠ [] ∧ -1000 ≤ k ∧ k ≤ 1000 ∧ xs.length ≤ 1000 ∧ ∀ H' z, Same H H' → SqT K H' z (List.replicate k.toNat xs).flatten → Q (.ref z) H'
theorem op_repB {X : Cx} : OpR X (binaryOp .Mult) (rRepB X.K) := by
  intro pins s σ H x y v u Q I rx ry h
  obtain ⟨l, k, xs, rfl, rfl, hx, hne, h1, h2, hz, q⟩ := h
  refine op_repA pins s σ H _ _ v u Q I rx ry ⟨l, k, xs, rfl, rfl, hx, hne, h1, h2, hz, fun e => ?_, fun _ p hp => q _ p (same_new hp _) (SqT.of upd_same)⟩
  subst e
  refine q H l (Same.refl H) ?_
  have e2 : (List.replicate (1 : Int).toNat xs).flatten = xs := by
    show (List.replicate 1 xs).flatten = xs
    simp
  rw [e2]
  exact hx
def Bar (p : Addr) (H H' : Hp) : Prop := ∀ b o, b ≠ p → H b = some o → H' b = some o
theorem Bar.trans {p : Addr} {A B C : Hp} (a : Bar p A B) (b : Bar p B C) : Bar p A C := fun c o n h => b c o n (a c o n h)
theorem Bar.same {p : Addr} {A B : Hp} (a : Same A B) : Bar p A B := fun c o _ h => a c o h
theorem Bar.upd {p : Addr} {A : Hp} {o : HO} : Bar p A (upd A p o) := fun c u n h => by
  rw [upd_ne n]
  exact h
theorem passG {X : Cx} : Passes (CX X.prog X.w) X E0 := fun _ _ _ _ _ _ _ c => by
  obtain ⟨_, _, _, _, _, _, _, _, _, _, _, _, no⟩ := c
  exact no.elim
theorem nostop : NoStop K E0 := fun _ _ _ no => no.elim
theorem ref_get {rs : List Addr} {i : Nat} {x : V} (h : (rs.map V.ref)[i]? = some x) : ∃ a, rs[i]? = some a ∧ x = .ref a := by
  rw [List.getElem?_map] at h
  cases e : rs[i]? with
  | none =>
    rw [e] at h
    cases h
  | some n =>
    rw [e] at h
    exact ⟨n, rfl, (Option.some.inj h).symm⟩

theorem PE.weak {X : Cx} {e : Expr} {t t' : TE} (h : PE X e t) (i : ∀ σ H Q, t' σ H Q → t σ H Q) : PE X e t' := ⟨fun pins s σ H Q I h' => h.run pins s σ H Q I (i σ H Q h')⟩
theorem PS.weak {X : Cx} {s : Stmt} {t t' : TS} (h : PS X s t) (i : ∀ D σ H, t' D σ H → t D σ H) : PS X s t' := ⟨fun pins s0 σ H D I h' => h.run pins s0 σ H D I (i D σ H h')⟩
theorem cut_from (xs : List V) (k : Nat) (h : k ≤ xs.length) : cutV xs (some (k : Int)) none = xs.drop k := by
  unfold cutV
  rw [show HT.sIx xs.length 0 (some (k : Int)) = min k xs.length from HT.sIx_nat xs.length 0 k, HT.sIx_none, Nat.min_eq_left h]
  exact List.take_of_length_le (by rw [List.length_drop]; exact Nat.le_refl _)
theorem nv_drop (t : List Nat) (k : Nat) : nv (t.drop k) = (nv t).drop k := List.map_drop
/-! ### math.comb -/
def rComb : List V → Hp → VK → Prop := fun vs H Q => ∃ a b : Nat, vs = [.int ((a : Nat) : Int), .int ((b : Nat) : Int)] ∧ a ≤ 1000000000 ∧ b ≤ 1000 ∧ Q (.int ((C a b : Nat) : Int)) H
theorem cr_comb {X : Cx} : CallR X (.builtin "math.comb") rComb := by
  intro pins s σ H vs us Q I r h
  obtain ⟨a, b, rfl, ha, hb, q⟩ := h
  obtain ⟨t, u, rfl⟩ := Vals.int2 r
  refine PySem.W.mc_comb (by omega) (by omega) (by omega) (.inl (by omega)) fun _ => ?_
  rw [comb_C]
  exact ⟨.int _, H, I.tok _, ⟨_, rfl⟩, q⟩

/-! ### t > u of two tuples of one length -/
abbrev iv (t : List Nat) : List Int := t.map fun n => ((n : Nat) : Int)
theorem iv_at (t : List Nat) (j : Nat) : (iv t).getD j 0 = ((t.getD j 0 : Nat) : Int) := by
  rw [List.getD_eq_getElem?_getD, List.getD_eq_getElem?_getD, List.getElem?_map]
  cases t[j]? <;> rfl
theorem lexAt_gt (t u : List Nat) (hl : t.length = u.length) : ∀ (k i : Nat), i + k = t.length →
    Ob.lexAt (fun j => decide ((iv t).getD j 0 = (iv u).getD j 0)) (fun j => decide ((iv u).getD j 0 < (iv t).getD j 0)) false i k = gtB (t.drop i) (u.drop i)
  | 0, i, h => by
    rw [Ob.lexAt_zero, List.drop_of_length_le (by omega)]
    unfold gtB
    rfl
  | k + 1, i, h => by
    have h1 : i < t.length := by omega
    have h2 : i < u.length := by omega
    have e1 : t.getD i 0 = t[i] := by rw [List.getD_eq_getElem?_getD, List.getElem?_eq_getElem h1]; rfl
    have e2 : u.getD i 0 = u[i] := by rw [List.getD_eq_getElem?_getD, List.getElem?_eq_getElem h2]; rfl
    rw [Ob.lexAt_succ, lexAt_gt t u hl k (i + 1) (by omega), List.drop_eq_getElem_cons h1, List.drop_eq_getElem_cons h2]
    show (if decide ((iv t).getD i 0 = (iv u).getD i 0) = true then _ else decide ((iv u).getD i 0 < (iv t).getD i 0)) = (if t[i] = u[i] then _ else decide (u[i] < t[i]))
    rw [iv_at, iv_at, e1, e2]
    by_cases c : t[i] = u[i]
    · rw [if_pos c, if_pos (decide_eq_true (by rw [c]))]
    · rw [if_neg c, if_neg (fun z => c (by have := of_decide_eq_true z; omega))]
      by_cases d : u[i] < t[i]
      · rw [decide_eq_true d, decide_eq_true (by omega)]
      · rw [decide_eq_false d, decide_eq_false (by omega)]
def rGtN (K : PySem.W.Frag) : R2 := fun x y H Q => ∃ (a b : Addr) (t u : List Nat), x = .ref a ∧ y = .ref b ∧ SqT K H a (nv t) ∧ SqT K H b (nv u) ∧ t.length = u.length ∧ Q (.bl (gtB t u)) H
theorem op_gtN {X : Cx} (hu : X.A.units < cLine) : OpR X (compareOp .Gt) (rGtN X.K) := by
  intro pins s σ H x y v w Q I rx ry h
  obtain ⟨a, b, t, u, rfl, rfl, ha, hb, hl, q⟩ := h
  cases rx
  cases ry
  rw [nv_ints] at ha hb
  obtain ⟨its, r1, p1, _⟩ := I.tuple ha
  obtain ⟨its2, r2, p2, _⟩ := I.tuple hb
  have i1 : IntsAre its (iv t) := Vals.ints r1
  have i2 : IntsAre its2 (iv u) := Vals.ints r2
  have e1 : its.toArray.size = t.length := by rw [List.size_toArray, i1.length, List.length_map]
  have e2 : its2.toArray.size = t.length := by rw [List.size_toArray, i2.length, List.length_map, hl]
  have at1 : ∀ j (h1 : j < its.toArray.size), ∃ k, its.toArray[j] = .int ((iv t).getD j 0) k := fun j h1 => PyProof.Rows.IntsAre.int_at i1 _ _ (by simp at h1; simp [h1])
  have at2 : ∀ j (h1 : j < its2.toArray.size), ∃ k, its2.toArray[j] = .int ((iv u).getD j 0) k := fun j h1 => PyProof.Rows.IntsAre.int_at i2 _ _ (by simp at h1; simp [h1])
  have R := Ob.RcOp.tuples_gt (A := X.A) (s := s) (e := fun j => decide ((iv t).getD j 0 = (iv u).getD j 0)) (r := fun j => decide ((iv u).getD j 0 < (iv t).getD j 0)) p1 p2 hu (fun j h1 h2 => by
    obtain ⟨k, et⟩ := at1 j h1
    obtain ⟨k', et'⟩ := at2 j h2
    rw [et, et']
    have z : ((iv t).getD j 0 == (iv u).getD j 0) = decide ((iv t).getD j 0 = (iv u).getD j 0) := by
      by_cases q : (iv t).getD j 0 = (iv u).getD j 0
      · rw [decide_eq_true q]; exact beq_iff_eq.mpr q
      · rw [decide_eq_false q]; exact beq_eq_false_iff_ne.mpr q
    rw [← z]
    exact SeqAt.EqAt.int_int _ _ _ _) (fun j h1 h2 _ => by
    obtain ⟨k, et⟩ := at1 j h1
    obtain ⟨k', et'⟩ := at2 j h2
    rw [et, et']
    exact Ob.RcOp.gt_int _ _ _ _)
  rw [e1, e2, Nat.min_self, decide_eq_false (Nat.lt_irrefl _), lexAt_gt t u hl t.length 0 (Nat.zero_add _), List.drop_zero, List.drop_zero] at R
  have z : wpAny (model X.prog X.w) X.A (compareOp .Gt (.ref a) (.ref b)) (EP X pins σ Q) X.xe s := R X.prog X.w X.xe (EP X pins σ Q) ⟨.bl _, H, I, rfl, q⟩
  exact z
/-! ### a for over enumerate of a tuple -/
theorem for_enumT {K : PySem.W.Frag} {a : Addr} {xs : List V} {g : TG} {tb : TS} {D : Ends} {σ : L2.St} {H : Hp} (Pv : Nat → L2.St → Hp → Prop) (h0 : Pv 0 σ H) (hl : ∀ i σ H, i ≤ xs.length → Pv i σ H → SqT K H a xs)
    (hs : ∀ i x T σ H, xs[i]? = some x → Pv i σ H → H T = none → g (.ref T) σ (upd H T (.tup [.int (i : Nat), x])) fun σ2 H2 => tb { D with nx := Pv (i + 1), ct := Pv (i + 1), bk := D.nx } σ2 H2) (hd : ∀ σ H, Pv xs.length σ H → D.nx σ H) :
    ∃ W : Nat → Nat → L2.St → Hp → Prop, (∃ m, W 0 m σ H) ∧ ∀ i m σ H, W i m σ H →
      ((IteT K a).stop i H ∧ D.nx σ H) ∨ ((IteT K a).go i H ∧ ∃ N : L2.St → Hp → Prop, (∀ σ' H', N σ' H' → ∃ m', m' < m ∧ W (i + 1) m' σ' H') ∧ ∀ x H', (IteT K a).yld i H x H' → g x σ H' fun σ2 H2 => tb { D with nx := N, ct := N, bk := D.nx } σ2 H2) := by
  refine ⟨fun i m σ H => m = xs.length - i ∧ i ≤ xs.length ∧ Pv i σ H, ⟨xs.length, by simp, Nat.zero_le _, h0⟩, ?_⟩
  rintro i m σ H ⟨rfl, hi, p⟩
  have q := hl i σ H hi p
  by_cases hlt : i < xs.length
  · refine .inr ⟨⟨xs, xs[i], q, by simp [hlt]⟩, Pv (i + 1), fun σ' H' p' => ⟨xs.length - (i + 1), by omega, rfl, hlt, p'⟩, fun x H' y => ?_⟩
    obtain ⟨T, x', rfl, free, rfl, fx⟩ := y
    exact hs i x' T σ H (fx xs q) p free
  · have e : i = xs.length := by omega
    subst e
    exact .inl ⟨⟨xs, q, Nat.le_refl _⟩, hd σ H p⟩
end
end L6

namespace L6
open PySem PySem.Spec PyProof.Rows L2 L5 RZ
/-! ### the text by places -/
def topS (i : Nat) : Stmt := PySem.Challenge.pw_pureladders_k16_whole_places_in_the_orde.main.body.getD i (.Pass ⟨0, 0, 0, 0⟩)
abbrev s_is_number : Stmt := topS 6
abbrev N_is_number : List Str := ["value"]
theorem sc_is_number : FnScope N_is_number ["value"] (defScope s_is_number) := ⟨rfl, rfl, rfl, by decide +kernel, rfl, by decide +kernel, by decide +kernel⟩
abbrev s_is_within : Stmt := topS 7
abbrev N_is_within : List Str := ["value", "least", "most"]
theorem sc_is_within : FnScope N_is_within ["value", "least", "most"] (defScope s_is_within) := ⟨rfl, rfl, rfl, by decide +kernel, rfl, by decide +kernel, by decide +kernel⟩
abbrev s_check_within : Stmt := topS 8
abbrev N_check_within : List Str := ["value", "least", "most"]
theorem sc_check_within : FnScope N_check_within ["value", "least", "most"] (defScope s_check_within) := ⟨rfl, rfl, rfl, by decide +kernel, rfl, by decide +kernel, by decide +kernel⟩
abbrev s_are_exponents : Stmt := topS 10
abbrev N_are_exponents : List Str := ["value", "letters", "most", "exponent"]
theorem sc_are_exponents : FnScope N_are_exponents ["value", "letters", "most"] (defScope s_are_exponents) := ⟨rfl, rfl, rfl, by decide +kernel, rfl, by decide +kernel, by decide +kernel⟩
abbrev s_check_product : Stmt := topS 15
abbrev N_check_product : List Str := ["value", "letters"]
theorem sc_check_product : FnScope N_check_product ["value", "letters"] (defScope s_check_product) := ⟨rfl, rfl, rfl, by decide +kernel, rfl, by decide +kernel, by decide +kernel⟩
abbrev s_check_any_product : Stmt := topS 16
abbrev N_check_any_product : List Str := ["value"]
theorem sc_check_any_product : FnScope N_check_any_product ["value"] (defScope s_check_any_product) := ⟨rfl, rfl, rfl, by decide +kernel, rfl, by decide +kernel, by decide +kernel⟩
abbrev s_all_products : Stmt := topS 17
abbrev N_all_products : List Str := ["letters", "degree", "product"]
theorem sc_all_products : GScope N_all_products ["letters", "degree"] (defScope s_all_products) := ⟨rfl, rfl, rfl, by decide +kernel, rfl, by decide +kernel, by decide +kernel⟩
abbrev s_following : Stmt := topS 18
abbrev N_following : List Str := ["product", "last", "at", "rest"]
theorem sc_following : FnScope N_following ["product"] (defScope s_following) := ⟨rfl, rfl, rfl, by decide +kernel, rfl, by decide +kernel, by decide +kernel⟩
abbrev s_choices : Stmt := topS 20
abbrev N_choices : List Str := ["top", "bottom"]
theorem sc_choices : FnScope N_choices ["top", "bottom"] (defScope s_choices) := ⟨rfl, rfl, rfl, by decide +kernel, rfl, by decide +kernel, by decide +kernel⟩
abbrev s_number_of_products : Stmt := topS 22
abbrev N_number_of_products : List Str := ["letters", "degree"]
theorem sc_number_of_products : FnScope N_number_of_products ["letters", "degree"] (defScope s_number_of_products) := ⟨rfl, rfl, rfl, by decide +kernel, rfl, by decide +kernel, by decide +kernel⟩
abbrev s_word_place : Stmt := topS 26
abbrev N_word_place : List Str := ["product", "ahead", "index", "exponent", "rest"]
theorem sc_word_place : FnScope N_word_place ["product"] (defScope s_word_place) := ⟨rfl, rfl, rfl, by decide +kernel, rfl, by decide +kernel, by decide +kernel⟩
abbrev s_product_at : Stmt := topS 27
abbrev N_product_at : List Str := ["letters", "degree", "place"]
theorem sc_product_at : FnScope N_product_at ["letters", "degree", "place"] (defScope s_product_at) := ⟨rfl, rfl, rfl, by decide +kernel, rfl, by decide +kernel, by decide +kernel⟩
abbrev s_told_product : Stmt := topS 28
abbrev N_told_product : List Str := ["letters", "degree", "place", "exponents", "behind", "exponent"]
theorem sc_told_product : FnScope N_told_product ["letters", "degree", "place"] (defScope s_told_product) := ⟨rfl, rfl, rfl, by decide +kernel, rfl, by decide +kernel, by decide +kernel⟩
abbrev s_first_products : Stmt := topS 29
abbrev N_first_products : List Str := ["letters", "degree", "many"]
theorem sc_first_products : FnScope N_first_products ["letters", "degree", "many"] (defScope s_first_products) := ⟨rfl, rfl, rfl, by decide +kernel, rfl, by decide +kernel, by decide +kernel⟩
abbrev s_products_from : Stmt := topS 30
abbrev N_products_from : List Str := ["letters", "degree", "place", "many", "found"]
theorem sc_products_from : FnScope N_products_from ["letters", "degree", "place", "many"] (defScope s_products_from) := ⟨rfl, rfl, rfl, by decide +kernel, rfl, by decide +kernel, by decide +kernel⟩
abbrev s_w_tub : Stmt := topS 32
abbrev N_w_tub : List Str := ["_law_script", "_law_spot", "_law_cell", "_law_great"]
theorem sc_w_tub : FnScope N_w_tub ["_law_script", "_law_spot"] (defScope s_w_tub) := ⟨rfl, rfl, rfl, by decide +kernel, rfl, by decide +kernel, by decide +kernel⟩
abbrev s_w_pour : Stmt := topS 33
abbrev N_w_pour : List Str := ["_law_tub_here", "_law_total", "_law_found", "_law_one", "_law_two"]
theorem sc_w_pour : FnScope N_w_pour ["_law_tub_here", "_law_total"] (defScope s_w_pour) := ⟨rfl, rfl, rfl, by decide +kernel, rfl, by decide +kernel, by decide +kernel⟩
abbrev s_w_choice : Stmt := topS 34
abbrev N_w_choice : List Str := ["_law_tub_here", "_law_items"]
theorem sc_w_choice : FnScope N_w_choice ["_law_tub_here", "_law_items"] (defScope s_w_choice) := ⟨rfl, rfl, rfl, by decide +kernel, rfl, by decide +kernel, by decide +kernel⟩
abbrev s_w_binomial : Stmt := topS 35
abbrev N_w_binomial : List Str := ["_law_top", "_law_bottom", "_law_found", "_law_turn"]
theorem sc_w_binomial : FnScope N_w_binomial ["_law_top", "_law_bottom"] (defScope s_w_binomial) := ⟨rfl, rfl, rfl, by decide +kernel, rfl, by decide +kernel, by decide +kernel⟩
abbrev s_w_many : Stmt := topS 36
abbrev N_w_many : List Str := ["_law_letters", "_law_degree"]
theorem sc_w_many : FnScope N_w_many ["_law_letters", "_law_degree"] (defScope s_w_many) := ⟨rfl, rfl, rfl, by decide +kernel, rfl, by decide +kernel, by decide +kernel⟩
abbrev s_w_listed : Stmt := topS 37
abbrev N_w_listed : List Str := ["_law_letters", "_law_degree", "_law_found", "_law_place_here", "_law_longer", "_law_row", "_law_left", "_law_less"]
theorem sc_w_listed : FnScope N_w_listed ["_law_letters", "_law_degree"] (defScope s_w_listed) := ⟨rfl, rfl, rfl, by decide +kernel, rfl, by decide +kernel, by decide +kernel⟩
abbrev s_w_place : Stmt := topS 38
abbrev N_w_place : List Str := ["_law_product_here", "_law_left", "_law_found", "_law_letters", "_law_at", "_law_behind"]
theorem sc_w_place : FnScope N_w_place ["_law_product_here"] (defScope s_w_place) := ⟨rfl, rfl, rfl, by decide +kernel, rfl, by decide +kernel, by decide +kernel⟩
abbrev s_w_product : Stmt := topS 39
abbrev N_w_product : List Str := ["_law_tub_here", "_law_letters", "_law_most", "_law_left", "_law_found", "_law_at"]
theorem sc_w_product : FnScope N_w_product ["_law_tub_here", "_law_letters", "_law_most"] (defScope s_w_product) := ⟨rfl, rfl, rfl, by decide +kernel, rfl, by decide +kernel, by decide +kernel⟩
abbrev s_w_great_right : Stmt := topS 40
abbrev N_w_great_right : List Str := ["_law_tub_here", "_law_letters", "_law_product_here", "_law_degree", "_law_place_here", "_law_total", "_law_drawn", "_law_other", "_law_ends"]
theorem sc_w_great_right : FnScope N_w_great_right ["_law_tub_here"] (defScope s_w_great_right) := ⟨rfl, rfl, rfl, by decide +kernel, rfl, by decide +kernel, by decide +kernel⟩
abbrev s_w_listed_right : Stmt := topS 41
abbrev N_w_listed_right : List Str := ["_law_tub_here", "_law_letters", "_law_degree", "_law_rows", "_law_many_here", "_law_at"]
theorem sc_w_listed_right : FnScope N_w_listed_right ["_law_tub_here"] (defScope s_w_listed_right) := ⟨rfl, rfl, rfl, by decide +kernel, rfl, by decide +kernel, by decide +kernel⟩
abbrev s_law : Stmt := topS 42
abbrev N_law : List Str := ["_law_script", "_law_spot", "_law_tub_here", "_law_turn", "_law_told"]
theorem sc_law : FnScope N_law ["_law_script"] (defScope s_law) := ⟨rfl, rfl, rfl, by decide +kernel, rfl, by decide +kernel, by decide +kernel⟩
/-! ### what the top has written -/
structure Txt (K : PySem.W.Frag) (mg : Str → Option Value) where
  a_is_number : Addr
  d_is_number : FuncData
  F_is_number : Fun K "is_number" "is_number" s_is_number a_is_number d_is_number
  b_is_number : Binds K d_is_number ["value"] []
  m_is_number : mg "is_number" = some (.ref a_is_number)
  a_is_within : Addr
  d_is_within : FuncData
  F_is_within : Fun K "is_within" "is_within" s_is_within a_is_within d_is_within
  b_is_within : Binds K d_is_within ["value", "least", "most"] []
  m_is_within : mg "is_within" = some (.ref a_is_within)
  a_check_within : Addr
  d_check_within : FuncData
  F_check_within : Fun K "check_within" "check_within" s_check_within a_check_within d_check_within
  b_check_within : Binds K d_check_within ["value", "least", "most"] []
  m_check_within : mg "check_within" = some (.ref a_check_within)
  a_are_exponents : Addr
  d_are_exponents : FuncData
  F_are_exponents : Fun K "are_exponents" "are_exponents" s_are_exponents a_are_exponents d_are_exponents
  b_are_exponents : Binds K d_are_exponents ["value", "letters", "most"] []
  m_are_exponents : mg "are_exponents" = some (.ref a_are_exponents)
  a_check_product : Addr
  d_check_product : FuncData
  F_check_product : Fun K "check_product" "check_product" s_check_product a_check_product d_check_product
  b_check_product : Binds K d_check_product ["value", "letters"] []
  m_check_product : mg "check_product" = some (.ref a_check_product)
  a_check_any_product : Addr
  d_check_any_product : FuncData
  F_check_any_product : Fun K "check_any_product" "check_any_product" s_check_any_product a_check_any_product d_check_any_product
  b_check_any_product : Binds K d_check_any_product ["value"] []
  m_check_any_product : mg "check_any_product" = some (.ref a_check_any_product)
  a_all_products : Addr
  d_all_products : FuncData
  F_all_products : Fun K "all_products" "all_products" s_all_products a_all_products d_all_products
  b_all_products : Binds K d_all_products ["letters", "degree"] []
  m_all_products : mg "all_products" = some (.ref a_all_products)
  a_following : Addr
  d_following : FuncData
  F_following : Fun K "following" "following" s_following a_following d_following
  b_following : Binds K d_following ["product"] []
  m_following : mg "following" = some (.ref a_following)
  a_choices : Addr
  d_choices : FuncData
  F_choices : Fun K "choices" "choices" s_choices a_choices d_choices
  b_choices : Binds K d_choices ["top", "bottom"] []
  m_choices : mg "choices" = some (.ref a_choices)
  a_number_of_products : Addr
  d_number_of_products : FuncData
  F_number_of_products : Fun K "number_of_products" "number_of_products" s_number_of_products a_number_of_products d_number_of_products
  b_number_of_products : Binds K d_number_of_products ["letters", "degree"] []
  m_number_of_products : mg "number_of_products" = some (.ref a_number_of_products)
  a_word_place : Addr
  d_word_place : FuncData
  F_word_place : Fun K "word_place" "word_place" s_word_place a_word_place d_word_place
  b_word_place : Binds K d_word_place ["product"] []
  m_word_place : mg "word_place" = some (.ref a_word_place)
  a_product_at : Addr
  d_product_at : FuncData
  F_product_at : Fun K "product_at" "product_at" s_product_at a_product_at d_product_at
  b_product_at : Binds K d_product_at ["letters", "degree", "place"] []
  m_product_at : mg "product_at" = some (.ref a_product_at)
  a_told_product : Addr
  d_told_product : FuncData
  F_told_product : Fun K "told_product" "told_product" s_told_product a_told_product d_told_product
  b_told_product : Binds K d_told_product ["letters", "degree", "place"] []
  m_told_product : mg "told_product" = some (.ref a_told_product)
  a_first_products : Addr
  d_first_products : FuncData
  F_first_products : Fun K "first_products" "first_products" s_first_products a_first_products d_first_products
  b_first_products : Binds K d_first_products ["letters", "degree", "many"] []
  m_first_products : mg "first_products" = some (.ref a_first_products)
  a_products_from : Addr
  d_products_from : FuncData
  F_products_from : Fun K "products_from" "products_from" s_products_from a_products_from d_products_from
  b_products_from : Binds K d_products_from ["letters", "degree", "place", "many"] []
  m_products_from : mg "products_from" = some (.ref a_products_from)
  a_w_tub : Addr
  d_w_tub : FuncData
  F_w_tub : Fun K "_law_tub" "_law_tub" s_w_tub a_w_tub d_w_tub
  b_w_tub : Binds K d_w_tub ["_law_script", "_law_spot"] []
  m_w_tub : mg "_law_tub" = some (.ref a_w_tub)
  a_w_pour : Addr
  d_w_pour : FuncData
  F_w_pour : Fun K "_law_pour" "_law_pour" s_w_pour a_w_pour d_w_pour
  b_w_pour : Binds K d_w_pour ["_law_tub_here", "_law_total"] []
  m_w_pour : mg "_law_pour" = some (.ref a_w_pour)
  a_w_choice : Addr
  d_w_choice : FuncData
  F_w_choice : Fun K "_law_choice" "_law_choice" s_w_choice a_w_choice d_w_choice
  b_w_choice : Binds K d_w_choice ["_law_tub_here", "_law_items"] []
  m_w_choice : mg "_law_choice" = some (.ref a_w_choice)
  a_w_binomial : Addr
  d_w_binomial : FuncData
  F_w_binomial : Fun K "_law_binomial" "_law_binomial" s_w_binomial a_w_binomial d_w_binomial
  b_w_binomial : Binds K d_w_binomial ["_law_top", "_law_bottom"] []
  m_w_binomial : mg "_law_binomial" = some (.ref a_w_binomial)
  a_w_many : Addr
  d_w_many : FuncData
  F_w_many : Fun K "_law_many" "_law_many" s_w_many a_w_many d_w_many
  b_w_many : Binds K d_w_many ["_law_letters", "_law_degree"] []
  m_w_many : mg "_law_many" = some (.ref a_w_many)
  a_w_listed : Addr
  d_w_listed : FuncData
  F_w_listed : Fun K "_law_listed" "_law_listed" s_w_listed a_w_listed d_w_listed
  b_w_listed : Binds K d_w_listed ["_law_letters", "_law_degree"] []
  m_w_listed : mg "_law_listed" = some (.ref a_w_listed)
  a_w_place : Addr
  d_w_place : FuncData
  F_w_place : Fun K "_law_place" "_law_place" s_w_place a_w_place d_w_place
  b_w_place : Binds K d_w_place ["_law_product_here"] []
  m_w_place : mg "_law_place" = some (.ref a_w_place)
  a_w_product : Addr
  d_w_product : FuncData
  F_w_product : Fun K "_law_product" "_law_product" s_w_product a_w_product d_w_product
  b_w_product : Binds K d_w_product ["_law_tub_here", "_law_letters", "_law_most"] []
  m_w_product : mg "_law_product" = some (.ref a_w_product)
  a_w_great_right : Addr
  d_w_great_right : FuncData
  F_w_great_right : Fun K "_law_great_right" "_law_great_right" s_w_great_right a_w_great_right d_w_great_right
  b_w_great_right : Binds K d_w_great_right ["_law_tub_here"] []
  m_w_great_right : mg "_law_great_right" = some (.ref a_w_great_right)
  a_w_listed_right : Addr
  d_w_listed_right : FuncData
  F_w_listed_right : Fun K "_law_listed_right" "_law_listed_right" s_w_listed_right a_w_listed_right d_w_listed_right
  b_w_listed_right : Binds K d_w_listed_right ["_law_tub_here"] []
  m_w_listed_right : mg "_law_listed_right" = some (.ref a_w_listed_right)
  a_law : Addr
  d_law : FuncData
  F_law : Fun K "law" "law" s_law a_law d_law
  b_law : Binds K d_law ["_law_script"] []
  m_law : mg "law" = some (.ref a_law)
  z_isinstance : mg "isinstance" = none
  z_int : mg "int" = none
  z_bool : mg "bool" = none
  z_tuple : mg "tuple" = none
  z_len : mg "len" = none
  z_all : mg "all" = none
  z_comb : mg "comb" = some (.builtin "math.comb")
  z_enumerate : mg "enumerate" = none
  z_sum : mg "sum" = none
  z_reversed : mg "reversed" = none
  z_range : mg "range" = none
  z_min : mg "min" = none
  z_abs : mg "abs" = none
  z_max : mg "max" = none
  z_list : mg "list" = none
  t_MAX_LETTERS : Nat
  c_MAX_LETTERS : mg "MAX_LETTERS" = some (.int 8 t_MAX_LETTERS)
  t_MAX_EXPONENT : Nat
  c_MAX_EXPONENT : mg "MAX_EXPONENT" = some (.int 60 t_MAX_EXPONENT)
  t_MAX_LISTED_DEGREE : Nat
  c_MAX_LISTED_DEGREE : mg "MAX_LISTED_DEGREE" = some (.int 12 t_MAX_LISTED_DEGREE)
  t_MAX_DEGREE : Nat
  c_MAX_DEGREE : mg "MAX_DEGREE" = some (.int 60 t_MAX_DEGREE)
  t_MAX_TOLD : Nat
  c_MAX_TOLD : mg "MAX_TOLD" = some (.int 1000 t_MAX_TOLD)
end L6

namespace L6
open PySem PySem.Spec PyProof.Rows L2 L5 RZ
section
variable {P : Program} {w : World} {K : PySem.W.Frag} {mg : Str → Option Value} {base : Heap}
def sp_num : Sp := fun vs H Q _ => ∃ i : Int, vs = [.int i] ∧ Q (.bl true) H
theorem ok_num (T : Txt K mg) : FnOk P w K mg base CX0 1 T.a_is_number T.d_is_number ["value"] sp_num := by
  refine T.F_is_number.ok sc_is_number (fun vs H Q E h => ?_) (fun cdv A outer s H vs Q E hr h => ?_)
  · obtain ⟨i, rfl, _⟩ := h
    rfl
  · obtain ⟨i, rfl, q⟩ := h
    refine ⟨_, pss_one (ps_ret (pe_and (pe_callB call_isi (by rfl) T.z_isinstance boot_isinstance (pa_cons (pv 0) (pa_cons (pe_bltn (v := .ty "int") (by rfl) T.z_int boot_int rfl) pa_nil)))
      (pe_one (pe_not (pe_callB call_isi (by rfl) T.z_isinstance boot_isinstance (pa_cons (pv 0) (pa_cons (pe_bltn (v := .ty "bool") (by rfl) T.z_bool boot_bool rfl) pa_nil))))))), ?_⟩
    refine ⟨_, rfl, _, _, _, _, true, rfl, .ty _, .base (.int i), kit_ty (by decide +kernel), true, rfl, iteT ?_⟩
    exact ⟨_, rfl, _, _, _, _, false, rfl, .ty _, .base (.int i), kit_ty (by decide +kernel), false, rfl, q⟩
def sp_within : Sp := fun vs H Q _ => ∃ i a b : Int, vs = [.int i, .int a, .int b] ∧ Q (.bl (decide (a ≤ i) && decide (i ≤ b))) H
theorem ok_within (T : Txt K mg) : FnOk P w K mg base CX0 2 T.a_is_within T.d_is_within ["value", "least", "most"] sp_within := by
  refine T.F_is_within.ok sc_is_within (fun vs H Q E h => ?_) (fun cdv A outer s H vs Q E hr h => ?_)
  · obtain ⟨i, a, b, rfl, _⟩ := h
    rfl
  · obtain ⟨i, a, b, rfl, q⟩ := h
    refine ⟨_, pss_one (ps_ret (pe_and (pe_call (ok_num T) hr (by rfl) T.m_is_number T.F_is_number.kp T.b_is_number .nil pass0 (pa_cons (pv 0) pa_nil)) (pe_one (pe_chain op_le op_le (pv 1) (pv 0) (pv 2))))), ?_⟩
    refine ⟨_, rfl, i, rfl, true, rfl, iteT ?_⟩
    refine ⟨_, rfl, _, rfl, _, _, rfl, rfl, _, rfl, ite2 (fun c => ?_) (fun c => ?_)⟩
    · refine ⟨_, rfl, _, _, rfl, rfl, ?_⟩
      rw [c] at q
      exact q
    · rw [Bool.eq_false_iff.mpr c] at q
      exact q
def sp_checkw : Sp := fun vs H Q _ => ∃ i a b : Int, vs = [.int i, .int a, .int b] ∧ a ≤ i ∧ i ≤ b ∧ Q .non H
theorem ok_checkw (T : Txt K mg) : FnOk P w K mg base CX0 3 T.a_check_within T.d_check_within ["value", "least", "most"] sp_checkw := by
  refine T.F_check_within.ok sc_check_within (fun vs H Q E h => ?_) (fun cdv A outer s H vs Q E hr h => ?_)
  · obtain ⟨i, a, b, rfl, _⟩ := h
    rfl
  · obtain ⟨i, a, b, rfl, h1, h2, q⟩ := h
    refine ⟨_, pss_one (ps_if (pt_not (pt_val (pe_call (ok_within T) hr (by rfl) T.m_is_within T.F_is_within.kp T.b_is_within .nil pass0 (pa_cons (pv 0) (pa_cons (pv 1) (pa_cons (pv 2) pa_nil)))))) (pss_one ps_never) pss_nil), ?_⟩
    refine ⟨_, rfl, _, rfl, _, rfl, i, a, b, rfl, true, ?_, iteF q⟩
    rw [decide_eq_true h1, decide_eq_true h2]
    rfl
/-! ### are_exponents, of tuples that are products -/
def sp_are (K : PySem.W.Frag) : Sp := fun vs H Q _ => ∃ (p : Addr) (t : List Nat) (m : Int), vs = [.ref p, .int ((t.length : Nat) : Int), .int m] ∧ SqT K H p (nv t) ∧ t.length ≤ 1000 ∧ (∀ e ∈ t, ((e : Nat) : Int) ≤ m) ∧ ∀ H', Same H H' → Q (.bl true) H'
theorem ok_are (T : Txt K mg) : FnOk P w K mg base CX0 3 T.a_are_exponents T.d_are_exponents ["value", "letters", "most"] (sp_are K) := by
  refine T.F_are_exponents.ok sc_are_exponents (fun vs H Q E h => ?_) (fun cdv A outer s H vs Q E hr h => ?_)
  · obtain ⟨p, t, m, rfl, _⟩ := h
    rfl
  · obtain ⟨p, t, m, rfl, hT, hz, hm, q⟩ := h
    refine ⟨_, pss_cons (ps_if (PW.pt (pw_or (pt_not (pt_val (pe_callB call_isi (by rfl) T.z_isinstance boot_isinstance (pa_cons (pv 0) (pa_cons (pe_bltn (v := .ty "tuple") (by rfl) T.z_tuple boot_tuple rfl) pa_nil)))))
        (pw_or1 (pt_cmpR op_ne (pe_callB call_len_seq (by rfl) T.z_len boot_len (pa_cons (pv 0) pa_nil)) (pv 1) (nomark _))))) (pss_one (ps_ret pe_bl)) pss_nil)
      (pss_one (ps_ret (pe_callB (cr_all rfl) (by rfl) T.z_all (by decide +kernel) (pa_cons
        (pe_lc (own := [("exponent", 3)]) (g := gName 3) (tt := tYes) rfl sc_are_exponents.nd (pi_tup (pv 0)) (blkOk_by (own := [("exponent", 3)]) (N := N_are_exponents) (sc := defScope s_are_exponents) (by decide +kernel))
          (fun _ _ _ _ _ => pg_name (i := 3) sc_are_exponents.nd rfl (Or.inl rfl)) (fun _ _ _ _ _ => pts_nil)
          (fun _ _ _ _ _ => pe_call (ok_within T) hr (by rfl) T.m_is_within T.F_is_within.kp T.b_is_within .nil pass0 (pa_cons (pv 3) (pa_cons pe_int (pa_cons (pv 2) pa_nil))))) pa_nil)))), ?_⟩
    refine ⟨_, rfl, _, _, _, _, true, rfl, .ty _, sqt_ty hT, kit_ty (by decide +kernel), true, rfl, ?_⟩
    refine iteF ⟨_, rfl, p, _, rfl, .inr hT, _, rfl, ?_⟩
    have e1 : (!decide (V.int (((nv t).length : Nat) : Int) = V.int ((t.length : Nat) : Int))) = false := by
      rw [nv_len, decide_eq_true rfl]
      rfl
    refine ⟨rfl, _, rfl, ?_⟩
    rw [e1]
    refine iteF ?_
    refine ⟨_, rfl, p, rfl, ⟨_, hT⟩, fun D hD => ?_⟩
    have s1 : Same H (upd H D (.lst [])) := same_new hD _
    refine lc_tup (K := K) (a := p) (xs := nv t) (fun i H' => Same H H' ∧ H' D = some (.lst ((List.replicate i true).map V.bl))) ⟨s1, upd_same⟩ (fun i H' _ h => same_sqt h.1 hT) (fun i x H' hi h => ?_) (fun H' h => ?_)
    · obtain ⟨sm, eD⟩ := h
      obtain ⟨n, hn, rfl⟩ := nv_get hi
      have hle : ((n : Nat) : Int) ≤ m := hm n (List.mem_of_getElem? hn)
      have hb : (decide ((0 : Int) ≤ ((n : Nat) : Int)) && decide (((n : Nat) : Int) ≤ m)) = true := by
        rw [decide_eq_true hle, decide_eq_true (Int.natCast_nonneg n)]
        rfl
      have hlt : i < t.length := (List.getElem?_eq_some_iff.mp hn).1
      refine ⟨rfl, _, rfl, _, rfl, _, _, _, rfl, ?_⟩
      rw [hb]
      refine ⟨_, eD, by rw [List.length_map, List.length_replicate]; exact sizeK (by omega), same_updL sm hD, ?_⟩
      rw [upd_same, List.replicate_succ', List.map_append]
      rfl
    · obtain ⟨sm, eD⟩ := h
      refine ⟨D, _, rfl, SqL.of eD, ?_⟩
      rw [show (List.replicate (nv t).length true).all id = true by rw [List.all_replicate]; simp]
      exact q H' sm
/-! ### check_product, check_any_product, check_both, degree_of, is_product -/
def Prod60 (t : List Nat) : Prop := 1 ≤ t.length ∧ t.length ≤ 8 ∧ ∀ e ∈ t, e ≤ 60
theorem Prod60.i {t : List Nat} (h : Prod60 t) : ∀ e ∈ t, ((e : Nat) : Int) ≤ 60 := fun e he => by
  have := h.2.2 e he
  omega
def sp_checkp (K : PySem.W.Frag) : Sp := fun vs H Q _ => ∃ (p : Addr) (t : List Nat), vs = [.ref p, .int ((t.length : Nat) : Int)] ∧ SqT K H p (nv t) ∧ Prod60 t ∧ ∀ H', Same H H' → Q .non H'
theorem ok_checkp (T : Txt K mg) : FnOk P w K mg base CX0 4 T.a_check_product T.d_check_product ["value", "letters"] (sp_checkp K) := by
  refine T.F_check_product.ok sc_check_product (fun vs H Q E h => ?_) (fun cdv A outer s H vs Q E hr h => ?_)
  · obtain ⟨p, t, rfl, _⟩ := h
    rfl
  · obtain ⟨p, t, rfl, hT, hp, q⟩ := h
    refine ⟨_, pss_one (ps_if (pt_not (pt_val (pe_call (ok_are T) hr (by rfl) T.m_are_exponents T.F_are_exponents.kp T.b_are_exponents .nil pass0 (pa_cons (pv 0) (pa_cons (pv 1) (pa_cons (pe_glob (v := .int 60) rfl T.c_MAX_EXPONENT ⟨_, rfl⟩) pa_nil)))))) (pss_one ps_never) pss_nil), ?_⟩
    have h8 := hp.2.1
    exact ⟨_, rfl, _, rfl, p, t, 60, rfl, hT, by omega, hp.i, fun H' sm => ⟨true, rfl, iteF (q H' sm)⟩⟩
def sp_any (K : PySem.W.Frag) : Sp := fun vs H Q _ => ∃ (p : Addr) (t : List Nat), vs = [.ref p] ∧ SqT K H p (nv t) ∧ Prod60 t ∧ ∀ H', Same H H' → Q .non H'
theorem ok_any (T : Txt K mg) : FnOk P w K mg base CX0 5 T.a_check_any_product T.d_check_any_product ["value"] (sp_any K) := by
  refine T.F_check_any_product.ok sc_check_any_product (fun vs H Q E h => ?_) (fun cdv A outer s H vs Q E hr h => ?_)
  · obtain ⟨p, t, rfl, _⟩ := h
    rfl
  · obtain ⟨p, t, rfl, hT, hp, q⟩ := h
    refine ⟨_, pss_cons (ps_if (PW.pt (pw_or (pt_not (pt_val (pe_callB call_isi (by rfl) T.z_isinstance boot_isinstance (pa_cons (pv 0) (pa_cons (pe_bltn (v := .ty "tuple") (by rfl) T.z_tuple boot_tuple rfl) pa_nil)))))
        (pw_or1 (pt_not (pt_chain op_le op_le pe_int (pe_callB call_len_seq (by rfl) T.z_len boot_len (pa_cons (pv 0) pa_nil)) (pe_glob (v := .int 8) rfl T.c_MAX_LETTERS ⟨_, rfl⟩)))))) (pss_one ps_never) pss_nil)
      (pss_one (ps_expr (pe_call (ok_checkp T) hr (by rfl) T.m_check_product T.F_check_product.kp T.b_check_product .nil pass0 (pa_cons (pv 0) (pa_cons (pe_callB call_len_seq (by rfl) T.z_len boot_len (pa_cons (pv 0) pa_nil)) pa_nil))))), ?_⟩
    have h1 := hp.1
    have h8 := hp.2.1
    refine ⟨_, rfl, _, _, _, _, true, rfl, .ty _, sqt_ty hT, kit_ty (by decide +kernel), true, rfl, ?_⟩
    refine iteF ⟨_, rfl, p, _, rfl, .inr hT, _, _, rfl, rfl, _, rfl, ?_⟩
    have c1 : decide ((1 : Int) ≤ (((nv t).length : Nat) : Int)) = true := decide_eq_true (by rw [nv_len]; omega)
    have c2 : decide ((((nv t).length : Nat) : Int) ≤ (8 : Int)) = true := decide_eq_true (by rw [nv_len]; omega)
    rw [c1]
    refine iteT ⟨_, _, rfl, rfl, true, ?_, ?_⟩
    · exact congrArg V.bl c2
    · refine iteF ⟨_, rfl, _, rfl, p, _, rfl, .inr hT, p, t, ?_, hT, hp, q⟩
      rw [nv_len]
      rfl
end
end L6

namespace L6
open PySem PySem.Spec PyProof.Rows L2 L5 RZ
section
variable {P : Program} {w : World} {K : PySem.W.Frag} {mg : Str → Option Value} {base : Heap}
def sp_fol (K : PySem.W.Frag) : Sp := fun vs H Q _ => ∃ (p : Addr) (t : List Nat), vs = [.ref p] ∧ SqT K H p (nv t) ∧ Prod60 t ∧ (lastPos t (t.length - 1) = none → ∀ H', Same H H' → Q .non H') ∧
  ∀ k, lastPos t (t.length - 1) = some k → ∀ H' z, Same H H' → SqT K H' z (nv (nextAt t k)) → Q (.ref z) H'
theorem ok_fol (T : Txt K mg) : FnOk P w K mg base CX0 1 T.a_following T.d_following ["product"] (sp_fol K) := by
  refine T.F_following.ok sc_following (fun vs H Q E h => ?_) (fun cdv A outer s H vs Q E hr h => ?_)
  · obtain ⟨p, t, rfl, _⟩ := h
    rfl
  · obtain ⟨p, t, rfl, hT, hp, q0, q1⟩ := h
    refine ⟨_, pss_cons (ps_set (i := 1) sc_following.nd rfl (Or.inl rfl) (pe_op op_sub (pe_callB call_len_seq (by rfl) T.z_len boot_len (pa_cons (pv 0) pa_nil)) pe_int))
      (pss_cons (ps_set (i := 2) sc_following.nd rfl (Or.inl rfl) (pe_op op_sub (pv 1) pe_int))
      (pss_cons (ps_while PassesOwn.never (PW.pt (pw_and (pt_cmpR op_ge (pv 2) pe_int (nomark _)) (pw_and1 (pt_cmpR op_eq (pe_ix ix_tup (pv 0) (pv 2) (fun _ _ => rfl)) pe_int (nomark _))))) (pss_one (ps_aug (i := 2) sc_following.nd rfl (Or.inl rfl) pe_int ip_sub)))
      (pss_cons (ps_if (pt_cmpR op_lt (pv 2) pe_int (nomark _)) (pss_one (ps_ret pe_non)) pss_nil)
      (pss_cons (ps_set (i := 3) sc_following.nd rfl (Or.inl rfl) (pe_op op_add (pe_ix ix_tup (pv 0) (pv 1) (fun _ _ => rfl)) pe_int))
      (pss_one (ps_ret (pe_op op_catB (pe_op op_catB (pe_slice sl_tupB (pv 0) po_none (po_some (pv 2))) (pe_tup (pa_cons (pe_op op_sub (pe_ix ix_tup (pv 0) (pv 2) (fun _ _ => rfl)) pe_int) (pa_cons (pv 3) pa_nil))))
        (pe_op op_repB (pe_tup (pa_cons pe_int pa_nil)) (pe_op op_sub (pe_op op_sub (pv 1) (pv 2)) pe_int))))))))), ?_⟩
    have h1 := hp.1
    have h8 := hp.2.1
    refine ⟨_, rfl, p, _, rfl, .inr hT, _, _, rfl, rfl, ?_⟩
    rw [nv_len]
    refine ⟨_, rfl, _, _, rfl, rfl, ?_⟩
    refine ⟨fun m σ H' => H' = H ∧ m ≤ t.length - 1 ∧ lastPos t (t.length - 1) = lastPos t m ∧ σ = [some (.ref p), some (.int ((t.length : Nat) - 1)), some (.int ((m : Nat) - 1)), none], ⟨t.length - 1, rfl, Nat.le_refl _, rfl, ?_⟩, ?_⟩
    · have e1 : ((t.length : Nat) : Int) - 1 - 1 = ((t.length - 1 : Nat) : Int) - 1 := by omega
      show [some (V.ref p), some (V.int ((t.length : Nat) - 1)), some (V.int ((t.length : Nat) - 1 - 1)), none] = _
      rw [e1]
    · rintro m σ H' ⟨rfl, hm, hl, rfl⟩
      have hlast : atI (nv t) (((t.length : Nat) : Int) - 1) = some (.int ((t.getD (t.length - 1) 0 : Nat) : Int)) := by
        rw [show ((t.length : Nat) : Int) - 1 = ((t.length - 1 : Nat) : Int) by omega]
        exact nv_at (getD_at (by omega))
      refine ⟨_, rfl, _, _, rfl, rfl, _, rfl, ite2 (fun c => ?_) (fun c => ?_)⟩
      · have c' := of_decide_eq_true c
        have hat : atI (nv t) (((m : Nat) : Int) - 1) = some (.int ((t.getD (m - 1) 0 : Nat) : Int)) := by
          rw [show ((m : Nat) : Int) - 1 = ((m - 1 : Nat) : Int) by omega]
          exact nv_at (getD_at (by omega))
        have hstep : lastPos t m = if t.getD (m - 1) 0 = 0 then lastPos t (m - 1) else some (m - 1) := by
          obtain ⟨k, rfl⟩ : ∃ k, m = k + 1 := ⟨m - 1, by omega⟩
          rfl
        refine ⟨_, rfl, _, rfl, p, _, _, _, rfl, rfl, hT, hat, rfl, _, rfl, ite2 (fun d => ?_) (fun d => ?_)⟩
        · have d' : t.getD (m - 1) 0 = 0 := by
            have := V.int.inj (of_decide_eq_true d)
            omega
          refine ⟨fun σ' H'' => H'' = H' ∧ m - 1 ≤ t.length - 1 ∧ lastPos t (t.length - 1) = lastPos t (m - 1) ∧ σ' = [some (.ref p), some (.int ((t.length : Nat) - 1)), some (.int ((m - 1 : Nat) - 1)), none], fun σ' H'' h => ⟨m - 1, by omega, h⟩, ?_⟩
          refine ⟨_, rfl, _, _, rfl, rfl, rfl, by omega, by rw [hl, hstep, if_pos d'], ?_⟩
          have e1 : ((m : Nat) : Int) - 1 - 1 = ((m - 1 : Nat) : Int) - 1 := by omega
          show [some (V.ref p), some (V.int ((t.length : Nat) - 1)), some (V.int ((m : Nat) - 1 - 1)), none] = _
          rw [e1]
        · have d' : t.getD (m - 1) 0 ≠ 0 := fun z => d (decide_eq_true (by rw [z]; rfl))
          rw [if_neg d'] at hstep
          refine ⟨_, rfl, _, _, rfl, rfl, _, rfl, ite2 (fun z => ?_) (fun _ => ?_)⟩
          · have := of_decide_eq_true z
            omega
          · refine ⟨_, rfl, _, rfl, p, _, _, _, rfl, rfl, hT, hlast, _, _, rfl, rfl, ?_⟩
            refine ⟨_, rfl, _, rfl, _, rfl, p, _, rfl, hT, fun H1 z1 s1 hz1 => ?_⟩
            refine ⟨_, rfl, _, rfl, p, _, _, _, rfl, rfl, same_sqt s1 hT, hat, _, _, rfl, rfl, _, rfl, (by show 2 ≤ sizeLine; decide), fun z2 hz2 => ?_⟩
            have s2 := same_new hz2 (.tup [V.int (((t.getD (m - 1) 0 : Nat) : Int) - 1), V.int (((t.getD (t.length - 1) 0 : Nat) : Int) + 1)])
            have ek : cutV (nv t) none (some (((m : Nat) : Int) - 1)) = nv (t.take (m - 1)) := by
              rw [show ((m : Nat) : Int) - 1 = ((m - 1 : Nat) : Int) by omega, cut_to _ _ (by rw [nv_len]; omega)]
              exact (nv_take t (m - 1)).symm
            have etup : [V.int (((t.getD (m - 1) 0 : Nat) : Int) - 1), V.int (((t.getD (t.length - 1) 0 : Nat) : Int) + 1)] = nv [t.getD (m - 1) 0 - 1, t.getD (t.length - 1) 0 + 1] := by
              show _ = [V.int _, V.int _]
              rw [show (((t.getD (m - 1) 0 - 1 : Nat)) : Int) = ((t.getD (m - 1) 0 : Nat) : Int) - 1 by omega, show (((t.getD (t.length - 1) 0 + 1 : Nat)) : Int) = ((t.getD (t.length - 1) 0 : Nat) : Int) + 1 by omega]
            rw [ek] at hz1
            refine ⟨z1, z2, _, _, rfl, rfl, same_sqt s2 hz1, SqT.of upd_same, ?_, fun H3 z3 s3 hz3 => ?_⟩
            · rw [nv_len, List.length_take]
              show _ + 2 ≤ sizeLine
              exact Nat.le_of_lt (sizeK (by omega))
            rw [etup, ← nv_app] at hz3
            refine ⟨by show 1 ≤ sizeLine; decide, fun z4 hz4 => ?_⟩
            have s4 := same_new hz4 (.tup [V.int 0])
            refine ⟨_, rfl, _, rfl, _, _, rfl, rfl, _, _, rfl, rfl, z4, _, _, rfl, rfl, SqT.of upd_same, by simp, by omega, by omega, by simp, fun H5 z5 s5 hz5 => ?_⟩
            rw [rep_nv] at hz5
            refine ⟨z3, z5, _, _, rfl, rfl, same_sqt s5 (same_sqt s4 hz3), hz5, ?_, fun H6 z6 s6 hz6 => ?_⟩
            · rw [nv_len, nv_len, List.length_append, List.length_take, List.length_replicate]
              exact Nat.le_of_lt (sizeK (by simp only [List.length_cons, List.length_nil]; omega))
            rw [← nv_app, show (((t.length : Nat) : Int) - 1 - (((m : Nat) : Int) - 1) - 1).toNat = t.length - 1 - (m - 1) - 1 by omega] at hz6
            exact q1 (m - 1) (by rw [hl, hstep]) H6 z6 (s1.trans (s2.trans (s3.trans (s4.trans (s5.trans s6))))) hz6
      · have m0 : m = 0 := by
          have c' : ¬ _ := fun z => c (decide_eq_true z)
          omega
        subst m0
        refine ⟨_, rfl, _, _, rfl, rfl, _, rfl, ite2 (fun _ => ?_) (fun z => ?_)⟩
        · exact q0 hl _ (Same.refl _)
        · exact absurd (decide_eq_true (by omega)) z
theorem prod60 {l d : Nat} (h1 : 1 ≤ l) (h8 : l ≤ 8) {t : List Nat} (h : prodB l d t = true) : Prod60 t := by
  obtain ⟨e, _, b⟩ := prod_of h
  exact ⟨by omega, by omega, fun x hx => by have := b x hx; omega⟩
def sp_gen (K : PySem.W.Frag) : SpG := fun vs H cont _ => ∃ l d : Nat, vs = [.int ((l : Nat) : Int), .int ((d : Nat) : Int)] ∧ 1 ≤ l ∧ l ≤ 8 ∧ d ≤ 12 ∧ Ok6 l d ∧ ∀ (H' : Hp) (rs : List Addr), Same H H' → Tups K H' rs (rows l d) → cont (rs.map V.ref) H'
theorem ok_gen (T : Txt K mg) : GFn P w K mg base 5 T.a_all_products T.d_all_products ["letters", "degree"] (sp_gen K) := by
  obtain ⟨oc, od, kV, doc, pm, an, cdv, ct, osl, e, lk, hcd⟩ := T.F_all_products.ex
  rw [e] at lk ⊢
  refine gfn_of lk hcd sc_all_products (fun vs H Q E h => ?_) (fun A outer s H vs Q E pn hr h => ?_)
  · obtain ⟨l, d, rfl, _⟩ := h
    rfl
  · obtain ⟨l, d, rfl, h1, h8, hd, O, q⟩ := h
    refine ⟨_, gss_cons (gs_ps (ps_expr (pe_call (ok_checkw T) (hr.mono (by decide)) (by rfl) T.m_check_within T.F_check_within.kp T.b_check_within .nil pass0 (pa_cons (pv 0) (pa_cons pe_int (pa_cons (pe_glob (v := .int 8) rfl T.c_MAX_LETTERS ⟨_, rfl⟩) pa_nil))))))
      (gss_cons (gs_ps (ps_expr (pe_call (ok_checkw T) (hr.mono (by decide)) (by rfl) T.m_check_within T.F_check_within.kp T.b_check_within .nil pass0 (pa_cons (pv 1) (pa_cons pe_int (pa_cons (pe_glob (v := .int 12) rfl T.c_MAX_LISTED_DEGREE ⟨_, rfl⟩) pa_nil))))))
      (gss_cons (gs_ps (ps_set (i := 2) sc_all_products.nd rfl (Or.inl rfl) (pe_op op_catB (pe_tup (pa_cons (pv 1) pa_nil)) (pe_op op_repB (pe_tup (pa_cons pe_int pa_nil)) (pe_op op_sub (pv 0) pe_int)))))
      (gss_cons (gs_while owns_gcx (pt_cmpR op_notN (pv 2) pe_non (nomark _))
        (gss_cons (gs_yield (pv 2)) (gss_cons (gs_ps (ps_set (i := 2) sc_all_products.nd rfl (Or.inl rfl) (pe_call (ok_fol T) (hr.mono (by decide)) (by rfl) T.m_following T.F_following.kp T.b_following .nil pass0 (pa_cons (pv 2) pa_nil)))) gss_nil))) gss_nil))), ?_⟩
    refine ⟨_, rfl, _, _, _, rfl, by omega, by omega, ?_⟩
    refine ⟨_, rfl, _, _, _, rfl, by omega, by omega, ?_⟩
    refine ⟨_, rfl, by show 1 ≤ sizeLine; decide, fun z1 hz1 => ?_⟩
    have s1 := same_new hz1 (.tup [V.int ((d : Nat) : Int)])
    refine ⟨by show 1 ≤ sizeLine; decide, fun z2 hz2 => ?_⟩
    have s2 := same_new hz2 (.tup [V.int 0])
    refine ⟨_, rfl, _, _, rfl, rfl, z2, _, _, rfl, rfl, SqT.of upd_same, by simp, by omega, by omega, by simp, fun H3 z3 s3 hz3 => ?_⟩
    rw [rep_nv, show (((l : Nat) : Int) - 1).toNat = l - 1 by omega] at hz3
    refine ⟨z1, z3, _, _, rfl, rfl, same_sqt s3 (same_sqt s2 (SqT.of upd_same)), hz3, ?_, fun H4 z4 s4 hz4 => ?_⟩
    · rw [nv_len, List.length_replicate]
      exact Nat.le_of_lt (sizeK (by simp only [List.length_cons, List.length_nil]; omega))
    have S4 : Same H H4 := s1.trans (s2.trans (s3.trans s4))
    have hz4' : SqT K H4 z4 (nv (d :: List.replicate (l - 1) 0)) := hz4
    obtain ⟨r, hr0⟩ := O.head
    have hL0 : (rows l d)[0]? = some (d :: List.replicate (l - 1) 0) := by rw [hr0] <;> rfl
    have hlen : (rows l d).length ≤ 1000 := by
      have e2 : (rows l d).length = (pairsN d (l - 1)).length := List.length_map _
      have := O.size (l - 1) (by omega)
      omega
    refine ⟨fun m ys σ H' => ∃ (i : Nat) (rs : List Addr), ys = rs.map V.ref ∧ Tups K H' rs ((rows l d).take i) ∧ Same H H' ∧ i + m = (rows l d).length ∧
        ((m = 0 ∧ σ = [some (.int ((l : Nat) : Int)), some (.int ((d : Nat) : Int)), some .non]) ∨ ∃ p t, (rows l d)[i]? = some t ∧ SqT K H' p (nv t) ∧ σ = [some (.int ((l : Nat) : Int)), some (.int ((d : Nat) : Int)), some (.ref p)]),
      ⟨(rows l d).length, 0, [], rfl, .nil, S4, by omega, .inr ⟨z4, _, hL0, hz4', rfl⟩⟩, ?_⟩
    rintro m ys σ H' ⟨i, rs, rfl, hrs, S', hm, ⟨rfl, rfl⟩ | ⟨p, t, hti, hpt, rfl⟩⟩
    · refine ⟨_, rfl, rfl, _, rfl, ?_⟩
      rw [List.take_of_length_le (by omega)] at hrs
      exact iteNS rfl (q H' rs S' hrs)
    · have hi : i < (rows l d).length := (List.getElem?_eq_some_iff.mp hti).1
      have hb := O.prod t (List.mem_of_getElem? hti)
      refine ⟨_, rfl, rfl, _, rfl, ite2 (fun _ => ?_) (fun c => absurd rfl c)⟩
      refine ⟨_, fun ys' σ' H'' h => ⟨m - 1, by omega, h⟩, ?_⟩
      refine ⟨by rw [List.length_map, hrs.length, List.length_take]; exact sizeK (by omega), _, rfl, ?_⟩
      have more : ∀ H5, Same H' H5 → Tups K H5 (rs ++ [p]) ((rows l d).take (i + 1)) := fun H5 s5 => by
        rw [take_more hti]
        exact (hrs.same s5).app (.cons (same_sqt s5 hpt) .nil)
      refine ⟨_, rfl, p, t, rfl, hpt, prod60 h1 h8 hb, fun hn H5 s5 => ?_, fun k hk H5 z5 s5 hz5 => ?_⟩
      · have hlast : (rows l d)[i + 1]? = none := by
          cases e2 : (rows l d)[i + 1]? with
          | none => rfl
          | some u =>
            obtain ⟨k, hk, _⟩ := chain_next O.chain hti e2
            rw [hn] at hk
            cases hk
        have := List.getElem?_eq_none_iff.mp hlast
        refine ⟨i + 1, rs ++ [p], by rw [List.map_append]; rfl, more H5 s5, S'.trans s5, by omega, .inl ⟨by omega, rfl⟩⟩
      · refine ⟨i + 1, rs ++ [p], by rw [List.map_append]; rfl, more H5 s5, S'.trans s5, by omega, .inr ⟨z5, nextAt t k, ?_, hz5, rfl⟩⟩
        cases e2 : (rows l d)[i + 1]? with
        | none =>
          rw [chain_last O.chain hti e2] at hk
          cases hk
        | some u =>
          obtain ⟨k', hk', e3⟩ := chain_next O.chain hti e2
          rw [hk] at hk'
          cases hk'
          rw [e3]
end
end L6

namespace L6
open PySem PySem.Spec PyProof.Rows L2 L5 RZ
section
variable {P : Program} {w : World} {K : PySem.W.Frag} {mg : Str → Option Value} {base : Heap}
/-! ### choices, number_of_products, word_place -/
def sp_cho : Sp := fun vs H Q _ => ∃ (a b : Int) (k : Nat), vs = [.int a, .int b] ∧ b = ((k : Nat) : Int) ∧ a ≤ 1000000000 ∧ k ≤ 1000 ∧ Q (.int (if a < k then 0 else ((C a.toNat k : Nat) : Int))) H
theorem ok_cho (T : Txt K mg) : FnOk P w K mg base CX0 1 T.a_choices T.d_choices ["top", "bottom"] sp_cho := by
  refine T.F_choices.ok sc_choices (fun vs H Q E h => ?_) (fun cdv A outer s H vs Q E hr h => ?_)
  · obtain ⟨a, b, k, rfl, _⟩ := h
    rfl
  · obtain ⟨a, b, k, rfl, rfl, ha, hk, q⟩ := h
    refine ⟨_, pss_cons (ps_if (PW.pt (pw_or (pt_cmpR op_lt (pv 1) pe_int (nomark _)) (pw_or1 (pt_cmpR op_gt (pv 1) (pv 0) (nomark _))))) (pss_one (ps_ret pe_int)) pss_nil)
      (pss_one (ps_ret (pe_callBfun cr_comb (by rfl) T.z_comb (pa_cons (pv 0) (pa_cons (pv 1) pa_nil))))), ?_⟩
    refine ⟨_, rfl, _, _, rfl, rfl, _, rfl, ?_⟩
    rw [decide_eq_false (show ¬ ((k : Nat) : Int) < 0 by omega)]
    refine iteF ⟨_, rfl, _, rfl, _, _, rfl, rfl, _, rfl, ite2 (fun c => ?_) (fun c => ?_)⟩
    · have c' := of_decide_eq_true c
      rw [if_pos c'] at q
      exact q
    · have c' : ¬ _ := fun z => c (decide_eq_true z)
      rw [if_neg c'] at q
      refine ⟨_, rfl, _, rfl, a.toNat, k, ?_, by omega, by omega, q⟩
      rw [show ((a.toNat : Nat) : Int) = a by omega]
def sp_nop : Sp := fun vs H Q _ => ∃ (i j : Int) (k m : Nat), vs = [.int i, .int j] ∧ i = ((k : Nat) : Int) + 1 ∧ j = ((m : Nat) : Int) - 1 ∧ k ≤ 1000 ∧ m ≤ 100000 ∧ Q (.int ((W k m : Nat) : Int)) H
theorem ok_nop (T : Txt K mg) : FnOk P w K mg base CX0 2 T.a_number_of_products T.d_number_of_products ["letters", "degree"] sp_nop := by
  refine T.F_number_of_products.ok sc_number_of_products (fun vs H Q E h => ?_) (fun cdv A outer s H vs Q E hr h => ?_)
  · obtain ⟨i, j, k, m, rfl, _⟩ := h
    rfl
  · obtain ⟨i, j, k, m, rfl, rfl, rfl, hk, hm, q⟩ := h
    refine ⟨_, pss_one (ps_ret (pe_call (ok_cho T) hr (by rfl) T.m_choices T.F_choices.kp T.b_choices .nil pass0 (pa_cons (pe_op op_sub (pe_op op_add (pv 1) (pv 0)) pe_int) (pa_cons (pe_op op_sub (pv 0) pe_int) pa_nil)))), ?_⟩
    refine ⟨_, rfl, _, rfl, _, _, rfl, rfl, _, _, rfl, rfl, _, rfl, _, _, rfl, rfl, _, _, k, rfl, by omega, by omega, hk, ?_⟩
    · cases m with
      | zero =>
        rw [if_pos (by omega)]
        rw [W_zero] at q
        exact q
      | succ m =>
        rw [if_neg (by omega), show ((((m + 1 : Nat) : Int) - 1 + (((k : Nat) : Int) + 1) - 1)).toNat = m + k by omega, ← W_at]
        exact q
theorem drop_cons {t : List Nat} {i n : Nat} (h : t[i]? = some n) : t.drop i = n :: t.drop (i + 1) := by
  obtain ⟨hi, e⟩ := List.getElem?_eq_some_iff.mp h
  rw [List.drop_eq_getElem_cons hi, e]
theorem sum_le_60 : ∀ (t : List Nat), (∀ e ∈ t, e ≤ 60) → t.sum ≤ 60 * t.length
  | [], _ => Nat.le_refl _
  | x :: r, h => by
    have h1 := h x (List.mem_cons_self ..)
    have h2 := sum_le_60 r fun e he => h e (List.mem_cons_of_mem _ he)
    rw [List.sum_cons, List.length_cons]
    omega
def sp_wp (K : PySem.W.Frag) : Sp := fun vs H Q _ => ∃ (p : Addr) (t : List Nat), vs = [.ref p] ∧ SqT K H p (nv t) ∧ Prod60 t ∧ ∀ H', Same H H' → Q (.int ((place t : Nat) : Int)) H'
theorem ok_wp (T : Txt K mg) : FnOk P w K mg base CX0 6 T.a_word_place T.d_word_place ["product"] (sp_wp K) := by
  refine T.F_word_place.ok sc_word_place (fun vs H Q E h => ?_) (fun cdv A outer s H vs Q E hr h => ?_)
  · obtain ⟨p, t, rfl, _⟩ := h
    rfl
  · obtain ⟨p, t, rfl, hT, hp, q⟩ := h
    refine ⟨_, pss_cons (ps_expr (pe_call (ok_any T) (hr.mono (by decide)) (by rfl) T.m_check_any_product T.F_check_any_product.kp T.b_check_any_product .nil pass0 (pa_cons (pv 0) pa_nil)))
      (pss_cons (ps_set (i := 1) sc_word_place.nd rfl (Or.inl rfl) pe_int)
      (pss_cons (ps_for PassesOwn.never rfl (pi_enumT (by rfl) T.z_enumerate (pa_cons (pv 0) pa_nil)) (pg_tup (by rfl) (pgs_cons (pg_name (i := 2) sc_word_place.nd rfl (Or.inl rfl)) (pgs_cons (pg_name (i := 3) sc_word_place.nd rfl (Or.inl rfl)) pgs_nil)))
        (pss_cons (ps_set (i := 4) sc_word_place.nd rfl (Or.inl rfl) (pe_slice sl_tupB (pv 0) (po_some (pv 2)) po_none))
        (pss_one (ps_aug (i := 1) sc_word_place.nd rfl (Or.inl rfl) (pe_call (ok_nop T) (hr.mono (by decide)) (by rfl) T.m_number_of_products T.F_number_of_products.kp T.b_number_of_products .nil pass0 (pa_cons (pe_callB call_len_seq (by rfl) T.z_len boot_len (pa_cons (pv 4) pa_nil)) (pa_cons (pe_op op_sub (pe_op op_sub (pe_callB (cr_sumT rfl) (by rfl) T.z_sum boot_sum (pa_cons (pv 4) pa_nil)) (pv 3)) pe_int) pa_nil))) ip_add))))
      (pss_one (ps_ret (pv 1))))), ?_⟩
    refine ⟨_, rfl, p, t, rfl, hT, hp, fun H1 s1 => ?_⟩
    refine ⟨_, rfl, p, _, rfl, same_sqt s1 hT, ?_⟩
    refine for_enumT (K := K) (a := p) (xs := nv t) (fun i σ H' => ∃ (n : Nat) (v2 v3 v4 : Option V), σ = [some (.ref p), some (.int ((n : Nat) : Int)), v2, v3, v4] ∧ Same H H' ∧ n + place (t.drop i) = place t)
      ⟨0, none, none, none, rfl, s1, Nat.zero_add _⟩ (fun i σ H' _ ⟨_, _, _, _, _, s', _⟩ => same_sqt s' hT) ?_ ?_
    · rintro i x D σ H2 hx ⟨n, v2, v3, v4, rfl, s2, hn⟩ hD
      obtain ⟨e, he, rfl⟩ := nv_get hx
      have sD := same_new hD (.tup [V.int ((i : Nat) : Int), V.int ((e : Nat) : Int)])
      have hlt : i < t.length := (List.getElem?_eq_some_iff.mp he).1
      have h8 := hp.2.1
      have hdr := drop_cons he
      refine ⟨D, _, rfl, SqT.of upd_same, rfl, _, _, rfl, _, _, rfl, rfl, ?_⟩
      have S2 := s2.trans sD
      refine ⟨_, rfl, _, rfl, _, rfl, p, _, rfl, same_sqt S2 hT, fun H3 z s3 hz => ?_⟩
      rw [cut_from _ _ (by rw [nv_len]; omega), ← nv_drop] at hz
      have hl : (t.drop i).length = t.length - i := List.length_drop
      have h60 : (t.drop i).sum ≤ 60 * (t.drop i).length := sum_le_60 _ fun y hy => hp.2.2 y (List.mem_of_mem_drop hy)
      have hs : (t.drop i).sum = e + (t.drop (i + 1)).sum := by rw [hdr, List.sum_cons]
      refine ⟨_, rfl, _, rfl, z, _, rfl, .inr hz, _, rfl, z, _, rfl, by rw [← nv_ints]; exact hz, _, rfl, _, _, rfl, rfl, _, _, rfl, rfl, _, _, (t.drop (i + 1)).length, (t.drop (i + 1)).sum, rfl, ?_, ?_, ?_, ?_, ?_⟩
      · rw [nv_len, hdr, List.length_cons]
        omega
      · rw [sum_cast, hs]
        omega
      · rw [List.length_drop]
        omega
      · omega
      · refine ⟨_, _, rfl, rfl, n + W (t.drop (i + 1)).length (t.drop (i + 1)).sum, _, _, _, rfl, S2.trans s3, ?_⟩
        rw [hdr] at hn
        have hn' : n + (W (t.drop (i + 1)).length (t.drop (i + 1)).sum + place (t.drop (i + 1))) = place t := hn
        omega
    · rintro σ H2 ⟨n, v2, v3, v4, rfl, s2, hn⟩
      refine ⟨_, rfl, ?_⟩
      rw [nv_len, List.drop_length] at hn
      have hn' : n = place t := hn
      subst hn'
      exact q H2 s2
end
end L6

namespace L6
open PySem PySem.Spec PyProof.Rows L2 L5 RZ
theorem for_cntC {lo c : Int} {n : Nat} {g : TG} {tb : TS} {D : Ends} {σ : L2.St} {H : Hp} (Pv : Nat → L2.St → Hp → Prop) (h0 : Pv 0 σ H)
    (hs : ∀ i σ H, i < n → Pv i σ H → g (.int (lo + (i : Nat) * c)) σ H fun σ2 H2 => tb { D with nx := Pv (i + 1), ct := Pv (i + 1), bk := D.nx } σ2 H2) (hd : ∀ σ H, Pv n σ H → D.nx σ H) :
    ∃ W : Nat → Nat → L2.St → Hp → Prop, (∃ m, W 0 m σ H) ∧ ∀ i m σ H, W i m σ H →
      ((Itc lo c n).stop i H ∧ D.nx σ H) ∨ ((Itc lo c n).go i H ∧ ∃ N : L2.St → Hp → Prop, (∀ σ' H', N σ' H' → ∃ m', m' < m ∧ W (i + 1) m' σ' H') ∧ ∀ x H', (Itc lo c n).yld i H x H' → g x σ H' fun σ2 H2 => tb { D with nx := N, ct := N, bk := D.nx } σ2 H2) := by
  refine ⟨fun i m σ H => m = n - i ∧ i ≤ n ∧ Pv i σ H, ⟨n, by simp, Nat.zero_le _, h0⟩, ?_⟩
  rintro i m σ H ⟨rfl, hi, p⟩
  by_cases hlt : i < n
  · refine .inr ⟨hlt, Pv (i + 1), fun σ' H' p' => ⟨n - (i + 1), by omega, rfl, hlt, p'⟩, fun x H' y => ?_⟩
    obtain ⟨e, y⟩ := y
    subst e y
    exact hs i σ _ hlt p
  · have e : i = n := by omega
    subst e
    exact .inl ⟨Nat.le_refl _, hd σ H p⟩
theorem place_cons (e : Nat) (r : List Nat) : place (e :: r) = W r.length r.sum + place r := rfl
theorem nv_one (n : Nat) : [V.int ((n : Nat) : Int)] = nv [n] := rfl
section
variable {P : Program} {w : World} {K : PySem.W.Frag} {mg : Str → Option Value} {base : Heap}
/-! ### told_product -/
def sp_told (K : PySem.W.Frag) : Sp := fun vs H Q _ => ∃ (l d q : Int) (t : List Nat), vs = [.int l, .int d, .int q] ∧ l = ((t.length : Nat) : Int) ∧ d = ((t.sum : Nat) : Int) ∧ q = ((place t : Nat) : Int) ∧ t.length ≤ 8 ∧ t.sum ≤ 500 ∧ ∀ H' z, Same H H' → SqT K H' z (nv t) → Q (.ref z) H'
theorem ok_told (T : Txt K mg) : FnOk P w K mg base CX0 3 T.a_told_product T.d_told_product ["letters", "degree", "place"] (sp_told K) := by
  refine T.F_told_product.ok sc_told_product (fun vs H Q E h => ?_) (fun cdv A outer s H vs Q E hr h => ?_)
  · obtain ⟨l, d, q, t, rfl, _⟩ := h
    rfl
  · obtain ⟨l, d, q, t, rfl, rfl, rfl, rfl, h8, hd, qq⟩ := h
    refine ⟨_, pss_cons (ps_set (i := 3) sc_told_product.nd rfl (Or.inl rfl) (pe_lst pa_nil))
      (pss_cons (ps_for PassesOwn.never rfl (pi_revR (by rfl) T.z_reversed (prg_1 (by rfl) T.z_range (pv 0))) (pg_name (i := 4) sc_told_product.nd rfl (Or.inl rfl))
        (pss_cons (ps_set (i := 5) sc_told_product.nd rfl (Or.inl rfl) (pv 1))
        (pss_cons (PS.weak (t' := fun D σ' H' => ∃ (e : Nat) (r : List Nat) (x : Addr), σ' = [some (.int ((t.length : Nat) : Int)), some (.int ((e + r.sum : Nat) : Int)), some (.int ((W r.length r.sum + place r : Nat) : Int)), some (.ref x), some (.int ((r.length : Nat) : Int)), some (.int ((e + r.sum : Nat) : Int))] ∧ r.length ≤ 8 ∧ r.sum ≤ 500 ∧
            D.nx [some (.int ((t.length : Nat) : Int)), some (.int ((e + r.sum : Nat) : Int)), some (.int ((place r : Nat) : Int)), some (.ref x), some (.int ((r.length : Nat) : Int)), some (.int ((e : Nat) : Int))] H') (ps_while PassesOwn.never (PW.pt (pw_and (pt_truth (pv 4) (by intro _; rfl)) (pw_and1 (pt_cmpR op_ge (pv 2) (pe_call (ok_nop T) hr (by rfl) T.m_number_of_products T.F_number_of_products.kp T.b_number_of_products .nil pass0 (pa_cons (pv 4) (pa_cons (pe_op op_sub (pv 1) (pv 5)) pa_nil))) (nomark _)))))
          (pss_cons (ps_aug (i := 2) sc_told_product.nd rfl (Or.inl rfl) (pe_call (ok_nop T) hr (by rfl) T.m_number_of_products T.F_number_of_products.kp T.b_number_of_products .nil pass0 (pa_cons (pv 4) (pa_cons (pe_op op_sub (pv 1) (pv 5)) pa_nil))) ip_sub)
          (pss_one (ps_aug (i := 5) sc_told_product.nd rfl (Or.inl rfl) pe_int ip_sub)))) ?wh)
        (pss_cons (ps_expr (pe_bm PySem.F.plainAttrs_list PySem.F.slot_list_append PySem.F.type_list_append mt_append (pv 3) (pa_cons (pv 5) pa_nil)))
        (pss_one (ps_aug (i := 1) sc_told_product.nd rfl (Or.inl rfl) (pv 5) ip_sub))))))
      (pss_one (ps_ret (pe_callTy call_tuple_of (by rfl) T.z_tuple boot_tuple (pa_cons (pv 3) pa_nil))))), ?_⟩
    case wh =>
      rintro D σ' H' ⟨e, r, x, rfl, hr8, hr5, q⟩
      refine ⟨fun m σ H2 => H2 = H' ∧ ∃ j, j + m = r.sum ∧ ∃ q' : Nat, q' + W r.length j = W r.length r.sum + place r ∧ σ = [some (.int ((t.length : Nat) : Int)), some (.int ((e + r.sum : Nat) : Int)), some (.int ((q' : Nat) : Int)), some (.ref x), some (.int ((r.length : Nat) : Int)), some (.int (((e + r.sum - j : Nat)) : Int))],
        ⟨r.sum, rfl, 0, Nat.zero_add _, _, by rw [W_zero]; rfl, rfl⟩, ?_⟩
      rintro m σ H2 ⟨rfl, j, hj, q', hq', rfl⟩
      rcases Nat.eq_zero_or_pos r.length with h0 | hpos
      · have hr0 : r = [] := List.eq_nil_of_length_eq_zero h0
        subst hr0
        refine ⟨_, rfl, _, rfl, iteF (iteF ?_)⟩
        have hj0 : j = 0 := by
          have : ([] : List Nat).sum = 0 := rfl
          omega
        subst hj0
        have : q' = place [] := by
          have h2 : q' + W 0 0 = W 0 0 + place [] := hq'
          omega
        subst this
        exact q
      · obtain ⟨k, hk⟩ : ∃ k, r.length = k + 1 := ⟨r.length - 1, by omega⟩
        have hne : (((r.length : Nat) : Int) != 0) = true := by
          rw [hk]
          exact bne_iff_ne.mpr (by omega)
        refine ⟨_, rfl, _, rfl, ?_⟩
        rw [hne]
        refine iteT ⟨_, rfl, _, rfl, _, rfl, _, rfl, _, _, rfl, rfl, _, _, k, j + 1, rfl, by omega, by omega, by omega, by omega, ?_⟩
        have hW : W (k + 1) (j + 1) = W (k + 1) j + W k (j + 1) := W_step k j
        rw [hk] at hq'
        refine ⟨_, _, rfl, rfl, _, rfl, ite2 (fun c => ?_) (fun c => ?_)⟩
        · have c' := of_decide_eq_true c
          have hlt : j < r.sum := by
            rcases Nat.lt_or_ge j r.sum with z | z
            · exact z
            · have ej : j = r.sum := by omega
              have := place_lt r k hk
              rw [← ej] at this hq'
              omega
          refine ⟨fun σ' H'' => H'' = H2 ∧ ∃ j', j' + (m - 1) = r.sum ∧ ∃ q' : Nat, q' + W r.length j' = W r.length r.sum + place r ∧ σ' = [some (.int ((t.length : Nat) : Int)), some (.int ((e + r.sum : Nat) : Int)), some (.int ((q' : Nat) : Int)), some (.ref x), some (.int ((r.length : Nat) : Int)), some (.int (((e + r.sum - j' : Nat)) : Int))], fun σ' H'' h => ⟨m - 1, by omega, h⟩, ?_⟩
          refine ⟨_, rfl, _, rfl, _, rfl, _, rfl, _, _, rfl, rfl, _, _, k, j + 1, rfl, by omega, by omega, by omega, by omega, ?_⟩
          refine ⟨_, _, rfl, rfl, _, rfl, _, _, rfl, rfl, rfl, j + 1, by omega, q' - W k (j + 1), by rw [hk]; omega, ?_⟩
          have e1 : ((q' : Nat) : Int) - ((W k (j + 1) : Nat) : Int) = ((q' - W k (j + 1) : Nat) : Int) := by omega
          have e2 : ((e + r.sum - j : Nat) : Int) - 1 = ((e + r.sum - (j + 1) : Nat) : Int) := by omega
          show [some (V.int ((t.length : Nat) : Int)), some (V.int ((e + r.sum : Nat) : Int)), some (V.int (((q' : Nat) : Int) - ((W k (j + 1) : Nat) : Int))), some (V.ref x), some (V.int ((r.length : Nat) : Int)), some (V.int (((e + r.sum - j : Nat) : Int) - 1))] = _
          rw [e1, e2]
        · have c' : ¬ _ := fun z => c (decide_eq_true z)
          have ej : j = r.sum := by
            rcases Nat.lt_or_ge j r.sum with z | z
            · have := W_mono (k + 1) (show j + 1 ≤ r.sum by omega)
              omega
            · omega
          subst ej
          have e1 : q' = place r := by omega
          subst e1
          rw [show e + r.sum - r.sum = e by omega]
          exact q
    refine ⟨Nat.zero_le _, fun x hx => ?_⟩
    have sx := same_new hx (.lst [])
    refine ⟨_, rfl, _, rfl, by omega, by omega, by omega, by omega, ?_⟩
    rw [show (((t.length : Nat) : Int) - 0).toNat = t.length by omega]
    refine for_cntC (fun i σ H' => ∃ (v4 v5 : Option V), σ = [some (.int ((t.length : Nat) : Int)), some (.int (((t.drop i).sum : Nat) : Int)), some (.int ((place (t.drop i) : Nat) : Int)), some (.ref x), v4, v5] ∧ Same H H' ∧ H' x = some (.lst (nv (t.take i))))
      ⟨none, none, rfl, sx, upd_same⟩ ?_ ?_
    · rintro i σ H1 hi ⟨v4, v5, rfl, s1, hx1⟩
      have he := getD_at hi
      generalize ee : t.getD i 0 = e at he
      have hdr := drop_cons he
      have hs : (t.drop i).sum = e + (t.drop (i + 1)).sum := by rw [hdr, List.sum_cons]
      have hpl : place (t.drop i) = W (t.drop (i + 1)).length (t.drop (i + 1)).sum + place (t.drop (i + 1)) := by rw [hdr, place_cons]
      have hbl : (t.drop (i + 1)).length = t.length - (i + 1) := List.length_drop
      have hdl : (t.drop i).sum ≤ t.sum := by
        have : t.sum = (t.take i).sum + (t.drop i).sum := by rw [← List.sum_append, List.take_append_drop]
        omega
      generalize hr' : t.drop (i + 1) = r at hs hpl hbl
      have eb : (0 : Int) + ((t.length : Nat) : Int) - 1 + ((i : Nat) : Int) * (-1) = ((r.length : Nat) : Int) := by omega
      rw [eb]
      refine ⟨_, rfl, e, r, x, by rw [hs, hpl]; rfl, by omega, by omega, ?_⟩
      refine ⟨_, rfl, .inl ⟨rfl, _, SqL.of hx1⟩, _, rfl, ?_⟩
      have hlen : (nv (t.take i)).length < sizeLine := by
        rw [nv_len, List.length_take]
        exact sizeK (by omega)
      refine ⟨x, _, _, rfl, rfl, hx1, hlen, ?_⟩
      refine ⟨_, rfl, _, rfl, _, _, rfl, rfl, some (.int ((r.length : Nat) : Int)), some (.int ((e : Nat) : Int)), ?_, same_updL s1 hx, ?_⟩
      · have e1 : ((e + r.sum : Nat) : Int) - ((e : Nat) : Int) = ((r.sum : Nat) : Int) := by omega
        show [some (V.int ((t.length : Nat) : Int)), some (V.int (((e + r.sum : Nat) : Int) - ((e : Nat) : Int))), some (V.int ((place r : Nat) : Int)), some (V.ref x), some (V.int ((r.length : Nat) : Int)), some (V.int ((e : Nat) : Int))] = _
        rw [e1]
      · rw [upd_same, take_more he, nv_app]
        rfl
    · rintro σ H1 ⟨v4, v5, rfl, s1, hx1⟩
      rw [List.take_length] at hx1
      refine ⟨_, rfl, x, _, rfl, .inl ⟨SqL.of hx1, fun z hz => ?_⟩⟩
      exact qq _ z (s1.trans (same_new hz _)) (SqT.of upd_same)
end
end L6

namespace L6
open PySem PySem.Spec PyProof.Rows L2 L5 RZ
section
variable {P : Program} {w : World} {K : PySem.W.Frag} {mg : Str → Option Value} {base : Heap}
/-! ### product_at -/
def sp_pat (K : PySem.W.Frag) : Sp := fun vs H Q _ => ∃ (l d q : Int) (t : List Nat), vs = [.int l, .int d, .int q] ∧ l = ((t.length : Nat) : Int) ∧ d = ((t.sum : Nat) : Int) ∧ q = ((place t : Nat) : Int) ∧ 1 ≤ t.length ∧ t.length ≤ 8 ∧ t.sum ≤ 60 ∧ ∀ H' z, Same H H' → SqT K H' z (nv t) → Q (.ref z) H'
theorem ok_pat (T : Txt K mg) : FnOk P w K mg base CX0 4 T.a_product_at T.d_product_at ["letters", "degree", "place"] (sp_pat K) := by
  refine T.F_product_at.ok sc_product_at (fun vs H Q E h => ?_) (fun cdv A outer s H vs Q E hr h => ?_)
  · obtain ⟨l, d, q, t, rfl, _⟩ := h
    rfl
  · obtain ⟨l, d, q, t, rfl, rfl, rfl, rfl, h1, h8, hd, qq⟩ := h
    refine ⟨_, pss_cons (ps_expr (pe_call (ok_checkw T) (hr.mono (by decide)) (by rfl) T.m_check_within T.F_check_within.kp T.b_check_within .nil pass0 (pa_cons (pv 0) (pa_cons pe_int (pa_cons (pe_glob (v := .int 8) rfl T.c_MAX_LETTERS ⟨_, rfl⟩) pa_nil)))))
      (pss_cons (ps_expr (pe_call (ok_checkw T) (hr.mono (by decide)) (by rfl) T.m_check_within T.F_check_within.kp T.b_check_within .nil pass0 (pa_cons (pv 1) (pa_cons pe_int (pa_cons (pe_glob (v := .int 60) rfl T.c_MAX_DEGREE ⟨_, rfl⟩) pa_nil)))))
      (pss_cons (ps_expr (pe_call (ok_checkw T) (hr.mono (by decide)) (by rfl) T.m_check_within T.F_check_within.kp T.b_check_within .nil pass0 (pa_cons (pv 2) (pa_cons pe_int (pa_cons (pe_op op_sub (pe_call (ok_nop T) (hr.mono (by decide)) (by rfl) T.m_number_of_products T.F_number_of_products.kp T.b_number_of_products .nil pass0 (pa_cons (pv 0) (pa_cons (pv 1) pa_nil))) pe_int) pa_nil)))))
      (pss_one (ps_ret (pe_call (ok_told T) (hr.mono (by decide)) (by rfl) T.m_told_product T.F_told_product.kp T.b_told_product .nil pass0 (pa_cons (pv 0) (pa_cons (pv 1) (pa_cons (pv 2) pa_nil)))))))), ?_⟩
    have hp := place_lt t (t.length - 1) (by omega)
    refine ⟨_, rfl, _, _, _, rfl, by omega, by omega, ?_⟩
    refine ⟨_, rfl, _, _, _, rfl, by omega, by omega, ?_⟩
    refine ⟨_, rfl, _, rfl, _, rfl, _, _, t.length - 1, t.sum + 1, rfl, by omega, by omega, by omega, by omega, ?_⟩
    refine ⟨_, _, rfl, rfl, _, _, _, rfl, by omega, by omega, ?_⟩
    exact ⟨_, rfl, _, rfl, _, rfl, _, _, _, t, rfl, rfl, rfl, rfl, h8, by omega, qq⟩
/-! ### products_from, first_products, at the place 0 -/
def sp_pfr (K : PySem.W.Frag) : Sp := fun vs H Q _ => ∃ (l d k : Nat), vs = [.int ((l : Nat) : Int), .int ((d : Nat) : Int), .int 0, .int ((k : Nat) : Int)] ∧ 1 ≤ l ∧ l ≤ 8 ∧ d ≤ 60 ∧ Ok6 l d ∧ k ≤ (rows l d).length ∧
  ∀ (H' : Hp) (z : Addr) (rs : List Addr), Same H H' → H' z = some (.lst (rs.map V.ref)) → Tups K H' rs ((rows l d).take k) → Q (.ref z) H'
theorem ok_pfr (T : Txt K mg) : FnOk P w K mg base CX0 4 T.a_products_from T.d_products_from ["letters", "degree", "place", "many"] (sp_pfr K) := by
  refine T.F_products_from.ok sc_products_from (fun vs H Q E h => ?_) (fun cdv A outer s H vs Q E hr h => ?_)
  · obtain ⟨l, d, k, rfl, _⟩ := h
    rfl
  · obtain ⟨l, d, k, rfl, h1, h8, hd, O, hk, qq⟩ := h
    refine ⟨_, pss_cons (ps_set (i := 4) sc_products_from.nd rfl (Or.inl rfl) (pe_lst pa_nil))
      (pss_cons (ps_while PassesOwn.never (pt_cmpR op_lt (pe_callB call_len_seq (by rfl) T.z_len boot_len (pa_cons (pv 4) pa_nil)) (pv 3) (nomark _))
        (pss_one (ps_expr (pe_bm PySem.F.plainAttrs_list PySem.F.slot_list_append PySem.F.type_list_append mt_append (pv 4) (pa_cons
          (PE.weak (t' := fun σ' H' Q' => ∃ (x : Addr) (rs : List Addr) (j : Nat) (u : List Nat), σ' = [some (.int ((l : Nat) : Int)), some (.int ((d : Nat) : Int)), some (.int 0), some (.int ((k : Nat) : Int)), some (.ref x)] ∧ H' x = some (.lst (rs.map V.ref)) ∧ Tups K H' rs ((rows l d).take j) ∧ (rows l d)[j]? = some u ∧ ∀ H'' z, Same H' H'' → SqT K H'' z (nv u) → Q' (.ref z) H'')
          (pe_ifExp (pt_truth (pv 4) (by intro _; rfl)) (pe_call (ok_fol T) (hr.mono (by decide)) (by rfl) T.m_following T.F_following.kp T.b_following .nil pass0 (pa_cons (pe_ix ix_list (pv 4) (pe_un un_neg pe_int) (fun _ _ => rfl)) pa_nil))
            (pe_call (ok_told T) (hr.mono (by decide)) (by rfl) T.m_told_product T.F_told_product.kp T.b_told_product .nil pass0 (pa_cons (pv 0) (pa_cons (pv 1) (pa_cons (pv 2) pa_nil))))) ?w) pa_nil)))))
      (pss_one (ps_ret (pv 4)))), ?_⟩
    case w =>
      rintro σ' H' Q' ⟨x, rs, j, u, rfl, hx, hT, hu, q⟩
      have hul := prod_of (O.prod u (List.mem_of_getElem? hu))
      cases j with
      | zero =>
        cases hT
        obtain ⟨r, hr0⟩ := O.head
        have eu : u = d :: List.replicate (l - 1) 0 := by
          rw [hr0] at hu
          exact (Option.some.inj hu).symm
        refine ⟨_, rfl, _, .inl ⟨_, SqL.of hx, rfl⟩, iteF ?_⟩
        refine ⟨_, rfl, _, rfl, _, rfl, _, _, _, u, rfl, by rw [hul.1], by rw [hul.2.1], ?_, by omega, by omega, q⟩
        rw [eu, place_first]
        rfl
      | succ j =>
        have hj : j < (rows l d).length := by
          have := (List.getElem?_eq_some_iff.mp hu).1
          omega
        have ht := List.getElem?_eq_getElem hj
        have hrl := hT.length
        rw [List.length_take] at hrl
        have hjr : j < rs.length := by omega
        obtain ⟨t, ht', htb⟩ := hT.get (List.getElem?_eq_getElem hjr)
        rw [List.getElem?_take_of_lt (Nat.lt_succ_self j), ht] at ht'
        obtain rfl := Option.some.inj ht'
        obtain ⟨c, hc, en⟩ := chain_next O.chain ht hu
        have ers : rs.map V.ref = (rs.take j).map V.ref ++ [V.ref rs[j]] := by
          have : rs = rs.take j ++ [rs[j]] := by
            rw [← take_more (List.getElem?_eq_getElem hjr), List.take_of_length_le (by omega)]
          conv => lhs; rw [this]
          rw [List.map_append]
          rfl
        refine ⟨_, rfl, _, .inl ⟨_, SqL.of hx, rfl⟩, ?_⟩
        have hne : (!(rs.map V.ref).isEmpty) = true := by
          rw [ers]
          simp
        rw [hne]
        refine iteT ⟨_, rfl, _, rfl, x, rs.map V.ref, -1, V.ref rs[j], rfl, rfl, SqL.of hx, by rw [ers]; exact atI_last _ _, ?_⟩
        refine ⟨_, _, rfl, htb, prod60 h1 h8 (O.prod _ (List.mem_of_getElem? ht)), fun hn => ?_, fun c' hc' H' z s' hz => ?_⟩
        · rw [hc] at hn
          cases hn
        · rw [hc] at hc'
          cases hc'
          rw [en] at hz
          exact q H' z s' hz
    refine ⟨Nat.zero_le _, fun x hx => ?_⟩
    have sx := same_new hx (.lst [])
    refine ⟨fun m σ H' => ∃ (j : Nat) (rs : List Addr), j + m = k ∧ Same H H' ∧ H' x = some (.lst (rs.map V.ref)) ∧ Tups K H' rs ((rows l d).take j) ∧ σ = [some (.int ((l : Nat) : Int)), some (.int ((d : Nat) : Int)), some (.int 0), some (.int ((k : Nat) : Int)), some (.ref x)],
      ⟨k, 0, [], Nat.zero_add _, sx, upd_same, .nil, rfl⟩, ?_⟩
    rintro m σ H2 ⟨j, rs, hj, s2, hx2, hT2, rfl⟩
    have hrl := hT2.length
    rw [List.length_take] at hrl
    refine ⟨_, rfl, x, _, rfl, .inl (SqL.of hx2), _, rfl, _, _, rfl, rfl, _, rfl, ite2 (fun c => ?_) (fun c => ?_)⟩
    · have c' := of_decide_eq_true c
      rw [List.length_map] at c'
      have hjl : j < (rows l d).length := by omega
      have hu := List.getElem?_eq_getElem hjl
      refine ⟨fun σ' H'' => ∃ (j' : Nat) (rs : List Addr), j' + (m - 1) = k ∧ Same H H'' ∧ H'' x = some (.lst (rs.map V.ref)) ∧ Tups K H'' rs ((rows l d).take j') ∧ σ' = [some (.int ((l : Nat) : Int)), some (.int ((d : Nat) : Int)), some (.int 0), some (.int ((k : Nat) : Int)), some (.ref x)], fun σ' H'' h => ⟨m - 1, by omega, h⟩, ?_⟩
      refine ⟨_, rfl, .inl ⟨rfl, _, SqL.of hx2⟩, x, rs, j, _, rfl, hx2, hT2, hu, fun H3 z s3 hz => ?_⟩
      have hx3 := s3 _ _ hx2
      have hO := O.size (l - 1) (by omega)
      have hrows : (rows l d).length ≤ 400 := by
        have e2 : (rows l d).length = (pairsN d (l - 1)).length := List.length_map _
        omega
      refine ⟨x, _, _, rfl, rfl, hx3, by rw [List.length_map]; exact sizeK (by omega), j + 1, rs ++ [z], by omega, same_updL (s2.trans s3) hx, by rw [upd_same, List.map_append]; rfl, ?_, rfl⟩
      rw [take_more hu]
      exact ((hT2.same s3).updL hx3).app (.cons (sqt_updL hx3 hz) .nil)
    · have c' : ¬ _ := fun z => c (decide_eq_true z)
      rw [List.length_map] at c'
      have : j = k := by omega
      subst this
      exact ⟨_, rfl, qq H2 x rs s2 hx2 hT2⟩
/-! ### first_products -/
def sp_fir (K : PySem.W.Frag) : Sp := fun vs H Q _ => ∃ (l d k : Nat), vs = [.int ((l : Nat) : Int), .int ((d : Nat) : Int), .int ((k : Nat) : Int)] ∧ 1 ≤ l ∧ l ≤ 8 ∧ d ≤ 60 ∧ Ok6 l d ∧ k ≤ (rows l d).length ∧
  ∀ (H' : Hp) (z : Addr) (rs : List Addr), Same H H' → SqT K H' z (rs.map V.ref) → Tups K H' rs ((rows l d).take k) → Q (.ref z) H'
theorem ok_fir (T : Txt K mg) : FnOk P w K mg base CX0 5 T.a_first_products T.d_first_products ["letters", "degree", "many"] (sp_fir K) := by
  refine T.F_first_products.ok sc_first_products (fun vs H Q E h => ?_) (fun cdv A outer s H vs Q E hr h => ?_)
  · obtain ⟨l, d, k, rfl, _⟩ := h
    rfl
  · obtain ⟨l, d, k, rfl, h1, h8, hd, O, hk, qq⟩ := h
    refine ⟨_, pss_cons (ps_expr (pe_call (ok_checkw T) (hr.mono (by decide)) (by rfl) T.m_check_within T.F_check_within.kp T.b_check_within .nil pass0 (pa_cons (pv 0) (pa_cons pe_int (pa_cons (pe_glob (v := .int 8) rfl T.c_MAX_LETTERS ⟨_, rfl⟩) pa_nil)))))
      (pss_cons (ps_expr (pe_call (ok_checkw T) (hr.mono (by decide)) (by rfl) T.m_check_within T.F_check_within.kp T.b_check_within .nil pass0 (pa_cons (pv 1) (pa_cons pe_int (pa_cons (pe_glob (v := .int 60) rfl T.c_MAX_DEGREE ⟨_, rfl⟩) pa_nil)))))
      (pss_cons (ps_expr (pe_call (ok_checkw T) (hr.mono (by decide)) (by rfl) T.m_check_within T.F_check_within.kp T.b_check_within .nil pass0 (pa_cons (pv 2) (pa_cons pe_int (pa_cons (pe_callB (call_min2 rfl) (by rfl) T.z_min (by decide +kernel) (pa_cons (pe_glob (v := .int 1000) rfl T.c_MAX_TOLD ⟨_, rfl⟩) (pa_cons (pe_call (ok_nop T) (hr.mono (by decide)) (by rfl) T.m_number_of_products T.F_number_of_products.kp T.b_number_of_products .nil pass0 (pa_cons (pv 0) (pa_cons (pv 1) pa_nil))) pa_nil))) pa_nil)))))
      (pss_one (ps_ret (pe_callTy call_tuple_of (by rfl) T.z_tuple boot_tuple (pa_cons (pe_call (ok_pfr T) (hr.mono (by decide)) (by rfl) T.m_products_from T.F_products_from.kp T.b_products_from .nil pass0 (pa_cons (pv 0) (pa_cons (pv 1) (pa_cons pe_int (pa_cons (pv 2) pa_nil))))) pa_nil)))))), ?_⟩
    have hO := O.size (l - 1) (by omega)
    have hrows : (rows l d).length ≤ 400 := by
      have e2 : (rows l d).length = (pairsN d (l - 1)).length := List.length_map _
      omega
    refine ⟨_, rfl, _, _, _, rfl, by omega, by omega, ?_⟩
    refine ⟨_, rfl, _, _, _, rfl, by omega, by omega, ?_⟩
    refine ⟨_, rfl, _, rfl, _, rfl, _, _, l - 1, d + 1, rfl, by omega, by omega, by omega, by omega, ?_⟩
    rw [← O.len]
    refine ⟨_, _, rfl, _, _, _, rfl, by omega, ?_, ?_⟩
    · split <;> omega
    refine ⟨_, rfl, _, rfl, _, rfl, l, d, k, rfl, h1, h8, hd, O, hk, fun H1 z rs s1 hz hT => ?_⟩
    refine ⟨z, _, rfl, .inl ⟨SqL.of hz, fun y hy => ?_⟩⟩
    have s2 := same_new hy (.tup (rs.map V.ref))
    exact qq _ y rs (s1.trans s2) (SqT.of upd_same) (hT.same s2)
end
end L6

namespace L6
open PySem PySem.Spec PyProof.Rows L2 L5 RZ
section
variable {P : Program} {w : World} {K : PySem.W.Frag} {mg : Str → Option Value} {base : Heap}
/-! ### the law's own draws -/
abbrev tubO (g x c : Int) : HO := .lst [.int g, .int x, .int c]
def sp_tub (K : PySem.W.Frag) : Sp := fun vs H Q _ => ∃ (a : Addr) (ns : List Int) (k : Nat), vs = [.ref a, .int ((k : Nat) : Int)] ∧ SqL K H a (ns.map V.int) ∧ k < 1000 ∧ ∀ (H' : Hp) (r : Addr) (g x c : Int), Same H H' → H r = none → H' r = some (tubO g x c) → Q (.ref r) H'
theorem mpos {j : Int} (h : (0 : Int) < j) : (0 : Int) < j := h
theorem ok_tub (T : Txt K mg) : FnOk P w K mg base CX0 1 T.a_w_tub T.d_w_tub ["_law_script", "_law_spot"] (sp_tub K) := by
  refine T.F_w_tub.ok sc_w_tub (fun vs H Q E h => ?_) (fun cdv A outer s H vs Q E hr h => ?_)
  · obtain ⟨a, ns, k, rfl, _⟩ := h
    rfl
  · obtain ⟨a, ns, k, rfl, hS, hk, q⟩ := h
    refine ⟨_, pss_cons (ps_set (i := 2) sc_w_tub.nd rfl (Or.inl rfl) (PE.weak (t' := fun σ' H' Q' => σ' = start N_w_tub [.ref a, .int ((k : Nat) : Int)] ∧ H' = H ∧ ∀ (i : Int), Q' (.int i) H) (pe_ifExp (pt_cmpR op_lt (pv 1) (pe_callB call_len_seq (by rfl) T.z_len boot_len (pa_cons (pv 0) pa_nil)) (nomark _))
        (pe_callTy call_int1 (by rfl) T.z_int boot_int (pa_cons (pe_ix ix_list (pv 0) (pv 1) (fun _ _ => rfl)) pa_nil))
        (pe_op op_add (pe_op op_mul pe_int (pv 1)) pe_int)) ?imp))
      (pss_cons (ps_set (i := 3) sc_w_tub.nd rfl (Or.inl rfl) (pe_op op_mod (pe_callTy call_int1 (by rfl) T.z_int boot_int (pa_cons (pe_callB call_abs (by rfl) T.z_abs boot_abs (pa_cons (pv 2) pa_nil)) pa_nil)) (pe_op op_powW (pe_op op_pow pe_int pe_int) pe_int)))
      (pss_one (ps_ret (pe_lst (pa_cons (pe_callB (call_max2 rfl) (by rfl) T.z_max boot_max (pa_cons pe_int (pa_cons (pe_op op_sub (pv 3) (pe_op op_pow pe_int pe_int)) pa_nil)))
        (pa_cons (pe_op op_add (pe_op op_add (pe_op op_add (pe_op op_mul (pe_op op_mod (pe_callTy call_int1 (by rfl) T.z_int boot_int (pa_cons (pv 3) pa_nil)) pe_int) pe_int) (pe_op op_mul pe_int (pv 1))) (pe_op op_mul pe_int (pe_callTy call_int1 (by rfl) T.z_int boot_int (pa_cons (pe_cmpR op_lt (pv 2) pe_int (nomark _)) pa_nil)))) pe_int) (pa_cons pe_int pa_nil))))))), ?_⟩
    case imp =>
      rintro σ' H' Q' ⟨rfl, rfl, h⟩
      refine ⟨_, rfl, _, rfl, a, _, rfl, .inl hS, _, _, rfl, rfl, _, rfl, ite2 (fun c => ?_) (fun c => ?_)⟩
      · have c' := of_decide_eq_true c
        rw [List.length_map] at c'
        have hlt : k < ns.length := by omega
        refine ⟨_, rfl, _, rfl, a, _, _, .int ns[k], rfl, rfl, hS, atI_nat (by rw [List.getElem?_map, List.getElem?_eq_getElem hlt] <;> rfl), .inl ⟨_, rfl, ?_⟩⟩
        exact h _
      · exact ⟨_, rfl, _, _, rfl, rfl, .inl ⟨by decide, by decide⟩, _, _, rfl, rfl, h _⟩
    refine ⟨rfl, rfl, fun cell => ?_⟩
    refine ⟨_, rfl, _, rfl, .inl ⟨_, rfl, _, _, rfl, rfl, ⟨by decide, by decide, by decide⟩, _, _, rfl, rfl, ⟨by decide, by decide +kernel⟩, _, _, rfl, rfl, Int.pow_pos (Int.pow_pos (by decide)), ?_⟩⟩
    refine ⟨_, rfl, _, _, rfl, rfl, ⟨by decide, by decide, by decide⟩, _, _, rfl, rfl, _, _, rfl, ?_⟩
    refine ⟨_, rfl, .inl ⟨_, rfl, _, _, rfl, rfl, mpos (by decide), _, _, rfl, rfl, .inr ⟨by decide, by decide⟩, _, rfl, _, _, rfl, rfl, .inl ⟨by decide, by decide⟩, _, _, rfl, rfl, _, rfl, _, _, rfl, rfl, .inr ⟨_, rfl, _, _, rfl, rfl, .inl ⟨by decide, by decide⟩, _, _, rfl, rfl, _, _, rfl, rfl, ?_⟩⟩⟩
    refine ⟨by show 3 ≤ sizeLine; decide, fun z hz => ?_⟩
    exact q _ z _ _ _ (same_new hz _) hz upd_same
abbrev rPour (H : Hp) (p : Addr) (m : Int) (Q : VK) : Prop := ∀ g x c r : Int, 0 ≤ r → r < m → Q (.int r) (upd H p (tubO g x c))
def sp_pour : Sp := fun vs H Q _ => ∃ (p : Addr) (m g x c : Int), vs = [.ref p, .int m] ∧ H p = some (tubO g x c) ∧ 0 < m ∧ m < 1073741824 ∧ rPour H p m Q
theorem ok_pour (T : Txt K mg) : FnOk P w K mg base CX0 1 T.a_w_pour T.d_w_pour ["_law_tub_here", "_law_total"] sp_pour := by
  refine T.F_w_pour.ok sc_w_pour (fun vs H Q E h => ?_) (fun cdv A outer s H vs Q E hr h => ?_)
  · obtain ⟨p, m, g, x, c, rfl, _⟩ := h
    rfl
  · obtain ⟨p, m, g, x, c, rfl, hp, h0, h1, q⟩ := h
    refine ⟨_, pss_cons (ps_if (pt_cmpR op_gt (pe_ix ix_list (pv 0) pe_int (fun _ _ => rfl)) pe_int (nomark _))
        (pss_cons (ps_set (i := 2) sc_w_pour.nd rfl (Or.inl rfl) (pe_op op_mod (pe_callTy call_int1 (by rfl) T.z_int boot_int (pa_cons (pe_ix ix_list (pv 0) pe_int (fun _ _ => rfl)) pa_nil)) (pv 1)))
        (pss_cons (ps_asg (pe_op op_fdiv (pe_ix ix_list (pv 0) pe_int (fun _ _ => rfl)) (pv 1)) (pg_sub (pv 0) pe_int set_list))
        (pss_one (ps_ret (pv 2))))) pss_nil)
      (pss_cons (ps_asg (pe_op op_add (pe_ix ix_list (pv 0) pe_int (fun _ _ => rfl)) pe_int) (pg_sub (pv 0) pe_int set_list))
      (pss_cons (ps_set (i := 3) sc_w_pour.nd rfl (Or.inl rfl) (pe_op op_mod (pe_callTy call_int1 (by rfl) T.z_int boot_int (pa_cons (pe_op op_add (pe_ix ix_list (pv 0) pe_int (fun _ _ => rfl)) (pe_op op_mul pe_int (pe_ix ix_list (pv 0) pe_int (fun _ _ => rfl)))) pa_nil)) pe_int))
      (pss_cons (ps_set (i := 4) sc_w_pour.nd rfl (Or.inl rfl) (pe_op op_add (pe_op op_mul (pe_op op_mod (pe_callTy call_int1 (by rfl) T.z_int boot_int (pa_cons (pe_op op_add (pe_op op_mul (pv 3) (pv 3)) (pe_op op_mul pe_int (pe_ix ix_list (pv 0) pe_int (fun _ _ => rfl)))) pa_nil)) pe_int) pe_int) (pv 3)))
      (pss_one (ps_ret (pe_op op_mod (pe_callTy call_int1 (by rfl) T.z_int boot_int (pa_cons (pe_op op_fdiv (pv 4) pe_int) pa_nil)) (pv 1))))))), ?_⟩
    have a0 : atI [V.int g, V.int x, V.int c] (0 : Int) = some (.int g) := rfl
    refine ⟨_, rfl, p, _, _, _, rfl, rfl, SqL.of hp, a0, _, _, rfl, rfl, _, rfl, ite2 (fun d => ?_) (fun d => ?_)⟩
    · refine ⟨_, rfl, p, _, _, _, rfl, rfl, SqL.of hp, a0, .inl ⟨_, rfl, _, rfl, _, _, rfl, rfl, h0, ?_⟩⟩
      refine ⟨_, rfl, p, _, _, _, rfl, rfl, SqL.of hp, a0, _, rfl, _, _, rfl, rfl, ⟨h0, h1⟩, ?_⟩
      refine ⟨_, rfl, p, _, _, 0, rfl, rfl, hp, rfl, ?_⟩
      exact ⟨_, rfl, q _ _ _ _ (Int.emod_nonneg _ (by omega)) (Int.emod_lt_of_pos _ h0)⟩
    · have a2 : atI [V.int g, V.int x, V.int c] (2 : Int) = some (.int c) := rfl
      refine ⟨_, rfl, p, _, _, _, rfl, rfl, SqL.of hp, a2, _, _, rfl, rfl, _, rfl, p, _, _, 2, rfl, rfl, hp, rfl, ?_⟩
      have hp' : (upd H p (.lst [V.int g, V.int x, V.int (c + 1)])) p = some (.lst [V.int g, V.int x, V.int (c + 1)]) := upd_same
      have b1 : atI [V.int g, V.int x, V.int (c + 1)] (1 : Int) = some (.int x) := rfl
      have b2 : atI [V.int g, V.int x, V.int (c + 1)] (2 : Int) = some (.int (c + 1)) := rfl
      refine ⟨_, rfl, p, _, _, _, rfl, rfl, SqL.of hp', b1, _, rfl, p, _, _, _, rfl, rfl, SqL.of hp', b2, _, _, rfl, rfl, .inl ⟨by decide, by decide⟩, _, _, rfl, rfl, .inl ⟨_, rfl, _, _, rfl, rfl, mpos (by decide), ?_⟩⟩
      have r0 := Int.emod_nonneg (x + 2750159 * (c + 1)) (show (2305843009213693951 : Int) ≠ 0 by decide)
      have r1 := Int.emod_lt_of_pos (x + 2750159 * (c + 1)) (show (0 : Int) < 2305843009213693951 by decide)
      generalize (x + 2750159 * (c + 1)) % 2305843009213693951 = one at r0 r1 ⊢
      refine ⟨_, rfl, _, rfl, _, _, rfl, rfl, .inl ⟨by omega, by omega⟩, _, rfl, p, _, _, _, rfl, rfl, SqL.of hp', b2, _, _, rfl, rfl, .inl ⟨by decide, by decide⟩, _, _, rfl, rfl, .inl ⟨_, rfl, _, _, rfl, rfl, mpos (by decide), _, _, rfl, rfl, .inr ⟨by decide, by decide⟩, _, rfl, _, _, rfl, rfl, ?_⟩⟩
      refine ⟨_, rfl, _, _, rfl, rfl, ⟨by decide, by decide⟩, .inl ⟨_, rfl, _, rfl, _, _, rfl, rfl, h0, ?_⟩⟩
      exact q _ _ _ _ (Int.emod_nonneg _ (by omega)) (Int.emod_lt_of_pos _ h0)
def sp_choice (K : PySem.W.Frag) : Sp := fun vs H Q _ => ∃ (p a : Addr) (xs : List V) (g x c : Int), vs = [.ref p, .ref a] ∧ H p = some (tubO g x c) ∧ a ≠ p ∧ SqL K H a xs ∧ xs ≠ [] ∧ xs.length ≤ 1000 ∧ ∀ g x c v, v ∈ xs → Q v (upd H p (tubO g x c))
theorem ok_choice (T : Txt K mg) : FnOk P w K mg base CX0 2 T.a_w_choice T.d_w_choice ["_law_tub_here", "_law_items"] (sp_choice K) := by
  refine T.F_w_choice.ok sc_w_choice (fun vs H Q E h => ?_) (fun cdv A outer s H vs Q E hr h => ?_)
  · obtain ⟨p, a, xs, g, x, c, rfl, _⟩ := h
    rfl
  · obtain ⟨p, a, xs, g, x, c, rfl, hp, hne, hS, hn, hz, q⟩ := h
    refine ⟨_, pss_one (ps_ret (pe_ix ix_list (pv 1) (pe_call (ok_pour T) hr (by rfl) T.m_w_pour T.F_w_pour.kp T.b_w_pour .nil pass0 (pa_cons (pv 0) (pa_cons (pe_callB call_len_seq (by rfl) T.z_len boot_len (pa_cons (pv 1) pa_nil)) pa_nil))) (fun _ _ => rfl))), ?_⟩
    have hpos : 0 < xs.length := List.length_pos_iff.mpr hn
    refine ⟨_, rfl, _, rfl, _, rfl, a, _, rfl, .inl hS, p, _, g, x, c, rfl, hp, by omega, by omega, fun g' x' c' r h0 h1 => ?_⟩
    have hlt : r.toNat < xs.length := by omega
    refine ⟨a, xs, r, xs[r.toNat], rfl, rfl, sql_updL hne hS, ?_, q _ _ _ _ (List.getElem_mem hlt)⟩
    have := atI_nat (xs := xs) (List.getElem?_eq_getElem hlt)
    rw [show ((r.toNat : Nat) : Int) = r by omega] at this
    exact this
/-! ### _law_binomial, _law_many -/
def sp_bin : Sp := fun vs H Q _ => ∃ (a b : Int) (n k : Nat), vs = [.int a, .int b] ∧ a = ((n : Nat) : Int) ∧ b = ((k : Nat) : Int) ∧ k ≤ n + 1 ∧ n ≤ 1000 ∧ k ≤ 1000 ∧ Q (.int ((C n k : Nat) : Int)) H
theorem C_le_pow : ∀ (n k : Nat), C n k ≤ 2 ^ n
  | _, 0 => by rw [C_zero]; exact Nat.one_le_two_pow
  | 0, k + 1 => Nat.zero_le _
  | n + 1, k + 1 => by
    have h1 := C_le_pow n k
    have h2 := C_le_pow n (k + 1)
    rw [C_succ, Nat.pow_succ]
    omega
theorem ok_bin (T : Txt K mg) : FnOk P w K mg base CX0 1 T.a_w_binomial T.d_w_binomial ["_law_top", "_law_bottom"] sp_bin := by
  refine T.F_w_binomial.ok sc_w_binomial (fun vs H Q E h => ?_) (fun cdv A outer s H vs Q E hr h => ?_)
  · obtain ⟨a, b, n, k, rfl, _⟩ := h
    rfl
  · obtain ⟨a, b, n, k, rfl, rfl, rfl, hkn, hn, hk, q⟩ := h
    refine ⟨_, pss_cons (ps_set (i := 2) sc_w_binomial.nd rfl (Or.inl rfl) pe_int)
      (pss_cons (ps_for PassesOwn.never rfl (pi_range1 rfl T.z_range (pa_cons (pv 1) pa_nil)) (pg_name (i := 3) sc_w_binomial.nd rfl (Or.inl rfl))
        (pss_one (ps_set (i := 2) sc_w_binomial.nd rfl (Or.inl rfl) (pe_op op_fdiv (pe_op op_mul (pv 2) (pe_op op_sub (pv 0) (pv 3))) (pe_op op_add (pv 3) pe_int)))))
      (pss_one (ps_ret (pe_ifExp (pt_chain op_le op_le pe_int (pv 1) (pv 0)) (pv 2) pe_int)))), ?_⟩
    refine ⟨_, rfl, _, rfl, by omega, by omega, ?_⟩
    refine for_range (lo := 0) (n := ((k : Nat) : Int).toNat) (fun i σ H' => H' = H ∧ ∃ v3 : Option V, σ = [some (.int ((n : Nat) : Int)), some (.int ((k : Nat) : Int)), some (.int ((C n i : Nat) : Int)), v3]) ⟨rfl, none, by rw [C_zero]; rfl⟩ ?_ ?_
    · rintro i σ H' hi ⟨rfl, v3, rfl⟩
      refine ⟨_, rfl, _, rfl, _, rfl, _, _, rfl, rfl, _, _, rfl, rfl, .inr ⟨by omega, by omega⟩, ?_⟩
      refine ⟨_, rfl, _, _, rfl, rfl, _, _, rfl, rfl, ⟨by omega, by omega⟩, rfl, some (.int (0 + ((i : Nat) : Int))), ?_⟩
      have hnx := C_next n i (by omega)
      have e1 : ((C n i : Nat) : Int) * (((n : Nat) : Int) - (0 + ((i : Nat) : Int))) / (0 + ((i : Nat) : Int) + 1) = ((C n (i + 1) : Nat) : Int) := by
        have e2 : ((C n i : Nat) : Int) * (((n : Nat) : Int) - (0 + ((i : Nat) : Int))) = ((C n (i + 1) : Nat) : Int) * (((i : Nat) : Int) + 1) := by
          have h4 : (((i + 1) * C n (i + 1) : Nat) : Int) = (((n - i) * C n i : Nat) : Int) := by rw [hnx]
          rw [Int.natCast_mul, Int.natCast_mul, show ((n - i : Nat) : Int) = (n : Int) - (i : Int) by omega] at h4
          rw [Int.zero_add, Int.mul_comm, ← h4, Int.mul_comm]
          rfl
        rw [e2, Int.zero_add]
        exact Int.mul_ediv_cancel _ (by omega)
      show [some (V.int ((n : Nat) : Int)), some (V.int ((k : Nat) : Int)), some (V.int (((C n i : Nat) : Int) * (((n : Nat) : Int) - (0 + ((i : Nat) : Int))) / (0 + ((i : Nat) : Int) + 1))), some (V.int (0 + ((i : Nat) : Int)))] = _
      rw [e1]
    · rintro σ H' ⟨rfl, v3, rfl⟩
      rw [show ((k : Nat) : Int).toNat = k by omega]
      refine ⟨_, rfl, _, _, rfl, rfl, _, rfl, ?_⟩
      rw [decide_eq_true (show (0 : Int) ≤ ((k : Nat) : Int) by omega)]
      refine iteT ⟨_, rfl, _, _, rfl, rfl, _, rfl, ite2 (fun c => ?_) (fun c => ?_)⟩
      · exact ⟨_, rfl, q⟩
      · have c' : ¬ _ := fun z => c (decide_eq_true z)
        rw [C_over (by omega)] at q
        exact q
end
end L6

namespace L6
open PySem PySem.Spec PyProof.Rows L2 L5 RZ
section
variable {P : Program} {w : World} {K : PySem.W.Frag} {mg : Str → Option Value} {base : Heap}
def sp_many : Sp := fun vs H Q _ => ∃ (a b : Int) (k d : Nat), vs = [.int a, .int b] ∧ a = ((k : Nat) : Int) + 1 ∧ b = ((d : Nat) : Int) ∧ k ≤ 100 ∧ d ≤ 800 ∧ Q (.int ((W k (d + 1) : Nat) : Int)) H
theorem ok_many (T : Txt K mg) : FnOk P w K mg base CX0 2 T.a_w_many T.d_w_many ["_law_letters", "_law_degree"] sp_many := by
  refine T.F_w_many.ok sc_w_many (fun vs H Q E h => ?_) (fun cdv A outer s H vs Q E hr h => ?_)
  · obtain ⟨a, b, k, d, rfl, _⟩ := h
    rfl
  · obtain ⟨a, b, k, d, rfl, rfl, rfl, hk, hd, q⟩ := h
    refine ⟨_, pss_one (ps_ret (pe_ifExp (pt_cmpR op_ge (pv 1) pe_int (nomark _)) (pe_call (ok_bin T) hr (by rfl) T.m_w_binomial T.F_w_binomial.kp T.b_w_binomial .nil pass0 (pa_cons (pe_op op_sub (pe_op op_add (pv 1) (pv 0)) pe_int) (pa_cons (pe_op op_sub (pv 0) pe_int) pa_nil))) pe_int)), ?_⟩
    refine ⟨_, rfl, _, _, rfl, rfl, _, rfl, ?_⟩
    rw [decide_eq_true (show (0 : Int) ≤ ((d : Nat) : Int) by omega)]
    refine iteT ⟨_, rfl, _, rfl, _, _, rfl, rfl, _, _, rfl, rfl, _, rfl, _, _, rfl, rfl, _, _, d + k, k, rfl, by omega, by omega, by omega, by omega, by omega, ?_⟩
    rw [W_at] at q
    exact q
theorem W_bin (k m : Nat) (h : 1 ≤ k) : C (m + k - 1) k = W k m := by
  cases m with
  | zero => rw [W_zero, C_over (by omega)]
  | succ m => rw [W_at, show m + 1 + k - 1 = m + k by omega]
def sp_plc (K : PySem.W.Frag) : Sp := fun vs H Q _ => ∃ (p : Addr) (t : List Nat), vs = [.ref p] ∧ SqT K H p (nv t) ∧ 1 ≤ t.length ∧ t.length ≤ 8 ∧ t.sum ≤ 500 ∧ ∀ H', Same H H' → Q (.int ((place t : Nat) : Int)) H'
theorem sum_drop_le (t : List Nat) (i : Nat) : (t.drop i).sum ≤ t.sum := by
  have : t.sum = (t.take i).sum + (t.drop i).sum := by rw [← List.sum_append, List.take_append_drop]
  omega
theorem ok_plc (T : Txt K mg) : FnOk P w K mg base CX0 2 T.a_w_place T.d_w_place ["_law_product_here"] (sp_plc K) := by
  refine T.F_w_place.ok sc_w_place (fun vs H Q E h => ?_) (fun cdv A outer s H vs Q E hr h => ?_)
  · obtain ⟨p, t, rfl, _⟩ := h
    rfl
  · obtain ⟨p, t, rfl, hT, h1, h8, hd, q⟩ := h
    refine ⟨_, pss_cons (ps_par3 (i := 1) (j := 2) (l := 3) (by rfl) sc_w_place.nd rfl rfl rfl (by decide) (by decide) (by decide) rfl rfl rfl (pa_cons (pe_callB (cr_sumT rfl) (by rfl) T.z_sum boot_sum (pa_cons (pv 0) pa_nil)) (pa_cons pe_int (pa_cons (pe_callB call_len_seq (by rfl) T.z_len boot_len (pa_cons (pv 0) pa_nil)) pa_nil))) (by rfl))
      (pss_cons (ps_for PassesOwn.never rfl (pi_range1 rfl T.z_range (pa_cons (pe_op op_sub (pv 3) pe_int) pa_nil)) (pg_name (i := 4) sc_w_place.nd rfl (Or.inl rfl))
        (pss_cons (ps_set (i := 5) sc_w_place.nd rfl (Or.inl rfl) (pe_op op_sub (pe_op op_sub (pv 3) (pv 4)) pe_int))
        (pss_cons (ps_set (i := 2) sc_w_place.nd rfl (Or.inl rfl) (pe_op op_add (pv 2) (pe_call (ok_bin T) hr (by rfl) T.m_w_binomial T.F_w_binomial.kp T.b_w_binomial .nil pass0 (pa_cons (pe_op op_add (pe_op op_sub (pe_op op_sub (pv 1) (pe_ix ix_tup (pv 0) (pv 4) (fun _ _ => rfl))) pe_int) (pv 5)) (pa_cons (pv 5) pa_nil)))))
        (pss_one (ps_set (i := 1) sc_w_place.nd rfl (Or.inl rfl) (pe_op op_sub (pv 1) (pe_ix ix_tup (pv 0) (pv 4) (fun _ _ => rfl))))))))
      (pss_one (ps_ret (pv 2)))), ?_⟩
    refine ⟨_, rfl, p, _, rfl, by rw [← nv_ints]; exact hT, _, rfl, p, _, rfl, .inr hT, _, _, _, rfl, ?_⟩
    rw [sum_cast, nv_len]
    refine ⟨_, rfl, _, _, rfl, rfl, _, rfl, by omega, by omega, ?_⟩
    rw [show (((t.length : Nat) : Int) - 1).toNat = t.length - 1 by omega]
    refine for_range (lo := 0) (n := t.length - 1) (fun i σ H' => ∃ (n : Nat) (v4 v5 : Option V), σ = [some (.ref p), some (.int (((t.drop i).sum : Nat) : Int)), some (.int ((n : Nat) : Int)), some (.int ((t.length : Nat) : Int)), v4, v5] ∧ Same H H' ∧ n + place (t.drop i) = place t)
      ⟨0, none, none, rfl, Same.refl _, Nat.zero_add _⟩ ?_ ?_
    · rintro i σ H1 hi ⟨n, v4, v5, rfl, s2, hn⟩
      have hlt : i < t.length := by omega
      have he := getD_at hlt
      generalize t.getD i 0 = e at he
      have hdr := drop_cons he
      have hs : (t.drop i).sum = e + (t.drop (i + 1)).sum := by rw [hdr, List.sum_cons]
      have hpl : place (t.drop i) = W (t.drop (i + 1)).length (t.drop (i + 1)).sum + place (t.drop (i + 1)) := by rw [hdr, place_cons]
      have hbl : (t.drop (i + 1)).length = t.length - (i + 1) := List.length_drop
      have hdl := sum_drop_le t i
      generalize hr' : t.drop (i + 1) = r at hs hpl hbl
      have hat : atI (nv t) (0 + ((i : Nat) : Int)) = some (.int ((e : Nat) : Int)) := by
        rw [Int.zero_add]
        exact nv_at he
      refine ⟨_, rfl, _, rfl, _, _, rfl, rfl, _, _, rfl, rfl, ?_⟩
      refine ⟨_, rfl, _, rfl, _, rfl, _, rfl, p, _, _, _, rfl, rfl, same_sqt s2 hT, hat, _, _, rfl, rfl, _, _, rfl, rfl, _, rfl, _, _, rfl, rfl, _, rfl, _, _, r.sum + r.length - 1, r.length, rfl, by omega, by omega, by omega, by omega, by omega, ?_⟩
      rw [W_bin r.length r.sum (by omega)]
      refine ⟨_, _, rfl, rfl, _, rfl, _, rfl, _, rfl, p, _, _, _, rfl, rfl, same_sqt s2 hT, hat, _, _, rfl, rfl, ?_⟩
      refine ⟨n + W r.length r.sum, some (.int (0 + ((i : Nat) : Int))), some (.int (((t.length : Nat) : Int) - (0 + ((i : Nat) : Int)) - 1)), ?_, s2, by omega⟩
      have e1 : (((t.drop i).sum : Nat) : Int) - ((e : Nat) : Int) = ((r.sum : Nat) : Int) := by omega
      show [some (V.ref p), some (V.int ((((t.drop i).sum : Nat) : Int) - ((e : Nat) : Int))), some (V.int (((n : Nat) : Int) + ((W r.length r.sum : Nat) : Int))), some (V.int ((t.length : Nat) : Int)), _, _] = _
      rw [e1]
      rfl
    · rintro σ H1 ⟨n, v4, v5, rfl, s2, hn⟩
      have he := getD_at (show t.length - 1 < t.length by omega)
      rw [drop_cons he, place_cons, List.drop_of_length_le (by omega)] at hn
      have h0 : n + (W 0 0 + 0) = place t := hn
      rw [W_zero] at h0
      have hn' : n = place t := by omega
      subst hn'
      exact ⟨_, rfl, q H1 s2⟩
/-! ### _law_product -/
def sp_prd (K : PySem.W.Frag) : Sp := fun vs H Q _ => ∃ (p : Addr) (g x c : Int) (l m : Nat), vs = [.ref p, .int ((l : Nat) : Int), .int ((m : Nat) : Int)] ∧ H p = some (tubO g x c) ∧ 1 ≤ l ∧ l ≤ 8 ∧ m ≤ 60 ∧
  ∀ (H' : Hp) (z : Addr) (t : List Nat) (g x c : Int), Bar p H H' → H' p = some (tubO g x c) → SqT K H' z (nv t) → t.length = l → t.sum ≤ m → Q (.ref z) H'
theorem ok_prd (T : Txt K mg) : FnOk P w K mg base CX0 2 T.a_w_product T.d_w_product ["_law_tub_here", "_law_letters", "_law_most"] (sp_prd K) := by
  refine T.F_w_product.ok sc_w_product (fun vs H Q E h => ?_) (fun cdv A outer s H vs Q E hr h => ?_)
  · obtain ⟨p, g, x, c, l, m, rfl, _⟩ := h
    rfl
  · obtain ⟨p, g, x, c, l, m, rfl, hp, h1, h8, hm, q⟩ := h
    refine ⟨_, pss_cons (ps_par (i := 3) (j := 4) (by rfl) sc_w_product.nd rfl rfl (by decide) rfl rfl (pa_cons (pe_call (ok_pour T) hr (by rfl) T.m_w_pour T.F_w_pour.kp T.b_w_pour .nil pass0 (pa_cons (pv 0) (pa_cons (pe_op op_add (pv 2) pe_int) pa_nil))) (pa_cons (pe_lst pa_nil) pa_nil)) (by rfl))
      (pss_cons (ps_for PassesOwn.never rfl (pi_range1 rfl T.z_range (pa_cons (pe_op op_sub (pv 1) pe_int) pa_nil)) (pg_name (i := 5) sc_w_product.nd rfl (Or.inl rfl))
        (pss_cons (ps_expr (pe_bm PySem.F.plainAttrs_list PySem.F.slot_list_append PySem.F.type_list_append mt_append (pv 4) (pa_cons
          (PE.weak (t' := fun σ' H' Q' => ∃ (r : Nat) (g x c : Int) (v1 v2 v4 v5 : Option V), σ' = [some (.ref p), v1, v2, some (.int ((r : Nat) : Int)), v4, v5] ∧ r ≤ 60 ∧ H' p = some (tubO g x c) ∧ ∀ (H2 : Hp) (e : Nat) (g x c : Int), e ≤ r → Bar p H' H2 → H2 p = some (tubO g x c) → Q' (.int ((e : Nat) : Int)) H2)
          (pe_ifExp (pt_cmpR op_gt (pe_call (ok_pour T) hr (by rfl) T.m_w_pour T.F_w_pour.kp T.b_w_pour .nil pass0 (pa_cons (pv 0) (pa_cons pe_int pa_nil))) pe_int (nomark _))
            (pe_call (ok_pour T) hr (by rfl) T.m_w_pour T.F_w_pour.kp T.b_w_pour .nil pass0 (pa_cons (pv 0) (pa_cons (pe_op op_add (pv 3) pe_int) pa_nil))) pe_int) ?w) pa_nil)))
        (pss_one (ps_set (i := 3) sc_w_product.nd rfl (Or.inl rfl) (pe_op op_sub (pv 3) (pe_ix ix_list (pv 4) (pe_un un_neg pe_int) (fun _ _ => rfl)))))))
      (pss_one (ps_ret (pe_callTy call_tuple_of (by rfl) T.z_tuple boot_tuple (pa_cons (pe_op op_cat (pv 4) (pe_lst (pa_cons (pv 3) pa_nil))) pa_nil))))), ?_⟩
    case w =>
      rintro σ' H' Q' ⟨r, g, x, c, v1, v2, v4, v5, rfl, hr6, hp', q'⟩
      refine ⟨_, rfl, p, _, g, x, c, rfl, hp', by decide, by decide, fun g1 x1 c1 i3 _ _ => ?_⟩
      refine ⟨_, _, rfl, rfl, _, rfl, ite2 (fun _ => ?_) (fun _ => ?_)⟩
      · refine ⟨_, rfl, _, rfl, _, _, rfl, rfl, p, _, g1, x1, c1, rfl, upd_same, by omega, by omega, fun g2 x2 c2 e he0 he1 => ?_⟩
        obtain ⟨e, rfl⟩ : ∃ n : Nat, e = ((n : Nat) : Int) := ⟨e.toNat, by omega⟩
        exact q' _ e g2 x2 c2 (by omega) (Bar.upd.trans Bar.upd) upd_same
      · exact q' _ 0 g1 x1 c1 (Nat.zero_le _) Bar.upd upd_same
    refine ⟨_, rfl, _, rfl, _, _, rfl, rfl, p, _, g, x, c, rfl, hp, by omega, by omega, fun g1 x1 c1 d hd0 hd1 => ?_⟩
    obtain ⟨d, rfl⟩ : ∃ n : Nat, d = ((n : Nat) : Int) := ⟨d.toNat, by omega⟩
    have hp1 : (upd H p (tubO g1 x1 c1)) p = some (tubO g1 x1 c1) := upd_same
    have B1 : Bar p H (upd H p (tubO g1 x1 c1)) := Bar.upd
    refine ⟨Nat.zero_le _, fun y hy => ?_⟩
    have hyp : y ≠ p := fun e => by
      rw [e, hp1] at hy
      cases hy
    have hyH : H y = none := by
      rw [upd_ne hyp] at hy
      exact hy
    have sy := same_new hy (.lst [])
    refine ⟨_, _, rfl, ?_⟩
    refine ⟨_, rfl, _, _, rfl, rfl, _, rfl, by omega, by omega, ?_⟩
    rw [show (((l : Nat) : Int) - 1).toNat = l - 1 by omega]
    refine for_range (lo := 0) (n := l - 1) (fun i σ H' => ∃ (ts : List Nat) (r : Nat) (g x c : Int) (v5 : Option V), σ = [some (.ref p), some (.int ((l : Nat) : Int)), some (.int ((m : Nat) : Int)), some (.int ((r : Nat) : Int)), some (.ref y), v5] ∧ Bar p H H' ∧ H' p = some (tubO g x c) ∧ H' y = some (.lst (nv ts)) ∧ ts.length = i ∧ ts.sum + r = d)
      ⟨[], d, g1, x1, c1, none, rfl, B1.trans (Bar.same sy), sy _ _ hp1, upd_same, rfl, Nat.zero_add _⟩ ?_ ?_
    · rintro i σ H1 hi ⟨ts, r, g, x, c, v5, rfl, B2, hp2, hy2, htl, hts⟩
      refine ⟨_, rfl, .inl ⟨rfl, _, SqL.of hy2⟩, r, g, x, c, _, _, _, _, rfl, by omega, hp2, fun H2 e g' x' c' he B3 hp3 => ?_⟩
      have hy3 := B3 _ _ hyp hy2
      refine ⟨y, _, _, rfl, rfl, hy3, by rw [nv_len]; exact sizeK (by omega), ?_⟩
      have hy4 : (upd H2 y (.lst (nv ts ++ [V.int ((e : Nat) : Int)]))) y = some (.lst (nv ts ++ [V.int ((e : Nat) : Int)])) := upd_same
      refine ⟨_, rfl, _, rfl, _, rfl, y, _, _, _, rfl, rfl, SqL.of hy4, atI_last _ _, _, _, rfl, rfl, ?_⟩
      have hyH1 : Bar p H (upd H2 y (.lst (nv ts ++ [V.int ((e : Nat) : Int)]))) := fun b o hb hbo => by
        rw [upd_ne (ne_of_none hbo hyH)]
        exact B3 b o hb (B2 b o hb hbo)
      refine ⟨ts ++ [e], r - e, g', x', c', some (.int (0 + ((i : Nat) : Int))), ?_, hyH1, by rw [upd_ne (Ne.symm hyp)]; exact hp3, by rw [nv_app]; exact hy4, by rw [List.length_append, htl]; rfl, by rw [List.sum_append]; simp; omega⟩
      have e1 : ((r : Nat) : Int) - ((e : Nat) : Int) = ((r - e : Nat) : Int) := by omega
      show [some (V.ref p), some (V.int ((l : Nat) : Int)), some (V.int ((m : Nat) : Int)), some (V.int (((r : Nat) : Int) - ((e : Nat) : Int))), some (V.ref y), some (V.int (0 + ((i : Nat) : Int)))] = _
      rw [e1]
    · rintro σ H1 ⟨ts, r, g, x, c, v5, rfl, B2, hp2, hy2, htl, hts⟩
      refine ⟨_, rfl, _, rfl, by show 1 ≤ sizeLine; decide, fun z hz => ?_⟩
      have sz := same_new hz (.lst [V.int ((r : Nat) : Int)])
      refine ⟨y, z, _, _, rfl, rfl, sz _ _ hy2, upd_same, ?_, fun a ha => ?_⟩
      · rw [nv_len]
        exact Nat.le_of_lt (sizeK (by simp only [List.length_cons, List.length_nil]; omega))
      have sa := same_new ha (.lst (nv ts ++ [V.int ((r : Nat) : Int)]))
      refine ⟨a, _, rfl, .inl ⟨SqL.of upd_same, fun b hb => ?_⟩⟩
      have sb := same_new hb (.tup (nv ts ++ [V.int ((r : Nat) : Int)]))
      have S := sz.trans (sa.trans sb)
      refine q _ b (ts ++ [r]) g x c (B2.trans (Bar.same S)) (S _ _ hp2) ?_ (by rw [List.length_append, htl]; simp; omega) (by rw [List.sum_append]; simp; omega)
      rw [nv_app]
      exact SqT.of upd_same
end
end L6

namespace L6
open PySem PySem.Spec PyProof.Rows L2 L5 RZ
section
variable {K : PySem.W.Frag} {H H' : Hp}
/-- pairs of a tuple and a number -/
def Pr (K : PySem.W.Frag) (H : Hp) (z : Addr) (q : List Nat × Nat) : Prop := ∃ a, SqT K H z [.ref a, .int ((q.2 : Nat) : Int)] ∧ SqT K H a (nv q.1)
theorem Pr.same (e : Same H H') {z : Addr} {q : List Nat × Nat} : Pr K H z q → Pr K H' z q := fun ⟨a, h1, h2⟩ => ⟨a, same_sqt e h1, same_sqt e h2⟩
theorem Pr.updL {p : Addr} {ys : List V} {o : HO} (hp : H p = some (.lst ys)) {z : Addr} {q : List Nat × Nat} : Pr K H z q → Pr K (upd H p o) z q := fun ⟨a, h1, h2⟩ => ⟨a, sqt_updL hp h1, sqt_updL hp h2⟩
def Prs (K : PySem.W.Frag) (H : Hp) : List Addr → List (List Nat × Nat) → Prop := Paired (Pr K H)
theorem Prs.same (e : Same H H') : ∀ {rs : List Addr} {L : List (List Nat × Nat)}, Prs K H rs L → Prs K H' rs L
  | _, _, .nil => .nil
  | _, _, .cons h r => .cons (h.same e) (Prs.same e r)
theorem Prs.updL {p : Addr} {ys : List V} {o : HO} (hp : H p = some (.lst ys)) : ∀ {rs : List Addr} {L : List (List Nat × Nat)}, Prs K H rs L → Prs K (upd H p o) rs L
  | _, _, .nil => .nil
  | _, _, .cons h r => .cons (h.updL hp) (Prs.updL hp r)
theorem Prs.length : ∀ {rs : List Addr} {L : List (List Nat × Nat)}, Prs K H rs L → rs.length = L.length
  | _, _, .nil => rfl
  | _, _, .cons _ r => by rw [List.length_cons, List.length_cons, Prs.length r]
theorem Prs.app : ∀ {rs qs : List Addr} {L M : List (List Nat × Nat)}, Prs K H rs L → Prs K H qs M → Prs K H (rs ++ qs) (L ++ M)
  | _, _, _, _, .nil, h => h
  | _, _, _, _, .cons h r, k => .cons h (Prs.app r k)
theorem Prs.get : ∀ {rs : List Addr} {L : List (List Nat × Nat)} {i : Nat} {a : Addr}, Prs K H rs L → rs[i]? = some a → ∃ q, L[i]? = some q ∧ Pr K H a q
  | _, _, _, _, .nil, e => by simp at e
  | _, _, 0, _, .cons h _, e => by
    obtain rfl := Option.some.inj e
    exact ⟨_, rfl, h⟩
  | _, _, i + 1, _, .cons _ r, e => Prs.get r (i := i) e
end
section
variable {P : Program} {w : World} {K : PySem.W.Frag} {mg : Str → Option Value} {base : Heap}
abbrev extP (q : List Nat × Nat) : List (List Nat × Nat) := (List.range (q.2 + 1)).map fun e => (q.1 ++ [q.2 - e], e)
theorem pairs_len (d : Nat) : ∀ n, ∀ q ∈ pairsN d n, q.1.length = n
  | 0, q, h => by
    rw [List.mem_singleton.mp h]
    rfl
  | n + 1, q, h => by
    obtain ⟨u, hu, h2⟩ := List.mem_flatMap.mp h
    obtain ⟨e, _, rfl⟩ := List.mem_map.mp h2
    show (u.1 ++ [u.2 - e]).length = n + 1
    rw [List.length_append, pairs_len d n u hu]
    rfl
theorem flat_take_le {α β : Type} (f : α → List β) (L : List α) (j : Nat) : ((L.take j).flatMap f).length ≤ (L.flatMap f).length := by
  have e : L.flatMap f = (L.take j).flatMap f ++ (L.drop j).flatMap f := by rw [← List.flatMap_append, List.take_append_drop]
  rw [e, List.length_append]
  omega
def sp_lis (K : PySem.W.Frag) : Sp := fun vs H Q _ => ∃ l d : Nat, vs = [.int ((l : Nat) : Int), .int ((d : Nat) : Int)] ∧ 1 ≤ l ∧ l ≤ 4 ∧ d ≤ 6 ∧ Ok6 l d ∧
  ∀ (H' : Hp) (z : Addr) (rs : List Addr), Same H H' → H z = none → H' z = some (.lst (rs.map V.ref)) → Tups K H' rs (rows l d) → Q (.ref z) H'
theorem ok_lis (T : Txt K mg) : FnOk P w K mg base CX0 1 T.a_w_listed T.d_w_listed ["_law_letters", "_law_degree"] (sp_lis K) := by
  refine T.F_w_listed.ok sc_w_listed (fun vs H Q E h => ?_) (fun cdv A outer s H vs Q E hr h => ?_)
  · obtain ⟨l, d, rfl, _⟩ := h
    rfl
  · obtain ⟨l, d, rfl, h1, h4, hd, O, q⟩ := h
    refine ⟨_, pss_cons (ps_set (i := 2) sc_w_listed.nd rfl (Or.inl rfl) (pe_lst (pa_cons (pe_tup (pa_cons (pe_tup pa_nil) (pa_cons (pv 1) pa_nil))) pa_nil)))
      (pss_cons (ps_for PassesOwn.never rfl (pi_range1 rfl T.z_range (pa_cons (pe_op op_sub (pv 0) pe_int) pa_nil)) (pg_name (i := 3) sc_w_listed.nd rfl (Or.inl rfl))
        (pss_cons (ps_set (i := 4) sc_w_listed.nd rfl (Or.inl rfl) (pe_lst pa_nil))
        (pss_cons (ps_for PassesOwn.never rfl (pi_list (pe_callTy call_list_of (by rfl) T.z_list boot_list (pa_cons (pv 2) pa_nil))) (pg_tup (by rfl) (pgs_cons (pg_name (i := 5) sc_w_listed.nd rfl (Or.inr rfl)) (pgs_cons (pg_name (i := 6) sc_w_listed.nd rfl (Or.inr rfl)) pgs_nil)))
          (pss_one (ps_expr (pe_bm PySem.F.plainAttrs_list PySem.F.slot_list_extend PySem.F.type_list_extend mt_extend (pv 4) (pa_cons
            (pe_lc (own := [("_law_less", 7)]) (g := gName 7) (tt := tYes) rfl sc_w_listed.nd (pi_range1 rfl T.z_range (pa_cons (pe_op op_add (pv 6) pe_int) pa_nil)) (blkOk_by (own := [("_law_less", 7)]) (N := N_w_listed) (sc := defScope s_w_listed) (by decide +kernel))
              (fun _ _ _ _ _ => pg_name (i := 7) sc_w_listed.nd rfl (Or.inl rfl)) (fun _ _ _ _ _ => pts_nil)
              (fun _ _ _ _ _ => pe_tup (pa_cons (pe_op (show OpR _ _ (rCatB K) from op_catB) (pv 5) (pe_tup (pa_cons (pe_op op_sub (pv 6) (pv 7)) pa_nil))) (pa_cons (pv 7) pa_nil)))) pa_nil)))))
        (pss_one (ps_set (i := 2) sc_w_listed.nd rfl (Or.inl rfl) (pv 4))))))
      (pss_one (ps_ret 
        (pe_lc (own := [("_law_row", 5), ("_law_left", 6)]) (g := gTup K 2 (gCons (gName 5) (gCons (gName 6) gNil))) (tt := tYes) rfl sc_w_listed.nd (pi_list (pv 2)) (blkOk_by (own := [("_law_row", 5), ("_law_left", 6)]) (N := N_w_listed) (sc := defScope s_w_listed) (by decide +kernel))
          (fun _ _ _ _ _ => pg_tup (by rfl) (pgs_cons (pg_name (i := 5) sc_w_listed.nd rfl (Or.inl rfl)) (pgs_cons (pg_name (i := 6) sc_w_listed.nd rfl (Or.inl rfl)) pgs_nil))) (fun _ _ _ _ _ => pts_nil)
          (fun _ _ _ _ _ => pe_op (show OpR _ _ (rCatB K) from op_catB) (pv 5) (pe_tup (pa_cons (pv 6) pa_nil))))))), ?_⟩
    -- found = [((), degree)]
    refine ⟨Nat.zero_le _, fun z0 hz0 => ⟨_, rfl, by show 2 ≤ sizeLine; decide, fun z1 hz1 => ⟨by show 1 ≤ sizeLine; decide, fun f0 hf0 => ?_⟩⟩⟩
    have s0 := same_new hz0 (.tup [])
    have s1 := same_new hz1 (.tup [V.ref z0, V.int ((d : Nat) : Int)])
    have s2 := same_new hf0 (.lst [V.ref z1])
    have tf0 : Prs K (upd (upd (upd H z0 (.tup [])) z1 (.tup [V.ref z0, V.int ((d : Nat) : Int)])) f0 (.lst [V.ref z1])) [z1] (pairsN d 0) := .cons ⟨z0, same_sqt s2 (SqT.of upd_same), same_sqt (s1.trans s2) (SqT.of upd_same)⟩ .nil
    refine ⟨_, rfl, _, _, rfl, rfl, _, rfl, by omega, by omega, ?_⟩
    refine for_range (lo := 0) (n := (((l : Nat) : Int) - 1).toNat) (fun i σ H' => ∃ (f : Addr) (rs : List Addr) (v3 v4 v5 v6 : Option V), σ = [some (.int ((l : Nat) : Int)), some (.int ((d : Nat) : Int)), some (.ref f), v3, v4, v5, v6, none] ∧ Same H H' ∧ H' f = some (.lst (rs.map V.ref)) ∧ Prs K H' rs (pairsN d i))
      ⟨f0, [z1], none, none, none, none, rfl, s0.trans (s1.trans s2), upd_same, tf0⟩ ?_ ?_
    · rintro i σ H1 hi ⟨f, rs, v3, v4, v5, v6, rfl, sH, hf, hT⟩
      have sz1 := O.size (i + 1) (show i + 1 < l by omega)
      have sz0 := O.size i (show i < l by omega)
      refine ⟨Nat.zero_le _, fun m hm => ?_⟩
      have sm := same_new hm (.lst [])
      refine ⟨_, rfl, f, _, rfl, .inl (SqL.of (sm _ _ hf)), fun y hy => ?_⟩
      have sy := same_new hy (.lst (rs.map V.ref))
      have hmy : m ≠ y := ne_of_none upd_same hy
      have sH2 := sm.trans sy
      refine ⟨y, rfl, ⟨_, SqL.of upd_same⟩, ?_⟩
      refine for_list (K := K) (a := y) (xs := rs.map V.ref) (fun j σ H2 => ∃ (ms : List Addr) (v5 v6 : Option V), σ = [some (.int ((l : Nat) : Int)), some (.int ((d : Nat) : Int)), some (.ref f), some (.int (0 + ((i : Nat) : Int))), some (.ref m), v5, v6, none] ∧ Same H1 H2 ∧ H2 y = some (.lst (rs.map V.ref)) ∧ H2 m = some (.lst (ms.map V.ref)) ∧ Prs K H2 ms (((pairsN d i).take j).flatMap extP))
        ⟨[], v5, v6, rfl, sH2, upd_same, sy _ _ upd_same, .nil⟩ (fun j σ H2 _ ⟨_, _, _, _, _, hy2, _⟩ => SqL.of hy2) ?_ ?_
      · rintro j x σ H2 hx ⟨ms, v5, v6, rfl, s2, hy2, hm2, hT2⟩
        obtain ⟨a, ha, rfl⟩ := ref_get hx
        obtain ⟨⟨t, r⟩, ht, b, hta, htb⟩ := (hT.same s2).get ha
        have htm := List.mem_of_getElem? ht
        have hrd : r ≤ d := O.rest i (by omega) _ htm
        have hl : t.length = i := pairs_len d i _ htm
        refine ⟨a, _, rfl, hta, rfl, _, _, rfl, _, _, rfl, rfl, ?_⟩
        refine ⟨_, rfl, .inl ⟨rfl, _, SqL.of hm2⟩, ?_⟩
        refine ⟨_, rfl, _, _, rfl, rfl, _, rfl, by omega, by omega, fun D hD => ?_⟩
        have sD := same_new hD (.lst [])
        refine lc_range (lo := 0) (n := (((r : Nat) : Int) + 1).toNat) (fun k H3 => ∃ ds : List Addr, Same H2 H3 ∧ H3 D = some (.lst (ds.map V.ref)) ∧ Prs K H3 ds ((List.range k).map fun e => (t ++ [r - e], e))) ⟨[], sD, upd_same, .nil⟩ ?_ ?_
        · rintro k H3 hk ⟨ds, s3, hD3, hT3⟩
          refine ⟨rfl, _, rfl, _, rfl, _, rfl, _, _, rfl, rfl, by show 1 ≤ sizeLine; decide, fun z hz => ?_⟩
          have sz := same_new hz (.tup [V.int (((r : Nat) : Int) - (0 + ((k : Nat) : Int)))])
          refine ⟨b, z, _, _, rfl, rfl, same_sqt sz (same_sqt s3 htb), SqT.of upd_same, ?_, fun H5 z5 s5 hz5 => ?_⟩
          · rw [nv_len]
            exact Nat.le_of_lt (sizeK (by simp only [List.length_cons, List.length_nil]; omega))
          refine ⟨_, rfl, by show 2 ≤ sizeLine; decide, fun z6 hz6 => ?_⟩
          have s6 := same_new hz6 (.tup [V.ref z5, V.int (0 + ((k : Nat) : Int))])
          have S6 := sz.trans (s5.trans s6)
          have hlen3 := hT3.length
          rw [List.length_map, List.length_range] at hlen3
          have hD6 := S6 _ _ hD3
          refine ⟨ds.map V.ref, hD6, by rw [List.length_map]; exact sizeK (by omega), ds ++ [z6], same_updL (s3.trans S6) hD, by rw [upd_same, List.map_append]; rfl, ?_⟩
          rw [List.range_succ, List.map_append]
          have e1 : nv t ++ [V.int (((r : Nat) : Int) - (0 + ((k : Nat) : Int)))] = nv (t ++ [r - k]) := by
            rw [nv_app, Int.zero_add, show ((r : Nat) : Int) - ((k : Nat) : Int) = ((r - k : Nat) : Int) by omega]
            rfl
          rw [e1] at hz5
          refine ((hT3.same S6).updL hD6).app (.cons ⟨z5, sqt_updL hD6 ?_, sqt_updL hD6 (same_sqt s6 hz5)⟩ .nil)
          rw [Int.zero_add]
          exact SqT.of upd_same
        · rintro H3 ⟨ds, s3, hD3, hT3⟩
          rw [show (((r : Nat) : Int) + 1).toNat = r + 1 by omega] at hT3
          have hflat : (((pairsN d i).take (j + 1)).flatMap extP) = ((pairsN d i).take j).flatMap extP ++ extP (t, r) := by
            rw [take_more ht, List.flatMap_append]
            simp
          have hle : (ms ++ ds).length ≤ 400 := by
            rw [List.length_append, hT2.length, hT3.length]
            have e1 := flat_take_le extP (pairsN d i) (j + 1)
            rw [hflat, List.length_append] at e1
            have e2 : (pairsN d (i + 1)).length = ((pairsN d i).flatMap extP).length := rfl
            have e3 : (extP (t, r)).length = ((List.range (r + 1)).map fun e => (t ++ [r - e], e)).length := rfl
            omega
          have hmD : m ≠ D := ne_of_none hm2 hD
          have hm3 := s3 _ _ hm2
          refine ⟨m, D, _, _, rfl, rfl, hm3, hD3, ?_, ms ++ ds, some (.ref b), some (.int ((r : Nat) : Int)), rfl, same_updL (s2.trans s3) hm, ?_, by rw [upd_same, List.map_append], ?_⟩
          · rw [← List.length_append, ← List.map_append, List.length_map]
            exact Nat.le_of_lt (sizeK (by omega))
          · rw [upd_ne (Ne.symm hmy)]
            exact s3 _ _ hy2
          · rw [hflat]
            exact ((hT2.same s3).updL hm3).app (hT3.updL hm3)
      · rintro σ H2 ⟨ms, v5, v6, rfl, s2, hy2, hm2, hT2⟩
        rw [List.length_map, hT.length, List.take_length] at hT2
        refine ⟨_, rfl, ?_⟩
        exact ⟨m, ms, some (.int (0 + ((i : Nat) : Int))), some (.ref m), v5, v6, rfl, sH.trans s2, hm2, hT2⟩
    · rintro σ H1 ⟨f, rs, v3, v4, v5, v6, rfl, sH, hf, hT⟩
      rw [show (((l : Nat) : Int) - 1).toNat = l - 1 by omega] at hT
      have sz0 := O.size (l - 1) (show l - 1 < l by omega)
      refine ⟨_, rfl, f, rfl, ⟨_, SqL.of hf⟩, fun D hD => ?_⟩
      have sD := same_new hD (.lst [])
      have eas : ∀ j : Nat, (rows l d).take j = ((pairsN d (l - 1)).take j).map fun q => q.1 ++ [q.2] := fun j => List.map_take.symm
      refine lc_list (K := K) (a := f) (xs := rs.map V.ref) (fun j H2 => ∃ ds : List Addr, Same H1 H2 ∧ H2 D = some (.lst (ds.map V.ref)) ∧ Tups K H2 ds ((rows l d).take j)) ⟨[], sD, upd_same, .nil⟩ (fun j H2 _ ⟨_, s2, _⟩ => s2.seq (SqL.of hf)) ?_ ?_
      · rintro j x H2 hx ⟨ds, s2, hD2, hT2⟩
        obtain ⟨a, ha, rfl⟩ := ref_get hx
        obtain ⟨⟨t, r⟩, ht, b, hta, htb⟩ := (hT.same s2).get ha
        have htm := List.mem_of_getElem? ht
        have hl : t.length = l - 1 := pairs_len d (l - 1) _ htm
        refine ⟨a, _, rfl, hta, rfl, _, _, rfl, _, _, rfl, rfl, ?_⟩
        refine ⟨rfl, _, rfl, _, rfl, by show 1 ≤ sizeLine; decide, fun z hz => ?_⟩
        have sz := same_new hz (.tup [V.int ((r : Nat) : Int)])
        refine ⟨b, z, _, _, rfl, rfl, same_sqt sz htb, SqT.of upd_same, ?_, fun H5 z5 s5 hz5 => ?_⟩
        · rw [nv_len]
          exact Nat.le_of_lt (sizeK (by simp only [List.length_cons, List.length_nil]; omega))
        have s6 : Same H2 H5 := sz.trans s5
        have hlen3 := hT2.length
        rw [eas, List.length_map, List.length_take] at hlen3
        refine ⟨ds.map V.ref, s6 _ _ hD2, by rw [List.length_map]; exact sizeK (by omega), ds ++ [z5], same_updL (s2.trans s6) hD, by rw [upd_same, List.map_append]; rfl, ?_⟩
        have hz6 : SqT K H5 z5 (nv (t ++ [r])) := by
          rw [nv_app]
          exact hz5
        rw [eas, take_more ht, List.map_append, ← eas]
        exact ((hT2.same s6).updL (s6 _ _ hD2)).app (.cons (sqt_updL (s6 _ _ hD2) hz6) .nil)
      · rintro H2 ⟨ds, s2, hD2, hT2⟩
        have el : (rows l d).length = rs.length := by
          rw [hT.length]
          exact List.length_map _
        rw [List.length_map, ← el, List.take_length] at hT2
        exact q H2 D ds (sH.trans s2) (Same.free sH hD) hD2 hT2
end
end L6

namespace L6
open PySem PySem.Spec PyProof.Rows L2 L5 RZ
theorem W_up : ∀ (k m : Nat), W k m ≤ W (k + 1) m
  | k, 0 => by rw [W_zero, W_zero]; exact Nat.le_refl _
  | k, m + 1 => by
    rw [W_step]
    omega
theorem C677 : C 67 7 = 869648208 := by
  have h := comb_C 67 7
  have e : PySem.W.mcComb ((67 : Nat) : Int) ((7 : Nat) : Int) = 869648208 := by decide +kernel
  rw [e] at h
  omega
theorem W_top {k m : Nat} (hk : k ≤ 7) (hm : m ≤ 61) : W k m ≤ 869648208 := by
  have h1 : W k m ≤ W k 61 := W_mono k hm
  have h2 : ∀ j, W k 61 ≤ W (k + j) 61 := fun j => by
    induction j with
    | zero => exact Nat.le_refl _
    | succ j ih => exact Nat.le_trans ih (W_up _ _)
  have h3 := h2 (7 - k)
  rw [show k + (7 - k) = 7 by omega] at h3
  have h4 : W 7 61 = 869648208 := by rw [W_at]; exact C677
  omega
theorem prod60_of {t : List Nat} (h1 : 1 ≤ t.length) (h8 : t.length ≤ 8) (hs : t.sum ≤ 60) : Prod60 t := ⟨h1, h8, fun e he => by
  obtain ⟨i, hi, rfl⟩ := List.getElem_of_mem he
  have h := List.getElem?_eq_getElem hi
  have hdr := drop_cons h
  have h2 := sum_drop_le t i
  rw [hdr, List.sum_cons] at h2
  omega⟩
section
variable {P : Program} {w : World} {K : PySem.W.Frag} {mg : Str → Option Value} {base : Heap}
def sp_right : Sp := fun vs H Q _ => ∃ (p : Addr) (g x c : Int), vs = [.ref p] ∧ H p = some (tubO g x c) ∧ ∀ H' g x c, Bar p H H' → H' p = some (tubO g x c) → Q (.bl true) H'
theorem ok_great (T : Txt K mg) : FnOk P w K mg base CX0 7 T.a_w_great_right T.d_w_great_right ["_law_tub_here"] sp_right := by
  refine T.F_w_great_right.ok sc_w_great_right (fun vs H Q E h => ?_) (fun cdv A outer s H vs Q E hr h => ?_)
  · obtain ⟨p, g, x, c, rfl, _⟩ := h
    rfl
  · obtain ⟨p, g, x, c, rfl, hp0, q⟩ := h
    refine ⟨_, pss_cons (ps_set (i := 1) sc_w_great_right.nd rfl (Or.inl rfl) (PE.weak (t' := fun σ' H' Q' => σ' = start N_w_great_right [.ref p] ∧ H' = H ∧ ∀ (l : Nat) (g x c : Int), 1 ≤ l → l ≤ 8 → Q' (.int ((l : Nat) : Int)) (upd H p (tubO g x c)))
        (pe_op op_add pe_int (pe_call (ok_pour T) (hr.mono (by decide)) (by rfl) T.m_w_pour T.F_w_pour.kp T.b_w_pour .nil pass0 (pa_cons (pv 0) (pa_cons pe_int pa_nil)))) ?w1))
      (pss_cons (ps_set (i := 2) sc_w_great_right.nd rfl (Or.inl rfl) (PE.weak (t' := fun σ' H' Q' => ∃ (l : Nat) (g x c : Int), σ'[0]? = some (some (.ref p)) ∧ σ'[1]? = some (some (.int ((l : Nat) : Int))) ∧ H' p = some (tubO g x c) ∧ 1 ≤ l ∧ l ≤ 8 ∧
          ∀ (H2 : Hp) (z : Addr) (t : List Nat) (g x c : Int), Bar p H' H2 → H2 p = some (tubO g x c) → SqT K H2 z (nv t) → t.length = l → t.sum ≤ 60 → Q' (.ref z) H2)
        (pe_call (ok_prd T) (hr.mono (by decide)) (by rfl) T.m_w_product T.F_w_product.kp T.b_w_product .nil pass0 (pa_cons (pv 0) (pa_cons (pv 1) (pa_cons
          (pe_call (ok_choice T) (hr.mono (by decide)) (by rfl) T.m_w_choice T.F_w_choice.kp T.b_w_choice .nil pass0 (pa_cons (pv 0) (pa_cons (pe_lst (pa_cons pe_int (pa_cons pe_int (pa_cons pe_int pa_nil)))) pa_nil))) pa_nil)))) ?w2))
      (pss_cons (ps_par (i := 3) (j := 4) (by rfl) sc_w_great_right.nd rfl rfl (by decide) rfl rfl (pa_cons (pe_callB (cr_sumT rfl) (by rfl) T.z_sum boot_sum (pa_cons (pv 2) pa_nil)) (pa_cons (pe_call (ok_plc T) (hr.mono (by decide)) (by rfl) T.m_w_place T.F_w_place.kp T.b_w_place .nil pass0 (pa_cons (pv 2) pa_nil)) pa_nil)) (by rfl))
      (pss_cons (ps_if (PW.pt (pw_or (pt_cmpR op_ne (pe_call (ok_wp T) (hr.mono (by decide)) (by rfl) T.m_word_place T.F_word_place.kp T.b_word_place .nil pass0 (pa_cons (pv 2) pa_nil)) (pv 4) (nomark _))
          (pw_or1 (pt_cmpR (op_neD hr.units) (pe_call (ok_pat T) (hr.mono (by decide)) (by rfl) T.m_product_at T.F_product_at.kp T.b_product_at .nil pass0 (pa_cons (pv 1) (pa_cons (pv 3) (pa_cons (pv 4) pa_nil)))) (pv 2) (nomark _))))) (pss_one (ps_ret pe_bl)) pss_nil)
      (pss_cons (ps_set (i := 5) sc_w_great_right.nd rfl (Or.inl rfl) (pe_call (ok_many T) (hr.mono (by decide)) (by rfl) T.m_w_many T.F_w_many.kp T.b_w_many .nil pass0 (pa_cons (pv 1) (pa_cons (pv 3) pa_nil))))
      (pss_cons (ps_set (i := 6) sc_w_great_right.nd rfl (Or.inl rfl) (pe_call (ok_pour T) (hr.mono (by decide)) (by rfl) T.m_w_pour T.F_w_pour.kp T.b_w_pour .nil pass0 (pa_cons (pv 0) (pa_cons (pv 5) pa_nil))))
      (pss_cons (ps_set (i := 7) sc_w_great_right.nd rfl (Or.inl rfl) (pe_call (ok_pat T) (hr.mono (by decide)) (by rfl) T.m_product_at T.F_product_at.kp T.b_product_at .nil pass0 (pa_cons (pv 1) (pa_cons (pv 3) (pa_cons (pv 6) pa_nil)))))
      (pss_cons (ps_if (PW.pt (pw_or (pt_cmpR op_ne (pe_callB (cr_sumT rfl) (by rfl) T.z_sum boot_sum (pa_cons (pv 7) pa_nil)) (pv 3) (nomark _))
          (pw_or (pt_cmpR op_ne (pe_callB call_len_seq (by rfl) T.z_len boot_len (pa_cons (pv 7) pa_nil)) (pv 1) (nomark _))
          (pw_or1 (pt_cmpR op_ne (pe_call (ok_plc T) (hr.mono (by decide)) (by rfl) T.m_w_place T.F_w_place.kp T.b_w_place .nil pass0 (pa_cons (pv 7) pa_nil)) (pv 6) (nomark _)))))) (pss_one (ps_ret pe_bl)) pss_nil)
      (pss_cons (ps_if (pt_cmpR op_ne (pe_cmpR (op_gtN (Nat.lt_of_le_of_lt (Nat.le_add_right _ 64) hr.units)) (pv 7) (pv 2) (nomark _)) (pe_cmpR op_lt (pv 6) (pv 4) (nomark _)) (nomark _)) (pss_one (ps_ret pe_bl)) pss_nil)
      (pss_cons (ps_set (i := 8) sc_w_great_right.nd rfl (Or.inl rfl) (pe_lst (pa_cons (pe_call (ok_pat T) (hr.mono (by decide)) (by rfl) T.m_product_at T.F_product_at.kp T.b_product_at .nil pass0 (pa_cons (pv 1) (pa_cons (pv 3) (pa_cons pe_int pa_nil)))) (pa_cons (pe_call (ok_pat T) (hr.mono (by decide)) (by rfl) T.m_product_at T.F_product_at.kp T.b_product_at .nil pass0 (pa_cons (pv 1) (pa_cons (pv 3) (pa_cons (pe_op op_sub (pv 5) pe_int) pa_nil)))) pa_nil))))
      (pss_one (ps_ret (pe_cmpR (op_eqD hr.units) (pv 8) (pe_lst (pa_cons (pe_op op_catB (pe_tup (pa_cons (pv 3) pa_nil)) (pe_op op_repB (pe_tup (pa_cons pe_int pa_nil)) (pe_op op_sub (pv 1) pe_int)))
        (pa_cons (pe_op op_catB (pe_op op_repB (pe_tup (pa_cons pe_int pa_nil)) (pe_op op_sub (pv 1) pe_int)) (pe_tup (pa_cons (pv 3) pa_nil))) pa_nil))) (nomark _))))))))))))), ?_⟩
    case w1 =>
      rintro σ' H' Q' ⟨rfl, rfl, h⟩
      refine ⟨_, rfl, p, _, g, x, c, rfl, hp0, by decide, by decide, fun g' x' c' r h0 h1 => ?_⟩
      have q' := h (1 + r).toNat g' x' c' (by omega) (by omega)
      rw [show (((1 + r).toNat : Nat) : Int) = 1 + r by omega] at q'
      exact ⟨_, _, rfl, rfl, q'⟩
    case w2 =>
      rintro σ' H' Q' ⟨l, g, x, c, e0, e1, hp, h1, h8, h⟩
      refine ⟨_, e0, _, e1, _, e0, by show 3 ≤ sizeLine; decide, fun z hz => ?_⟩
      have sz := same_new hz (.lst [V.int 3, V.int 12, V.int 60])
      have hne : z ≠ p := fun e => by
        rw [e, hp] at hz
        cases hz
      refine ⟨p, z, _, g, x, c, rfl, sz _ _ hp, hne, SqL.of upd_same, by simp, by simp, fun g' x' c' v hv => ?_⟩
      have hv' : ∃ m : Nat, v = V.int ((m : Nat) : Int) ∧ m ≤ 60 := by
        simp only [List.mem_cons, List.not_mem_nil, or_false] at hv
        rcases hv with e | e | e
        · exact ⟨3, e, by decide⟩
        · exact ⟨12, e, by decide⟩
        · exact ⟨60, e, by decide⟩
      obtain ⟨m, rfl, hm⟩ := hv'
      refine ⟨p, g', x', c', l, m, rfl, upd_same, h1, h8, hm, fun H2 y t g x c b2 hp2 hy hl hs => ?_⟩
      exact h H2 y t g x c (((Bar.same sz).trans Bar.upd).trans b2) hp2 hy hl (by omega)
    refine ⟨rfl, rfl, fun l g1 x1 c1 h1 h8 => ?_⟩
    refine ⟨l, g1, x1, c1, rfl, rfl, upd_same, h1, h8, fun H2 z t g2 x2 c2 b2 hp2 hz hl hs => ?_⟩
    subst hl
    have B2 : Bar p H H2 := Bar.upd.trans b2
    have h60 := prod60_of h1 h8 hs
    -- degree, place
    refine ⟨_, rfl, z, _, rfl, by rw [← nv_ints]; exact hz, _, rfl, z, t, rfl, hz, h1, h8, by omega, fun H3 s3 => ⟨_, _, rfl, ?_⟩⟩
    rw [sum_cast]
    have hz3 := same_sqt s3 hz
    refine ⟨_, rfl, z, t, rfl, hz3, h60, fun H4 s4 => ⟨_, rfl, rfl, false, congrArg V.bl (by rw [decide_eq_true rfl] <;> rfl), iteF ?_⟩⟩
    have hz4 := same_sqt s4 hz3
    refine ⟨_, rfl, _, rfl, _, rfl, _, _, _, t, rfl, rfl, rfl, rfl, h1, h8, hs, fun H5 y s5 hy => ?_⟩
    have hz5 := same_sqt s5 hz4
    refine ⟨_, rfl, _, _, dp_tup hy, dp_tup hz5, shaped_tup _, shaped_tup _, false, congrArg V.bl (by rw [eqv_tup] <;> rfl), iteF ?_⟩
    -- total, drawn
    have hw := W_top (k := t.length - 1) (m := t.sum + 1) (by omega) (by omega)
    have hpl := place_lt t (t.length - 1) (by omega)
    have hp5 := s5 _ _ (s4 _ _ (s3 _ _ hp2))
    refine ⟨_, rfl, _, rfl, _, _, t.length - 1, t.sum, rfl, by omega, rfl, by omega, by omega, ?_⟩
    refine ⟨_, rfl, _, rfl, p, _, g2, x2, c2, rfl, hp5, by omega, by omega, fun g3 x3 c3 r r0 r1 => ?_⟩
    obtain ⟨r, rfl⟩ : ∃ n : Nat, r = ((n : Nat) : Int) := ⟨r.toNat, by omega⟩
    obtain ⟨u, hul, hus, hup⟩ := place_ex (t.length - 1) t.sum r (by omega)
    have hp6 : (upd H5 p (tubO g3 x3 c3)) p = some (tubO g3 x3 c3) := upd_same
    have hz6 : SqT K (upd H5 p (tubO g3 x3 c3)) z (nv t) := sqt_updL hp5 hz5
    have B6 : Bar p H (upd H5 p (tubO g3 x3 c3)) := B2.trans ((Bar.same (s3.trans (s4.trans s5))).trans Bar.upd)
    generalize (upd H5 p (tubO g3 x3 c3)) = H6 at hp6 hz6 B6
    -- other
    refine ⟨_, rfl, _, rfl, _, rfl, _, _, _, u, rfl, by omega, by omega, by omega, by omega, by omega, by omega, fun H7 v s7 hv => ?_⟩
    have hz7 := same_sqt s7 hz6
    refine ⟨_, rfl, v, _, rfl, by rw [← nv_ints]; exact hv, ?_⟩
    rw [sum_cast]
    refine ⟨_, rfl, rfl, false, congrArg V.bl (by rw [hus, decide_eq_true rfl] <;> rfl), iteF ?_⟩
    refine ⟨_, rfl, v, _, rfl, .inr hv, ?_⟩
    rw [nv_len]
    refine ⟨_, rfl, rfl, false, congrArg V.bl (by rw [show u.length = t.length by omega, decide_eq_true rfl] <;> rfl), iteF ?_⟩
    refine ⟨_, rfl, v, u, rfl, hv, by omega, by omega, by omega, fun H8 s8 => ⟨_, rfl, rfl, false, congrArg V.bl (by rw [hup, decide_eq_true rfl] <;> rfl), iteF ?_⟩⟩
    have hv8 := same_sqt s8 hv
    have hz8 := same_sqt s8 hz7
    -- the greater tuple stands ahead
    refine ⟨_, rfl, _, rfl, v, z, u, t, rfl, rfl, hv8, hz8, by omega, ?_⟩
    rw [gt_iff (by omega) hus, hup]
    refine ⟨_, rfl, _, rfl, _, _, rfl, rfl, rfl, false, congrArg V.bl ?_, iteF ?_⟩
    · show (!decide (V.bl (decide (r < place t)) = V.bl (decide (((r : Nat) : Int) < ((place t : Nat) : Int))))) = false
      by_cases c : r < place t
      · rw [decide_eq_true c, decide_eq_true (show ((r : Nat) : Int) < ((place t : Nat) : Int) by omega), decide_eq_true rfl]
        rfl
      · rw [decide_eq_false c, decide_eq_false (show ¬ ((r : Nat) : Int) < ((place t : Nat) : Int) by omega), decide_eq_true rfl]
        rfl
    -- the ends
    have l0 : (t.sum :: List.replicate (t.length - 1) 0).length = t.length := by rw [List.length_cons, List.length_replicate]; omega
    have l1 : (List.replicate (t.length - 1) 0 ++ [t.sum]).length = t.length := by rw [List.length_append, List.length_replicate, List.length_singleton]; omega
    have m0 : (t.sum :: List.replicate (t.length - 1) 0).sum = t.sum := by rw [List.sum_cons, sum_rep0]; rfl
    have m1 : (List.replicate (t.length - 1) 0 ++ [t.sum]).sum = t.sum := by rw [List.sum_append, sum_rep0, List.sum_singleton, Nat.zero_add]
    have pl0 := place_first t.sum (t.length - 1)
    have pl1 := place_last t.sum (t.length - 1)
    refine ⟨_, rfl, _, rfl, _, _, _, t.sum :: List.replicate (t.length - 1) 0, rfl, by omega, by omega, by omega, by omega, by omega, by omega, fun H9 a s9 ha => ?_⟩
    refine ⟨_, rfl, _, rfl, _, rfl, _, _, rfl, rfl, _, _, _, List.replicate (t.length - 1) 0 ++ [t.sum], rfl, by omega, by omega, by omega, by omega, by omega, by omega, fun H10 b s10 hb => ?_⟩
    refine ⟨by show 2 ≤ sizeLine; decide, fun e he => ?_⟩
    have sE := same_new he (.lst [V.ref a, V.ref b])
    have heE : (upd H10 e (.lst [V.ref a, V.ref b])) e = some (.lst [V.ref a, V.ref b]) := upd_same
    generalize (upd H10 e (.lst [V.ref a, V.ref b])) = H11 at sE heE
    have S11 := s7.trans (s8.trans (s9.trans (s10.trans sE)))
    have tab : Tups K H11 [a, b] [t.sum :: List.replicate (t.length - 1) 0, List.replicate (t.length - 1) 0 ++ [t.sum]] := .cons (same_sqt (s10.trans sE) ha) (.cons (same_sqt sE hb) .nil)
    refine ⟨_, rfl, _, rfl, by show 1 ≤ sizeLine; decide, fun y1 hy1 => ?_⟩
    have t1 := same_new hy1 (.tup [V.int ((t.sum : Nat) : Int)])
    refine ⟨by show 1 ≤ sizeLine; decide, fun y2 hy2 => ?_⟩
    have t2 := same_new hy2 (.tup [V.int 0])
    refine ⟨_, rfl, _, _, rfl, rfl, y2, _, _, rfl, rfl, SqT.of upd_same, by simp, by omega, by omega, by simp, fun H12 y3 t3 hy3 => ?_⟩
    rw [rep_nv, show (((t.length : Nat) : Int) - 1).toNat = t.length - 1 by omega] at hy3
    refine ⟨y1, y3, _, _, rfl, rfl, same_sqt t3 (same_sqt t2 (SqT.of upd_same)), hy3, ?_, fun H13 y4 t4 hy4 => ?_⟩
    · rw [nv_len, List.length_replicate]
      exact Nat.le_of_lt (sizeK (by simp only [List.length_cons, List.length_nil]; omega))
    refine ⟨by show 1 ≤ sizeLine; decide, fun x2' hx2 => ?_⟩
    have u2 := same_new hx2 (.tup [V.int 0])
    refine ⟨_, rfl, _, _, rfl, rfl, x2', _, _, rfl, rfl, SqT.of upd_same, by simp, by omega, by omega, by simp, fun H14 x3' u3 hx3 => ?_⟩
    rw [rep_nv, show (((t.length : Nat) : Int) - 1).toNat = t.length - 1 by omega] at hx3
    refine ⟨_, rfl, by show 1 ≤ sizeLine; decide, fun x4' hx4 => ?_⟩
    have u4 := same_new hx4 (.tup [V.int ((t.sum : Nat) : Int)])
    refine ⟨x3', x4', _, _, rfl, rfl, same_sqt u4 hx3, SqT.of upd_same, ?_, fun H15 x5' u5 hx5 => ?_⟩
    · rw [nv_len, List.length_replicate]
      exact Nat.le_of_lt (sizeK (by simp only [List.length_cons, List.length_nil]; omega))
    rw [nv_one, ← nv_app] at hx5
    refine ⟨by show 2 ≤ sizeLine; decide, fun f hf => ?_⟩
    have sF := same_new hf (.lst [V.ref y4, V.ref x5'])
    have Tall : Same H11 (upd H15 f (.lst [V.ref y4, V.ref x5'])) := t1.trans (t2.trans (t3.trans (t4.trans (u2.trans (u3.trans (u4.trans (u5.trans sF)))))))
    have hy4' : SqT K H13 y4 (nv (t.sum :: List.replicate (t.length - 1) 0)) := hy4
    refine ⟨_, _, .lst (SqL.of (Tall _ _ heE)) (dp_tups (tab.same Tall)), .lst (SqL.of upd_same) (dp_tups (rs := [y4, x5']) (.cons (same_sqt (u2.trans (u3.trans (u4.trans (u5.trans sF)))) hy4') (.cons (same_sqt sF hx5) .nil))), shaped_tups _, shaped_tups _, ?_⟩
    rw [eqv_tups]
    exact q _ g3 x3 c3 (B6.trans (Bar.same (S11.trans Tall))) (Tall _ _ (S11 _ _ hp6))
end
end L6

namespace L6
open PySem PySem.Spec PyProof.Rows L2 L5 RZ
section
variable {P : Program} {w : World} {K : PySem.W.Frag} {mg : Str → Option Value} {base : Heap}
theorem shaped_tupsT (L : List (List Nat)) : SeqAt.shaped (.tuple (L.map encT)) = true := by
  have h := can_tups L
  unfold SeqAt.shaped
  simp only [PyData.canLay0, PyData.depth, h.1, Bool.true_and]
  exact decide_eq_true (by omega)
theorem eqv_tupsT (L : List (List Nat)) : PyData.eqv (.tuple (L.map encT)) (.tuple (L.map encT)) = true := SeqAt.eqv_refl _ (by
  simp only [PyData.canLay0]
  exact (can_tups L).1)
theorem tups_take {H : Hp} : ∀ {rs : List Addr} {L : List (List Nat)} (k : Nat), Tups K H rs L → Tups K H (rs.take k) (L.take k)
  | _, _, 0, _ => .nil
  | _, _, k + 1, .nil => .nil
  | _, _, k + 1, .cons h r => .cons h (tups_take k r)
theorem ok_listr (T : Txt K mg) : FnOk P w K mg base CX0 9 T.a_w_listed_right T.d_w_listed_right ["_law_tub_here"] sp_right := by
  refine T.F_w_listed_right.ok sc_w_listed_right (fun vs H Q E h => ?_) (fun cdv A outer s H vs Q E hr h => ?_)
  · obtain ⟨p, g, x, c, rfl, _⟩ := h
    rfl
  · obtain ⟨p, g, x, c, rfl, hp0, q⟩ := h
    refine ⟨_, pss_cons (ps_par (i := 1) (j := 2) (by rfl) sc_w_listed_right.nd rfl rfl (by decide) rfl rfl (pa_cons (pe_op op_add pe_int (pe_call (ok_pour T) (hr.mono (by decide)) (by rfl) T.m_w_pour T.F_w_pour.kp T.b_w_pour .nil pass0 (pa_cons (pv 0) (pa_cons pe_int pa_nil)))) (pa_cons (pe_call (ok_pour T) (hr.mono (by decide)) (by rfl) T.m_w_pour T.F_w_pour.kp T.b_w_pour .nil pass0 (pa_cons (pv 0) (pa_cons pe_int pa_nil))) pa_nil)) (by rfl))
      (pss_cons (ps_set (i := 3) sc_w_listed_right.nd rfl (Or.inl rfl) (pe_call (ok_lis T) (hr.mono (by decide)) (by rfl) T.m_w_listed T.F_w_listed.kp T.b_w_listed .nil pass0 (pa_cons (pv 1) (pa_cons (pv 2) pa_nil))))
      (pss_cons (ps_set (i := 4) sc_w_listed_right.nd rfl (Or.inl rfl) (pe_call (ok_pour T) (hr.mono (by decide)) (by rfl) T.m_w_pour T.F_w_pour.kp T.b_w_pour .nil pass0 (pa_cons (pv 0) (pa_cons (pe_op op_add (pe_callB call_len_seq (by rfl) T.z_len boot_len (pa_cons (pv 3) pa_nil)) pe_int) pa_nil))))
      (pss_cons (ps_if (pt_cmpR (op_neD hr.units) (pe_call (ok_fir T) (hr.mono (by decide)) (by rfl) T.m_first_products T.F_first_products.kp T.b_first_products .nil pass0 (pa_cons (pv 1) (pa_cons (pv 2) (pa_cons (pv 4) pa_nil))))
          (pe_callTy call_tuple_of (by rfl) T.z_tuple boot_tuple (pa_cons (pe_slice sl_list (pv 3) po_none (po_some (pv 4))) pa_nil)) (nomark _)) (pss_one (ps_ret pe_bl)) pss_nil)
      (pss_cons (ps_if (pt_cmpR (op_neD hr.units) (pe_listG (pgen_call (E := E0) (ok_gen T) (hr.mono (by decide)) (by rfl) T.m_all_products T.F_all_products.kp T.b_all_products .nil (pa_cons (pv 1) (pa_cons (pv 2) pa_nil))) passG nostop (hr.mono (by decide)) (by rfl) T.z_list boot_list) (pv 3) (nomark _)) (pss_one (ps_ret pe_bl)) pss_nil)
      (pss_cons (ps_set (i := 5) sc_w_listed_right.nd rfl (Or.inl rfl) (pe_call (ok_pour T) (hr.mono (by decide)) (by rfl) T.m_w_pour T.F_w_pour.kp T.b_w_pour .nil pass0 (pa_cons (pv 0) (pa_cons (pe_callB call_len_seq (by rfl) T.z_len boot_len (pa_cons (pv 3) pa_nil)) pa_nil))))
      (pss_one (ps_ret (pe_and (pe_cmpR op_eq (pe_call (ok_wp T) (hr.mono (by decide)) (by rfl) T.m_word_place T.F_word_place.kp T.b_word_place .nil pass0 (pa_cons (pe_ix ix_list (pv 3) (pv 5) (fun _ _ => rfl)) pa_nil)) (pv 5) (nomark _))
        (pe_one (pe_cmpR (op_eqD hr.units) (pe_call (ok_pat T) (hr.mono (by decide)) (by rfl) T.m_product_at T.F_product_at.kp T.b_product_at .nil pass0 (pa_cons (pv 1) (pa_cons (pv 2) (pa_cons (pv 5) pa_nil)))) (pe_ix ix_list (pv 3) (pv 5) (fun _ _ => rfl)) (nomark _))))))))))), ?_⟩
    refine ⟨_, rfl, p, _, g, x, c, rfl, hp0, by decide, by decide, fun g1 x1 c1 r r0 r1 => ?_⟩
    refine ⟨_, _, rfl, rfl, _, rfl, p, _, g1, x1, c1, rfl, upd_same, by decide, by decide, fun g2 x2 c2 d d0 d1 => ?_⟩
    obtain ⟨l, hl⟩ : ∃ l : Nat, 1 + r = ((l : Nat) : Int) := ⟨(1 + r).toNat, by omega⟩
    obtain ⟨d, rfl⟩ : ∃ n : Nat, d = ((n : Nat) : Int) := ⟨d.toNat, by omega⟩
    have O := ok6 (l := l) (d := d) (by omega) (by omega) (by omega)
    have B1 : Bar p H (upd (upd H p (tubO g1 x1 c1)) p (tubO g2 x2 c2)) := Bar.upd.trans Bar.upd
    have hp1 : (upd (upd H p (tubO g1 x1 c1)) p (tubO g2 x2 c2)) p = some (tubO g2 x2 c2) := upd_same
    generalize (upd (upd H p (tubO g1 x1 c1)) p (tubO g2 x2 c2)) = H1 at B1 hp1
    refine ⟨_, _, rfl, ?_⟩
    show tSeq _ _ _ [some (V.ref p), some (V.int (1 + r)), some (V.int ((d : Nat) : Int)), none, none, none] H1
    rw [hl]
    refine ⟨_, rfl, _, rfl, l, d, rfl, by omega, by omega, by omega, O, fun H2 y rs s2 hy hy2 hT => ?_⟩
    have hp2 := s2 _ _ hp1
    have hyp : y ≠ p := fun e => by
      rw [e, hp1] at hy
      cases hy
    have B2 : Bar p H H2 := B1.trans (Bar.same s2)
    have hsz := O.size (l - 1) (by omega)
    have hrows : (rows l d).length ≤ 400 := by
      have e2 : (rows l d).length = (pairsN d (l - 1)).length := List.length_map _
      omega
    have hpos : 0 < (rows l d).length := by
      obtain ⟨r', hr'⟩ := O.head
      rw [hr', List.length_cons]
      omega
    have hrl := hT.length
    have ely : ((rs.map V.ref).length : Nat) = (rows l d).length := by rw [List.length_map, hrl]
    -- many
    refine ⟨_, rfl, _, rfl, y, _, rfl, .inl (SqL.of hy2), ?_⟩
    rw [ely]
    refine ⟨_, _, rfl, rfl, p, _, g2, x2, c2, rfl, hp2, by omega, by omega, fun g3 x3 c3 k k0 k1 => ?_⟩
    obtain ⟨k, rfl⟩ : ∃ n : Nat, k = ((n : Nat) : Int) := ⟨k.toNat, by omega⟩
    have hp3 : (upd H2 p (tubO g3 x3 c3)) p = some (tubO g3 x3 c3) := upd_same
    have hy3 : (upd H2 p (tubO g3 x3 c3)) y = some (.lst (rs.map V.ref)) := by
      rw [upd_ne hyp]
      exact hy2
    have hT3 : Tups K (upd H2 p (tubO g3 x3 c3)) rs (rows l d) := hT.updL hp2
    have B3 : Bar p H (upd H2 p (tubO g3 x3 c3)) := B2.trans Bar.upd
    generalize (upd H2 p (tubO g3 x3 c3)) = H3 at hp3 hy3 hT3 B3
    -- first products
    refine ⟨_, rfl, _, rfl, _, rfl, l, d, k, rfl, by omega, by omega, by omega, O, by omega, fun H4 z qs s4 hz hq => ?_⟩
    have hy4 := s4 _ _ hy3
    refine ⟨_, rfl, _, rfl, _, rfl, y, _, rfl, SqL.of hy4, fun a ha => ?_⟩
    have ecut : cutV (rs.map V.ref) none (some ((k : Nat) : Int)) = (rs.take k).map V.ref := by
      rw [cut_to _ _ (by rw [ely]; omega), List.map_take]
    rw [ecut]
    have sa := same_new ha (.lst ((rs.take k).map V.ref))
    refine ⟨a, _, rfl, .inl ⟨SqL.of upd_same, fun b hb => ?_⟩⟩
    have sb := same_new hb (.tup ((rs.take k).map V.ref))
    have S5 := sa.trans sb
    refine ⟨_, _, .tup (same_sqt S5 hz) (dp_tups (hq.same S5)), .tup (SqT.of upd_same) (dp_tups (tups_take k (hT3.same (s4.trans S5)))), shaped_tupsT _, shaped_tupsT _, false, congrArg V.bl (by rw [eqv_tupsT] <;> rfl), iteF ?_⟩
    have S6 := s4.trans S5
    have hy6 := S6 _ _ hy3
    have hT6 := hT3.same S6
    have hp6 := S6 _ _ hp3
    have B6 : Bar p H (upd (upd H4 a (.lst ((rs.take k).map V.ref))) b (.tup ((rs.take k).map V.ref))) := B3.trans (Bar.same S6)
    generalize (upd (upd H4 a (.lst ((rs.take k).map V.ref))) b (.tup ((rs.take k).map V.ref))) = H6 at hy6 hT6 hp6 B6
    -- all products
    refine ⟨_, rfl, _, rfl, l, d, rfl, by omega, by omega, by omega, O, fun H7 ws s7 hT7 e he => ?_⟩
    have s8 := same_new he (.lst (ws.map V.ref))
    refine ⟨_, rfl, ?_⟩
    have S8 := s7.trans s8
    refine ⟨_, _, .lst (SqL.of upd_same) (dp_tups (hT7.same s8)), .lst (SqL.of (S8 _ _ hy6)) (dp_tups (hT6.same S8)), shaped_tups _, shaped_tups _, false, congrArg V.bl (by rw [eqv_tups] <;> rfl), iteF ?_⟩
    have hy8 := S8 _ _ hy6
    have hT8 := hT6.same S8
    have hp8 := S8 _ _ hp6
    have B8 : Bar p H (upd H7 e (.lst (ws.map V.ref))) := B6.trans (Bar.same S8)
    generalize (upd H7 e (.lst (ws.map V.ref))) = H8 at hy8 hT8 hp8 B8
    -- at
    refine ⟨_, rfl, _, rfl, y, _, rfl, .inl (SqL.of hy8), ?_⟩
    rw [ely]
    refine ⟨p, _, g3, x3, c3, rfl, hp8, by omega, by omega, fun g4 x4 c4 i i0 i1 => ?_⟩
    obtain ⟨i, rfl⟩ : ∃ n : Nat, i = ((n : Nat) : Int) := ⟨i.toNat, by omega⟩
    have hp9 : (upd H8 p (tubO g4 x4 c4)) p = some (tubO g4 x4 c4) := upd_same
    have hy9 : (upd H8 p (tubO g4 x4 c4)) y = some (.lst (rs.map V.ref)) := by
      rw [upd_ne hyp]
      exact hy8
    have hT9 : Tups K (upd H8 p (tubO g4 x4 c4)) rs (rows l d) := hT8.updL hp8
    have B9 : Bar p H (upd H8 p (tubO g4 x4 c4)) := B8.trans Bar.upd
    generalize (upd H8 p (tubO g4 x4 c4)) = H9 at hp9 hy9 hT9 B9
    have hir : i < rs.length := by omega
    obtain ⟨t, ht, htb⟩ := hT9.get (List.getElem?_eq_getElem hir)
    have hpr := O.prod t (List.mem_of_getElem? ht)
    obtain ⟨htl, hts, _⟩ := prod_of hpr
    have hpi := O.at ht
    have hix : atI (rs.map V.ref) ((i : Nat) : Int) = some (.ref rs[i]) := atI_nat (by rw [List.getElem?_map, List.getElem?_eq_getElem hir] <;> rfl)
    refine ⟨_, rfl, _, rfl, y, _, _, _, rfl, rfl, SqL.of hy9, hix, _, t, rfl, htb, prod60 (by omega) (by omega) hpr, fun H10 s10 => ?_⟩
    refine ⟨_, rfl, rfl, true, congrArg V.bl (by rw [hpi]; exact decide_eq_true rfl), iteT ?_⟩
    refine ⟨_, rfl, _, rfl, _, rfl, _, _, _, t, rfl, by omega, by omega, by omega, by omega, by omega, by omega, fun H11 v s11 hv => ?_⟩
    have S11 := s10.trans s11
    refine ⟨_, rfl, _, rfl, y, _, _, _, rfl, rfl, SqL.of (S11 _ _ hy9), hix, _, _, dp_tup hv, dp_tup (same_sqt S11 htb), shaped_tup _, shaped_tup _, ?_⟩
    rw [eqv_tup]
    exact q _ g4 x4 c4 (B9.trans (Bar.same S11)) (S11 _ _ hp9)
end
end L6

namespace L6
open PySem PySem.Spec PyProof.Rows L2 L5 RZ
section
variable {P : Program} {w : World} {K : PySem.W.Frag} {mg : Str → Option Value} {base : Heap}
def sp_law (K : PySem.W.Frag) : Sp := fun vs H Q _ => ∃ (a : Addr) (ns : List Int), vs = [.ref a] ∧ SqL K H a (ns.map V.int) ∧ ns.length ≤ 63 ∧ ∀ H', Q (.bl true) H'
theorem bar_back {z : Addr} {H A B : Hp} (s : Same H A) (b : Bar z A B) (hz : H z = none) : Same H B := fun c o h => b c o (ne_of_none h hz) (s c o h)
theorem rows23 : (rows 2 3).take 3 = [[3, 0], [2, 1], [1, 2]] := by decide +kernel
theorem ok_law (T : Txt K mg) : FnOk P w K mg base CX0 10 T.a_law T.d_law ["_law_script"] (sp_law K) := by
  refine T.F_law.ok sc_law (fun vs H Q E h => ?_) (fun cdv A outer s H vs Q E hr h => ?_)
  · obtain ⟨a, ns, rfl, _⟩ := h
    rfl
  · obtain ⟨a, ns, rfl, hS, hn, q⟩ := h
    refine ⟨_, pss_cons (ps_for PassesOwn.never rfl (pi_range1 rfl T.z_range (pa_cons (pe_callB (call_max2 rfl) (by rfl) T.z_max boot_max (pa_cons pe_int (pa_cons (pe_callB (call_min2 rfl) (by rfl) T.z_min (by decide +kernel) (pa_cons pe_int (pa_cons (pe_callB call_len_seq (by rfl) T.z_len boot_len (pa_cons (pv 0) pa_nil)) pa_nil))) pa_nil))) pa_nil)) (pg_name (i := 1) sc_law.nd rfl (Or.inl rfl))
        (pss_cons (ps_set (i := 2) sc_law.nd rfl (Or.inl rfl) (pe_call (ok_tub T) (hr.mono (by decide)) (by rfl) T.m_w_tub T.F_w_tub.kp T.b_w_tub .nil pass0 (pa_cons (pv 0) (pa_cons (pv 1) pa_nil))))
        (pss_one (ps_for PassesOwn.never rfl (pi_range1 rfl T.z_range (pa_cons pe_int pa_nil)) (pg_name (i := 3) sc_law.nd rfl (Or.inl rfl))
          (pss_one (ps_if (PW.pt (pw_or (pt_not (pt_val (pe_call (ok_great T) (hr.mono (by decide)) (by rfl) T.m_w_great_right T.F_w_great_right.kp T.b_w_great_right .nil pass0 (pa_cons (pv 2) pa_nil))))
            (pw_or1 (pt_not (pt_val (pe_call (ok_listr T) hr (by rfl) T.m_w_listed_right T.F_w_listed_right.kp T.b_w_listed_right .nil pass0 (pa_cons (pv 2) pa_nil))))))) (pss_one (ps_ret pe_bl)) pss_nil))))))
      (pss_cons (ps_set (i := 4) sc_law.nd rfl (Or.inl rfl) (pe_lst (pa_cons (pe_call (ok_wp T) (hr.mono (by decide)) (by rfl) T.m_word_place T.F_word_place.kp T.b_word_place .nil pass0 (pa_cons (pe_tup (pa_cons pe_int (pa_cons pe_int (pa_cons pe_int pa_nil)))) pa_nil))
          (pa_cons (pe_call (ok_pat T) (hr.mono (by decide)) (by rfl) T.m_product_at T.F_product_at.kp T.b_product_at .nil pass0 (pa_cons pe_int (pa_cons pe_int (pa_cons pe_int pa_nil))))
          (pa_cons (pe_call (ok_fir T) (hr.mono (by decide)) (by rfl) T.m_first_products T.F_first_products.kp T.b_first_products .nil pass0 (pa_cons pe_int (pa_cons pe_int (pa_cons pe_int pa_nil))))
          (pa_cons (pe_call (ok_wp T) (hr.mono (by decide)) (by rfl) T.m_word_place T.F_word_place.kp T.b_word_place .nil pass0 (pa_cons (pe_op op_repB (pe_tup (pa_cons pe_int pa_nil)) pe_int) pa_nil)) pa_nil))))))
      (pss_cons (ps_expr (pe_bm PySem.F.plainAttrs_list PySem.F.slot_list_append PySem.F.type_list_append mt_append (pv 4) (pa_cons (pe_call (ok_wp T) (hr.mono (by decide)) (by rfl) T.m_word_place T.F_word_place.kp T.b_word_place .nil pass0 (pa_cons (pe_tup (pa_cons pe_int pa_nil)) pa_nil)) pa_nil)))
      (pss_one (ps_ret (pe_cmpR (op_eqD hr.units) (pv 4) (pe_lst (pa_cons pe_int (pa_cons (pe_tup (pa_cons pe_int (pa_cons pe_int (pa_cons pe_int pa_nil)))) (pa_cons (pe_tup (pa_cons (pe_tup (pa_cons pe_int (pa_cons pe_int pa_nil))) (pa_cons (pe_tup (pa_cons pe_int (pa_cons pe_int pa_nil))) (pa_cons (pe_tup (pa_cons pe_int (pa_cons pe_int pa_nil))) pa_nil)))) (pa_cons pe_int (pa_cons pe_int pa_nil)))))) (nomark _)))))), ?_⟩
    have hm1 : ∀ m : Int, (if (if ((ns.map V.int).length : Int) < 4 then ((ns.map V.int).length : Int) else 4) > 1 then (if ((ns.map V.int).length : Int) < 4 then ((ns.map V.int).length : Int) else 4) else 1) = m → 1 ≤ m ∧ m ≤ 4 := fun m e => by
      rw [← e]
      split <;> split <;> omega
    refine ⟨_, rfl, a, _, rfl, .inl hS, _, _, rfl, _, _, rfl, _, rfl, ?_⟩
    have hb := hm1 _ rfl
    refine ⟨Int.le_trans (by decide) hb.1, Int.lt_of_le_of_lt hb.2 (by decide), ?_⟩
    refine for_range (lo := 0) (n := _) (fun i σ H' => ∃ v1 v2 v3 : Option V, σ = [some (.ref a), v1, v2, v3, none] ∧ Same H H') ⟨none, none, none, rfl, Same.refl H⟩ ?_ ?_
    · rintro i σ H1 hi ⟨v1, v2, v3, rfl, s1⟩
      have hi3 : i < 1000 := by
        have := hb.2
        omega
      refine ⟨_, rfl, _, rfl, a, ns, i, by rw [Int.zero_add]; rfl, s1.seq hS, hi3, fun H2 z g x c s2 hz hz2 => ?_⟩
      have hzn : H z = none := Same.free s1 hz
      refine ⟨_, rfl, by decide, by decide, ?_⟩
      refine for_range (lo := 0) (n := _) (fun j σ H' => ∃ (v1 v3 : Option V) (g x c : Int), σ = [some (.ref a), v1, some (.ref z), v3, none] ∧ Same H H' ∧ H' z = some (tubO g x c)) ⟨_, _, g, x, c, rfl, s1.trans s2, hz2⟩ ?_ ?_
      · rintro j σ H3 hj ⟨v1, v3, g, x, c, rfl, s3, hz3⟩
        refine ⟨_, rfl, z, g, x, c, rfl, hz3, fun H4 g x c b4 hz4 => ⟨true, rfl, iteF ?_⟩⟩
        refine ⟨_, rfl, z, g, x, c, rfl, hz4, fun H5 g x c b5 hz5 => ⟨true, rfl, iteF ?_⟩⟩
        exact ⟨_, _, g, x, c, rfl, bar_back (bar_back s3 b4 hzn) b5 hzn, hz5⟩
      · rintro σ H3 ⟨v1, v3, g, x, c, rfl, s3, hz3⟩
        exact ⟨_, _, _, rfl, s3⟩
    · rintro σ H1 ⟨v1, v2, v3, rfl, s1⟩
      refine ⟨by show 3 ≤ sizeLine; decide, fun z1 h1 => ?_⟩
      refine ⟨_, [0, 2, 1], rfl, SqT.of upd_same, prod60_of (by decide) (by decide) (by decide), fun H2 s2 => ?_⟩
      refine ⟨_, _, _, [0, 2, 1], rfl, by decide, by decide, by decide +kernel, by decide, by decide, by decide, fun H3 z3 s3 h3 => ?_⟩
      refine ⟨2, 3, 3, rfl, by decide, by decide, by decide, ok6 (by decide) (by decide) (by decide), by decide +kernel, fun H4 z4 rs s4 h4 hT4 => ?_⟩
      rw [rows23] at hT4
      refine ⟨by show 1 ≤ sizeLine; decide, fun z5 h5 => ?_⟩
      have s5 := same_new h5 (.tup [V.int 0])
      refine ⟨z5, _, _, rfl, rfl, SqT.of upd_same, by simp, by decide, by decide, by simp, fun H6 z6 s6 h6 => ?_⟩
      rw [rep_nv, show (8 : Int).toNat = 8 from rfl] at h6
      refine ⟨_, List.replicate 8 0, rfl, h6, prod60_of (by decide) (by decide) (by decide), fun H7 s7 => ?_⟩
      refine ⟨by show 4 ≤ sizeLine; decide, fun y hy => ?_⟩
      have s8 := same_new hy (.lst [V.int ((place [0, 2, 1] : Nat) : Int), V.ref z3, V.ref z4, V.int ((place (List.replicate 8 0) : Nat) : Int)])
      have hz3 := s4.trans (s5.trans (s6.trans (s7.trans s8)))
      have hz4 := s5.trans (s6.trans (s7.trans s8))
      have q3 := same_sqt hz3 h3
      have q4 := same_sqt hz4 h4
      have qT := hT4.same hz4
      have qy : (upd H7 y (.lst [V.int ((place [0, 2, 1] : Nat) : Int), V.ref z3, V.ref z4, V.int ((place (List.replicate 8 0) : Nat) : Int)])) y = some (.lst [V.int ((place [0, 2, 1] : Nat) : Int), V.ref z3, V.ref z4, V.int ((place (List.replicate 8 0) : Nat) : Int)]) := upd_same
      generalize (upd H7 y (.lst [V.int ((place [0, 2, 1] : Nat) : Int), V.ref z3, V.ref z4, V.int ((place (List.replicate 8 0) : Nat) : Int)])) = H8 at q3 q4 qT qy
      refine ⟨_, rfl, .inl ⟨rfl, _, SqL.of qy⟩, by show 1 ≤ sizeLine; decide, fun z9 h9 => ?_⟩
      have s9 := same_new h9 (.tup [V.int 60])
      refine ⟨_, [60], rfl, SqT.of upd_same, prod60_of (by decide) (by decide) (by decide), fun H10 s10 => ?_⟩
      have S10 := s9.trans s10
      have qy10 := S10 _ _ qy
      refine ⟨y, _, _, rfl, rfl, qy10, by show 4 < sizeLine; decide, ?_⟩
      have r3 := sqt_updL (o := .lst ([V.int ((place [0, 2, 1] : Nat) : Int), V.ref z3, V.ref z4, V.int ((place (List.replicate 8 0) : Nat) : Int)] ++ [V.int ((place [60] : Nat) : Int)])) qy10 (same_sqt S10 q3)
      have r4 := sqt_updL (o := .lst ([V.int ((place [0, 2, 1] : Nat) : Int), V.ref z3, V.ref z4, V.int ((place (List.replicate 8 0) : Nat) : Int)] ++ [V.int ((place [60] : Nat) : Int)])) qy10 (same_sqt S10 q4)
      have rT := (qT.same S10).updL (o := .lst ([V.int ((place [0, 2, 1] : Nat) : Int), V.ref z3, V.ref z4, V.int ((place (List.replicate 8 0) : Nat) : Int)] ++ [V.int ((place [60] : Nat) : Int)])) qy10
      have ry : (upd H10 y (.lst ([V.int ((place [0, 2, 1] : Nat) : Int), V.ref z3, V.ref z4, V.int ((place (List.replicate 8 0) : Nat) : Int)] ++ [V.int ((place [60] : Nat) : Int)]))) y = _ := upd_same
      generalize (upd H10 y (.lst ([V.int ((place [0, 2, 1] : Nat) : Int), V.ref z3, V.ref z4, V.int ((place (List.replicate 8 0) : Nat) : Int)] ++ [V.int ((place [60] : Nat) : Int)]))) = H11 at r3 r4 rT ry
      refine ⟨_, rfl, by show 3 ≤ sizeLine; decide, fun a1 k1 => ⟨by show 2 ≤ sizeLine; decide, fun b1 m1 => ⟨by show 2 ≤ sizeLine; decide, fun b2 m2 => ⟨by show 2 ≤ sizeLine; decide, fun b3 m3 => ⟨by show 3 ≤ sizeLine; decide, fun c1 n1 => ⟨by show 5 ≤ sizeLine; decide, fun e he => ?_⟩⟩⟩⟩⟩⟩
      have t1 := same_new k1 (.tup [V.int 0, V.int 2, V.int 1])
      have t2 := same_new m1 (.tup [V.int 3, V.int 0])
      have t3 := same_new m2 (.tup [V.int 2, V.int 1])
      have t4 := same_new m3 (.tup [V.int 1, V.int 2])
      have t5 := same_new n1 (.tup [V.ref b1, V.ref b2, V.ref b3])
      have t6 := same_new he (.lst [V.int 7, V.ref a1, V.ref c1, V.int 0, V.int 0])
      have T6 := t1.trans (t2.trans (t3.trans (t4.trans (t5.trans t6))))
      refine ⟨.list [.int ((place [0, 2, 1] : Nat) : Int), encT [0, 2, 1], .tuple ([[3, 0], [2, 1], [1, 2]].map encT), .int ((place (List.replicate 8 0) : Nat) : Int), .int ((place [60] : Nat) : Int)],
        .list [.int 7, encT [0, 2, 1], .tuple ([[3, 0], [2, 1], [1, 2]].map encT), .int 0, .int 0],
        .lst (SqL.of (T6 _ _ ry)) (.cons (.int _) (.cons (dp_tup (same_sqt T6 r3)) (.cons (.tup (same_sqt T6 r4) (dp_tups (rT.same T6))) (.cons (.int _) (.cons (.int _) .nil))))),
        .lst (SqL.of upd_same) (.cons (.int _) (.cons (dp_tup (t := [0, 2, 1]) (same_sqt (t2.trans (t3.trans (t4.trans (t5.trans t6)))) (SqT.of upd_same)))
          (.cons (.tup (same_sqt t6 (SqT.of upd_same)) (dp_tups (rs := [b1, b2, b3]) (L := [[3, 0], [2, 1], [1, 2]]) (.cons (same_sqt (t3.trans (t4.trans (t5.trans t6))) (SqT.of upd_same)) (.cons (same_sqt (t4.trans (t5.trans t6)) (SqT.of upd_same)) (.cons (same_sqt (t5.trans t6) (SqT.of upd_same)) .nil)))))
          (.cons (.int _) (.cons (.int _) .nil))))), by decide +kernel, by decide +kernel, ?_⟩
      rw [show PyData.eqv (.list [.int ((place [0, 2, 1] : Nat) : Int), encT [0, 2, 1], .tuple ([[3, 0], [2, 1], [1, 2]].map encT), .int ((place (List.replicate 8 0) : Nat) : Int), .int ((place [60] : Nat) : Int)]) (.list [.int 7, encT [0, 2, 1], .tuple ([[3, 0], [2, 1], [1, 2]].map encT), .int 0, .int 0]) = true by decide +kernel]
      exact q _
end
end L6

namespace L6
open PySem PySem.Spec PyProof.Rows L2 L5 RZ
/-! ### the end -/
theorem all_mk {l : PySem.W.OpenLaw} {w : World} {K : PySem.W.Frag} {h : Heap} {mg : Str → Option Value} {fa : Addr} (X : K.In h) (G : h.Ns mainGlobals mg) (hfa : mg "law" = some (.ref fa))
    {od_is_number an_is_number : Option Addr} {sl_is_number : Array (Option Value)} {oc_is_number kV_is_number dc_is_number pm_is_number cd_is_number ct_is_number : Value} {f_is_number : Addr}
    (a_is_number : PySem.W.nsIn K mainGlobals "is_number" = some (some (.ref f_is_number))) (l_is_number : K.lookup f_is_number = some ⟨oc_is_number, od_is_number, .func (PySem.W.fnOf "is_number" "is_number" (defArgs s_is_number) (defBody s_is_number) (defScope s_is_number) .none kV_is_number dc_is_number pm_is_number an_is_number cd_is_number ct_is_number), sl_is_number⟩) (c_is_number : PySem.W.codeIn K cd_is_number "is_number" = true) (k_is_number : PySem.W.keepIn K (.ref f_is_number) = true)
    {od_is_within an_is_within : Option Addr} {sl_is_within : Array (Option Value)} {oc_is_within kV_is_within dc_is_within pm_is_within cd_is_within ct_is_within : Value} {f_is_within : Addr}
    (a_is_within : PySem.W.nsIn K mainGlobals "is_within" = some (some (.ref f_is_within))) (l_is_within : K.lookup f_is_within = some ⟨oc_is_within, od_is_within, .func (PySem.W.fnOf "is_within" "is_within" (defArgs s_is_within) (defBody s_is_within) (defScope s_is_within) .none kV_is_within dc_is_within pm_is_within an_is_within cd_is_within ct_is_within), sl_is_within⟩) (c_is_within : PySem.W.codeIn K cd_is_within "is_within" = true) (k_is_within : PySem.W.keepIn K (.ref f_is_within) = true)
    {od_check_within an_check_within : Option Addr} {sl_check_within : Array (Option Value)} {oc_check_within kV_check_within dc_check_within pm_check_within cd_check_within ct_check_within : Value} {f_check_within : Addr}
    (a_check_within : PySem.W.nsIn K mainGlobals "check_within" = some (some (.ref f_check_within))) (l_check_within : K.lookup f_check_within = some ⟨oc_check_within, od_check_within, .func (PySem.W.fnOf "check_within" "check_within" (defArgs s_check_within) (defBody s_check_within) (defScope s_check_within) .none kV_check_within dc_check_within pm_check_within an_check_within cd_check_within ct_check_within), sl_check_within⟩) (c_check_within : PySem.W.codeIn K cd_check_within "check_within" = true) (k_check_within : PySem.W.keepIn K (.ref f_check_within) = true)
    {od_are_exponents an_are_exponents : Option Addr} {sl_are_exponents : Array (Option Value)} {oc_are_exponents kV_are_exponents dc_are_exponents pm_are_exponents cd_are_exponents ct_are_exponents : Value} {f_are_exponents : Addr}
    (a_are_exponents : PySem.W.nsIn K mainGlobals "are_exponents" = some (some (.ref f_are_exponents))) (l_are_exponents : K.lookup f_are_exponents = some ⟨oc_are_exponents, od_are_exponents, .func (PySem.W.fnOf "are_exponents" "are_exponents" (defArgs s_are_exponents) (defBody s_are_exponents) (defScope s_are_exponents) .none kV_are_exponents dc_are_exponents pm_are_exponents an_are_exponents cd_are_exponents ct_are_exponents), sl_are_exponents⟩) (c_are_exponents : PySem.W.codeIn K cd_are_exponents "are_exponents" = true) (k_are_exponents : PySem.W.keepIn K (.ref f_are_exponents) = true)
    {od_check_product an_check_product : Option Addr} {sl_check_product : Array (Option Value)} {oc_check_product kV_check_product dc_check_product pm_check_product cd_check_product ct_check_product : Value} {f_check_product : Addr}
    (a_check_product : PySem.W.nsIn K mainGlobals "check_product" = some (some (.ref f_check_product))) (l_check_product : K.lookup f_check_product = some ⟨oc_check_product, od_check_product, .func (PySem.W.fnOf "check_product" "check_product" (defArgs s_check_product) (defBody s_check_product) (defScope s_check_product) .none kV_check_product dc_check_product pm_check_product an_check_product cd_check_product ct_check_product), sl_check_product⟩) (c_check_product : PySem.W.codeIn K cd_check_product "check_product" = true) (k_check_product : PySem.W.keepIn K (.ref f_check_product) = true)
    {od_check_any_product an_check_any_product : Option Addr} {sl_check_any_product : Array (Option Value)} {oc_check_any_product kV_check_any_product dc_check_any_product pm_check_any_product cd_check_any_product ct_check_any_product : Value} {f_check_any_product : Addr}
    (a_check_any_product : PySem.W.nsIn K mainGlobals "check_any_product" = some (some (.ref f_check_any_product))) (l_check_any_product : K.lookup f_check_any_product = some ⟨oc_check_any_product, od_check_any_product, .func (PySem.W.fnOf "check_any_product" "check_any_product" (defArgs s_check_any_product) (defBody s_check_any_product) (defScope s_check_any_product) .none kV_check_any_product dc_check_any_product pm_check_any_product an_check_any_product cd_check_any_product ct_check_any_product), sl_check_any_product⟩) (c_check_any_product : PySem.W.codeIn K cd_check_any_product "check_any_product" = true) (k_check_any_product : PySem.W.keepIn K (.ref f_check_any_product) = true)
    {od_all_products an_all_products : Option Addr} {sl_all_products : Array (Option Value)} {oc_all_products kV_all_products dc_all_products pm_all_products cd_all_products ct_all_products : Value} {f_all_products : Addr}
    (a_all_products : PySem.W.nsIn K mainGlobals "all_products" = some (some (.ref f_all_products))) (l_all_products : K.lookup f_all_products = some ⟨oc_all_products, od_all_products, .func (PySem.W.fnOf "all_products" "all_products" (defArgs s_all_products) (defBody s_all_products) (defScope s_all_products) .none kV_all_products dc_all_products pm_all_products an_all_products cd_all_products ct_all_products), sl_all_products⟩) (c_all_products : PySem.W.codeIn K cd_all_products "all_products" = true) (k_all_products : PySem.W.keepIn K (.ref f_all_products) = true)
    {od_following an_following : Option Addr} {sl_following : Array (Option Value)} {oc_following kV_following dc_following pm_following cd_following ct_following : Value} {f_following : Addr}
    (a_following : PySem.W.nsIn K mainGlobals "following" = some (some (.ref f_following))) (l_following : K.lookup f_following = some ⟨oc_following, od_following, .func (PySem.W.fnOf "following" "following" (defArgs s_following) (defBody s_following) (defScope s_following) .none kV_following dc_following pm_following an_following cd_following ct_following), sl_following⟩) (c_following : PySem.W.codeIn K cd_following "following" = true) (k_following : PySem.W.keepIn K (.ref f_following) = true)
    {od_choices an_choices : Option Addr} {sl_choices : Array (Option Value)} {oc_choices kV_choices dc_choices pm_choices cd_choices ct_choices : Value} {f_choices : Addr}
    (a_choices : PySem.W.nsIn K mainGlobals "choices" = some (some (.ref f_choices))) (l_choices : K.lookup f_choices = some ⟨oc_choices, od_choices, .func (PySem.W.fnOf "choices" "choices" (defArgs s_choices) (defBody s_choices) (defScope s_choices) .none kV_choices dc_choices pm_choices an_choices cd_choices ct_choices), sl_choices⟩) (c_choices : PySem.W.codeIn K cd_choices "choices" = true) (k_choices : PySem.W.keepIn K (.ref f_choices) = true)
    {od_number_of_products an_number_of_products : Option Addr} {sl_number_of_products : Array (Option Value)} {oc_number_of_products kV_number_of_products dc_number_of_products pm_number_of_products cd_number_of_products ct_number_of_products : Value} {f_number_of_products : Addr}
    (a_number_of_products : PySem.W.nsIn K mainGlobals "number_of_products" = some (some (.ref f_number_of_products))) (l_number_of_products : K.lookup f_number_of_products = some ⟨oc_number_of_products, od_number_of_products, .func (PySem.W.fnOf "number_of_products" "number_of_products" (defArgs s_number_of_products) (defBody s_number_of_products) (defScope s_number_of_products) .none kV_number_of_products dc_number_of_products pm_number_of_products an_number_of_products cd_number_of_products ct_number_of_products), sl_number_of_products⟩) (c_number_of_products : PySem.W.codeIn K cd_number_of_products "number_of_products" = true) (k_number_of_products : PySem.W.keepIn K (.ref f_number_of_products) = true)
    {od_word_place an_word_place : Option Addr} {sl_word_place : Array (Option Value)} {oc_word_place kV_word_place dc_word_place pm_word_place cd_word_place ct_word_place : Value} {f_word_place : Addr}
    (a_word_place : PySem.W.nsIn K mainGlobals "word_place" = some (some (.ref f_word_place))) (l_word_place : K.lookup f_word_place = some ⟨oc_word_place, od_word_place, .func (PySem.W.fnOf "word_place" "word_place" (defArgs s_word_place) (defBody s_word_place) (defScope s_word_place) .none kV_word_place dc_word_place pm_word_place an_word_place cd_word_place ct_word_place), sl_word_place⟩) (c_word_place : PySem.W.codeIn K cd_word_place "word_place" = true) (k_word_place : PySem.W.keepIn K (.ref f_word_place) = true)
    {od_product_at an_product_at : Option Addr} {sl_product_at : Array (Option Value)} {oc_product_at kV_product_at dc_product_at pm_product_at cd_product_at ct_product_at : Value} {f_product_at : Addr}
    (a_product_at : PySem.W.nsIn K mainGlobals "product_at" = some (some (.ref f_product_at))) (l_product_at : K.lookup f_product_at = some ⟨oc_product_at, od_product_at, .func (PySem.W.fnOf "product_at" "product_at" (defArgs s_product_at) (defBody s_product_at) (defScope s_product_at) .none kV_product_at dc_product_at pm_product_at an_product_at cd_product_at ct_product_at), sl_product_at⟩) (c_product_at : PySem.W.codeIn K cd_product_at "product_at" = true) (k_product_at : PySem.W.keepIn K (.ref f_product_at) = true)
    {od_told_product an_told_product : Option Addr} {sl_told_product : Array (Option Value)} {oc_told_product kV_told_product dc_told_product pm_told_product cd_told_product ct_told_product : Value} {f_told_product : Addr}
    (a_told_product : PySem.W.nsIn K mainGlobals "told_product" = some (some (.ref f_told_product))) (l_told_product : K.lookup f_told_product = some ⟨oc_told_product, od_told_product, .func (PySem.W.fnOf "told_product" "told_product" (defArgs s_told_product) (defBody s_told_product) (defScope s_told_product) .none kV_told_product dc_told_product pm_told_product an_told_product cd_told_product ct_told_product), sl_told_product⟩) (c_told_product : PySem.W.codeIn K cd_told_product "told_product" = true) (k_told_product : PySem.W.keepIn K (.ref f_told_product) = true)
    {od_first_products an_first_products : Option Addr} {sl_first_products : Array (Option Value)} {oc_first_products kV_first_products dc_first_products pm_first_products cd_first_products ct_first_products : Value} {f_first_products : Addr}
    (a_first_products : PySem.W.nsIn K mainGlobals "first_products" = some (some (.ref f_first_products))) (l_first_products : K.lookup f_first_products = some ⟨oc_first_products, od_first_products, .func (PySem.W.fnOf "first_products" "first_products" (defArgs s_first_products) (defBody s_first_products) (defScope s_first_products) .none kV_first_products dc_first_products pm_first_products an_first_products cd_first_products ct_first_products), sl_first_products⟩) (c_first_products : PySem.W.codeIn K cd_first_products "first_products" = true) (k_first_products : PySem.W.keepIn K (.ref f_first_products) = true)
    {od_products_from an_products_from : Option Addr} {sl_products_from : Array (Option Value)} {oc_products_from kV_products_from dc_products_from pm_products_from cd_products_from ct_products_from : Value} {f_products_from : Addr}
    (a_products_from : PySem.W.nsIn K mainGlobals "products_from" = some (some (.ref f_products_from))) (l_products_from : K.lookup f_products_from = some ⟨oc_products_from, od_products_from, .func (PySem.W.fnOf "products_from" "products_from" (defArgs s_products_from) (defBody s_products_from) (defScope s_products_from) .none kV_products_from dc_products_from pm_products_from an_products_from cd_products_from ct_products_from), sl_products_from⟩) (c_products_from : PySem.W.codeIn K cd_products_from "products_from" = true) (k_products_from : PySem.W.keepIn K (.ref f_products_from) = true)
    {od_w_tub an_w_tub : Option Addr} {sl_w_tub : Array (Option Value)} {oc_w_tub kV_w_tub dc_w_tub pm_w_tub cd_w_tub ct_w_tub : Value} {f_w_tub : Addr}
    (a_w_tub : PySem.W.nsIn K mainGlobals "_law_tub" = some (some (.ref f_w_tub))) (l_w_tub : K.lookup f_w_tub = some ⟨oc_w_tub, od_w_tub, .func (PySem.W.fnOf "_law_tub" "_law_tub" (defArgs s_w_tub) (defBody s_w_tub) (defScope s_w_tub) .none kV_w_tub dc_w_tub pm_w_tub an_w_tub cd_w_tub ct_w_tub), sl_w_tub⟩) (c_w_tub : PySem.W.codeIn K cd_w_tub "_law_tub" = true) (k_w_tub : PySem.W.keepIn K (.ref f_w_tub) = true)
    {od_w_pour an_w_pour : Option Addr} {sl_w_pour : Array (Option Value)} {oc_w_pour kV_w_pour dc_w_pour pm_w_pour cd_w_pour ct_w_pour : Value} {f_w_pour : Addr}
    (a_w_pour : PySem.W.nsIn K mainGlobals "_law_pour" = some (some (.ref f_w_pour))) (l_w_pour : K.lookup f_w_pour = some ⟨oc_w_pour, od_w_pour, .func (PySem.W.fnOf "_law_pour" "_law_pour" (defArgs s_w_pour) (defBody s_w_pour) (defScope s_w_pour) .none kV_w_pour dc_w_pour pm_w_pour an_w_pour cd_w_pour ct_w_pour), sl_w_pour⟩) (c_w_pour : PySem.W.codeIn K cd_w_pour "_law_pour" = true) (k_w_pour : PySem.W.keepIn K (.ref f_w_pour) = true)
    {od_w_choice an_w_choice : Option Addr} {sl_w_choice : Array (Option Value)} {oc_w_choice kV_w_choice dc_w_choice pm_w_choice cd_w_choice ct_w_choice : Value} {f_w_choice : Addr}
    (a_w_choice : PySem.W.nsIn K mainGlobals "_law_choice" = some (some (.ref f_w_choice))) (l_w_choice : K.lookup f_w_choice = some ⟨oc_w_choice, od_w_choice, .func (PySem.W.fnOf "_law_choice" "_law_choice" (defArgs s_w_choice) (defBody s_w_choice) (defScope s_w_choice) .none kV_w_choice dc_w_choice pm_w_choice an_w_choice cd_w_choice ct_w_choice), sl_w_choice⟩) (c_w_choice : PySem.W.codeIn K cd_w_choice "_law_choice" = true) (k_w_choice : PySem.W.keepIn K (.ref f_w_choice) = true)
    {od_w_binomial an_w_binomial : Option Addr} {sl_w_binomial : Array (Option Value)} {oc_w_binomial kV_w_binomial dc_w_binomial pm_w_binomial cd_w_binomial ct_w_binomial : Value} {f_w_binomial : Addr}
    (a_w_binomial : PySem.W.nsIn K mainGlobals "_law_binomial" = some (some (.ref f_w_binomial))) (l_w_binomial : K.lookup f_w_binomial = some ⟨oc_w_binomial, od_w_binomial, .func (PySem.W.fnOf "_law_binomial" "_law_binomial" (defArgs s_w_binomial) (defBody s_w_binomial) (defScope s_w_binomial) .none kV_w_binomial dc_w_binomial pm_w_binomial an_w_binomial cd_w_binomial ct_w_binomial), sl_w_binomial⟩) (c_w_binomial : PySem.W.codeIn K cd_w_binomial "_law_binomial" = true) (k_w_binomial : PySem.W.keepIn K (.ref f_w_binomial) = true)
    {od_w_many an_w_many : Option Addr} {sl_w_many : Array (Option Value)} {oc_w_many kV_w_many dc_w_many pm_w_many cd_w_many ct_w_many : Value} {f_w_many : Addr}
    (a_w_many : PySem.W.nsIn K mainGlobals "_law_many" = some (some (.ref f_w_many))) (l_w_many : K.lookup f_w_many = some ⟨oc_w_many, od_w_many, .func (PySem.W.fnOf "_law_many" "_law_many" (defArgs s_w_many) (defBody s_w_many) (defScope s_w_many) .none kV_w_many dc_w_many pm_w_many an_w_many cd_w_many ct_w_many), sl_w_many⟩) (c_w_many : PySem.W.codeIn K cd_w_many "_law_many" = true) (k_w_many : PySem.W.keepIn K (.ref f_w_many) = true)
    {od_w_listed an_w_listed : Option Addr} {sl_w_listed : Array (Option Value)} {oc_w_listed kV_w_listed dc_w_listed pm_w_listed cd_w_listed ct_w_listed : Value} {f_w_listed : Addr}
    (a_w_listed : PySem.W.nsIn K mainGlobals "_law_listed" = some (some (.ref f_w_listed))) (l_w_listed : K.lookup f_w_listed = some ⟨oc_w_listed, od_w_listed, .func (PySem.W.fnOf "_law_listed" "_law_listed" (defArgs s_w_listed) (defBody s_w_listed) (defScope s_w_listed) .none kV_w_listed dc_w_listed pm_w_listed an_w_listed cd_w_listed ct_w_listed), sl_w_listed⟩) (c_w_listed : PySem.W.codeIn K cd_w_listed "_law_listed" = true) (k_w_listed : PySem.W.keepIn K (.ref f_w_listed) = true)
    {od_w_place an_w_place : Option Addr} {sl_w_place : Array (Option Value)} {oc_w_place kV_w_place dc_w_place pm_w_place cd_w_place ct_w_place : Value} {f_w_place : Addr}
    (a_w_place : PySem.W.nsIn K mainGlobals "_law_place" = some (some (.ref f_w_place))) (l_w_place : K.lookup f_w_place = some ⟨oc_w_place, od_w_place, .func (PySem.W.fnOf "_law_place" "_law_place" (defArgs s_w_place) (defBody s_w_place) (defScope s_w_place) .none kV_w_place dc_w_place pm_w_place an_w_place cd_w_place ct_w_place), sl_w_place⟩) (c_w_place : PySem.W.codeIn K cd_w_place "_law_place" = true) (k_w_place : PySem.W.keepIn K (.ref f_w_place) = true)
    {od_w_product an_w_product : Option Addr} {sl_w_product : Array (Option Value)} {oc_w_product kV_w_product dc_w_product pm_w_product cd_w_product ct_w_product : Value} {f_w_product : Addr}
    (a_w_product : PySem.W.nsIn K mainGlobals "_law_product" = some (some (.ref f_w_product))) (l_w_product : K.lookup f_w_product = some ⟨oc_w_product, od_w_product, .func (PySem.W.fnOf "_law_product" "_law_product" (defArgs s_w_product) (defBody s_w_product) (defScope s_w_product) .none kV_w_product dc_w_product pm_w_product an_w_product cd_w_product ct_w_product), sl_w_product⟩) (c_w_product : PySem.W.codeIn K cd_w_product "_law_product" = true) (k_w_product : PySem.W.keepIn K (.ref f_w_product) = true)
    {od_w_great_right an_w_great_right : Option Addr} {sl_w_great_right : Array (Option Value)} {oc_w_great_right kV_w_great_right dc_w_great_right pm_w_great_right cd_w_great_right ct_w_great_right : Value} {f_w_great_right : Addr}
    (a_w_great_right : PySem.W.nsIn K mainGlobals "_law_great_right" = some (some (.ref f_w_great_right))) (l_w_great_right : K.lookup f_w_great_right = some ⟨oc_w_great_right, od_w_great_right, .func (PySem.W.fnOf "_law_great_right" "_law_great_right" (defArgs s_w_great_right) (defBody s_w_great_right) (defScope s_w_great_right) .none kV_w_great_right dc_w_great_right pm_w_great_right an_w_great_right cd_w_great_right ct_w_great_right), sl_w_great_right⟩) (c_w_great_right : PySem.W.codeIn K cd_w_great_right "_law_great_right" = true) (k_w_great_right : PySem.W.keepIn K (.ref f_w_great_right) = true)
    {od_w_listed_right an_w_listed_right : Option Addr} {sl_w_listed_right : Array (Option Value)} {oc_w_listed_right kV_w_listed_right dc_w_listed_right pm_w_listed_right cd_w_listed_right ct_w_listed_right : Value} {f_w_listed_right : Addr}
    (a_w_listed_right : PySem.W.nsIn K mainGlobals "_law_listed_right" = some (some (.ref f_w_listed_right))) (l_w_listed_right : K.lookup f_w_listed_right = some ⟨oc_w_listed_right, od_w_listed_right, .func (PySem.W.fnOf "_law_listed_right" "_law_listed_right" (defArgs s_w_listed_right) (defBody s_w_listed_right) (defScope s_w_listed_right) .none kV_w_listed_right dc_w_listed_right pm_w_listed_right an_w_listed_right cd_w_listed_right ct_w_listed_right), sl_w_listed_right⟩) (c_w_listed_right : PySem.W.codeIn K cd_w_listed_right "_law_listed_right" = true) (k_w_listed_right : PySem.W.keepIn K (.ref f_w_listed_right) = true)
    {od_law an_law : Option Addr} {sl_law : Array (Option Value)} {oc_law kV_law dc_law pm_law cd_law ct_law : Value} {f_law : Addr}
    (a_law : PySem.W.nsIn K mainGlobals "law" = some (some (.ref f_law))) (l_law : K.lookup f_law = some ⟨oc_law, od_law, .func (PySem.W.fnOf "law" "law" (defArgs s_law) (defBody s_law) (defScope s_law) .none kV_law dc_law pm_law an_law cd_law ct_law), sl_law⟩) (c_law : PySem.W.codeIn K cd_law "law" = true) (k_law : PySem.W.keepIn K (.ref f_law) = true)
    (z_isinstance : PySem.W.nsIn K mainGlobals "isinstance" = some none)
    (z_int : PySem.W.nsIn K mainGlobals "int" = some none)
    (z_bool : PySem.W.nsIn K mainGlobals "bool" = some none)
    (z_tuple : PySem.W.nsIn K mainGlobals "tuple" = some none)
    (z_len : PySem.W.nsIn K mainGlobals "len" = some none)
    (z_all : PySem.W.nsIn K mainGlobals "all" = some none)
    (z_comb : PySem.W.nsIn K mainGlobals "comb" = some (some (.builtin "math.comb")))
    (z_enumerate : PySem.W.nsIn K mainGlobals "enumerate" = some none)
    (z_sum : PySem.W.nsIn K mainGlobals "sum" = some none)
    (z_reversed : PySem.W.nsIn K mainGlobals "reversed" = some none)
    (z_range : PySem.W.nsIn K mainGlobals "range" = some none)
    (z_min : PySem.W.nsIn K mainGlobals "min" = some none)
    (z_abs : PySem.W.nsIn K mainGlobals "abs" = some none)
    (z_max : PySem.W.nsIn K mainGlobals "max" = some none)
    (z_list : PySem.W.nsIn K mainGlobals "list" = some none)
    {t_MAX_LETTERS : Nat} (g_MAX_LETTERS : PySem.W.nsIn K mainGlobals "MAX_LETTERS" = some (some (.int 8 t_MAX_LETTERS)))
    {t_MAX_EXPONENT : Nat} (g_MAX_EXPONENT : PySem.W.nsIn K mainGlobals "MAX_EXPONENT" = some (some (.int 60 t_MAX_EXPONENT)))
    {t_MAX_LISTED_DEGREE : Nat} (g_MAX_LISTED_DEGREE : PySem.W.nsIn K mainGlobals "MAX_LISTED_DEGREE" = some (some (.int 12 t_MAX_LISTED_DEGREE)))
    {t_MAX_DEGREE : Nat} (g_MAX_DEGREE : PySem.W.nsIn K mainGlobals "MAX_DEGREE" = some (some (.int 60 t_MAX_DEGREE)))
    {t_MAX_TOLD : Nat} (g_MAX_TOLD : PySem.W.nsIn K mainGlobals "MAX_TOLD" = some (some (.int 1000 t_MAX_TOLD)))
    : ∃ fd : FuncData, (∀ (s : Shared) (v : Value), BindsTo s fd ⟨[v], []⟩ [("_law_script", v)]) ∧ ∀ base : Heap, K.In base → base.Ns mainGlobals mg → FnOk l.prog w K mg base CX0 10 fa fd ["_law_script"] (sp_law K) := by
  have e := hfa.symm.trans (PySem.W.mg_of X G a_law)
  cases e
  have F_is_number := fun_mk (st := s_is_number) l_is_number c_is_number k_is_number
  have b_is_number := F_is_number.binds (ps := ["value"]) fun _ _ _ _ _ _ us hl => match us, hl with | [_], _ => rfl
  have F_is_within := fun_mk (st := s_is_within) l_is_within c_is_within k_is_within
  have b_is_within := F_is_within.binds (ps := ["value", "least", "most"]) fun _ _ _ _ _ _ us hl => match us, hl with | [_, _, _], _ => rfl
  have F_check_within := fun_mk (st := s_check_within) l_check_within c_check_within k_check_within
  have b_check_within := F_check_within.binds (ps := ["value", "least", "most"]) fun _ _ _ _ _ _ us hl => match us, hl with | [_, _, _], _ => rfl
  have F_are_exponents := fun_mk (st := s_are_exponents) l_are_exponents c_are_exponents k_are_exponents
  have b_are_exponents := F_are_exponents.binds (ps := ["value", "letters", "most"]) fun _ _ _ _ _ _ us hl => match us, hl with | [_, _, _], _ => rfl
  have F_check_product := fun_mk (st := s_check_product) l_check_product c_check_product k_check_product
  have b_check_product := F_check_product.binds (ps := ["value", "letters"]) fun _ _ _ _ _ _ us hl => match us, hl with | [_, _], _ => rfl
  have F_check_any_product := fun_mk (st := s_check_any_product) l_check_any_product c_check_any_product k_check_any_product
  have b_check_any_product := F_check_any_product.binds (ps := ["value"]) fun _ _ _ _ _ _ us hl => match us, hl with | [_], _ => rfl
  have F_all_products := fun_mk (st := s_all_products) l_all_products c_all_products k_all_products
  have b_all_products := F_all_products.binds (ps := ["letters", "degree"]) fun _ _ _ _ _ _ us hl => match us, hl with | [_, _], _ => rfl
  have F_following := fun_mk (st := s_following) l_following c_following k_following
  have b_following := F_following.binds (ps := ["product"]) fun _ _ _ _ _ _ us hl => match us, hl with | [_], _ => rfl
  have F_choices := fun_mk (st := s_choices) l_choices c_choices k_choices
  have b_choices := F_choices.binds (ps := ["top", "bottom"]) fun _ _ _ _ _ _ us hl => match us, hl with | [_, _], _ => rfl
  have F_number_of_products := fun_mk (st := s_number_of_products) l_number_of_products c_number_of_products k_number_of_products
  have b_number_of_products := F_number_of_products.binds (ps := ["letters", "degree"]) fun _ _ _ _ _ _ us hl => match us, hl with | [_, _], _ => rfl
  have F_word_place := fun_mk (st := s_word_place) l_word_place c_word_place k_word_place
  have b_word_place := F_word_place.binds (ps := ["product"]) fun _ _ _ _ _ _ us hl => match us, hl with | [_], _ => rfl
  have F_product_at := fun_mk (st := s_product_at) l_product_at c_product_at k_product_at
  have b_product_at := F_product_at.binds (ps := ["letters", "degree", "place"]) fun _ _ _ _ _ _ us hl => match us, hl with | [_, _, _], _ => rfl
  have F_told_product := fun_mk (st := s_told_product) l_told_product c_told_product k_told_product
  have b_told_product := F_told_product.binds (ps := ["letters", "degree", "place"]) fun _ _ _ _ _ _ us hl => match us, hl with | [_, _, _], _ => rfl
  have F_first_products := fun_mk (st := s_first_products) l_first_products c_first_products k_first_products
  have b_first_products := F_first_products.binds (ps := ["letters", "degree", "many"]) fun _ _ _ _ _ _ us hl => match us, hl with | [_, _, _], _ => rfl
  have F_products_from := fun_mk (st := s_products_from) l_products_from c_products_from k_products_from
  have b_products_from := F_products_from.binds (ps := ["letters", "degree", "place", "many"]) fun _ _ _ _ _ _ us hl => match us, hl with | [_, _, _, _], _ => rfl
  have F_w_tub := fun_mk (st := s_w_tub) l_w_tub c_w_tub k_w_tub
  have b_w_tub := F_w_tub.binds (ps := ["_law_script", "_law_spot"]) fun _ _ _ _ _ _ us hl => match us, hl with | [_, _], _ => rfl
  have F_w_pour := fun_mk (st := s_w_pour) l_w_pour c_w_pour k_w_pour
  have b_w_pour := F_w_pour.binds (ps := ["_law_tub_here", "_law_total"]) fun _ _ _ _ _ _ us hl => match us, hl with | [_, _], _ => rfl
  have F_w_choice := fun_mk (st := s_w_choice) l_w_choice c_w_choice k_w_choice
  have b_w_choice := F_w_choice.binds (ps := ["_law_tub_here", "_law_items"]) fun _ _ _ _ _ _ us hl => match us, hl with | [_, _], _ => rfl
  have F_w_binomial := fun_mk (st := s_w_binomial) l_w_binomial c_w_binomial k_w_binomial
  have b_w_binomial := F_w_binomial.binds (ps := ["_law_top", "_law_bottom"]) fun _ _ _ _ _ _ us hl => match us, hl with | [_, _], _ => rfl
  have F_w_many := fun_mk (st := s_w_many) l_w_many c_w_many k_w_many
  have b_w_many := F_w_many.binds (ps := ["_law_letters", "_law_degree"]) fun _ _ _ _ _ _ us hl => match us, hl with | [_, _], _ => rfl
  have F_w_listed := fun_mk (st := s_w_listed) l_w_listed c_w_listed k_w_listed
  have b_w_listed := F_w_listed.binds (ps := ["_law_letters", "_law_degree"]) fun _ _ _ _ _ _ us hl => match us, hl with | [_, _], _ => rfl
  have F_w_place := fun_mk (st := s_w_place) l_w_place c_w_place k_w_place
  have b_w_place := F_w_place.binds (ps := ["_law_product_here"]) fun _ _ _ _ _ _ us hl => match us, hl with | [_], _ => rfl
  have F_w_product := fun_mk (st := s_w_product) l_w_product c_w_product k_w_product
  have b_w_product := F_w_product.binds (ps := ["_law_tub_here", "_law_letters", "_law_most"]) fun _ _ _ _ _ _ us hl => match us, hl with | [_, _, _], _ => rfl
  have F_w_great_right := fun_mk (st := s_w_great_right) l_w_great_right c_w_great_right k_w_great_right
  have b_w_great_right := F_w_great_right.binds (ps := ["_law_tub_here"]) fun _ _ _ _ _ _ us hl => match us, hl with | [_], _ => rfl
  have F_w_listed_right := fun_mk (st := s_w_listed_right) l_w_listed_right c_w_listed_right k_w_listed_right
  have b_w_listed_right := F_w_listed_right.binds (ps := ["_law_tub_here"]) fun _ _ _ _ _ _ us hl => match us, hl with | [_], _ => rfl
  have F_law := fun_mk (st := s_law) l_law c_law k_law
  have b_law := F_law.binds (ps := ["_law_script"]) fun _ _ _ _ _ _ us hl => match us, hl with | [_], _ => rfl
  let T : Txt K mg := ⟨_, _, F_is_number, b_is_number, PySem.W.mg_of X G a_is_number, _, _, F_is_within, b_is_within, PySem.W.mg_of X G a_is_within, _, _, F_check_within, b_check_within, PySem.W.mg_of X G a_check_within, _, _, F_are_exponents, b_are_exponents, PySem.W.mg_of X G a_are_exponents, _, _, F_check_product, b_check_product, PySem.W.mg_of X G a_check_product, _, _, F_check_any_product, b_check_any_product, PySem.W.mg_of X G a_check_any_product, _, _, F_all_products, b_all_products, PySem.W.mg_of X G a_all_products, _, _, F_following, b_following, PySem.W.mg_of X G a_following, _, _, F_choices, b_choices, PySem.W.mg_of X G a_choices, _, _, F_number_of_products, b_number_of_products, PySem.W.mg_of X G a_number_of_products, _, _, F_word_place, b_word_place, PySem.W.mg_of X G a_word_place, _, _, F_product_at, b_product_at, PySem.W.mg_of X G a_product_at, _, _, F_told_product, b_told_product, PySem.W.mg_of X G a_told_product, _, _, F_first_products, b_first_products, PySem.W.mg_of X G a_first_products, _, _, F_products_from, b_products_from, PySem.W.mg_of X G a_products_from, _, _, F_w_tub, b_w_tub, PySem.W.mg_of X G a_w_tub, _, _, F_w_pour, b_w_pour, PySem.W.mg_of X G a_w_pour, _, _, F_w_choice, b_w_choice, PySem.W.mg_of X G a_w_choice, _, _, F_w_binomial, b_w_binomial, PySem.W.mg_of X G a_w_binomial, _, _, F_w_many, b_w_many, PySem.W.mg_of X G a_w_many, _, _, F_w_listed, b_w_listed, PySem.W.mg_of X G a_w_listed, _, _, F_w_place, b_w_place, PySem.W.mg_of X G a_w_place, _, _, F_w_product, b_w_product, PySem.W.mg_of X G a_w_product, _, _, F_w_great_right, b_w_great_right, PySem.W.mg_of X G a_w_great_right, _, _, F_w_listed_right, b_w_listed_right, PySem.W.mg_of X G a_w_listed_right, _, _, F_law, b_law, PySem.W.mg_of X G a_law, PySem.W.mg_none_of X G z_isinstance, PySem.W.mg_none_of X G z_int, PySem.W.mg_none_of X G z_bool, PySem.W.mg_none_of X G z_tuple, PySem.W.mg_none_of X G z_len, PySem.W.mg_none_of X G z_all, PySem.W.mg_of X G z_comb, PySem.W.mg_none_of X G z_enumerate, PySem.W.mg_none_of X G z_sum, PySem.W.mg_none_of X G z_reversed, PySem.W.mg_none_of X G z_range, PySem.W.mg_none_of X G z_min, PySem.W.mg_none_of X G z_abs, PySem.W.mg_none_of X G z_max, PySem.W.mg_none_of X G z_list, _, PySem.W.mg_of X G g_MAX_LETTERS, _, PySem.W.mg_of X G g_MAX_EXPONENT, _, PySem.W.mg_of X G g_MAX_LISTED_DEGREE, _, PySem.W.mg_of X G g_MAX_DEGREE, _, PySem.W.mg_of X G g_MAX_TOLD⟩
  exact ⟨_, fun s v => .of_eq rfl, fun base _ _ => ok_law T⟩
end L6
open PySem PySem.W PyProof.Rows
set_option maxRecDepth 100000 in
set_option maxHeartbeats 0 in
theorem PySem.Challenge.cw_pureladders_k16_whole_places_in_the_orde_holds : PySem.Challenge.rw_pureladders_k16_whole_places_in_the_orde.Holds := by
  w_on; o_law; k_head; (case hw => w_witness2)
  k_fill
  refine L2.walk_of (l := PySem.Challenge.rw_pureladders_k16_whole_places_in_the_orde) (n := 63) (k := 10) (x := "_law_script") (CX := fun _ => L2.CX0) (sp := fun w => L6.sp_law _) rfl (by decide) rfl ⟨rfl, by decide, by decide⟩ (fun w h Y => PySem.W.kIn_of Y) ?F (fun _ _ a ns hl _ hS => ⟨a, ns, rfl, hS, hl, fun _ => rfl⟩) (fun _ _ _ _ _ h => h)
  case F =>
    intro w mg fa h KX G hmg
    refine' L6.all_mk KX G hmg ?a_is_number ?l_is_number ?c_is_number ?k_is_number ?a_is_within ?l_is_within ?c_is_within ?k_is_within ?a_check_within ?l_check_within ?c_check_within ?k_check_within ?a_are_exponents ?l_are_exponents ?c_are_exponents ?k_are_exponents ?a_check_product ?l_check_product ?c_check_product ?k_check_product ?a_check_any_product ?l_check_any_product ?c_check_any_product ?k_check_any_product ?a_all_products ?l_all_products ?c_all_products ?k_all_products ?a_following ?l_following ?c_following ?k_following ?a_choices ?l_choices ?c_choices ?k_choices ?a_number_of_products ?l_number_of_products ?c_number_of_products ?k_number_of_products ?a_word_place ?l_word_place ?c_word_place ?k_word_place ?a_product_at ?l_product_at ?c_product_at ?k_product_at ?a_told_product ?l_told_product ?c_told_product ?k_told_product ?a_first_products ?l_first_products ?c_first_products ?k_first_products ?a_products_from ?l_products_from ?c_products_from ?k_products_from ?a_w_tub ?l_w_tub ?c_w_tub ?k_w_tub ?a_w_pour ?l_w_pour ?c_w_pour ?k_w_pour ?a_w_choice ?l_w_choice ?c_w_choice ?k_w_choice ?a_w_binomial ?l_w_binomial ?c_w_binomial ?k_w_binomial ?a_w_many ?l_w_many ?c_w_many ?k_w_many ?a_w_listed ?l_w_listed ?c_w_listed ?k_w_listed ?a_w_place ?l_w_place ?c_w_place ?k_w_place ?a_w_product ?l_w_product ?c_w_product ?k_w_product ?a_w_great_right ?l_w_great_right ?c_w_great_right ?k_w_great_right ?a_w_listed_right ?l_w_listed_right ?c_w_listed_right ?k_w_listed_right ?a_law ?l_law ?c_law ?k_law ?z_isinstance ?z_int ?z_bool ?z_tuple ?z_len ?z_all ?z_comb ?z_enumerate ?z_sum ?z_reversed ?z_range ?z_min ?z_abs ?z_max ?z_list ?g_MAX_LETTERS ?g_MAX_EXPONENT ?g_MAX_LISTED_DEGREE ?g_MAX_DEGREE ?g_MAX_TOLD
    (case a_is_number => k_is)
    (case l_is_number => k_is)
    (case c_is_number => k_is)
    (case k_is_number => k_is)
    (case a_is_within => k_is)
    (case l_is_within => k_is)
    (case c_is_within => k_is)
    (case k_is_within => k_is)
    (case a_check_within => k_is)
    (case l_check_within => k_is)
    (case c_check_within => k_is)
    (case k_check_within => k_is)
    (case a_are_exponents => k_is)
    (case l_are_exponents => k_is)
    (case c_are_exponents => k_is)
    (case k_are_exponents => k_is)
    (case a_check_product => k_is)
    (case l_check_product => k_is)
    (case c_check_product => k_is)
    (case k_check_product => k_is)
    (case a_check_any_product => k_is)
    (case l_check_any_product => k_is)
    (case c_check_any_product => k_is)
    (case k_check_any_product => k_is)
    (case a_all_products => k_is)
    (case l_all_products => k_is)
    (case c_all_products => k_is)
    (case k_all_products => k_is)
    (case a_following => k_is)
    (case l_following => k_is)
    (case c_following => k_is)
    (case k_following => k_is)
    (case a_choices => k_is)
    (case l_choices => k_is)
    (case c_choices => k_is)
    (case k_choices => k_is)
    (case a_number_of_products => k_is)
    (case l_number_of_products => k_is)
    (case c_number_of_products => k_is)
    (case k_number_of_products => k_is)
    (case a_word_place => k_is)
    (case l_word_place => k_is)
    (case c_word_place => k_is)
    (case k_word_place => k_is)
    (case a_product_at => k_is)
    (case l_product_at => k_is)
    (case c_product_at => k_is)
    (case k_product_at => k_is)
    (case a_told_product => k_is)
    (case l_told_product => k_is)
    (case c_told_product => k_is)
    (case k_told_product => k_is)
    (case a_first_products => k_is)
    (case l_first_products => k_is)
    (case c_first_products => k_is)
    (case k_first_products => k_is)
    (case a_products_from => k_is)
    (case l_products_from => k_is)
    (case c_products_from => k_is)
    (case k_products_from => k_is)
    (case a_w_tub => k_is)
    (case l_w_tub => k_is)
    (case c_w_tub => k_is)
    (case k_w_tub => k_is)
    (case a_w_pour => k_is)
    (case l_w_pour => k_is)
    (case c_w_pour => k_is)
    (case k_w_pour => k_is)
    (case a_w_choice => k_is)
    (case l_w_choice => k_is)
    (case c_w_choice => k_is)
    (case k_w_choice => k_is)
    (case a_w_binomial => k_is)
    (case l_w_binomial => k_is)
    (case c_w_binomial => k_is)
    (case k_w_binomial => k_is)
    (case a_w_many => k_is)
    (case l_w_many => k_is)
    (case c_w_many => k_is)
    (case k_w_many => k_is)
    (case a_w_listed => k_is)
    (case l_w_listed => k_is)
    (case c_w_listed => k_is)
    (case k_w_listed => k_is)
    (case a_w_place => k_is)
    (case l_w_place => k_is)
    (case c_w_place => k_is)
    (case k_w_place => k_is)
    (case a_w_product => k_is)
    (case l_w_product => k_is)
    (case c_w_product => k_is)
    (case k_w_product => k_is)
    (case a_w_great_right => k_is)
    (case l_w_great_right => k_is)
    (case c_w_great_right => k_is)
    (case k_w_great_right => k_is)
    (case a_w_listed_right => k_is)
    (case l_w_listed_right => k_is)
    (case c_w_listed_right => k_is)
    (case k_w_listed_right => k_is)
    (case a_law => k_is)
    (case l_law => k_is)
    (case c_law => k_is)
    (case k_law => k_is)
    (case z_isinstance => k_is)
    (case z_int => k_is)
    (case z_bool => k_is)
    (case z_tuple => k_is)
    (case z_len => k_is)
    (case z_all => k_is)
    (case z_comb => k_is)
    (case z_enumerate => k_is)
    (case z_sum => k_is)
    (case z_reversed => k_is)
    (case z_range => k_is)
    (case z_min => k_is)
    (case z_abs => k_is)
    (case z_max => k_is)
    (case z_list => k_is)
    (case g_MAX_LETTERS => k_is)
    (case g_MAX_EXPONENT => k_is)
    (case g_MAX_LISTED_DEGREE => k_is)
    (case g_MAX_DEGREE => k_is)
    (case g_MAX_TOLD => k_is)
