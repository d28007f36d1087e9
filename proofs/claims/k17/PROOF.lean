import PyProof.Rows.All
import Wide.All
import OpenK.AllK
import Wide.FinOn
import HandS.Base
import HandS.Call
import HandS.List
import HandS.Comp
import HandS.Ends
import HandS.Iter
import HandS.Words
import HandS.WordsList
import HandS.TupMul
import HandS.TupAny
import HandS.IsInst
import HandS.Zip
import HandS.Style
import HandS.Wide
import HandS.GenList
import KE.KTupSum
import KE.KEqSeq
import KE.KMathGC
import KE.GoesMore
import HandS.TupLe
import HandS.RevRange
import HandS.Gcd
import PySem.Challenge.RW_pureladders_k17_whole_shares_and_growth
set_option Elab.async false
set_option linter.all false
set_option maxRecDepth 100000
set_option maxHeartbeats 4000000
/-! rules that the layer lacks -/
namespace L5
open PySem PySem.Spec PyProof.Rows L2
/-! ### powers of great numbers -/
def CPowW (i j : Int) : Prop := 0 ≤ j ∧ (Builtin.Int.intBits i : Int) * j ≤ 2 ^ 27
theorem op_powW {X : Cx} : OpR X (binaryOp .Pow) (rI CPowW fun i j => .int (i ^ j.toNat)) := opI fun _ _ _ _ _ _ _ hc q => pow_int hc.1 hc.2 q
/-! ### sum and max of a tuple of ints -/
section
variable {pr : Program} {wd : World} {A : Around} {E : Value → Shared → Prop} {s : Shared} {tp : Addr} {us : List Value} {ms : List Int} {G : Value → Shared → Prop}
/-- a row of ints, as the library's walks want it -/
theorem items_of (hi : IntsAre us ms) : ∃ ws : Array (Int × Tok), us.toArray = intItems ws ∧ ws.toList.map (·.1) = ms := by
  obtain ⟨ws, ew⟩ := hi.allInts.items
  refine ⟨ws, ew, ?_⟩
  rw [← nums_intItems, ← ew]
  exact hi.numsOf
abbrev Stays (s : Shared) (h : Heap) : Prop := ∀ b o, s.heap.get? b = some o → h.get? b = some o
theorem sum_of_tuple (hh : A.handled = none) (ht : s.heap.IsTuple tp us.toArray) (hi : IntsAre us ms) (q : ∀ h n t, Stays s h → G (.int ms.sum t) { s with heap := h, toks := n }) :
    wpAny (model pr wd) A (call (.builtin "sum") [.ref tp]) G E s := by
  obtain ⟨ws, ew, en⟩ := items_of hi
  rw [ew] at ht
  refine PySem.W.ktm_sumG hh ht fun h n t kept => ?_
  have g := q h n t kept
  rw [← en] at g
  rw [preSum_eq, List.take_of_length_le (by rw [List.length_map, Array.length_toList]; exact Nat.le_refl _)]
  exact g
theorem max_of_tuple (hh : A.handled = none) (ht : s.heap.IsTuple tp us.toArray) (hi : IntsAre us ms) (some1 : 0 < ms.length) (q : ∀ h n M t, Stays s h → M ∈ ms → (∀ a, a ∈ ms → a ≤ M) → G (.int M t) { s with heap := h, toks := n }) :
    wpAny (model pr wd) A (call (.builtin "max") [.ref tp]) G E s := by
  obtain ⟨ws, ew, en⟩ := items_of hi
  subst en
  rw [ew] at ht
  have pos : 0 < ws.size := by simpa using some1
  have esz : (intItems ws).size = ws.size := by simp [intItems]
  obtain ⟨ob, hob, _⟩ := id ht
  have apart : tp ≠ s.heap.objs.size := Nat.ne_of_lt (Heap.lt_size hob)
  refine call_max_walk (wpAny_pyIter_tuple ht ?_)
  refine ⟨_, _, _, _, _, _, _, rfl, Walks.tuple (A := A.in1) hh s.heap.objs.size tp apart (intItems ws), ⟨⟨_, Heap.get?_push_size _ rfl, rfl, rfl⟩, ht.at fun o e => Heap.get?_push_of_some _ e⟩, fun b hb => ?_, by rw [esz]; exact pos, CmpOf.ints_gt (numAt ws) (fun _ _ => intItems_at), fun v h n hv kept => ?_⟩
  · have two : b = s.heap.objs.size ∨ b = tp := by simpa using hb
    rcases two with rfl | rfl
    · exact Heap.lt_size (o := _) (Heap.get?_push_size _ rfl)
    · exact Heap.lt_size (o := ob) (Heap.get?_push_of_some _ hob)
  · obtain ⟨t, rfl⟩ := intItems_at hv
    rw [esz] at *
    obtain ⟨top1, top2⟩ := argBest_gt (numAt ws) (ws.size - 1)
    have at_of : ∀ i, numAt ws i = (ws.toList.map (·.1)).getD i 0 := fun i => numAt_eq ..
    refine q h n _ t (fun b o e => kept b o (fun hb => ?_) (Heap.get?_push_of_some _ e)) ?_ fun a ha => ?_
    · rw [List.mem_singleton.mp hb] at e
      exact Nat.lt_irrefl _ (Heap.lt_size e)
    · rw [at_of]
      refine PySem.getD_mem ?_
      rw [List.length_map, Array.length_toList]
      omega
    · obtain ⟨i, less, rfl⟩ := mem_getD ha
      rw [List.length_map, Array.length_toList] at less
      rw [← at_of]
      exact top2 i (by omega)
end
section
variable {X : Cx}
def rSumT (K : PySem.W.Frag) : List V → Hp → VK → Prop := fun vs H Q => ∃ (a : Addr) (ns : List Int), vs = [V.ref a] ∧ SqT K H a (ns.map V.int) ∧ Q (.int ns.sum) H
theorem cr_sumT (calm : X.calm = true) : CallR X (.builtin "sum") (rSumT X.K) := fun _ _ _ _ _ _ _ I r h => by
  obtain ⟨_, _, rfl, ht, q⟩ := h
  obtain ⟨_, rv, plain, _⟩ := I.tuple ht
  rw [Vals.ref1 r]
  exact sum_of_tuple (I.ok.hd calm) plain rv.ints fun _ _ _ kept => ⟨.int _, _, I.kept kept, ⟨_, rfl⟩, q⟩
def rMaxT (K : PySem.W.Frag) : List V → Hp → VK → Prop := fun vs H Q => ∃ (a : Addr) (ns : List Int), vs = [V.ref a] ∧ SqT K H a (ns.map V.int) ∧ 0 < ns.length ∧ ∀ m, m ∈ ns → (∀ y, y ∈ ns → y ≤ m) → Q (.int m) H
theorem cr_maxT (calm : X.calm = true) : CallR X (.builtin "max") (rMaxT X.K) := fun _ _ _ _ _ _ _ I r h => by
  obtain ⟨_, _, rfl, ht, some1, q⟩ := h
  obtain ⟨_, rv, plain, _⟩ := I.tuple ht
  rw [Vals.ref1 r]
  exact max_of_tuple (I.ok.hd calm) plain rv.ints some1 fun _ _ m _ kept g1 g2 => ⟨.int m, _, I.kept kept, ⟨_, rfl⟩, q m g1 g2⟩
end
/-! ### tuple * int, any int: the tuple itself, the empty one, or a longer one -/
abbrev tupObj (items : Array Value) (n : Nat) (dd : Option Addr) (sl : Array (Option Value)) : Obj := { cls := .type "tuple", dict := dd, data := .seq items n, slots := sl }
theorem off_of {b : Bool} (h : b = false) : decide (b = true) = false := decide_eq_false (Bool.eq_false_iff.mp h)
theorem mul_same (tp : Addr) (items : Array Value) (n : Nat) (dd : Option Addr) (sl : Array (Option Value)) (x : Int) (u : Tok) (fits : (decide (x < -(2 ^ 63)) || decide (x ≥ 2 ^ 63)) = false) (same : (items.isEmpty || x == 1) = true) :
    Meets (Builtin.«tuple.__mul__» ⟨[.ref tp, .int x u], []⟩) (fun _ R s => s.heap.get? tp = some (tupObj items n dd sl) ∧ R (.ok (.ret (Value.ref tp))) { s with heap := s.heap, toks := s.toks }) :=
  .of_wp fun _ _ _ _ st both => by
    obtain ⟨_, _, _, _, _⟩ := st
    obtain ⟨at1, q⟩ := both
    have ix := AutoSeq1.idx_int
    wp_walk using wpAny_loadPart' at1
    repeat (first
      | (refine wpAny_ite_false (off_of fits) ?_; wp_walk using wpAny_loadPart' at1)
      | (refine wpAny_ite_true (decide_eq_true same) ?_; wp_walk using wpAny_loadPart' at1))
    exact ⟨_, rfl, q⟩
theorem mul_none (tp : Addr) (items : Array Value) (n : Nat) (dd : Option Addr) (sl : Array (Option Value)) (x : Int) (u : Tok) (fits : (decide (x < -(2 ^ 63)) || decide (x ≥ 2 ^ 63)) = false) (other : (items.isEmpty || x == 1) = false) (less : (decide (x ≤ 0) || items.isEmpty) = true) :
    Meets (Builtin.«tuple.__mul__» ⟨[.ref tp, .int x u], []⟩) (fun _ R s => s.heap.get? tp = some (tupObj items n dd sl) ∧
      R (.ok (.ret (Value.ref s.heap.objs.size))) { s with heap := s.heap.push { cls := Value.type "tuple", data := Data.seq #[] }, toks := s.toks }) :=
  .of_wp fun _ _ _ _ st both => by
    obtain ⟨_, _, _, _, _⟩ := st
    obtain ⟨at1, q⟩ := both
    have ix := AutoSeq1.idx_int
    wp_walk using wpAny_loadPart' at1
    repeat (first
      | (refine wpAny_ite_false (off_of fits) ?_; wp_walk using wpAny_loadPart' at1)
      | (refine wpAny_ite_false (off_of other) ?_; wp_walk using wpAny_loadPart' at1)
      | (refine wpAny_ite_true (decide_eq_true less) ?_; wp_walk using wpAny_loadPart' at1))
    exact ⟨_, rfl, q⟩
def rRepA (K : PySem.W.Frag) : R2 := fun x y H Q => ∃ l k xs, x = .ref l ∧ y = .int k ∧ SqT K H l xs ∧ xs ≠ [] ∧ -1000 ≤ k ∧ k ≤ 1000 ∧ xs.length ≤ 1000 ∧
  (k = 1 → Q (.ref l) H) ∧ (k ≠ 1 → ∀ p, H p = none → Q (.ref p) (upd H p (.tup (List.replicate k.toNat xs).flatten)))
section
variable {X : Cx}
theorem op_repA : OpR X (binaryOp .Mult) (rRepA X.K) := fun pins s σ H x y v u Q I rx ry h => by
  obtain ⟨tp, k, xs, rfl, rfl, isT, full, lo, hi, short, qa, qb⟩ := h
  by_cases two : 2 ≤ k
  · exact op_repT pins s σ H _ _ v u Q I rx ry ⟨tp, k, xs, rfl, rfl, isT, full, two, hi, short, qb (by omega)⟩
  cases rx
  obtain ⟨tk, rfl⟩ := ry
  obtain ⟨its, r, ⟨⟨c, dd, dt, sl⟩, ho, hc, n, hd⟩, _⟩ := I.tuple isT
  simp only at hc hd
  subst hc hd
  have filled : its.toArray.isEmpty = false := by
    cases its with
    | nil =>
      cases r
      exact absurd rfl full
    | cons _ _ => rfl
  have fits : (decide (k < -(2 ^ 63)) || decide (k ≥ 2 ^ 63)) = false := Bool.or_eq_false_iff.mpr ⟨decide_eq_false (by omega), decide_eq_false (by omega)⟩
  by_cases one : k = 1
  · subst one
    refine wpAny_binaryOp_repeat_ref (T := "tuple") (U := "int") (by decide) ⟨_, ho, rfl⟩ (fun z => typeIs_int z _ tk) noFill_tuple_mul F.fills_int_mul F.slot_int_rmul repeat_tuple F.slot_int_index.lookup
      (call_meets F.slot_int_rmul (typeIs_int s _ tk) F.entry_int_rmul (F.args_int_rmul_2 _ _) (int_rmul_tuple _ tk tp its.toArray n dd sl)
        ⟨ho, rfl, ⟨_, ho, rfl⟩, call_meets F.slot_tuple_mul ⟨_, ho, rfl⟩ F.entry_tuple_mul (F.args_tuple_mul_2 _ _) (mul_same tp its.toArray n dd sl 1 tk fits (by rw [filled]; rfl)) ⟨ho, ?_⟩⟩)
    exact ⟨.ref tp, H, I, rfl, qa rfl⟩
  · have other : (its.toArray.isEmpty || k == 1) = false := Bool.or_eq_false_iff.mpr ⟨filled, beq_eq_false_iff_ne.mpr one⟩
    have less : (decide (k ≤ 0) || its.toArray.isEmpty) = true := Bool.or_eq_true_iff.mpr (.inl (decide_eq_true (by omega)))
    refine wpAny_binaryOp_repeat_ref (T := "tuple") (U := "int") (by decide) ⟨_, ho, rfl⟩ (fun z => typeIs_int z k tk) noFill_tuple_mul F.fills_int_mul F.slot_int_rmul repeat_tuple F.slot_int_index.lookup
      (call_meets F.slot_int_rmul (typeIs_int s k tk) F.entry_int_rmul (F.args_int_rmul_2 _ _) (int_rmul_tuple k tk tp its.toArray n dd sl)
        ⟨ho, rfl, ⟨_, ho, rfl⟩, call_meets F.slot_tuple_mul ⟨_, ho, rfl⟩ F.entry_tuple_mul (F.args_tuple_mul_2 _ _) (mul_none tp its.toArray n dd sl k tk fits other less) ⟨ho, ?_⟩⟩)
    have e0 : (List.replicate k.toNat xs).flatten = [] := by
      rw [show k.toNat = 0 by omega]
      rfl
    have q := qb one s.heap.objs.size (I.hok.fresh (Nat.le_refl _))
    rw [e0] at q
    exact ⟨.ref s.heap.objs.size, _, I.laid (t' := s.toks) (o := .tup []) (fun _ _ e => Heap.get?_push_of_some _ e) (Nat.le_refl _) ⟨Nat.zero_le _, [], .nil, IsTup.new _ _⟩, rfl, q⟩
end
/-! ### words for what stands in the heap -/
section
variable {K : PySem.W.Frag} {H H' : Hp}
abbrev nv (t : List Nat) : List V := t.map fun n => V.int ((n : Nat) : Int)
theorem nv_ints (t : List Nat) : nv t = (t.map fun n => ((n : Nat) : Int)).map V.int := by
  rw [List.map_map]
  rfl
theorem nv_len (t : List Nat) : (nv t).length = t.length := List.length_map _
theorem nv_app (t u : List Nat) : nv (t ++ u) = nv t ++ nv u := List.map_append
theorem nv_get {t : List Nat} {i : Nat} {x : V} (h : (nv t)[i]? = some x) : ∃ n, t[i]? = some n ∧ x = .int ((n : Nat) : Int) := by
  rw [List.getElem?_map] at h
  cases e : t[i]? with
  | none =>
    rw [e] at h
    cases h
  | some n =>
    rw [e] at h
    exact ⟨n, rfl, (Option.some.inj h).symm⟩
theorem nv_at {t : List Nat} {i n : Nat} (h : t[i]? = some n) : atI (nv t) (i : Int) = some (.int ((n : Nat) : Int)) := atI_nat (by rw [List.getElem?_map, h] <;> rfl)
theorem sizeK {n : Nat} (h : n ≤ 1000000) : n < sizeLine := Nat.lt_of_le_of_lt h (by decide)
theorem same_updL {p : Addr} {o : HO} (s : Same H H') (hp : H p = none) : Same H (upd H' p o) := fun b u q => by
  rw [upd_ne (ne_of_none q hp)]
  exact s b u q
theorem sqt_updL {a p : Addr} {xs ys : List V} {o : HO} (hp : H p = some (.lst ys)) (h : SqT K H a xs) : SqT K (upd H p o) a xs := by
  have ne : ∀ u, H a = some u → u ≠ .lst ys → a ≠ p := fun u e n z => by
    rw [z, hp] at e
    exact n (Option.some.inj e).symm
  rcases h with (h | ⟨o, h⟩) | h
  · exact .inl (.inl (by rw [upd_ne (ne _ h (by intro z; cases z))]; exact h))
  · exact .inl (.inr ⟨o, by rw [upd_ne (ne _ h (by intro z; cases z))]; exact h⟩)
  · exact .inr h
theorem sql_updL {a p : Addr} {xs : List V} {o : HO} (hne : a ≠ p) (h : SqL K H a xs) : SqL K (upd H p o) a xs := by
  rcases h with (h | ⟨o, h⟩) | h
  · exact .inl (.inl (by rw [upd_ne hne]; exact h))
  · exact .inl (.inr ⟨o, by rw [upd_ne hne]; exact h⟩)
  · exact .inr h
theorem sum_cast (t : List Nat) : (t.map fun n => ((n : Nat) : Int)).sum = ((t.sum : Nat) : Int) := by
  induction t with
  | nil => rfl
  | cons x r ih => rw [List.map_cons, List.sum_cons, List.sum_cons, ih]; omega
theorem same_sqt {a : Addr} {xs : List V} (e : Same H H') (h : SqT K H a xs) : SqT K H' a xs := by
  rcases h with (h | ⟨o, h⟩) | h
  · exact .inl (.inl (e _ _ h))
  · exact .inl (.inr ⟨o, e _ _ h⟩)
  · exact .inr h
theorem same_new {p : Addr} (h : H p = none) (o : HO) : Same H (upd H p o) := fun b u q => by rw [upd_ne (ne_of_none q h)]; exact q
def Tups (K : PySem.W.Frag) (H : Hp) : List Addr → List (List Nat) → Prop := Paired fun a t => SqT K H a (nv t)
theorem Tups.same (e : Same H H') : ∀ {rs : List Addr} {L : List (List Nat)}, Tups K H rs L → Tups K H' rs L
  | _, _, .nil => .nil
  | _, _, .cons h t => .cons (same_sqt e h) (Tups.same e t)
theorem Tups.updL {p : Addr} {ys : List V} {o : HO} (hp : H p = some (.lst ys)) : ∀ {rs : List Addr} {L : List (List Nat)}, Tups K H rs L → Tups K (upd H p o) rs L
  | _, _, .nil => .nil
  | _, _, .cons h t => .cons (sqt_updL hp h) (Tups.updL hp t)
theorem Tups.length : ∀ {rs : List Addr} {L : List (List Nat)}, Tups K H rs L → rs.length = L.length
  | _, _, .nil => rfl
  | _, _, .cons _ t => congrArg (· + 1) (Tups.length t)
theorem Tups.app : ∀ {rs qs : List Addr} {L M : List (List Nat)}, Tups K H rs L → Tups K H qs M → Tups K H (rs ++ qs) (L ++ M)
  | _, _, _, _, .nil, s => s
  | _, _, _, _, .cons r t, s => .cons r (Tups.app t s)
theorem Tups.rev {rs : List Addr} {L : List (List Nat)} (h : Tups K H rs L) : Tups K H rs.reverse L.reverse := by
  induction h with
  | nil => exact .nil
  | cons r t ih =>
    rw [List.reverse_cons, List.reverse_cons]
    exact ih.app (.cons r .nil)
theorem Tups.get : ∀ {rs : List Addr} {L : List (List Nat)} {i : Nat} {a : Addr}, Tups K H rs L → rs[i]? = some a → ∃ t, L[i]? = some t ∧ SqT K H a (nv t)
  | _, _, _, _, .nil, e => by simp at e
  | _, _, 0, _, .cons r _, e => by simp at e; subst e; exact ⟨_, rfl, r⟩
  | _, _, i + 1, a, .cons _ t, e => by
    obtain ⟨u, h1, h2⟩ := Tups.get (i := i) (a := a) t (by simpa using e)
    exact ⟨u, by simpa using h1, h2⟩
theorem sqt_ty {a : Addr} {xs : List V} (h : SqT K H a xs) : TyX K H (.ref a) (.type "tuple") := by
  rcases h with (h | ⟨o, h⟩) | ⟨o, its, n, e, c, _⟩
  · exact .base (.tup h)
  · exact .fTuple h
  · exact .kTuple e c
/-- as data -/
abbrev encT (t : List Nat) : PyData := .tuple (t.map fun n => PyData.int ((n : Nat) : Int))
theorem dp_nats : ∀ (t : List Nat), DpAll K H (nv t) (t.map fun n => PyData.int ((n : Nat) : Int))
  | [] => .nil
  | n :: t => .cons (.int _) (dp_nats t)
theorem dp_tup {a : Addr} {t : List Nat} (h : SqT K H a (nv t)) : Dp K H (.ref a) (encT t) := .tup h (dp_nats t)
theorem dp_tups : ∀ {rs : List Addr} {L : List (List Nat)}, Tups K H rs L → DpAll K H (rs.map V.ref) (L.map encT)
  | _, _, .nil => .nil
  | _, _, .cons h t => .cons (dp_tup h) (dp_tups t)
theorem can_nats : ∀ t : List Nat, PyData.canLayAll0 (t.map fun n => PyData.int ((n : Nat) : Int)) = true ∧ PyData.depthAll (t.map fun n => PyData.int ((n : Nat) : Int)) = 0
  | [] => by simp [PyData.canLayAll0, PyData.depthAll]
  | n :: t => by
    have h := can_nats t
    simp only [List.map_cons, PyData.canLayAll0, PyData.depthAll, h.1, h.2, PyData.canLay0, PyData.depth]
    simp
theorem can_tups : ∀ L : List (List Nat), PyData.canLayAll0 (L.map encT) = true ∧ PyData.depthAll (L.map encT) ≤ 1
  | [] => by simp [PyData.canLayAll0, PyData.depthAll]
  | t :: L => by
    have h := can_tups L
    have g := can_nats t
    simp only [List.map_cons, PyData.canLayAll0, PyData.depthAll, h.1, PyData.canLay0, PyData.depth, g.1, g.2]
    exact ⟨by simp, by omega⟩
theorem shaped_tups (L : List (List Nat)) : SeqAt.shaped (.list (L.map encT)) = true := by
  have h := can_tups L
  unfold SeqAt.shaped
  simp only [PyData.canLay0, PyData.depth, h.1, Bool.true_and]
  exact decide_eq_true (by omega)
theorem eqv_tups (L : List (List Nat)) : PyData.eqv (.list (L.map encT)) (.list (L.map encT)) = true := SeqAt.eqv_refl _ (by
  simp only [PyData.canLay0]
  exact (can_tups L).1)
theorem shaped_tup (t : List Nat) : SeqAt.shaped (encT t) = true := by
  have g := can_nats t
  unfold SeqAt.shaped
  simp only [encT, PyData.canLay0, PyData.depth, g.1, g.2, Bool.true_and]
  exact decide_eq_true (by omega)
theorem eqv_tup (t : List Nat) : PyData.eqv (encT t) (encT t) = true := SeqAt.eqv_refl _ (by
  simp only [encT, PyData.canLay0]
  exact (can_nats t).1)
end
end L5

/-! the products of a degree: a mirror in plain Lean, and what is checked of it once for all -/
namespace L5
def foundN (d : Nat) : Nat → List (List Nat)
  | 0 => [[]]
  | n + 1 => (foundN d n).flatMap fun t => (List.range (d + 1 - t.sum)).map fun e => t ++ [e]
def asc (l d : Nat) : List (List Nat) := (foundN d (l - 1)).map fun t => t ++ [d - t.sum]
def listed (l d : Nat) : List (List Nat) := (asc l d).reverse
def lastPos (t : List Nat) : Nat → Option Nat
  | 0 => none
  | n + 1 => if t.getD n 0 = 0 then lastPos t n else some n
def nextAt (t : List Nat) (k : Nat) : List Nat := t.take k ++ [t.getD k 0 - 1, t.getD (t.length - 1) 0 + 1] ++ List.replicate (t.length - 1 - k - 1) 0
def next (t : List Nat) : Option (List Nat) := (lastPos t (t.length - 1)).map (nextAt t)
def chainB : List (List Nat) → Bool
  | [] => true
  | t :: r => (match r with
    | [] => (lastPos t (t.length - 1)).isNone
    | u :: _ => match lastPos t (t.length - 1) with
      | none => false
      | some k => nextAt t k == u) && chainB r
def sums : Nat → List Nat → List Nat
  | _, [] => []
  | a, x :: r => (a + x) :: sums (a + x) r
def rowN (d : Nat) : Nat → List Nat
  | 0 => 1 :: List.replicate d 0
  | n + 1 => sums 0 (rowN d n)
def choicesN (l d : Nat) : Nat := (rowN d l).getD d 0
def unitN (l k : Nat) : List Nat := (List.range l).map fun p => if p = k then 1 else 0
def lexB : List Nat → List Nat → Bool
  | [], _ => true
  | _ :: _, [] => false
  | x :: xs, y :: ys => if x < y then true else if x = y then lexB xs ys else false
def ascB : List (List Nat) → Bool
  | [] => true
  | t :: r => (match r with
    | [] => true
    | u :: _ => lexB t u) && ascB r
def prodB (l d : Nat) (t : List Nat) : Bool := t.length == l && t.sum == d && t.all (fun e => Nat.ble e 20)
def okB (l d : Nat) : Bool :=
  let L := listed l d
  let M := asc l (d + 1)
  (match L with | [] => false | t :: _ => t == d :: List.replicate (l - 1) 0) && chainB L && ascB (asc l d) && ascB M && L.length == choicesN l d && L.all (prodB l d) && M.all (prodB l (d + 1)) && Nat.ble M.length 400 &&
    (List.range l).all fun k => (L.map fun t => List.zipWith (· + ·) t (unitN l k)) == M.reverse.filter fun t => Nat.blt 0 (t.getD k 0)
def top (l : Nat) : Nat := if l < 4 then 13 else if l ≤ 6 then 5 else 4
def szB (l d : Nat) : Bool := (List.range l).all fun n => Nat.ble (foundN d n).length 400
theorem all_ok : (List.range 8).all (fun i => (List.range (top (i + 1))).all fun d => okB (i + 1) d && (szB (i + 1) d && szB (i + 1) (d + 1))) = true := by decide +kernel
theorem ok_of {l d : Nat} (h1 : 1 ≤ l) (h8 : l ≤ 8) (hd : d < top l) : okB l d = true ∧ szB l d = true ∧ szB l (d + 1) = true := by
  have h := List.all_eq_true.mp all_ok (l - 1) (List.mem_range.mpr (by omega))
  rw [show l - 1 + 1 = l by omega] at h
  have g := List.all_eq_true.mp h d (List.mem_range.mpr hd)
  rw [Bool.and_eq_true, Bool.and_eq_true] at g
  exact ⟨g.1, g.2.1, g.2.2⟩
theorem sz_of {l d n : Nat} (h : szB l d = true) (hn : n < l) : (foundN d n).length ≤ 400 := Nat.le_of_ble_eq_true (List.all_eq_true.mp h n (List.mem_range.mpr hn))
structure Ok (l d : Nat) : Prop where
  head : ∃ r, listed l d = (d :: List.replicate (l - 1) 0) :: r
  chain : chainB (listed l d) = true
  asc1 : ascB (asc l d) = true
  asc2 : ascB (asc l (d + 1)) = true
  len : (listed l d).length = choicesN l d
  prod1 : ∀ t ∈ listed l d, prodB l d t = true
  prod2 : ∀ t ∈ asc l (d + 1), prodB l (d + 1) t = true
  size : (asc l (d + 1)).length ≤ 400
  more : ∀ k, k < l → ((listed l d).map fun t => List.zipWith (· + ·) t (unitN l k)) = (listed l (d + 1)).filter fun t => Nat.blt 0 (t.getD k 0)
theorem okS {l d : Nat} (h : okB l d = true) : Ok l d := by
  unfold okB at h
  simp only [Bool.and_eq_true] at h
  obtain ⟨⟨⟨⟨⟨⟨⟨⟨h1, h2⟩, h3⟩, h4⟩, h5⟩, h6⟩, h7⟩, h8⟩, h9⟩ := h
  refine ⟨?_, h2, h3, h4, beq_iff_eq.mp h5, fun t ht => List.all_eq_true.mp h6 t ht, fun t ht => List.all_eq_true.mp h7 t ht, Nat.le_of_ble_eq_true h8, fun k hk => beq_iff_eq.mp (List.all_eq_true.mp h9 k (List.mem_range.mpr hk))⟩
  cases e : listed l d with
  | nil =>
    rw [e] at h1
    cases h1
  | cons t r =>
    rw [e] at h1
    rw [beq_iff_eq.mp h1]
    exact ⟨r, rfl⟩
theorem prod_of {l d : Nat} {t : List Nat} (h : prodB l d t = true) : t.length = l ∧ t.sum = d ∧ ∀ e ∈ t, e ≤ 20 := by
  unfold prodB at h
  rw [Bool.and_eq_true, Bool.and_eq_true] at h
  exact ⟨beq_iff_eq.mp h.1.1, beq_iff_eq.mp h.1.2, fun e he => Nat.le_of_ble_eq_true (List.all_eq_true.mp h.2 e he)⟩
theorem chain_last : ∀ {L : List (List Nat)} {i : Nat} {t : List Nat}, chainB L = true → L[i]? = some t → L[i + 1]? = none → lastPos t (t.length - 1) = none
  | [], _, _, _, h, _ => by simp at h
  | [u], 0, t, h, e, _ => by
    have e' : u = t := Option.some.inj e
    subst e'
    have h' : ((lastPos u (u.length - 1)).isNone && true) = true := h
    rw [Bool.and_true] at h'
    exact Option.isNone_iff_eq_none.mp h'
  | [_], i + 1, _, _, e, _ => by simp at e
  | u :: v :: r, 0, t, h, e, n => by simp at n
  | u :: v :: r, i + 1, t, h, e, n => by
    have h' : (_ && chainB (v :: r)) = true := h
    rw [Bool.and_eq_true] at h'
    exact chain_last h'.2 e n
theorem chain_next : ∀ {L : List (List Nat)} {i : Nat} {t u : List Nat}, chainB L = true → L[i]? = some t → L[i + 1]? = some u → ∃ k, lastPos t (t.length - 1) = some k ∧ nextAt t k = u
  | [], _, _, _, _, h, _ => by simp at h
  | [_], _, _, _, _, _, n => by simp at n
  | u :: v :: r, 0, t, w, h, e, n => by
    have e' : u = t := Option.some.inj e
    have n' : v = w := Option.some.inj n
    subst e' n'
    have h' : ((match lastPos u (u.length - 1) with | none => false | some k => nextAt u k == v) && chainB (v :: r)) = true := h
    rw [Bool.and_eq_true] at h'
    cases q : lastPos u (u.length - 1) with
    | none =>
      rw [q] at h'
      cases h'.1
    | some k =>
      rw [q] at h'
      exact ⟨k, rfl, beq_iff_eq.mp h'.1⟩
  | u :: v :: r, i + 1, t, w, h, e, n => by
    have h' : (_ && chainB (v :: r)) = true := h
    rw [Bool.and_eq_true] at h'
    exact chain_next (L := v :: r) h'.2 e n
theorem found_len (d : Nat) : ∀ n, ∀ t ∈ foundN d n, t.length = n
  | 0, t, h => by
    rw [List.mem_singleton.mp h]
    rfl
  | n + 1, t, h => by
    obtain ⟨u, hu, h2⟩ := List.mem_flatMap.mp h
    obtain ⟨e, _, rfl⟩ := List.mem_map.mp h2
    rw [List.length_append, found_len d n u hu]
    rfl
theorem found_sum (d : Nat) : ∀ n, ∀ t ∈ foundN d n, t.sum ≤ d
  | 0, t, h => by
    rw [List.mem_singleton.mp h]
    exact Nat.zero_le _
  | n + 1, t, h => by
    obtain ⟨u, hu, h2⟩ := List.mem_flatMap.mp h
    obtain ⟨e, he, rfl⟩ := List.mem_map.mp h2
    have h1 := found_sum d n u hu
    have h3 := List.mem_range.mp he
    rw [List.sum_append, List.sum_singleton]
    omega
theorem top_le (l : Nat) : top l ≤ 13 := by
  unfold top
  split
  · omega
  · split <;> omega
end L5

/-! places in the order of words: a mirror in plain Lean -/
namespace L6
def C : Nat → Nat → Nat
  | _, 0 => 1
  | 0, _ + 1 => 0
  | n + 1, k + 1 => C n k + C n (k + 1)
theorem C_zero (n : Nat) : C n 0 = 1 := by cases n <;> rfl
theorem C_succ (n k : Nat) : C (n + 1) (k + 1) = C n k + C n (k + 1) := rfl
theorem C_over : ∀ {n k : Nat}, n < k → C n k = 0
  | 0, _ + 1, _ => rfl
  | n + 1, k + 1, h => by rw [C_succ, C_over (show n < k by omega), C_over (show n < k + 1 by omega)]
theorem C_self : ∀ n : Nat, C n n = 1
  | 0 => rfl
  | n + 1 => by rw [C_succ, C_self n, C_over (Nat.lt_succ_self n)]
theorem C_next : ∀ n t : Nat, t ≤ n → (t + 1) * C n (t + 1) = (n - t) * C n t
  | 0, 0, _ => rfl
  | n + 1, 0, _ => by
    have h := C_next n 0 (Nat.zero_le _)
    rw [C_zero] at h
    rw [C_succ, C_zero, C_zero]
    omega
  | n + 1, s + 1, h => by
    have h1 := C_next n s (by omega)
    rw [C_succ, C_succ, Nat.mul_add, show n + 1 - (s + 1) = n - s by omega, Nat.mul_add, ← h1]
    by_cases c : s + 1 ≤ n
    · have h2 := C_next n (s + 1) c
      rw [h2, ← Nat.add_mul, ← Nat.add_mul]
      congr 1
      omega
    · have e : n = s := by omega
      subst e
      rw [C_over (show n < n + 1 by omega), C_over (show n < n + 1 + 1 by omega)]
      simp
theorem C_symm : ∀ n k : Nat, k ≤ n → C n (n - k) = C n k
  | n, 0, _ => by rw [C_zero, Nat.sub_zero, C_self]
  | n + 1, k + 1, h => by
    by_cases c : k + 1 ≤ n
    · have h1 := C_symm n (k + 1) c
      have h2 := C_symm n k (by omega)
      obtain ⟨j, hj⟩ : ∃ j, n - k = j + 1 := ⟨n - k - 1, by omega⟩
      rw [show n + 1 - (k + 1) = j + 1 by omega, C_succ, C_succ, ← h1, ← h2, hj, show n - (k + 1) = j by omega]
      omega
    · have e : k = n := by omega
      subst e
      rw [Nat.sub_self, C_zero, C_self]
theorem C_pos : ∀ {n k : Nat}, k ≤ n → 0 < C n k
  | n, 0, _ => by rw [C_zero]; exact Nat.one_pos
  | n + 1, k + 1, h => by
    have := C_pos (show k ≤ n by omega)
    rw [C_succ]
    omega
/-- so many products in k + 1 letters have a degree below m -/
def W : Nat → Nat → Nat
  | _, 0 => 0
  | k, m + 1 => C (m + k) k
theorem W_zero (k : Nat) : W k 0 = 0 := by cases k <;> rfl
theorem W_at (k m : Nat) : W k (m + 1) = C (m + k) k := by cases k <;> rfl
theorem W_one (m : Nat) : W 0 (m + 1) = 1 := by rw [W_at, C_zero]
theorem W_step (k m : Nat) : W (k + 1) (m + 1) = W (k + 1) m + W k (m + 1) := by
  rw [W_at, W_at]
  cases m with
  | zero =>
    simp only [W_zero, Nat.zero_add, C_self]
  | succ m =>
    rw [W_at, show m + 1 + (k + 1) = (m + 1 + k) + 1 by omega, C_succ, show m + (k + 1) = m + 1 + k by omega]
    omega
theorem W_mono (k : Nat) : ∀ {m n : Nat}, m ≤ n → W k m ≤ W k n := by
  intro m n h
  induction n with
  | zero =>
    rw [show m = 0 by omega]
    exact Nat.le_refl _
  | succ n ih =>
    by_cases c : m ≤ n
    · refine Nat.le_trans (ih c) ?_
      cases k with
      | zero =>
        rw [W_one]
        cases n with
        | zero => rw [W_zero]; exact Nat.zero_le _
        | succ n => rw [W_one]; exact Nat.le_refl _
      | succ k => rw [W_step]; omega
    · rw [show m = n + 1 by omega]
      exact Nat.le_refl _
def place : List Nat → Nat
  | [] => 0
  | _ :: r => W r.length r.sum + place r
theorem place_lt : ∀ (t : List Nat) (k : Nat), t.length = k + 1 → place t < W k (t.sum + 1)
  | [], _, h => by cases h
  | [e], k, h => by
    have : k = 0 := by simp at h; omega
    subst this
    rw [W_one]
    show W 0 0 + 0 < 1
    rw [W_zero]
    exact Nat.one_pos
  | e :: f :: r, k, h => by
    obtain ⟨j, rfl⟩ : ∃ j, k = j + 1 := ⟨k - 1, by simp at h; omega⟩
    have hl : (f :: r).length = j + 1 := by simpa using h
    have ih := place_lt (f :: r) j hl
    show W (f :: r).length (f :: r).sum + place (f :: r) < _
    rw [hl]
    have h1 : W (j + 1) ((f :: r).sum + 1) ≤ W (j + 1) ((e :: f :: r).sum + 1) := W_mono _ (by simp)
    rw [W_step] at h1
    omega
theorem place_ex : ∀ (k d q : Nat), q < W k (d + 1) → ∃ t : List Nat, t.length = k + 1 ∧ t.sum = d ∧ place t = q
  | 0, d, q, h => ⟨[d], rfl, by simp, by
      rw [W_one] at h
      show W 0 0 + 0 = q
      rw [W_zero]
      omega⟩
  | k + 1, d, q, h => by
    have key : ∀ d, q < W (k + 1) (d + 1) → ∃ j, j ≤ d ∧ W (k + 1) j ≤ q ∧ q < W (k + 1) (j + 1) := by
      intro d
      induction d with
      | zero => exact fun h => ⟨0, Nat.le_refl _, by rw [W_zero]; exact Nat.zero_le _, h⟩
      | succ d ih =>
        intro h
        by_cases c : q < W (k + 1) (d + 1)
        · obtain ⟨j, h1, h2⟩ := ih c
          exact ⟨j, by omega, h2⟩
        · exact ⟨d + 1, Nat.le_refl _, by omega, h⟩
    obtain ⟨j, hj, h1, h2⟩ := key d h
    rw [W_step] at h2
    obtain ⟨t, ht, hs, hp⟩ := place_ex k j (q - W (k + 1) j) (by omega)
    refine ⟨(d - j) :: t, by simp [ht], by simp [hs]; omega, ?_⟩
    show W t.length t.sum + place t = q
    rw [ht, hs, hp]
    omega
/-- u stands ahead of t: it is greater -/
def gtB : List Nat → List Nat → Bool
  | x :: xs, y :: ys => if x = y then gtB xs ys else decide (y < x)
  | _, _ => false
theorem place_gt : ∀ (t u : List Nat), t.length = u.length → t.sum = u.sum → gtB t u = true → place t < place u
  | [], _, _, _, h => by cases h
  | _ :: _, [], h, _, _ => by cases h
  | x :: xs, y :: ys, hl, hs, h => by
    have hl' : xs.length = ys.length := by simpa using hl
    have hs' : x + xs.sum = y + ys.sum := by simpa using hs
    show W xs.length xs.sum + place xs < W ys.length ys.sum + place ys
    unfold gtB at h
    by_cases c : x = y
    · rw [if_pos c] at h
      have := place_gt xs ys hl' (by omega) h
      rw [hl', show xs.sum = ys.sum by omega]
      omega
    · rw [if_neg c] at h
      have hx : y < x := of_decide_eq_true h
      cases xs with
      | nil =>
        have : ys = [] := List.eq_nil_of_length_eq_zero hl'.symm
        subst this
        simp at hs'
        omega
      | cons f r =>
        have h1 := place_lt (f :: r) r.length rfl
        have h2 : W ys.length ((f :: r).sum + 1) ≤ W ys.length ys.sum := W_mono _ (by omega)
        rw [← hl', show (f :: r).length = r.length + 1 from rfl, W_step] at h2
        rw [← hl', show (f :: r).length = r.length + 1 from rfl]
        omega
theorem gt_tri : ∀ (t u : List Nat), t.length = u.length → t = u ∨ gtB t u = true ∨ gtB u t = true
  | [], [], _ => .inl rfl
  | [], _ :: _, h => by cases h
  | _ :: _, [], h => by cases h
  | x :: xs, y :: ys, h => by
    have h' : xs.length = ys.length := by simpa using h
    unfold gtB
    by_cases c : x = y
    · subst c
      rw [if_pos rfl, if_pos rfl]
      rcases gt_tri xs ys h' with e | e
      · exact .inl (by rw [e])
      · exact .inr e
    · rw [if_neg c, if_neg (fun e => c e.symm)]
      by_cases d : y < x
      · exact .inr (.inl (decide_eq_true d))
      · exact .inr (.inr (decide_eq_true (by omega)))
theorem gt_iff {t u : List Nat} (hl : t.length = u.length) (hs : t.sum = u.sum) : gtB t u = decide (place t < place u) := by
  rcases gt_tri t u hl with e | e | e
  · subst e
    have : gtB t t = false := by
      cases h : gtB t t with
      | false => rfl
      | true => exact absurd (place_gt t t rfl rfl h) (Nat.lt_irrefl _)
    rw [this, decide_eq_false (Nat.lt_irrefl _)]
  · rw [e, decide_eq_true (place_gt t u hl hs e)]
  · have h := place_gt u t hl.symm hs.symm e
    rw [decide_eq_false (by omega)]
    cases g : gtB t u with
    | false => rfl
    | true =>
      have := place_gt t u hl hs g
      omega
theorem place_inj {t u : List Nat} (hl : t.length = u.length) (hs : t.sum = u.sum) (h : place t = place u) : t = u := by
  rcases gt_tri t u hl with e | e | e
  · exact e
  · have := place_gt t u hl hs e
    omega
  · have := place_gt u t hl.symm hs.symm e
    omega
/-- the ends -/
theorem sum_rep0 (n : Nat) : (List.replicate n 0).sum = 0 := by
  induction n with
  | zero => rfl
  | succ n ih => rw [List.replicate_succ, List.sum_cons, ih]
theorem place_first (d n : Nat) : place (d :: List.replicate n 0) = 0 := by
  show W _ _ + place _ = 0
  rw [sum_rep0, W_zero, Nat.zero_add]
  induction n with
  | zero => rfl
  | succ n ih =>
    rw [List.replicate_succ]
    show W _ _ + place _ = 0
    rw [sum_rep0, W_zero, ih]
theorem place_last (d : Nat) : ∀ n : Nat, place (List.replicate n 0 ++ [d]) + 1 = W n (d + 1)
  | 0 => by
    rw [W_one]
    show W 0 0 + 0 + 1 = 1
    rw [W_zero]
  | n + 1 => by
    have ih := place_last d n
    rw [List.replicate_succ, List.cons_append]
    show W (List.replicate n 0 ++ [d]).length (List.replicate n 0 ++ [d]).sum + place _ + 1 = _
    have e1 : (List.replicate n 0 ++ [d]).length = n + 1 := by simp
    have e2 : (List.replicate n 0 ++ [d]).sum = d := by rw [List.sum_append, sum_rep0]; simp
    rw [e1, e2, W_step]
    omega
end L6

/-! all products of a small degree: what is checked once for all -/
namespace L6
open L5
def pairsN (d : Nat) : Nat → List (List Nat × Nat)
  | 0 => [([], d)]
  | n + 1 => (pairsN d n).flatMap fun q => (List.range (q.2 + 1)).map fun e => (q.1 ++ [q.2 - e], e)
def rows (l d : Nat) : List (List Nat) := (pairsN d (l - 1)).map fun q => q.1 ++ [q.2]
def okB6 (l d : Nat) : Bool :=
  let L := rows l d
  (match L with | [] => false | t :: _ => t == d :: List.replicate (l - 1) 0) && chainB L && L.all (prodB l d) && (L.map place == List.range L.length) && L.length == W (l - 1) (d + 1) &&
    (List.range l).all fun n => Nat.ble (pairsN d n).length 400 && (pairsN d n).all fun q => Nat.ble q.2 d
theorem all_ok6 : (List.range 4).all (fun i => (List.range 7).all fun d => okB6 (i + 1) d) = true := by decide +kernel
structure Ok6 (l d : Nat) : Prop where
  head : ∃ r, rows l d = (d :: List.replicate (l - 1) 0) :: r
  chain : chainB (rows l d) = true
  prod : ∀ t ∈ rows l d, prodB l d t = true
  plc : (rows l d).map place = List.range (rows l d).length
  len : (rows l d).length = W (l - 1) (d + 1)
  size : ∀ n, n < l → (pairsN d n).length ≤ 400
  rest : ∀ n, n < l → ∀ q ∈ pairsN d n, q.2 ≤ d
theorem ok6 {l d : Nat} (h1 : 1 ≤ l) (h4 : l ≤ 4) (hd : d < 7) : Ok6 l d := by
  have h := List.all_eq_true.mp all_ok6 (l - 1) (List.mem_range.mpr (by omega))
  rw [show l - 1 + 1 = l by omega] at h
  have g := List.all_eq_true.mp h d (List.mem_range.mpr hd)
  unfold okB6 at g
  simp only [Bool.and_eq_true] at g
  obtain ⟨⟨⟨⟨⟨g1, g2⟩, g3⟩, g4⟩, g5⟩, g6⟩ := g
  have k6 : ∀ n, n < l → Nat.ble (pairsN d n).length 400 = true ∧ ∀ q ∈ pairsN d n, Nat.ble q.2 d = true := fun n hn => by
    have := List.all_eq_true.mp g6 n (List.mem_range.mpr hn)
    rw [Bool.and_eq_true] at this
    exact ⟨this.1, fun q hq => List.all_eq_true.mp this.2 q hq⟩
  refine ⟨?_, g2, fun t ht => List.all_eq_true.mp g3 t ht, beq_iff_eq.mp g4, beq_iff_eq.mp g5, fun n hn => Nat.le_of_ble_eq_true (k6 n hn).1, fun n hn q hq => Nat.le_of_ble_eq_true ((k6 n hn).2 q hq)⟩
  cases e : rows l d with
  | nil =>
    rw [e] at g1
    cases g1
  | cons t r =>
    rw [e] at g1
    rw [beq_iff_eq.mp g1]
    exact ⟨r, rfl⟩
theorem Ok6.at {l d i : Nat} {t : List Nat} (O : Ok6 l d) (h : (rows l d)[i]? = some t) : place t = i := by
  have h1 : ((rows l d).map place)[i]? = some (place t) := by rw [List.getElem?_map, h] <;> rfl
  rw [O.plc] at h1
  obtain ⟨hi, h2⟩ := List.getElem?_eq_some_iff.mp h1
  rw [List.getElem_range] at h2
  exact h2.symm
theorem W_le : ∀ l, l < 4 → ∀ d, d < 7 → W l (d + 1) ≤ 84 := by decide +kernel
end L6

namespace L6
open PySem PySem.W
theorem fp_up (n : Nat) : ∀ k : Nat, Builtin.Math.fallingProduct ((n : Int) + 1) (k + 1) = ((n : Int) + 1) * Builtin.Math.fallingProduct (n : Int) k
  | 0 => by rw [mc_fp_one, mc_fp_zero, Int.mul_one]
  | k + 1 => by
    rw [mc_fp_succ, fp_up n k, mc_fp_succ, Int.mul_assoc]
    congr 1
    congr 1
    omega
theorem fp_C (n : Nat) : ∀ k : Nat, k ≤ n → Builtin.Math.fallingProduct (n : Int) k = ((C n k : Nat) : Int) * Builtin.Math.fallingProduct (k : Int) k
  | 0, _ => by rw [mc_fp_zero, mc_fp_zero, C_zero]; rfl
  | k + 1, h => by
    have e := fp_up k k
    have e2 : ((k + 1 : Nat) : Int) = (k : Int) + 1 := by omega
    rw [mc_fp_succ, fp_C n k (by omega), e2, e]
    have h2 := C_next n k (by omega)
    have h3 : ((k : Int) + 1) * ((C n (k + 1) : Nat) : Int) = ((n : Int) - (k : Int)) * ((C n k : Nat) : Int) := by
      have h4 : (((k + 1) * C n (k + 1) : Nat) : Int) = (((n - k) * C n k : Nat) : Int) := by rw [h2]
      rw [Int.natCast_mul, Int.natCast_mul, e2, show ((n - k : Nat) : Int) = (n : Int) - (k : Int) by omega] at h4
      exact h4
    rw [← Int.mul_assoc, Int.mul_comm ((C n (k + 1) : Nat) : Int), h3, Int.mul_assoc, Int.mul_comm (Builtin.Math.fallingProduct (k : Int) k), ← Int.mul_assoc, Int.mul_comm ((C n k : Nat) : Int)]
theorem comb_C (n k : Nat) : mcComb (n : Int) (k : Int) = ((C n k : Nat) : Int) := by
  by_cases h : k ≤ n
  · have key : ∀ m : Nat, m ≤ n → C n m = C n k → Builtin.Math.fallingProduct (n : Int) m / Builtin.Math.fallingProduct (m : Int) m = ((C n k : Nat) : Int) := fun m hm e => by
      have hp := mc_fp_pos (n := (m : Int)) m (Int.le_refl _)
      rw [fp_C n m hm, e]
      exact Int.mul_ediv_cancel _ (by omega)
    by_cases c : k ≤ n - k
    · rw [mcComb_at (m := (k : Int)) (by omega) (by omega) (by omega)]
      exact key k h rfl
    · rw [mcComb_at (m := ((n - k : Nat) : Int)) (by omega) (by omega) (by omega)]
      exact key (n - k) (by omega) (C_symm n k h)
  · rw [mcComb_above (by omega), C_over (by omega)]
    rfl
end L6

/-! enumerate of a tuple -/
namespace PySem
open Sem (wp)
open AutoSeq1 (wpAny_loadPart')
theorem meets_enumerate_newT (l : Addr) (items : Array Value) :
    Meets (Builtin.«enumerate.__new__» ⟨[.type "enumerate", .ref l], []⟩) (fun _ R s => s.heap.IsTuple l items ∧
      R (.ok (.ret (.ref (s.heap.push { cls := .type "tuple_iterator", data := .fields #[.ref l, .int 0 0] }).objs.size)))
        { s with heap := (s.heap.push { cls := .type "tuple_iterator", data := .fields #[.ref l, .int 0 0] }).push { cls := .type "enumerate", data := .fields #[.none, .bool false, .ref s.heap.objs.size, rawInt 0, .none, .none] } }) :=
  .of_wp fun prog w A R s h => by
    obtain ⟨hp, g, d, tk, os⟩ := s; obtain ⟨hl, h⟩ := h
    have hsub := sub_enumerate
    have q1 : ∀ {A' : Around} {E : Value → Shared → Prop} {Q : Value → Shared → Prop}, Q (.ref hp.objs.size) ⟨(hp.push { cls := .type "tuple_iterator", data := .fields #[.ref l, .int 0 0] }), g, d, tk, os⟩ → wpAny (model prog w) A' (pyIter (.ref l)) Q E ⟨hp, g, d, tk, os⟩ :=
      fun q => wpAny_pyIter_tuple hl q
    wp_walk using q1
    refine wpAny_stack_any fun st => wpAny_pure ?_
    split
    · rename_i c _ _ _ _ _
      cases (c == Value.type "enumerate")
      · wp_walk using q1
        exact ⟨_, rfl, h⟩
      · wp_walk using q1
        exact ⟨_, rfl, h⟩
    · wp_walk using q1
      exact ⟨_, rfl, h⟩
section
variable {prog : Program} {w : World} {A : Around} {E : Value → Shared → Prop} {s : Shared}
theorem call_enumerate_tuple {l : Addr} {items : Array Value} {Q : Value → Shared → Prop} (hL : s.heap.IsTuple l items)
    (h : ∀ h', IsEnum h' (s.heap.objs.size + 1) s.heap.objs.size 0 .none → h'.IsTupleIter s.heap.objs.size l 0 → h'.objs.size = s.heap.objs.size + 2 →
      (∀ b o, s.heap.get? b = some o → h'.get? b = some o) → Q (.ref (s.heap.objs.size + 1)) { s with heap := h' }) :
    wpAny (model prog w) A (call (.type "enumerate") [.ref l]) Q E s := by
  refine callType_new F.called_enumerate (by decide) (F.typeCall_enumerate_1 _) (F.newCall_enumerate_1 _) (fun obj => F.args_object_init_2 obj _) F.entry_enumerate_new
    (meets_enumerate_newT l items) ⟨hL, ?_⟩
  have hz : (s.heap.push { cls := .type "tuple_iterator", data := .fields #[.ref l, .int 0 0] }).objs.size = s.heap.objs.size + 1 := Heap.size_push ..
  show _ ∧ _
  rw [hz]
  have he : IsEnum ((s.heap.push { cls := .type "tuple_iterator", data := .fields #[.ref l, .int 0 0] }).push
      { cls := .type "enumerate", data := .fields #[.none, .bool false, .ref s.heap.objs.size, rawInt 0, .none, .none] }) (s.heap.objs.size + 1) s.heap.objs.size 0 .none := by
    have := Heap.get?_push_size (s.heap.push { cls := .type "tuple_iterator", data := .fields #[.ref l, .int 0 0] })
      (o := { cls := .type "enumerate", data := .fields #[.none, .bool false, .ref s.heap.objs.size, rawInt 0, .none, .none] }) rfl
    rw [hz] at this; exact this
  refine ⟨⟨_, he, rfl⟩, h _ he ⟨_, Heap.get?_push_of_some _ (Heap.get?_push_size _ rfl), rfl, rfl⟩ (by rw [Heap.size_push, hz]) fun b o x => Heap.get?_push_of_some _ (Heap.get?_push_of_some _ x)⟩
end
end PySem
namespace L2
open PySem PySem.Spec PyProof.Rows
/-- the tuple at a, each item in a new pair -/
def IteT (K : PySem.W.Frag) (a : Addr) : It :=
  ⟨fun i H => ∃ (xs : List V) (x : V), SqT K H a xs ∧ xs[i]? = some x, fun i H v H' => ∃ T x, v = .ref T ∧ H T = none ∧ H' = upd H T (.tup [.int (i : Nat), x]) ∧ ∀ xs, SqT K H a xs → xs[i]? = some x, fun i H => ∃ xs : List V, SqT K H a xs ∧ xs.length ≤ i⟩
theorem turn_enumT {P : Program} {w : World} {K : PySem.W.Frag} {elts : List Expr} {kk : Nat} {tpos : Pos} (a e it : Addr) :
    Turn P w K (.Tuple elts kk tpos) (IteT K a) [e, it] e (fun i h => (∃ old, IsEnum h e it ((i : Nat) : Int) old) ∧ h.IsTupleIter it a i ∧ e ≠ it ∧ a < it) where
  mem := by simp
  obj := fun i h st b hb => by
    obtain ⟨⟨old, he⟩, ⟨o, ho, hc, hd⟩, _⟩ := st
    have e' : b = e ∨ b = it := by simpa using hb
    rcases e' with z | z
    · rw [z]; exact ⟨_, he, fun v q => nomatch q⟩
    · rw [z]; exact ⟨o, ho, fun v q => by rw [hd] at q; cases q⟩
  keep := fun i h h' st k => let ⟨⟨old, he⟩, hi, hne⟩ := st; ⟨⟨old, k e (by simp) _ he⟩, hi.at fun o q => k it (by simp) o q, hne⟩
  item := by
    intro X hP hw hK hc i pins s σ H E I hf st hg
    subst hP hw hK
    obtain ⟨⟨old, he⟩, hit, hne, hlt⟩ := st
    obtain ⟨xs, x, hq, hx⟩ := hg
    obtain ⟨its, rv, p, hz⟩ := I.tuple hq
    obtain ⟨u, hu, ru⟩ := rv.get hx
    have hel : e < s.heap.objs.size := Heap.lt_size he
    have hil : it < s.heap.objs.size := by obtain ⟨_, q, _⟩ := hit; exact Heap.lt_size q
    have hai : a ≠ it := Nat.ne_of_lt hlt
    have hae : a ≠ e := fun z => by
      obtain ⟨o, ho, hc', _⟩ := p
      rw [z, he] at ho
      rw [← Option.some.inj ho] at hc'
      injection hc' with q
      exact absurd q (by decide)
    have hi : i < its.toArray.size := by
      rcases Nat.lt_or_ge i its.toArray.size with z | z
      · exact z
      · rw [List.getElem?_eq_none (by simpa using z)] at hu
        cases hu
    refine wpAny_pyNext_enum_itemD (Draws.tuple (show X.A.in1.handled = none from I.ok.hd hc) it a hai its.toArray) he ⟨hit, p⟩ hi hne (by simp [hne, Ne.symm hae]) fun x' h' tk hx' ho hst hT hsz hk => ?_
    have ex : x' = u := by
      have : its.toArray[i]? = some u := by simpa using hu
      rw [this] at hx'
      exact (Option.some.inj hx').symm
    subst ex
    refine ⟨_, rfl, wpAny_letOwnedTupleGo_enum (s := { s with heap := h', toks := tk + 1 }) ho fun h'' he' sb => ?_⟩
    have hT2 : h''.get? s.heap.objs.size = some { cls := .type "tuple", data := .seq #[.int i tk, x'] } := (sb.2 _ (Nat.ne_of_gt hel)).trans hT
    have new : ObjOk X.prog X.w (upd H s.heap.objs.size (.tup [.int (i : Nat), x])) h'' s.heap.objs.size (.tup [.int (i : Nat), x]) :=
      ⟨by show 2 ≤ sizeLine; decide, [.int i tk, x'], .cons ⟨_, rfl⟩ (.cons ru .nil), ⟨_, hT2, rfl, _, rfl⟩⟩
    have I1 : Inv X pins σ (upd H s.heap.objs.size (.tup [.int (i : Nat), x])) { s with heap := h'', toks := tk + 1 } :=
      I.turnedNew (ch := [e, it]) (fun b ob hb q => (sb.2 b (fun z => hb (by simp [z]))).trans (hk b ob (fun z => hb (by simp [z])) (fun z => hb (by simp [z])) q)) hf (Nat.le_refl _) new
    refine ⟨.ref s.heap.objs.size, _, I1, rfl, ⟨_, x, rfl, I.hok.fresh (Nat.le_refl _), rfl, fun ys hy => by rw [I.tuple_inj hy hq]; exact hx⟩, ⟨⟨x', ?_⟩, hst.1.at fun o q => (sb.2 it (Ne.symm hne)).trans q, hne, hlt⟩, fun b hb => ?_⟩
    · have e1 : ((i + 1 : Nat) : Int) = (i : Int) + 1 := by omega
      rw [e1]; exact he'
    · have hb' : b < s.heap.objs.size := by
        have e' : b = e ∨ b = it := by simpa using hb
        rcases e' with z | z
        · rw [z]; exact hel
        · rw [z]; exact hil
      rw [upd_ne (Nat.ne_of_lt hb')]
      exact (hf b hb).1
  done := by
    intro X hP hw hK hc i pins s σ H E I hf st hg
    subst hP hw hK
    obtain ⟨⟨old, he⟩, hit, hne, hlt⟩ := st
    obtain ⟨xs, hq, hx⟩ := hg
    obtain ⟨its, rv, p, hz⟩ := I.tuple hq
    obtain ⟨f0, f1, f2, f3, f4, f5⟩ := hf it (by simp)
    have hl := rv.length
    have hd : X.A.handled = none := I.ok.hd hc
    have hx' : its.toArray[i]? = none := by simp; omega
    have hT : s.TypeIs (.ref e) "enumerate" := ⟨_, he, rfl⟩
    unfold pyNext
    refine wpAny_bind (wpAny_attempt (wpAny_callSpecial?_slot (name := Str.ofString "__next__") hT F.slot_enumerate_next
      (wpAny_call_entry F.slot_enumerate_next hT F.entry_enumerate_next ?_ (F.args_enumerate_next_1 _))))
    show wpAny _ _ (field (.ref e) 2 >>= _) _ _ _
    refine wpAny_bind (wpAny_field he rfl (x := .ref it) rfl ?_)
    refine wpAny_bind (wpAny_nextOf_tuple_end hd hit p hx' fun h' x he' hx2 => ?_)
    obtain ⟨o, ho, hc2⟩ := hx2
    refine wpAny_bind (wpAny_isInstance (T := "StopIteration") (b := true) ⟨o, ho, hc2⟩ isSubtype_stop ?_)
    exact wpAny_pure ⟨rfl, I.turned (t' := s.toks) (fun b o hb q => he' b o hb q) f0 f1 f3 f4 f5⟩
  self := fun A i s Q E st h => let ⟨⟨_, he⟩, _⟩ := st; wpAny_pyIter_enum he h
def iEnumT (K : PySem.W.Frag) (ta : TA) : TI := fun σ H R => ta σ H fun vs H1 => ∃ a xs, vs = [.ref a] ∧ SqT K H1 a xs ∧ R (IteT K a) H1
theorem pi_enumT {X : Cx} {e : Expr} {ta : TA} {p pos tpos : Pos} {elts : List Expr} {kk : Nat} (hg : Gl X "enumerate") (hm : X.mg "enumerate" = none) (ha : PA X [e] ta) (hs : starEach [e] X.env = [(false, eval e X.env)] := by rfl) :
    PI X (.Tuple elts kk tpos) (.Call (.Name "enumerate" p) [e] [] pos) (iEnumT X.K ta) := by
  refine ⟨fun pins s σ H R I h => ?_⟩
  refine Call_ (ld_blt I hg hm boot_enumerate (PyProof.Rows.callWith_type1 (thn (ha.run pos pins s σ H _ I h) fun us s1 ⟨vs, H1, I1, r1, q1⟩ => ?_) hs rfl))
  obtain ⟨a, xs, ex, hq, q⟩ := q1
  subst ex
  cases r1 with
  | cons r rr =>
    cases rr
    cases r
    obtain ⟨its, rv, p', hz⟩ := I1.tuple hq
    have hlt : a < s1.heap.objs.size := by obtain ⟨o, ho, _⟩ := id p'; exact Heap.lt_size ho
    refine call_enumerate_tuple p' fun h' he hit hsz hk => wpAny_pyIter_enum he ?_
    have I2 : Inv X pins σ H1 { s1 with heap := h' } := I1.kept (t' := s1.toks) hk
    refine ⟨s1.heap.objs.size + 1, [s1.heap.objs.size + 1, s1.heap.objs.size], _, _, H1, rfl, I2, turn_enumT a (s1.heap.objs.size + 1) s1.heap.objs.size, ⟨⟨.none, he⟩, hit, Nat.succ_ne_self _, hlt⟩, fun b hb => ?_, q⟩
    have e' : b = s1.heap.objs.size + 1 ∨ b = s1.heap.objs.size := by simpa using hb
    have hle : s1.heap.objs.size ≤ b := by
      rcases e' with z | z
      · rw [z]; exact Nat.le_add_right _ _
      · rw [z]; exact Nat.le_refl _
    exact I1.fpOk hle (I1.hok.fresh hle)
end L2

/-! rules -/
namespace L6
open PySem PySem.Spec PyProof.Rows L2 L5 RZ
section
variable {K : PySem.W.Frag} {H H' : Hp}
theorem take_more {α : Type} {l : List α} {i : Nat} {x : α} (h : l[i]? = some x) : l.take (i + 1) = l.take i ++ [x] := by
  rw [List.take_add_one, h]
  rfl
theorem lastPos_some {t : List Nat} : ∀ {n k : Nat}, lastPos t n = some k → k < n ∧ t.getD k 0 ≠ 0
  | 0, _, h => by cases h
  | n + 1, k, h => by
    unfold lastPos at h
    by_cases c : t.getD n 0 = 0
    · rw [if_pos c] at h
      have := lastPos_some h
      exact ⟨by omega, this.2⟩
    · rw [if_neg c] at h
      cases h
      exact ⟨Nat.lt_succ_self _, c⟩
theorem getD_at {t : List Nat} {i : Nat} (h : i < t.length) : t[i]? = some (t.getD i 0) := by
  rw [List.getD_eq_getElem?_getD, List.getElem?_eq_getElem h]
  rfl
theorem nv_take (t : List Nat) (k : Nat) : nv (t.take k) = (nv t).take k := List.map_take
theorem cut_to (xs : List V) (k : Nat) (h : k ≤ xs.length) : cutV xs none (some (k : Int)) = xs.take k := by
  unfold cutV
  rw [show HT.sIx xs.length xs.length (some (k : Int)) = min k xs.length from HT.sIx_nat xs.length xs.length k, HT.sIx_none, Nat.min_eq_left h]
  rfl
theorem rep_nv (k : Nat) : (List.replicate k [V.int 0]).flatten = nv (List.replicate k 0) := by
  induction k with
  | zero => rfl
  | succ k ih =>
    rw [List.replicate_succ, List.flatten_cons, ih, List.replicate_succ]
    rfl
/-! ### tuple rules whose answer is told alike in all cases -/
def rCatB (K : PySem.W.Frag) : R2 := fun x y H Q => ∃ a b xs ys, x = .ref a ∧ y = .ref b ∧ SqT K H a xs ∧ SqT K H b ys ∧ xs.length + ys.length ≤ sizeLine ∧ ∀ H' z, Same H H' → SqT K H' z (xs ++ ys) → Q (.ref z) H'
theorem op_catB {X : Cx} : OpR X (binaryOp .Add) (rCatB X.K) := by
  intro pins s σ H x y v u Q I rx ry h
  obtain ⟨a, b, xs, ys, rfl, rfl, hx, hy, hz, q⟩ := h
  refine op_catA pins s σ H _ _ v u Q I rx ry ⟨a, b, xs, ys, rfl, rfl, hx, hy, hz, fun e => ?_, fun _ e => ?_, fun _ _ p hp => q _ p (same_new hp _) (SqT.of upd_same)⟩
  · subst e
    exact q H b (Same.refl H) hy
  · subst e
    rw [List.append_nil] at q
    exact q H a (Same.refl H) hx
def rSlB (K : PySem.W.Frag) : V → Option Int → Option Int → Hp → VK → Prop := fun x lo hi H Q => ∃ a xs, x = .ref a ∧ SqT K H a xs ∧ ∀ H' z, Same H H' → SqT K H' z (cutV xs lo hi) → Q (.ref z) H'
theorem sl_tupB {X : Cx} : SlR X (rSlB X.K) := by
  intro pins s σ H x v vl vu lo hi sl Q I rx hs pl pu h
  obtain ⟨a, xs, rfl, hx, q⟩ := h
  refine sl_tupA pins s σ H _ v vl vu lo hi sl Q I rx hs pl pu ⟨a, xs, rfl, hx, fun e => ?_, fun _ p hp => q _ p (same_new hp _) (SqT.of upd_same)⟩
  have e2 : cutV xs lo hi = xs := by
    unfold cutV
    rw [e.1, e.2]
    exact List.take_length
  rw [e2] at q
  exact q H a (Same.refl H) hx
def rRepB (K : PySem.W.Frag) : R2 := fun x y H Q => ∃ l k xs, x = .ref l ∧ y = .int k ∧ SqT K H l xs ∧ xs ≠ [] ∧ -1000 ≤ k ∧ k ≤ 1000 ∧ xs.length ≤ 1000 ∧ ∀ H' z, Same H H' → SqT K H' z (List.replicate k.toNat xs).flatten → Q (.ref z) H'
theorem op_repB {X : Cx} : OpR X (binaryOp .Mult) (rRepB X.K) := by
  intro pins s σ H x y v u Q I rx ry h
  obtain ⟨l, k, xs, rfl, rfl, hx, hne, h1, h2, hz, q⟩ := h
  refine op_repA pins s σ H _ _ v u Q I rx ry ⟨l, k, xs, rfl, rfl, hx, hne, h1, h2, hz, fun e => ?_, fun _ p hp => q _ p (same_new hp _) (SqT.of upd_same)⟩
  subst e
  refine q H l (Same.refl H) ?_
  have e2 : (List.replicate (1 : Int).toNat xs).flatten = xs := by
    show (List.replicate 1 xs).flatten = xs
    simp
  rw [e2]
  exact hx
def Bar (p : Addr) (H H' : Hp) : Prop := ∀ b o, b ≠ p → H b = some o → H' b = some o
theorem Bar.trans {p : Addr} {A B C : Hp} (a : Bar p A B) (b : Bar p B C) : Bar p A C := fun c o n h => b c o n (a c o n h)
theorem Bar.same {p : Addr} {A B : Hp} (a : Same A B) : Bar p A B := fun c o _ h => a c o h
theorem Bar.upd {p : Addr} {A : Hp} {o : HO} : Bar p A (upd A p o) := fun c u n h => by
  rw [upd_ne n]
  exact h
theorem passG {X : Cx} : Passes (CX X.prog X.w) X E0 := fun _ _ _ _ _ _ _ c => by
  obtain ⟨_, _, _, _, _, _, _, _, _, _, _, _, no⟩ := c
  exact no.elim
theorem nostop : NoStop K E0 := fun _ _ _ no => no.elim
theorem ref_get {rs : List Addr} {i : Nat} {x : V} (h : (rs.map V.ref)[i]? = some x) : ∃ a, rs[i]? = some a ∧ x = .ref a := by
  rw [List.getElem?_map] at h
  cases e : rs[i]? with
  | none =>
    rw [e] at h
    cases h
  | some n =>
    rw [e] at h
    exact ⟨n, rfl, (Option.some.inj h).symm⟩

theorem PE.weak {X : Cx} {e : Expr} {t t' : TE} (h : PE X e t) (i : ∀ σ H Q, t' σ H Q → t σ H Q) : PE X e t' := ⟨fun pins s σ H Q I h' => h.run pins s σ H Q I (i σ H Q h')⟩
theorem PS.weak {X : Cx} {s : Stmt} {t t' : TS} (h : PS X s t) (i : ∀ D σ H, t' D σ H → t D σ H) : PS X s t' := ⟨fun pins s0 σ H D I h' => h.run pins s0 σ H D I (i D σ H h')⟩
theorem cut_from (xs : List V) (k : Nat) (h : k ≤ xs.length) : cutV xs (some (k : Int)) none = xs.drop k := by
  unfold cutV
  rw [show HT.sIx xs.length 0 (some (k : Int)) = min k xs.length from HT.sIx_nat xs.length 0 k, HT.sIx_none, Nat.min_eq_left h]
  exact List.take_of_length_le (by rw [List.length_drop]; exact Nat.le_refl _)
theorem nv_drop (t : List Nat) (k : Nat) : nv (t.drop k) = (nv t).drop k := List.map_drop
/-! ### math.comb -/
def rComb : List V → Hp → VK → Prop := fun vs H Q => ∃ a b : Nat, vs = [.int ((a : Nat) : Int), .int ((b : Nat) : Int)] ∧ a ≤ 1000000000 ∧ b ≤ 1000 ∧ Q (.int ((C a b : Nat) : Int)) H
theorem cr_comb {X : Cx} : CallR X (.builtin "math.comb") rComb := by
  intro pins s σ H vs us Q I r h
  obtain ⟨a, b, rfl, ha, hb, q⟩ := h
  obtain ⟨t, u, rfl⟩ := Vals.int2 r
  refine PySem.W.mc_comb (by omega) (by omega) (by omega) (.inl (by omega)) fun _ => ?_
  rw [comb_C]
  exact ⟨.int _, H, I.tok _, ⟨_, rfl⟩, q⟩

/-! ### t > u of two tuples of one length -/
abbrev iv (t : List Nat) : List Int := t.map fun n => ((n : Nat) : Int)
theorem iv_at (t : List Nat) (j : Nat) : (iv t).getD j 0 = ((t.getD j 0 : Nat) : Int) := by
  rw [List.getD_eq_getElem?_getD, List.getD_eq_getElem?_getD, List.getElem?_map]
  cases t[j]? <;> rfl
theorem lexAt_gt (t u : List Nat) (hl : t.length = u.length) : ∀ (k i : Nat), i + k = t.length →
    Ob.lexAt (fun j => decide ((iv t).getD j 0 = (iv u).getD j 0)) (fun j => decide ((iv u).getD j 0 < (iv t).getD j 0)) false i k = gtB (t.drop i) (u.drop i)
  | 0, i, h => by
    rw [Ob.lexAt_zero, List.drop_of_length_le (by omega)]
    unfold gtB
    rfl
  | k + 1, i, h => by
    have h1 : i < t.length := by omega
    have h2 : i < u.length := by omega
    have e1 : t.getD i 0 = t[i] := by rw [List.getD_eq_getElem?_getD, List.getElem?_eq_getElem h1]; rfl
    have e2 : u.getD i 0 = u[i] := by rw [List.getD_eq_getElem?_getD, List.getElem?_eq_getElem h2]; rfl
    rw [Ob.lexAt_succ, lexAt_gt t u hl k (i + 1) (by omega), List.drop_eq_getElem_cons h1, List.drop_eq_getElem_cons h2]
    show (if decide ((iv t).getD i 0 = (iv u).getD i 0) = true then _ else decide ((iv u).getD i 0 < (iv t).getD i 0)) = (if t[i] = u[i] then _ else decide (u[i] < t[i]))
    rw [iv_at, iv_at, e1, e2]
    by_cases c : t[i] = u[i]
    · rw [if_pos c, if_pos (decide_eq_true (by rw [c]))]
    · rw [if_neg c, if_neg (fun z => c (by have := of_decide_eq_true z; omega))]
      by_cases d : u[i] < t[i]
      · rw [decide_eq_true d, decide_eq_true (by omega)]
      · rw [decide_eq_false d, decide_eq_false (by omega)]
def rGtN (K : PySem.W.Frag) : R2 := fun x y H Q => ∃ (a b : Addr) (t u : List Nat), x = .ref a ∧ y = .ref b ∧ SqT K H a (nv t) ∧ SqT K H b (nv u) ∧ t.length = u.length ∧ Q (.bl (gtB t u)) H
theorem op_gtN {X : Cx} (hu : X.A.units < cLine) : OpR X (compareOp .Gt) (rGtN X.K) := by
  intro pins s σ H x y v w Q I rx ry h
  obtain ⟨a, b, t, u, rfl, rfl, ha, hb, hl, q⟩ := h
  cases rx
  cases ry
  rw [nv_ints] at ha hb
  obtain ⟨its, r1, p1, _⟩ := I.tuple ha
  obtain ⟨its2, r2, p2, _⟩ := I.tuple hb
  have i1 : IntsAre its (iv t) := Vals.ints r1
  have i2 : IntsAre its2 (iv u) := Vals.ints r2
  have e1 : its.toArray.size = t.length := by rw [List.size_toArray, i1.length, List.length_map]
  have e2 : its2.toArray.size = t.length := by rw [List.size_toArray, i2.length, List.length_map, hl]
  have at1 : ∀ j (h1 : j < its.toArray.size), ∃ k, its.toArray[j] = .int ((iv t).getD j 0) k := fun j h1 => PyProof.Rows.IntsAre.int_at i1 _ _ (by simp at h1; simp [h1])
  have at2 : ∀ j (h1 : j < its2.toArray.size), ∃ k, its2.toArray[j] = .int ((iv u).getD j 0) k := fun j h1 => PyProof.Rows.IntsAre.int_at i2 _ _ (by simp at h1; simp [h1])
  have R := Ob.RcOp.tuples_gt (A := X.A) (s := s) (e := fun j => decide ((iv t).getD j 0 = (iv u).getD j 0)) (r := fun j => decide ((iv u).getD j 0 < (iv t).getD j 0)) p1 p2 hu (fun j h1 h2 => by
    obtain ⟨k, et⟩ := at1 j h1
    obtain ⟨k', et'⟩ := at2 j h2
    rw [et, et']
    have z : ((iv t).getD j 0 == (iv u).getD j 0) = decide ((iv t).getD j 0 = (iv u).getD j 0) := by
      by_cases q : (iv t).getD j 0 = (iv u).getD j 0
      · rw [decide_eq_true q]; exact beq_iff_eq.mpr q
      · rw [decide_eq_false q]; exact beq_eq_false_iff_ne.mpr q
    rw [← z]
    exact SeqAt.EqAt.int_int _ _ _ _) (fun j h1 h2 _ => by
    obtain ⟨k, et⟩ := at1 j h1
    obtain ⟨k', et'⟩ := at2 j h2
    rw [et, et']
    exact Ob.RcOp.gt_int _ _ _ _)
  rw [e1, e2, Nat.min_self, decide_eq_false (Nat.lt_irrefl _), lexAt_gt t u hl t.length 0 (Nat.zero_add _), List.drop_zero, List.drop_zero] at R
  have z : wpAny (model X.prog X.w) X.A (compareOp .Gt (.ref a) (.ref b)) (EP X pins σ Q) X.xe s := R X.prog X.w X.xe (EP X pins σ Q) ⟨.bl _, H, I, rfl, q⟩
  exact z
/-! ### a for over enumerate of a tuple -/
theorem for_enumT {K : PySem.W.Frag} {a : Addr} {xs : List V} {g : TG} {tb : TS} {D : Ends} {σ : L2.St} {H : Hp} (Pv : Nat → L2.St → Hp → Prop) (h0 : Pv 0 σ H) (hl : ∀ i σ H, i ≤ xs.length → Pv i σ H → SqT K H a xs)
    (hs : ∀ i x T σ H, xs[i]? = some x → Pv i σ H → H T = none → g (.ref T) σ (upd H T (.tup [.int (i : Nat), x])) fun σ2 H2 => tb { D with nx := Pv (i + 1), ct := Pv (i + 1), bk := D.nx } σ2 H2) (hd : ∀ σ H, Pv xs.length σ H → D.nx σ H) :
    ∃ W : Nat → Nat → L2.St → Hp → Prop, (∃ m, W 0 m σ H) ∧ ∀ i m σ H, W i m σ H →
      ((IteT K a).stop i H ∧ D.nx σ H) ∨ ((IteT K a).go i H ∧ ∃ N : L2.St → Hp → Prop, (∀ σ' H', N σ' H' → ∃ m', m' < m ∧ W (i + 1) m' σ' H') ∧ ∀ x H', (IteT K a).yld i H x H' → g x σ H' fun σ2 H2 => tb { D with nx := N, ct := N, bk := D.nx } σ2 H2) := by
  refine ⟨fun i m σ H => m = xs.length - i ∧ i ≤ xs.length ∧ Pv i σ H, ⟨xs.length, by simp, Nat.zero_le _, h0⟩, ?_⟩
  rintro i m σ H ⟨rfl, hi, p⟩
  have q := hl i σ H hi p
  by_cases hlt : i < xs.length
  · refine .inr ⟨⟨xs, xs[i], q, by simp [hlt]⟩, Pv (i + 1), fun σ' H' p' => ⟨xs.length - (i + 1), by omega, rfl, hlt, p'⟩, fun x H' y => ?_⟩
    obtain ⟨T, x', rfl, free, rfl, fx⟩ := y
    exact hs i x' T σ H (fx xs q) p free
  · have e : i = xs.length := by omega
    subst e
    exact .inl ⟨⟨xs, q, Nat.le_refl _⟩, hd σ H p⟩
end
end L6

namespace L6
open PySem PySem.Spec PyProof.Rows L2 L5 RZ
/-! ### the text by places -/
def topS (i : Nat) : Stmt := PySem.Challenge.pw_pureladders_k17_whole_shares_and_growth.main.body.getD i (.Pass ⟨0, 0, 0, 0⟩)
abbrev s_is_number : Stmt := topS 4
abbrev N_is_number : List Str := ["value"]
theorem sc_is_number : FnScope N_is_number ["value"] (defScope s_is_number) := ⟨rfl, rfl, rfl, by decide +kernel, rfl, by decide +kernel, by decide +kernel⟩
abbrev s_is_within : Stmt := topS 5
abbrev N_is_within : List Str := ["value", "least", "most"]
theorem sc_is_within : FnScope N_is_within ["value", "least", "most"] (defScope s_is_within) := ⟨rfl, rfl, rfl, by decide +kernel, rfl, by decide +kernel, by decide +kernel⟩
abbrev s_check_within : Stmt := topS 6
abbrev N_check_within : List Str := ["value", "least", "most"]
theorem sc_check_within : FnScope N_check_within ["value", "least", "most"] (defScope s_check_within) := ⟨rfl, rfl, rfl, by decide +kernel, rfl, by decide +kernel, by decide +kernel⟩
abbrev s_choices : Stmt := topS 8
abbrev N_choices : List Str := ["top", "bottom"]
theorem sc_choices : FnScope N_choices ["top", "bottom"] (defScope s_choices) := ⟨rfl, rfl, rfl, by decide +kernel, rfl, by decide +kernel, by decide +kernel⟩
abbrev s_shares_of : Stmt := topS 11
abbrev N_shares_of : List Str := ["number", "degree", "found", "rest", "beyond"]
theorem sc_shares_of : FnScope N_shares_of ["number", "degree"] (defScope s_shares_of) := ⟨rfl, rfl, rfl, by decide +kernel, rfl, by decide +kernel, by decide +kernel⟩
abbrev s_greatest_top : Stmt := topS 12
abbrev N_greatest_top : List Str := ["number", "bottom", "beyond", "low", "middle"]
theorem sc_greatest_top : FnScope N_greatest_top ["number", "bottom", "beyond"] (defScope s_greatest_top) := ⟨rfl, rfl, rfl, by decide +kernel, rfl, by decide +kernel, by decide +kernel⟩
abbrev s_bound_of : Stmt := topS 13
abbrev N_bound_of : List Str := ["number", "degree", "top", "bottom"]
theorem sc_bound_of : FnScope N_bound_of ["number", "degree"] (defScope s_bound_of) := ⟨rfl, rfl, rfl, by decide +kernel, rfl, by decide +kernel, by decide +kernel⟩
abbrev s_check_share : Stmt := topS 16
abbrev N_check_share : List Str := ["number", "degree"]
theorem sc_check_share : FnScope N_check_share ["number", "degree"] (defScope s_check_share) := ⟨rfl, rfl, rfl, by decide +kernel, rfl, by decide +kernel, by decide +kernel⟩
abbrev s_shares : Stmt := topS 17
abbrev N_shares : List Str := ["number", "degree"]
theorem sc_shares : FnScope N_shares ["number", "degree"] (defScope s_shares) := ⟨rfl, rfl, rfl, by decide +kernel, rfl, by decide +kernel, by decide +kernel⟩
abbrev s_growth_bound : Stmt := topS 18
abbrev N_growth_bound : List Str := ["number", "degree"]
theorem sc_growth_bound : FnScope N_growth_bound ["number", "degree"] (defScope s_growth_bound) := ⟨rfl, rfl, rfl, by decide +kernel, rfl, by decide +kernel, by decide +kernel⟩
abbrev s_w_tub : Stmt := topS 20
abbrev N_w_tub : List Str := ["_law_script", "_law_spot", "_law_cell", "_law_great"]
theorem sc_w_tub : FnScope N_w_tub ["_law_script", "_law_spot"] (defScope s_w_tub) := ⟨rfl, rfl, rfl, by decide +kernel, rfl, by decide +kernel, by decide +kernel⟩
abbrev s_w_pour : Stmt := topS 21
abbrev N_w_pour : List Str := ["_law_tub_here", "_law_total", "_law_found", "_law_one", "_law_two"]
theorem sc_w_pour : FnScope N_w_pour ["_law_tub_here", "_law_total"] (defScope s_w_pour) := ⟨rfl, rfl, rfl, by decide +kernel, rfl, by decide +kernel, by decide +kernel⟩
abbrev s_w_choice : Stmt := topS 22
abbrev N_w_choice : List Str := ["_law_tub_here", "_law_items"]
theorem sc_w_choice : FnScope N_w_choice ["_law_tub_here", "_law_items"] (defScope s_w_choice) := ⟨rfl, rfl, rfl, by decide +kernel, rfl, by decide +kernel, by decide +kernel⟩
abbrev s_w_binomial : Stmt := topS 23
abbrev N_w_binomial : List Str := ["_law_top", "_law_bottom", "_law_found", "_law_turn"]
theorem sc_w_binomial : FnScope N_w_binomial ["_law_top", "_law_bottom"] (defScope s_w_binomial) := ⟨rfl, rfl, rfl, by decide +kernel, rfl, by decide +kernel, by decide +kernel⟩
abbrev s_w_many : Stmt := topS 24
abbrev N_w_many : List Str := ["_law_letters", "_law_degree"]
theorem sc_w_many : FnScope N_w_many ["_law_letters", "_law_degree"] (defScope s_w_many) := ⟨rfl, rfl, rfl, by decide +kernel, rfl, by decide +kernel, by decide +kernel⟩
abbrev s_w_listed : Stmt := topS 25
abbrev N_w_listed : List Str := ["_law_letters", "_law_degree", "_law_found", "_law_place", "_law_longer", "_law_row", "_law_left", "_law_less"]
theorem sc_w_listed : FnScope N_w_listed ["_law_letters", "_law_degree"] (defScope s_w_listed) := ⟨rfl, rfl, rfl, by decide +kernel, rfl, by decide +kernel, by decide +kernel⟩
abbrev s_w_shares : Stmt := topS 26
abbrev N_w_shares : List Str := ["_law_number", "_law_degree", "_law_found", "_law_left", "_law_i", "_law_k"]
theorem sc_w_shares : FnScope N_w_shares ["_law_number", "_law_degree"] (defScope s_w_shares) := ⟨rfl, rfl, rfl, by decide +kernel, rfl, by decide +kernel, by decide +kernel⟩
abbrev s_w_bound : Stmt := topS 27
abbrev N_w_bound : List Str := ["_law_number", "_law_degree", "_law_k", "_law_i"]
theorem sc_w_bound : FnScope N_w_bound ["_law_number", "_law_degree"] (defScope s_w_bound) := ⟨rfl, rfl, rfl, by decide +kernel, rfl, by decide +kernel, by decide +kernel⟩
abbrev s_w_divides : Stmt := topS 28
abbrev N_w_divides : List Str := ["_law_one", "_law_other", "_law_left", "_law_right_here"]
theorem sc_w_divides : FnScope N_w_divides ["_law_one", "_law_other"] (defScope s_w_divides) := ⟨rfl, rfl, rfl, by decide +kernel, rfl, by decide +kernel, by decide +kernel⟩
abbrev s_w_has : Stmt := topS 29
abbrev N_w_has : List Str := ["_law_members", "_law_product", "_law_member"]
theorem sc_w_has : FnScope N_w_has ["_law_members", "_law_product"] (defScope s_w_has) := ⟨rfl, rfl, rfl, by decide +kernel, rfl, by decide +kernel, by decide +kernel⟩
abbrev s_w_shares_right : Stmt := topS 30
abbrev N_w_shares_right : List Str := ["_law_number", "_law_degree", "_law_told", "_law_one", "_law_other", "_law_k", "_law_i"]
theorem sc_w_shares_right : FnScope N_w_shares_right ["_law_number", "_law_degree"] (defScope s_w_shares_right) := ⟨rfl, rfl, rfl, by decide +kernel, rfl, by decide +kernel, by decide +kernel⟩
abbrev s_w_left_above : Stmt := topS 31
abbrev N_w_left_above : List Str := ["_law_letters", "_law_degree", "_law_many_here", "_law_rows", "_law_first", "_law_product"]
theorem sc_w_left_above : FnScope N_w_left_above ["_law_letters", "_law_degree", "_law_many_here"] (defScope s_w_left_above) := ⟨rfl, rfl, rfl, by decide +kernel, rfl, by decide +kernel, by decide +kernel⟩
abbrev s_w_right : Stmt := topS 32
abbrev N_w_right : List Str := ["_law_tub_here", "_law_degree", "_law_number", "_law_letters", "_law_low", "_law_many_here"]
theorem sc_w_right : FnScope N_w_right ["_law_tub_here"] (defScope s_w_right) := ⟨rfl, rfl, rfl, by decide +kernel, rfl, by decide +kernel, by decide +kernel⟩
abbrev s_law : Stmt := topS 33
abbrev N_law : List Str := ["_law_script", "_law_spot", "_law_tub_here", "_law_turn", "_law_told"]
theorem sc_law : FnScope N_law ["_law_script"] (defScope s_law) := ⟨rfl, rfl, rfl, by decide +kernel, rfl, by decide +kernel, by decide +kernel⟩
/-! ### what the top has written -/
structure Txt (K : PySem.W.Frag) (mg : Str → Option Value) where
  a_is_number : Addr
  d_is_number : FuncData
  F_is_number : Fun K "is_number" "is_number" s_is_number a_is_number d_is_number
  b_is_number : Binds K d_is_number ["value"] []
  m_is_number : mg "is_number" = some (.ref a_is_number)
  a_is_within : Addr
  d_is_within : FuncData
  F_is_within : Fun K "is_within" "is_within" s_is_within a_is_within d_is_within
  b_is_within : Binds K d_is_within ["value", "least", "most"] []
  m_is_within : mg "is_within" = some (.ref a_is_within)
  a_check_within : Addr
  d_check_within : FuncData
  F_check_within : Fun K "check_within" "check_within" s_check_within a_check_within d_check_within
  b_check_within : Binds K d_check_within ["value", "least", "most"] []
  m_check_within : mg "check_within" = some (.ref a_check_within)
  a_choices : Addr
  d_choices : FuncData
  F_choices : Fun K "choices" "choices" s_choices a_choices d_choices
  b_choices : Binds K d_choices ["top", "bottom"] []
  m_choices : mg "choices" = some (.ref a_choices)
  a_shares_of : Addr
  d_shares_of : FuncData
  F_shares_of : Fun K "shares_of" "shares_of" s_shares_of a_shares_of d_shares_of
  b_shares_of : Binds K d_shares_of ["number", "degree"] []
  m_shares_of : mg "shares_of" = some (.ref a_shares_of)
  a_greatest_top : Addr
  d_greatest_top : FuncData
  F_greatest_top : Fun K "greatest_top" "greatest_top" s_greatest_top a_greatest_top d_greatest_top
  b_greatest_top : Binds K d_greatest_top ["number", "bottom", "beyond"] []
  m_greatest_top : mg "greatest_top" = some (.ref a_greatest_top)
  a_bound_of : Addr
  d_bound_of : FuncData
  F_bound_of : Fun K "bound_of" "bound_of" s_bound_of a_bound_of d_bound_of
  b_bound_of : Binds K d_bound_of ["number", "degree"] []
  m_bound_of : mg "bound_of" = some (.ref a_bound_of)
  a_check_share : Addr
  d_check_share : FuncData
  F_check_share : Fun K "check_share" "check_share" s_check_share a_check_share d_check_share
  b_check_share : Binds K d_check_share ["number", "degree"] []
  m_check_share : mg "check_share" = some (.ref a_check_share)
  a_shares : Addr
  d_shares : FuncData
  F_shares : Fun K "shares" "shares" s_shares a_shares d_shares
  b_shares : Binds K d_shares ["number", "degree"] []
  m_shares : mg "shares" = some (.ref a_shares)
  a_growth_bound : Addr
  d_growth_bound : FuncData
  F_growth_bound : Fun K "growth_bound" "growth_bound" s_growth_bound a_growth_bound d_growth_bound
  b_growth_bound : Binds K d_growth_bound ["number", "degree"] []
  m_growth_bound : mg "growth_bound" = some (.ref a_growth_bound)
  a_w_tub : Addr
  d_w_tub : FuncData
  F_w_tub : Fun K "_law_tub" "_law_tub" s_w_tub a_w_tub d_w_tub
  b_w_tub : Binds K d_w_tub ["_law_script", "_law_spot"] []
  m_w_tub : mg "_law_tub" = some (.ref a_w_tub)
  a_w_pour : Addr
  d_w_pour : FuncData
  F_w_pour : Fun K "_law_pour" "_law_pour" s_w_pour a_w_pour d_w_pour
  b_w_pour : Binds K d_w_pour ["_law_tub_here", "_law_total"] []
  m_w_pour : mg "_law_pour" = some (.ref a_w_pour)
  a_w_choice : Addr
  d_w_choice : FuncData
  F_w_choice : Fun K "_law_choice" "_law_choice" s_w_choice a_w_choice d_w_choice
  b_w_choice : Binds K d_w_choice ["_law_tub_here", "_law_items"] []
  m_w_choice : mg "_law_choice" = some (.ref a_w_choice)
  a_w_binomial : Addr
  d_w_binomial : FuncData
  F_w_binomial : Fun K "_law_binomial" "_law_binomial" s_w_binomial a_w_binomial d_w_binomial
  b_w_binomial : Binds K d_w_binomial ["_law_top", "_law_bottom"] []
  m_w_binomial : mg "_law_binomial" = some (.ref a_w_binomial)
  a_w_many : Addr
  d_w_many : FuncData
  F_w_many : Fun K "_law_many" "_law_many" s_w_many a_w_many d_w_many
  b_w_many : Binds K d_w_many ["_law_letters", "_law_degree"] []
  m_w_many : mg "_law_many" = some (.ref a_w_many)
  a_w_listed : Addr
  d_w_listed : FuncData
  F_w_listed : Fun K "_law_listed" "_law_listed" s_w_listed a_w_listed d_w_listed
  b_w_listed : Binds K d_w_listed ["_law_letters", "_law_degree"] []
  m_w_listed : mg "_law_listed" = some (.ref a_w_listed)
  a_w_shares : Addr
  d_w_shares : FuncData
  F_w_shares : Fun K "_law_shares" "_law_shares" s_w_shares a_w_shares d_w_shares
  b_w_shares : Binds K d_w_shares ["_law_number", "_law_degree"] []
  m_w_shares : mg "_law_shares" = some (.ref a_w_shares)
  a_w_bound : Addr
  d_w_bound : FuncData
  F_w_bound : Fun K "_law_bound" "_law_bound" s_w_bound a_w_bound d_w_bound
  b_w_bound : Binds K d_w_bound ["_law_number", "_law_degree"] []
  m_w_bound : mg "_law_bound" = some (.ref a_w_bound)
  a_w_divides : Addr
  d_w_divides : FuncData
  F_w_divides : Fun K "_law_divides" "_law_divides" s_w_divides a_w_divides d_w_divides
  b_w_divides : Binds K d_w_divides ["_law_one", "_law_other"] []
  m_w_divides : mg "_law_divides" = some (.ref a_w_divides)
  a_w_has : Addr
  d_w_has : FuncData
  F_w_has : Fun K "_law_has" "_law_has" s_w_has a_w_has d_w_has
  b_w_has : Binds K d_w_has ["_law_members", "_law_product"] []
  m_w_has : mg "_law_has" = some (.ref a_w_has)
  a_w_shares_right : Addr
  d_w_shares_right : FuncData
  F_w_shares_right : Fun K "_law_shares_right" "_law_shares_right" s_w_shares_right a_w_shares_right d_w_shares_right
  b_w_shares_right : Binds K d_w_shares_right ["_law_number", "_law_degree"] []
  m_w_shares_right : mg "_law_shares_right" = some (.ref a_w_shares_right)
  a_w_left_above : Addr
  d_w_left_above : FuncData
  F_w_left_above : Fun K "_law_left_above" "_law_left_above" s_w_left_above a_w_left_above d_w_left_above
  b_w_left_above : Binds K d_w_left_above ["_law_letters", "_law_degree", "_law_many_here"] []
  m_w_left_above : mg "_law_left_above" = some (.ref a_w_left_above)
  a_w_right : Addr
  d_w_right : FuncData
  F_w_right : Fun K "_law_right" "_law_right" s_w_right a_w_right d_w_right
  b_w_right : Binds K d_w_right ["_law_tub_here"] []
  m_w_right : mg "_law_right" = some (.ref a_w_right)
  a_law : Addr
  d_law : FuncData
  F_law : Fun K "law" "law" s_law a_law d_law
  b_law : Binds K d_law ["_law_script"] []
  m_law : mg "law" = some (.ref a_law)
  z_isinstance : mg "isinstance" = none
  z_int : mg "int" = none
  z_bool : mg "bool" = none
  z_comb : mg "comb" = some (.builtin "math.comb")
  z_tuple : mg "tuple" = none
  z_sum : mg "sum" = none
  z_len : mg "len" = none
  z_abs : mg "abs" = none
  z_max : mg "max" = none
  z_range : mg "range" = none
  z_list : mg "list" = none
  z_zip : mg "zip" = none
  z_min : mg "min" = none
  t_MOST_FAR : Nat
  c_MOST_FAR : mg "MOST_FAR" = some (.int 1000000 t_MOST_FAR)
  t_MAX_DEGREE : Nat
  c_MAX_DEGREE : mg "MAX_DEGREE" = some (.int 60 t_MAX_DEGREE)
end L6

namespace L6
open PySem PySem.Spec PyProof.Rows L2 L5 RZ
section
variable {P : Program} {w : World} {K : PySem.W.Frag} {mg : Str → Option Value} {base : Heap}
def sp_num : Sp := fun vs H Q _ => ∃ i : Int, vs = [.int i] ∧ Q (.bl true) H
theorem ok_num (T : Txt K mg) : FnOk P w K mg base CX0 1 T.a_is_number T.d_is_number ["value"] sp_num := by
  refine T.F_is_number.ok sc_is_number (fun vs H Q E h => ?_) (fun cdv A outer s H vs Q E hr h => ?_)
  · obtain ⟨i, rfl, _⟩ := h
    rfl
  · obtain ⟨i, rfl, q⟩ := h
    refine ⟨_, pss_one (ps_ret (pe_and (pe_callB call_isi (by rfl) T.z_isinstance boot_isinstance (pa_cons (pv 0) (pa_cons (pe_bltn (v := .ty "int") (by rfl) T.z_int boot_int rfl) pa_nil)))
      (pe_one (pe_not (pe_callB call_isi (by rfl) T.z_isinstance boot_isinstance (pa_cons (pv 0) (pa_cons (pe_bltn (v := .ty "bool") (by rfl) T.z_bool boot_bool rfl) pa_nil))))))), ?_⟩
    refine ⟨_, rfl, _, _, _, _, true, rfl, .ty _, .base (.int i), kit_ty (by decide +kernel), true, rfl, iteT ?_⟩
    exact ⟨_, rfl, _, _, _, _, false, rfl, .ty _, .base (.int i), kit_ty (by decide +kernel), false, rfl, q⟩
def sp_within : Sp := fun vs H Q _ => ∃ i a b : Int, vs = [.int i, .int a, .int b] ∧ Q (.bl (decide (a ≤ i) && decide (i ≤ b))) H
theorem ok_within (T : Txt K mg) : FnOk P w K mg base CX0 2 T.a_is_within T.d_is_within ["value", "least", "most"] sp_within := by
  refine T.F_is_within.ok sc_is_within (fun vs H Q E h => ?_) (fun cdv A outer s H vs Q E hr h => ?_)
  · obtain ⟨i, a, b, rfl, _⟩ := h
    rfl
  · obtain ⟨i, a, b, rfl, q⟩ := h
    refine ⟨_, pss_one (ps_ret (pe_and (pe_call (ok_num T) hr (by rfl) T.m_is_number T.F_is_number.kp T.b_is_number .nil pass0 (pa_cons (pv 0) pa_nil)) (pe_one (pe_chain op_le op_le (pv 1) (pv 0) (pv 2))))), ?_⟩
    refine ⟨_, rfl, i, rfl, true, rfl, iteT ?_⟩
    refine ⟨_, rfl, _, rfl, _, _, rfl, rfl, _, rfl, ite2 (fun c => ?_) (fun c => ?_)⟩
    · refine ⟨_, rfl, _, _, rfl, rfl, ?_⟩
      rw [c] at q
      exact q
    · rw [Bool.eq_false_iff.mpr c] at q
      exact q
def sp_checkw : Sp := fun vs H Q _ => ∃ i a b : Int, vs = [.int i, .int a, .int b] ∧ a ≤ i ∧ i ≤ b ∧ Q .non H
theorem ok_checkw (T : Txt K mg) : FnOk P w K mg base CX0 3 T.a_check_within T.d_check_within ["value", "least", "most"] sp_checkw := by
  refine T.F_check_within.ok sc_check_within (fun vs H Q E h => ?_) (fun cdv A outer s H vs Q E hr h => ?_)
  · obtain ⟨i, a, b, rfl, _⟩ := h
    rfl
  · obtain ⟨i, a, b, rfl, h1, h2, q⟩ := h
    refine ⟨_, pss_one (ps_if (pt_not (pt_val (pe_call (ok_within T) hr (by rfl) T.m_is_within T.F_is_within.kp T.b_is_within .nil pass0 (pa_cons (pv 0) (pa_cons (pv 1) (pa_cons (pv 2) pa_nil)))))) (pss_one ps_never) pss_nil), ?_⟩
    refine ⟨_, rfl, _, rfl, _, rfl, i, a, b, rfl, true, ?_, iteF q⟩
    rw [decide_eq_true h1, decide_eq_true h2]
    rfl
def sp_cho : Sp := fun vs H Q _ => ∃ (a b : Int) (k : Nat), vs = [.int a, .int b] ∧ b = ((k : Nat) : Int) ∧ a ≤ 1000000000 ∧ k ≤ 1000 ∧ Q (.int (if a < k then 0 else ((C a.toNat k : Nat) : Int))) H
theorem ok_cho (T : Txt K mg) : FnOk P w K mg base CX0 1 T.a_choices T.d_choices ["top", "bottom"] sp_cho := by
  refine T.F_choices.ok sc_choices (fun vs H Q E h => ?_) (fun cdv A outer s H vs Q E hr h => ?_)
  · obtain ⟨a, b, k, rfl, _⟩ := h
    rfl
  · obtain ⟨a, b, k, rfl, rfl, ha, hk, q⟩ := h
    refine ⟨_, pss_cons (ps_if (PW.pt (pw_or (pt_cmpR op_lt (pv 1) pe_int (nomark _)) (pw_or1 (pt_cmpR op_gt (pv 1) (pv 0) (nomark _))))) (pss_one (ps_ret pe_int)) pss_nil)
      (pss_one (ps_ret (pe_callBfun cr_comb (by rfl) T.z_comb (pa_cons (pv 0) (pa_cons (pv 1) pa_nil))))), ?_⟩
    refine ⟨_, rfl, _, _, rfl, rfl, _, rfl, ?_⟩
    rw [decide_eq_false (show ¬ ((k : Nat) : Int) < 0 by omega)]
    refine iteF ⟨_, rfl, _, rfl, _, _, rfl, rfl, _, rfl, ite2 (fun c => ?_) (fun c => ?_)⟩
    · have c' := of_decide_eq_true c
      rw [if_pos c'] at q
      exact q
    · have c' : ¬ _ := fun z => c (decide_eq_true z)
      rw [if_neg c'] at q
      refine ⟨_, rfl, _, rfl, a.toNat, k, ?_, by omega, by omega, q⟩
      rw [show ((a.toNat : Nat) : Int) = a by omega]
/-! ### the law's own draws -/
abbrev tubO (g x c : Int) : HO := .lst [.int g, .int x, .int c]
def sp_tub (K : PySem.W.Frag) : Sp := fun vs H Q _ => ∃ (a : Addr) (ns : List Int) (k : Nat), vs = [.ref a, .int ((k : Nat) : Int)] ∧ SqL K H a (ns.map V.int) ∧ k < 1000 ∧ ∀ (H' : Hp) (r : Addr) (g x c : Int), Same H H' → H r = none → H' r = some (tubO g x c) → Q (.ref r) H'
theorem mpos {j : Int} (h : (0 : Int) < j) : (0 : Int) < j := h
theorem ok_tub (T : Txt K mg) : FnOk P w K mg base CX0 1 T.a_w_tub T.d_w_tub ["_law_script", "_law_spot"] (sp_tub K) := by
  refine T.F_w_tub.ok sc_w_tub (fun vs H Q E h => ?_) (fun cdv A outer s H vs Q E hr h => ?_)
  · obtain ⟨a, ns, k, rfl, _⟩ := h
    rfl
  · obtain ⟨a, ns, k, rfl, hS, hk, q⟩ := h
    refine ⟨_, pss_cons (ps_set (i := 2) sc_w_tub.nd rfl (Or.inl rfl) (PE.weak (t' := fun σ' H' Q' => σ' = start N_w_tub [.ref a, .int ((k : Nat) : Int)] ∧ H' = H ∧ ∀ (i : Int), Q' (.int i) H) (pe_ifExp (pt_cmpR op_lt (pv 1) (pe_callB call_len_seq (by rfl) T.z_len boot_len (pa_cons (pv 0) pa_nil)) (nomark _))
        (pe_callTy call_int1 (by rfl) T.z_int boot_int (pa_cons (pe_ix ix_list (pv 0) (pv 1) (fun _ _ => rfl)) pa_nil))
        (pe_op op_add (pe_op op_mul pe_int (pv 1)) pe_int)) ?imp))
      (pss_cons (ps_set (i := 3) sc_w_tub.nd rfl (Or.inl rfl) (pe_op op_mod (pe_callTy call_int1 (by rfl) T.z_int boot_int (pa_cons (pe_callB call_abs (by rfl) T.z_abs boot_abs (pa_cons (pv 2) pa_nil)) pa_nil)) (pe_op op_powW (pe_op op_pow pe_int pe_int) pe_int)))
      (pss_one (ps_ret (pe_lst (pa_cons (pe_callB (call_max2 rfl) (by rfl) T.z_max boot_max (pa_cons pe_int (pa_cons (pe_op op_sub (pv 3) (pe_op op_pow pe_int pe_int)) pa_nil)))
        (pa_cons (pe_op op_add (pe_op op_add (pe_op op_add (pe_op op_mul (pe_op op_mod (pe_callTy call_int1 (by rfl) T.z_int boot_int (pa_cons (pv 3) pa_nil)) pe_int) pe_int) (pe_op op_mul pe_int (pv 1))) (pe_op op_mul pe_int (pe_callTy call_int1 (by rfl) T.z_int boot_int (pa_cons (pe_cmpR op_lt (pv 2) pe_int (nomark _)) pa_nil)))) pe_int) (pa_cons pe_int pa_nil))))))), ?_⟩
    case imp =>
      rintro σ' H' Q' ⟨rfl, rfl, h⟩
      refine ⟨_, rfl, _, rfl, a, _, rfl, .inl hS, _, _, rfl, rfl, _, rfl, ite2 (fun c => ?_) (fun c => ?_)⟩
      · have c' := of_decide_eq_true c
        rw [List.length_map] at c'
        have hlt : k < ns.length := by omega
        refine ⟨_, rfl, _, rfl, a, _, _, .int ns[k], rfl, rfl, hS, atI_nat (by rw [List.getElem?_map, List.getElem?_eq_getElem hlt] <;> rfl), .inl ⟨_, rfl, ?_⟩⟩
        exact h _
      · exact ⟨_, rfl, _, _, rfl, rfl, .inl ⟨by decide, by decide⟩, _, _, rfl, rfl, h _⟩
    refine ⟨rfl, rfl, fun cell => ?_⟩
    refine ⟨_, rfl, _, rfl, .inl ⟨_, rfl, _, _, rfl, rfl, ⟨by decide, by decide, by decide⟩, _, _, rfl, rfl, ⟨by decide, by decide +kernel⟩, _, _, rfl, rfl, Int.pow_pos (Int.pow_pos (by decide)), ?_⟩⟩
    refine ⟨_, rfl, _, _, rfl, rfl, ⟨by decide, by decide, by decide⟩, _, _, rfl, rfl, _, _, rfl, ?_⟩
    refine ⟨_, rfl, .inl ⟨_, rfl, _, _, rfl, rfl, mpos (by decide), _, _, rfl, rfl, .inr ⟨by decide, by decide⟩, _, rfl, _, _, rfl, rfl, .inl ⟨by decide, by decide⟩, _, _, rfl, rfl, _, rfl, _, _, rfl, rfl, .inr ⟨_, rfl, _, _, rfl, rfl, .inl ⟨by decide, by decide⟩, _, _, rfl, rfl, _, _, rfl, rfl, ?_⟩⟩⟩
    refine ⟨by show 3 ≤ sizeLine; decide, fun z hz => ?_⟩
    exact q _ z _ _ _ (same_new hz _) hz upd_same
abbrev rPour (H : Hp) (p : Addr) (m : Int) (Q : VK) : Prop := ∀ g x c r : Int, 0 ≤ r → r < m → Q (.int r) (upd H p (tubO g x c))
def sp_pour : Sp := fun vs H Q _ => ∃ (p : Addr) (m g x c : Int), vs = [.ref p, .int m] ∧ H p = some (tubO g x c) ∧ 0 < m ∧ m < 1073741824 ∧ rPour H p m Q
theorem ok_pour (T : Txt K mg) : FnOk P w K mg base CX0 1 T.a_w_pour T.d_w_pour ["_law_tub_here", "_law_total"] sp_pour := by
  refine T.F_w_pour.ok sc_w_pour (fun vs H Q E h => ?_) (fun cdv A outer s H vs Q E hr h => ?_)
  · obtain ⟨p, m, g, x, c, rfl, _⟩ := h
    rfl
  · obtain ⟨p, m, g, x, c, rfl, hp, h0, h1, q⟩ := h
    refine ⟨_, pss_cons (ps_if (pt_cmpR op_gt (pe_ix ix_list (pv 0) pe_int (fun _ _ => rfl)) pe_int (nomark _))
        (pss_cons (ps_set (i := 2) sc_w_pour.nd rfl (Or.inl rfl) (pe_op op_mod (pe_callTy call_int1 (by rfl) T.z_int boot_int (pa_cons (pe_ix ix_list (pv 0) pe_int (fun _ _ => rfl)) pa_nil)) (pv 1)))
        (pss_cons (ps_asg (pe_op op_fdiv (pe_ix ix_list (pv 0) pe_int (fun _ _ => rfl)) (pv 1)) (pg_sub (pv 0) pe_int set_list))
        (pss_one (ps_ret (pv 2))))) pss_nil)
      (pss_cons (ps_asg (pe_op op_add (pe_ix ix_list (pv 0) pe_int (fun _ _ => rfl)) pe_int) (pg_sub (pv 0) pe_int set_list))
      (pss_cons (ps_set (i := 3) sc_w_pour.nd rfl (Or.inl rfl) (pe_op op_mod (pe_callTy call_int1 (by rfl) T.z_int boot_int (pa_cons (pe_op op_add (pe_ix ix_list (pv 0) pe_int (fun _ _ => rfl)) (pe_op op_mul pe_int (pe_ix ix_list (pv 0) pe_int (fun _ _ => rfl)))) pa_nil)) pe_int))
      (pss_cons (ps_set (i := 4) sc_w_pour.nd rfl (Or.inl rfl) (pe_op op_add (pe_op op_mul (pe_op op_mod (pe_callTy call_int1 (by rfl) T.z_int boot_int (pa_cons (pe_op op_add (pe_op op_mul (pv 3) (pv 3)) (pe_op op_mul pe_int (pe_ix ix_list (pv 0) pe_int (fun _ _ => rfl)))) pa_nil)) pe_int) pe_int) (pv 3)))
      (pss_one (ps_ret (pe_op op_mod (pe_callTy call_int1 (by rfl) T.z_int boot_int (pa_cons (pe_op op_fdiv (pv 4) pe_int) pa_nil)) (pv 1))))))), ?_⟩
    have a0 : atI [V.int g, V.int x, V.int c] (0 : Int) = some (.int g) := rfl
    refine ⟨_, rfl, p, _, _, _, rfl, rfl, SqL.of hp, a0, _, _, rfl, rfl, _, rfl, ite2 (fun d => ?_) (fun d => ?_)⟩
    · refine ⟨_, rfl, p, _, _, _, rfl, rfl, SqL.of hp, a0, .inl ⟨_, rfl, _, rfl, _, _, rfl, rfl, h0, ?_⟩⟩
      refine ⟨_, rfl, p, _, _, _, rfl, rfl, SqL.of hp, a0, _, rfl, _, _, rfl, rfl, ⟨h0, h1⟩, ?_⟩
      refine ⟨_, rfl, p, _, _, 0, rfl, rfl, hp, rfl, ?_⟩
      exact ⟨_, rfl, q _ _ _ _ (Int.emod_nonneg _ (by omega)) (Int.emod_lt_of_pos _ h0)⟩
    · have a2 : atI [V.int g, V.int x, V.int c] (2 : Int) = some (.int c) := rfl
      refine ⟨_, rfl, p, _, _, _, rfl, rfl, SqL.of hp, a2, _, _, rfl, rfl, _, rfl, p, _, _, 2, rfl, rfl, hp, rfl, ?_⟩
      have hp' : (upd H p (.lst [V.int g, V.int x, V.int (c + 1)])) p = some (.lst [V.int g, V.int x, V.int (c + 1)]) := upd_same
      have b1 : atI [V.int g, V.int x, V.int (c + 1)] (1 : Int) = some (.int x) := rfl
      have b2 : atI [V.int g, V.int x, V.int (c + 1)] (2 : Int) = some (.int (c + 1)) := rfl
      refine ⟨_, rfl, p, _, _, _, rfl, rfl, SqL.of hp', b1, _, rfl, p, _, _, _, rfl, rfl, SqL.of hp', b2, _, _, rfl, rfl, .inl ⟨by decide, by decide⟩, _, _, rfl, rfl, .inl ⟨_, rfl, _, _, rfl, rfl, mpos (by decide), ?_⟩⟩
      have r0 := Int.emod_nonneg (x + 2750159 * (c + 1)) (show (2305843009213693951 : Int) ≠ 0 by decide)
      have r1 := Int.emod_lt_of_pos (x + 2750159 * (c + 1)) (show (0 : Int) < 2305843009213693951 by decide)
      generalize (x + 2750159 * (c + 1)) % 2305843009213693951 = one at r0 r1 ⊢
      refine ⟨_, rfl, _, rfl, _, _, rfl, rfl, .inl ⟨by omega, by omega⟩, _, rfl, p, _, _, _, rfl, rfl, SqL.of hp', b2, _, _, rfl, rfl, .inl ⟨by decide, by decide⟩, _, _, rfl, rfl, .inl ⟨_, rfl, _, _, rfl, rfl, mpos (by decide), _, _, rfl, rfl, .inr ⟨by decide, by decide⟩, _, rfl, _, _, rfl, rfl, ?_⟩⟩
      refine ⟨_, rfl, _, _, rfl, rfl, ⟨by decide, by decide⟩, .inl ⟨_, rfl, _, rfl, _, _, rfl, rfl, h0, ?_⟩⟩
      exact q _ _ _ _ (Int.emod_nonneg _ (by omega)) (Int.emod_lt_of_pos _ h0)
def sp_choice (K : PySem.W.Frag) : Sp := fun vs H Q _ => ∃ (p a : Addr) (xs : List V) (g x c : Int), vs = [.ref p, .ref a] ∧ H p = some (tubO g x c) ∧ a ≠ p ∧ SqL K H a xs ∧ xs ≠ [] ∧ xs.length ≤ 1000 ∧ ∀ g x c v, v ∈ xs → Q v (upd H p (tubO g x c))
theorem ok_choice (T : Txt K mg) : FnOk P w K mg base CX0 2 T.a_w_choice T.d_w_choice ["_law_tub_here", "_law_items"] (sp_choice K) := by
  refine T.F_w_choice.ok sc_w_choice (fun vs H Q E h => ?_) (fun cdv A outer s H vs Q E hr h => ?_)
  · obtain ⟨p, a, xs, g, x, c, rfl, _⟩ := h
    rfl
  · obtain ⟨p, a, xs, g, x, c, rfl, hp, hne, hS, hn, hz, q⟩ := h
    refine ⟨_, pss_one (ps_ret (pe_ix ix_list (pv 1) (pe_call (ok_pour T) hr (by rfl) T.m_w_pour T.F_w_pour.kp T.b_w_pour .nil pass0 (pa_cons (pv 0) (pa_cons (pe_callB call_len_seq (by rfl) T.z_len boot_len (pa_cons (pv 1) pa_nil)) pa_nil))) (fun _ _ => rfl))), ?_⟩
    have hpos : 0 < xs.length := List.length_pos_iff.mpr hn
    refine ⟨_, rfl, _, rfl, _, rfl, a, _, rfl, .inl hS, p, _, g, x, c, rfl, hp, by omega, by omega, fun g' x' c' r h0 h1 => ?_⟩
    have hlt : r.toNat < xs.length := by omega
    refine ⟨a, xs, r, xs[r.toNat], rfl, rfl, sql_updL hne hS, ?_, q _ _ _ _ (List.getElem_mem hlt)⟩
    have := atI_nat (xs := xs) (List.getElem?_eq_getElem hlt)
    rw [show ((r.toNat : Nat) : Int) = r by omega] at this
    exact this
/-! ### _law_binomial, _law_many -/
def sp_bin : Sp := fun vs H Q _ => ∃ (a b : Int) (n k : Nat), vs = [.int a, .int b] ∧ a = ((n : Nat) : Int) ∧ b = ((k : Nat) : Int) ∧ k ≤ n + 1 ∧ n ≤ 1000000000 ∧ k ≤ 1000 ∧ Q (.int ((C n k : Nat) : Int)) H
theorem C_le_pow : ∀ (n k : Nat), C n k ≤ 2 ^ n
  | _, 0 => by rw [C_zero]; exact Nat.one_le_two_pow
  | 0, k + 1 => Nat.zero_le _
  | n + 1, k + 1 => by
    have h1 := C_le_pow n k
    have h2 := C_le_pow n (k + 1)
    rw [C_succ, Nat.pow_succ]
    omega
theorem ok_bin (T : Txt K mg) : FnOk P w K mg base CX0 1 T.a_w_binomial T.d_w_binomial ["_law_top", "_law_bottom"] sp_bin := by
  refine T.F_w_binomial.ok sc_w_binomial (fun vs H Q E h => ?_) (fun cdv A outer s H vs Q E hr h => ?_)
  · obtain ⟨a, b, n, k, rfl, _⟩ := h
    rfl
  · obtain ⟨a, b, n, k, rfl, rfl, rfl, hkn, hn, hk, q⟩ := h
    refine ⟨_, pss_cons (ps_set (i := 2) sc_w_binomial.nd rfl (Or.inl rfl) pe_int)
      (pss_cons (ps_for PassesOwn.never rfl (pi_range1 rfl T.z_range (pa_cons (pv 1) pa_nil)) (pg_name (i := 3) sc_w_binomial.nd rfl (Or.inl rfl))
        (pss_one (ps_set (i := 2) sc_w_binomial.nd rfl (Or.inl rfl) (pe_op op_fdiv (pe_op op_mul (pv 2) (pe_op op_sub (pv 0) (pv 3))) (pe_op op_add (pv 3) pe_int)))))
      (pss_one (ps_ret (pe_ifExp (pt_chain op_le op_le pe_int (pv 1) (pv 0)) (pv 2) pe_int)))), ?_⟩
    refine ⟨_, rfl, _, rfl, by omega, by omega, ?_⟩
    refine for_range (lo := 0) (n := ((k : Nat) : Int).toNat) (fun i σ H' => H' = H ∧ ∃ v3 : Option V, σ = [some (.int ((n : Nat) : Int)), some (.int ((k : Nat) : Int)), some (.int ((C n i : Nat) : Int)), v3]) ⟨rfl, none, by rw [C_zero]; rfl⟩ ?_ ?_
    · rintro i σ H' hi ⟨rfl, v3, rfl⟩
      refine ⟨_, rfl, _, rfl, _, rfl, _, _, rfl, rfl, _, _, rfl, rfl, .inr ⟨by omega, by omega⟩, ?_⟩
      refine ⟨_, rfl, _, _, rfl, rfl, _, _, rfl, rfl, ⟨by omega, by omega⟩, rfl, some (.int (0 + ((i : Nat) : Int))), ?_⟩
      have hnx := C_next n i (by omega)
      have e1 : ((C n i : Nat) : Int) * (((n : Nat) : Int) - (0 + ((i : Nat) : Int))) / (0 + ((i : Nat) : Int) + 1) = ((C n (i + 1) : Nat) : Int) := by
        have e2 : ((C n i : Nat) : Int) * (((n : Nat) : Int) - (0 + ((i : Nat) : Int))) = ((C n (i + 1) : Nat) : Int) * (((i : Nat) : Int) + 1) := by
          have h4 : (((i + 1) * C n (i + 1) : Nat) : Int) = (((n - i) * C n i : Nat) : Int) := by rw [hnx]
          rw [Int.natCast_mul, Int.natCast_mul, show ((n - i : Nat) : Int) = (n : Int) - (i : Int) by omega] at h4
          rw [Int.zero_add, Int.mul_comm, ← h4, Int.mul_comm]
          rfl
        rw [e2, Int.zero_add]
        exact Int.mul_ediv_cancel _ (by omega)
      show [some (V.int ((n : Nat) : Int)), some (V.int ((k : Nat) : Int)), some (V.int (((C n i : Nat) : Int) * (((n : Nat) : Int) - (0 + ((i : Nat) : Int))) / (0 + ((i : Nat) : Int) + 1))), some (V.int (0 + ((i : Nat) : Int)))] = _
      rw [e1]
    · rintro σ H' ⟨rfl, v3, rfl⟩
      rw [show ((k : Nat) : Int).toNat = k by omega]
      refine ⟨_, rfl, _, _, rfl, rfl, _, rfl, ?_⟩
      rw [decide_eq_true (show (0 : Int) ≤ ((k : Nat) : Int) by omega)]
      refine iteT ⟨_, rfl, _, _, rfl, rfl, _, rfl, ite2 (fun c => ?_) (fun c => ?_)⟩
      · exact ⟨_, rfl, q⟩
      · have c' : ¬ _ := fun z => c (decide_eq_true z)
        rw [C_over (by omega)] at q
        exact q
def sp_many : Sp := fun vs H Q _ => ∃ (a b : Int) (k d : Nat), vs = [.int a, .int b] ∧ a = ((k : Nat) : Int) + 1 ∧ b = ((d : Nat) : Int) ∧ k ≤ 100 ∧ d ≤ 800 ∧ Q (.int ((W k (d + 1) : Nat) : Int)) H
theorem ok_many (T : Txt K mg) : FnOk P w K mg base CX0 2 T.a_w_many T.d_w_many ["_law_letters", "_law_degree"] sp_many := by
  refine T.F_w_many.ok sc_w_many (fun vs H Q E h => ?_) (fun cdv A outer s H vs Q E hr h => ?_)
  · obtain ⟨a, b, k, d, rfl, _⟩ := h
    rfl
  · obtain ⟨a, b, k, d, rfl, rfl, rfl, hk, hd, q⟩ := h
    refine ⟨_, pss_one (ps_ret (pe_ifExp (pt_cmpR op_ge (pv 1) pe_int (nomark _)) (pe_call (ok_bin T) hr (by rfl) T.m_w_binomial T.F_w_binomial.kp T.b_w_binomial .nil pass0 (pa_cons (pe_op op_sub (pe_op op_add (pv 1) (pv 0)) pe_int) (pa_cons (pe_op op_sub (pv 0) pe_int) pa_nil))) pe_int)), ?_⟩
    refine ⟨_, rfl, _, _, rfl, rfl, _, rfl, ?_⟩
    rw [decide_eq_true (show (0 : Int) ≤ ((d : Nat) : Int) by omega)]
    refine iteT ⟨_, rfl, _, rfl, _, _, rfl, rfl, _, _, rfl, rfl, _, rfl, _, _, rfl, rfl, _, _, d + k, k, rfl, by omega, by omega, by omega, by omega, by omega, ?_⟩
    rw [W_at] at q
    exact q
end
end L6

namespace L6
open PySem PySem.Spec PyProof.Rows L2 L5 RZ
section
variable {K : PySem.W.Frag} {H H' : Hp}
/-- pairs of a tuple and a number -/
def Pr (K : PySem.W.Frag) (H : Hp) (z : Addr) (q : List Nat × Nat) : Prop := ∃ a, SqT K H z [.ref a, .int ((q.2 : Nat) : Int)] ∧ SqT K H a (nv q.1)
theorem Pr.same (e : Same H H') {z : Addr} {q : List Nat × Nat} : Pr K H z q → Pr K H' z q := fun ⟨a, h1, h2⟩ => ⟨a, same_sqt e h1, same_sqt e h2⟩
theorem Pr.updL {p : Addr} {ys : List V} {o : HO} (hp : H p = some (.lst ys)) {z : Addr} {q : List Nat × Nat} : Pr K H z q → Pr K (upd H p o) z q := fun ⟨a, h1, h2⟩ => ⟨a, sqt_updL hp h1, sqt_updL hp h2⟩
def Prs (K : PySem.W.Frag) (H : Hp) : List Addr → List (List Nat × Nat) → Prop := Paired (Pr K H)
theorem Prs.same (e : Same H H') : ∀ {rs : List Addr} {L : List (List Nat × Nat)}, Prs K H rs L → Prs K H' rs L
  | _, _, .nil => .nil
  | _, _, .cons h r => .cons (h.same e) (Prs.same e r)
theorem Prs.updL {p : Addr} {ys : List V} {o : HO} (hp : H p = some (.lst ys)) : ∀ {rs : List Addr} {L : List (List Nat × Nat)}, Prs K H rs L → Prs K (upd H p o) rs L
  | _, _, .nil => .nil
  | _, _, .cons h r => .cons (h.updL hp) (Prs.updL hp r)
theorem Prs.length : ∀ {rs : List Addr} {L : List (List Nat × Nat)}, Prs K H rs L → rs.length = L.length
  | _, _, .nil => rfl
  | _, _, .cons _ r => by rw [List.length_cons, List.length_cons, Prs.length r]
theorem Prs.app : ∀ {rs qs : List Addr} {L M : List (List Nat × Nat)}, Prs K H rs L → Prs K H qs M → Prs K H (rs ++ qs) (L ++ M)
  | _, _, _, _, .nil, h => h
  | _, _, _, _, .cons h r, k => .cons h (Prs.app r k)
theorem Prs.get : ∀ {rs : List Addr} {L : List (List Nat × Nat)} {i : Nat} {a : Addr}, Prs K H rs L → rs[i]? = some a → ∃ q, L[i]? = some q ∧ Pr K H a q
  | _, _, _, _, .nil, e => by simp at e
  | _, _, 0, _, .cons h _, e => by
    obtain rfl := Option.some.inj e
    exact ⟨_, rfl, h⟩
  | _, _, i + 1, _, .cons _ r, e => Prs.get r (i := i) e
end
section
variable {P : Program} {w : World} {K : PySem.W.Frag} {mg : Str → Option Value} {base : Heap}
abbrev extP (q : List Nat × Nat) : List (List Nat × Nat) := (List.range (q.2 + 1)).map fun e => (q.1 ++ [q.2 - e], e)
theorem pairs_len (d : Nat) : ∀ n, ∀ q ∈ pairsN d n, q.1.length = n
  | 0, q, h => by
    rw [List.mem_singleton.mp h]
    rfl
  | n + 1, q, h => by
    obtain ⟨u, hu, h2⟩ := List.mem_flatMap.mp h
    obtain ⟨e, _, rfl⟩ := List.mem_map.mp h2
    show (u.1 ++ [u.2 - e]).length = n + 1
    rw [List.length_append, pairs_len d n u hu]
    rfl
theorem flat_take_le {α β : Type} (f : α → List β) (L : List α) (j : Nat) : ((L.take j).flatMap f).length ≤ (L.flatMap f).length := by
  have e : L.flatMap f = (L.take j).flatMap f ++ (L.drop j).flatMap f := by rw [← List.flatMap_append, List.take_append_drop]
  rw [e, List.length_append]
  omega
def sp_lis (K : PySem.W.Frag) : Sp := fun vs H Q _ => ∃ l d : Nat, vs = [.int ((l : Nat) : Int), .int ((d : Nat) : Int)] ∧ 1 ≤ l ∧ l ≤ 4 ∧ d ≤ 6 ∧ Ok6 l d ∧
  ∀ (H' : Hp) (z : Addr) (rs : List Addr), Same H H' → H z = none → H' z = some (.lst (rs.map V.ref)) → Tups K H' rs (rows l d) → Q (.ref z) H'
theorem ok_lis (T : Txt K mg) : FnOk P w K mg base CX0 1 T.a_w_listed T.d_w_listed ["_law_letters", "_law_degree"] (sp_lis K) := by
  refine T.F_w_listed.ok sc_w_listed (fun vs H Q E h => ?_) (fun cdv A outer s H vs Q E hr h => ?_)
  · obtain ⟨l, d, rfl, _⟩ := h
    rfl
  · obtain ⟨l, d, rfl, h1, h4, hd, O, q⟩ := h
    refine ⟨_, pss_cons (ps_set (i := 2) sc_w_listed.nd rfl (Or.inl rfl) (pe_lst (pa_cons (pe_tup (pa_cons (pe_tup pa_nil) (pa_cons (pv 1) pa_nil))) pa_nil)))
      (pss_cons (ps_for PassesOwn.never rfl (pi_range1 rfl T.z_range (pa_cons (pe_op op_sub (pv 0) pe_int) pa_nil)) (pg_name (i := 3) sc_w_listed.nd rfl (Or.inl rfl))
        (pss_cons (ps_set (i := 4) sc_w_listed.nd rfl (Or.inl rfl) (pe_lst pa_nil))
        (pss_cons (ps_for PassesOwn.never rfl (pi_list (pe_callTy call_list_of (by rfl) T.z_list boot_list (pa_cons (pv 2) pa_nil))) (pg_tup (by rfl) (pgs_cons (pg_name (i := 5) sc_w_listed.nd rfl (Or.inr rfl)) (pgs_cons (pg_name (i := 6) sc_w_listed.nd rfl (Or.inr rfl)) pgs_nil)))
          (pss_one (ps_expr (pe_bm PySem.F.plainAttrs_list PySem.F.slot_list_extend PySem.F.type_list_extend mt_extend (pv 4) (pa_cons
            (pe_lc (own := [("_law_less", 7)]) (g := gName 7) (tt := tYes) rfl sc_w_listed.nd (pi_range1 rfl T.z_range (pa_cons (pe_op op_add (pv 6) pe_int) pa_nil)) (blkOk_by (own := [("_law_less", 7)]) (N := N_w_listed) (sc := defScope s_w_listed) (by decide +kernel))
              (fun _ _ _ _ _ => pg_name (i := 7) sc_w_listed.nd rfl (Or.inl rfl)) (fun _ _ _ _ _ => pts_nil)
              (fun _ _ _ _ _ => pe_tup (pa_cons (pe_op (show OpR _ _ (rCatB K) from op_catB) (pv 5) (pe_tup (pa_cons (pe_op op_sub (pv 6) (pv 7)) pa_nil))) (pa_cons (pv 7) pa_nil)))) pa_nil)))))
        (pss_one (ps_set (i := 2) sc_w_listed.nd rfl (Or.inl rfl) (pv 4))))))
      (pss_one (ps_ret 
        (pe_lc (own := [("_law_row", 5), ("_law_left", 6)]) (g := gTup K 2 (gCons (gName 5) (gCons (gName 6) gNil))) (tt := tYes) rfl sc_w_listed.nd (pi_list (pv 2)) (blkOk_by (own := [("_law_row", 5), ("_law_left", 6)]) (N := N_w_listed) (sc := defScope s_w_listed) (by decide +kernel))
          (fun _ _ _ _ _ => pg_tup (by rfl) (pgs_cons (pg_name (i := 5) sc_w_listed.nd rfl (Or.inl rfl)) (pgs_cons (pg_name (i := 6) sc_w_listed.nd rfl (Or.inl rfl)) pgs_nil))) (fun _ _ _ _ _ => pts_nil)
          (fun _ _ _ _ _ => pe_op (show OpR _ _ (rCatB K) from op_catB) (pv 5) (pe_tup (pa_cons (pv 6) pa_nil))))))), ?_⟩
    -- found = [((), degree)]
    refine ⟨Nat.zero_le _, fun z0 hz0 => ⟨_, rfl, by show 2 ≤ sizeLine; decide, fun z1 hz1 => ⟨by show 1 ≤ sizeLine; decide, fun f0 hf0 => ?_⟩⟩⟩
    have s0 := same_new hz0 (.tup [])
    have s1 := same_new hz1 (.tup [V.ref z0, V.int ((d : Nat) : Int)])
    have s2 := same_new hf0 (.lst [V.ref z1])
    have tf0 : Prs K (upd (upd (upd H z0 (.tup [])) z1 (.tup [V.ref z0, V.int ((d : Nat) : Int)])) f0 (.lst [V.ref z1])) [z1] (pairsN d 0) := .cons ⟨z0, same_sqt s2 (SqT.of upd_same), same_sqt (s1.trans s2) (SqT.of upd_same)⟩ .nil
    refine ⟨_, rfl, _, _, rfl, rfl, _, rfl, by omega, by omega, ?_⟩
    refine for_range (lo := 0) (n := (((l : Nat) : Int) - 1).toNat) (fun i σ H' => ∃ (f : Addr) (rs : List Addr) (v3 v4 v5 v6 : Option V), σ = [some (.int ((l : Nat) : Int)), some (.int ((d : Nat) : Int)), some (.ref f), v3, v4, v5, v6, none] ∧ Same H H' ∧ H' f = some (.lst (rs.map V.ref)) ∧ Prs K H' rs (pairsN d i))
      ⟨f0, [z1], none, none, none, none, rfl, s0.trans (s1.trans s2), upd_same, tf0⟩ ?_ ?_
    · rintro i σ H1 hi ⟨f, rs, v3, v4, v5, v6, rfl, sH, hf, hT⟩
      have sz1 := O.size (i + 1) (show i + 1 < l by omega)
      have sz0 := O.size i (show i < l by omega)
      refine ⟨Nat.zero_le _, fun m hm => ?_⟩
      have sm := same_new hm (.lst [])
      refine ⟨_, rfl, f, _, rfl, .inl (SqL.of (sm _ _ hf)), fun y hy => ?_⟩
      have sy := same_new hy (.lst (rs.map V.ref))
      have hmy : m ≠ y := ne_of_none upd_same hy
      have sH2 := sm.trans sy
      refine ⟨y, rfl, ⟨_, SqL.of upd_same⟩, ?_⟩
      refine for_list (K := K) (a := y) (xs := rs.map V.ref) (fun j σ H2 => ∃ (ms : List Addr) (v5 v6 : Option V), σ = [some (.int ((l : Nat) : Int)), some (.int ((d : Nat) : Int)), some (.ref f), some (.int (0 + ((i : Nat) : Int))), some (.ref m), v5, v6, none] ∧ Same H1 H2 ∧ H2 y = some (.lst (rs.map V.ref)) ∧ H2 m = some (.lst (ms.map V.ref)) ∧ Prs K H2 ms (((pairsN d i).take j).flatMap extP))
        ⟨[], v5, v6, rfl, sH2, upd_same, sy _ _ upd_same, .nil⟩ (fun j σ H2 _ ⟨_, _, _, _, _, hy2, _⟩ => SqL.of hy2) ?_ ?_
      · rintro j x σ H2 hx ⟨ms, v5, v6, rfl, s2, hy2, hm2, hT2⟩
        obtain ⟨a, ha, rfl⟩ := ref_get hx
        obtain ⟨⟨t, r⟩, ht, b, hta, htb⟩ := (hT.same s2).get ha
        have htm := List.mem_of_getElem? ht
        have hrd : r ≤ d := O.rest i (by omega) _ htm
        have hl : t.length = i := pairs_len d i _ htm
        refine ⟨a, _, rfl, hta, rfl, _, _, rfl, _, _, rfl, rfl, ?_⟩
        refine ⟨_, rfl, .inl ⟨rfl, _, SqL.of hm2⟩, ?_⟩
        refine ⟨_, rfl, _, _, rfl, rfl, _, rfl, by omega, by omega, fun D hD => ?_⟩
        have sD := same_new hD (.lst [])
        refine lc_range (lo := 0) (n := (((r : Nat) : Int) + 1).toNat) (fun k H3 => ∃ ds : List Addr, Same H2 H3 ∧ H3 D = some (.lst (ds.map V.ref)) ∧ Prs K H3 ds ((List.range k).map fun e => (t ++ [r - e], e))) ⟨[], sD, upd_same, .nil⟩ ?_ ?_
        · rintro k H3 hk ⟨ds, s3, hD3, hT3⟩
          refine ⟨rfl, _, rfl, _, rfl, _, rfl, _, _, rfl, rfl, by show 1 ≤ sizeLine; decide, fun z hz => ?_⟩
          have sz := same_new hz (.tup [V.int (((r : Nat) : Int) - (0 + ((k : Nat) : Int)))])
          refine ⟨b, z, _, _, rfl, rfl, same_sqt sz (same_sqt s3 htb), SqT.of upd_same, ?_, fun H5 z5 s5 hz5 => ?_⟩
          · rw [nv_len]
            exact Nat.le_of_lt (sizeK (by simp only [List.length_cons, List.length_nil]; omega))
          refine ⟨_, rfl, by show 2 ≤ sizeLine; decide, fun z6 hz6 => ?_⟩
          have s6 := same_new hz6 (.tup [V.ref z5, V.int (0 + ((k : Nat) : Int))])
          have S6 := sz.trans (s5.trans s6)
          have hlen3 := hT3.length
          rw [List.length_map, List.length_range] at hlen3
          have hD6 := S6 _ _ hD3
          refine ⟨ds.map V.ref, hD6, by rw [List.length_map]; exact sizeK (by omega), ds ++ [z6], same_updL (s3.trans S6) hD, by rw [upd_same, List.map_append]; rfl, ?_⟩
          rw [List.range_succ, List.map_append]
          have e1 : nv t ++ [V.int (((r : Nat) : Int) - (0 + ((k : Nat) : Int)))] = nv (t ++ [r - k]) := by
            rw [nv_app, Int.zero_add, show ((r : Nat) : Int) - ((k : Nat) : Int) = ((r - k : Nat) : Int) by omega]
            rfl
          rw [e1] at hz5
          refine ((hT3.same S6).updL hD6).app (.cons ⟨z5, sqt_updL hD6 ?_, sqt_updL hD6 (same_sqt s6 hz5)⟩ .nil)
          rw [Int.zero_add]
          exact SqT.of upd_same
        · rintro H3 ⟨ds, s3, hD3, hT3⟩
          rw [show (((r : Nat) : Int) + 1).toNat = r + 1 by omega] at hT3
          have hflat : (((pairsN d i).take (j + 1)).flatMap extP) = ((pairsN d i).take j).flatMap extP ++ extP (t, r) := by
            rw [take_more ht, List.flatMap_append]
            simp
          have hle : (ms ++ ds).length ≤ 400 := by
            rw [List.length_append, hT2.length, hT3.length]
            have e1 := flat_take_le extP (pairsN d i) (j + 1)
            rw [hflat, List.length_append] at e1
            have e2 : (pairsN d (i + 1)).length = ((pairsN d i).flatMap extP).length := rfl
            have e3 : (extP (t, r)).length = ((List.range (r + 1)).map fun e => (t ++ [r - e], e)).length := rfl
            omega
          have hmD : m ≠ D := ne_of_none hm2 hD
          have hm3 := s3 _ _ hm2
          refine ⟨m, D, _, _, rfl, rfl, hm3, hD3, ?_, ms ++ ds, some (.ref b), some (.int ((r : Nat) : Int)), rfl, same_updL (s2.trans s3) hm, ?_, by rw [upd_same, List.map_append], ?_⟩
          · rw [← List.length_append, ← List.map_append, List.length_map]
            exact Nat.le_of_lt (sizeK (by omega))
          · rw [upd_ne (Ne.symm hmy)]
            exact s3 _ _ hy2
          · rw [hflat]
            exact ((hT2.same s3).updL hm3).app (hT3.updL hm3)
      · rintro σ H2 ⟨ms, v5, v6, rfl, s2, hy2, hm2, hT2⟩
        rw [List.length_map, hT.length, List.take_length] at hT2
        refine ⟨_, rfl, ?_⟩
        exact ⟨m, ms, some (.int (0 + ((i : Nat) : Int))), some (.ref m), v5, v6, rfl, sH.trans s2, hm2, hT2⟩
    · rintro σ H1 ⟨f, rs, v3, v4, v5, v6, rfl, sH, hf, hT⟩
      rw [show (((l : Nat) : Int) - 1).toNat = l - 1 by omega] at hT
      have sz0 := O.size (l - 1) (show l - 1 < l by omega)
      refine ⟨_, rfl, f, rfl, ⟨_, SqL.of hf⟩, fun D hD => ?_⟩
      have sD := same_new hD (.lst [])
      have eas : ∀ j : Nat, (rows l d).take j = ((pairsN d (l - 1)).take j).map fun q => q.1 ++ [q.2] := fun j => List.map_take.symm
      refine lc_list (K := K) (a := f) (xs := rs.map V.ref) (fun j H2 => ∃ ds : List Addr, Same H1 H2 ∧ H2 D = some (.lst (ds.map V.ref)) ∧ Tups K H2 ds ((rows l d).take j)) ⟨[], sD, upd_same, .nil⟩ (fun j H2 _ ⟨_, s2, _⟩ => s2.seq (SqL.of hf)) ?_ ?_
      · rintro j x H2 hx ⟨ds, s2, hD2, hT2⟩
        obtain ⟨a, ha, rfl⟩ := ref_get hx
        obtain ⟨⟨t, r⟩, ht, b, hta, htb⟩ := (hT.same s2).get ha
        have htm := List.mem_of_getElem? ht
        have hl : t.length = l - 1 := pairs_len d (l - 1) _ htm
        refine ⟨a, _, rfl, hta, rfl, _, _, rfl, _, _, rfl, rfl, ?_⟩
        refine ⟨rfl, _, rfl, _, rfl, by show 1 ≤ sizeLine; decide, fun z hz => ?_⟩
        have sz := same_new hz (.tup [V.int ((r : Nat) : Int)])
        refine ⟨b, z, _, _, rfl, rfl, same_sqt sz htb, SqT.of upd_same, ?_, fun H5 z5 s5 hz5 => ?_⟩
        · rw [nv_len]
          exact Nat.le_of_lt (sizeK (by simp only [List.length_cons, List.length_nil]; omega))
        have s6 : Same H2 H5 := sz.trans s5
        have hlen3 := hT2.length
        rw [eas, List.length_map, List.length_take] at hlen3
        refine ⟨ds.map V.ref, s6 _ _ hD2, by rw [List.length_map]; exact sizeK (by omega), ds ++ [z5], same_updL (s2.trans s6) hD, by rw [upd_same, List.map_append]; rfl, ?_⟩
        have hz6 : SqT K H5 z5 (nv (t ++ [r])) := by
          rw [nv_app]
          exact hz5
        rw [eas, take_more ht, List.map_append, ← eas]
        exact ((hT2.same s6).updL (s6 _ _ hD2)).app (.cons (sqt_updL (s6 _ _ hD2) hz6) .nil)
      · rintro H2 ⟨ds, s2, hD2, hT2⟩
        have el : (rows l d).length = rs.length := by
          rw [hT.length]
          exact List.length_map _
        rw [List.length_map, ← el, List.take_length] at hT2
        exact q H2 D ds (sH.trans s2) (Same.free sH hD) hD2 hT2
end
end L6

/-! shares and growth bounds: a mirror in plain Lean -/
namespace L6
open L5
def topF (n d : Nat) : Nat → Nat → Nat
  | 0, k => k
  | f + 1, k => if C (k + 1) d ≤ n then topF n d f (k + 1) else k
def shN : Nat → Nat → List (Nat × Nat)
  | 0, _ => []
  | d + 1, n => if n = 0 then [] else (topF n (d + 1) n (d + 1), d + 1) :: shN d (n - C (topF n (d + 1) n (d + 1)) (d + 1))
def bd (L : List (Nat × Nat)) : Nat := (L.map fun p => C (p.1 + 1) (p.2 + 1)).sum
abbrev G (d n : Nat) : Nat := bd (shN d n)
structure IsTop (n d k : Nat) : Prop where
  lo : C k d ≤ n
  hi : n < C (k + 1) d
theorem C_mono (d : Nat) : ∀ {a b : Nat}, a ≤ b → C a d ≤ C b d := by
  intro a b h
  induction b with
  | zero =>
    rw [show a = 0 by omega]
    exact Nat.le_refl _
  | succ b ih =>
    by_cases c : a ≤ b
    · refine Nat.le_trans (ih c) ?_
      cases d with
      | zero => rw [C_zero, C_zero]; exact Nat.le_refl _
      | succ d => rw [C_succ]; omega
    · rw [show a = b + 1 by omega]
      exact Nat.le_refl _
theorem IsTop.uniq {n d k j : Nat} (h : IsTop n d k) (g : IsTop n d j) : k = j := by
  rcases Nat.lt_trichotomy k j with z | z | z
  · have := C_mono d (show k + 1 ≤ j from z)
    have := h.hi
    have := g.lo
    omega
  · exact z
  · have := C_mono d (show j + 1 ≤ k from z)
    have := g.hi
    have := h.lo
    omega
theorem top_spec (n d : Nat) : ∀ f k : Nat, C k d ≤ n → n < C (k + f + 1) d → IsTop n d (topF n d f k)
  | 0, k, h, g => ⟨h, g⟩
  | f + 1, k, h, g => by
    unfold topF
    by_cases c : C (k + 1) d ≤ n
    · rw [if_pos c]
      exact top_spec n d f (k + 1) c (by rw [show k + 1 + f + 1 = k + (f + 1) + 1 by omega]; exact g)
    · rw [if_neg c]
      exact ⟨h, by omega⟩
theorem C_far (d : Nat) : ∀ j : Nat, j + 1 ≤ C (d + 1 + j) (d + 1)
  | 0 => by rw [Nat.add_zero, C_self]; exact Nat.le_refl _
  | j + 1 => by
    have h := C_far d j
    have hp := C_pos (show d ≤ d + 1 + j by omega)
    rw [show d + 1 + (j + 1) = (d + 1 + j) + 1 by omega, C_succ]
    omega
theorem top_is {n d : Nat} (h : 0 < n) : IsTop n (d + 1) (topF n (d + 1) n (d + 1)) := by
  refine top_spec n (d + 1) n (d + 1) (by rw [C_self]; exact h) ?_
  have h1 := C_far d (n + 1)
  rw [show d + 1 + n + 1 = d + 1 + (n + 1) by omega]
  omega
theorem sh_zero (d : Nat) : shN d 0 = [] := by
  cases d with
  | zero => rfl
  | succ d =>
    unfold shN
    rw [if_pos rfl]
theorem sh_step {n d k : Nat} (h : 0 < n) (t : IsTop n (d + 1) k) : shN (d + 1) n = (k, d + 1) :: shN d (n - C k (d + 1)) := by
  have e := (top_is h).uniq t
  conv => lhs; unfold shN
  rw [if_neg (by omega), e]
theorem IsTop.ge {n d k : Nat} (h : 0 < n) (t : IsTop n d k) : d ≤ k := by
  rcases Nat.lt_or_ge k d with c | c
  · have h1 := t.hi
    rcases Nat.lt_or_ge (k + 1) d with e | e
    · rw [C_over e] at h1
      omega
    · have : d = k + 1 := by omega
      subst this
      rw [C_self] at h1
      omega
  · exact c
theorem IsTop.rest {n d k : Nat} (t : IsTop n (d + 1) k) : n - C k (d + 1) < C k d := by
  have h1 := t.hi
  have h2 := t.lo
  rw [C_succ] at h1
  omega
theorem top_one (n : Nat) : IsTop n 1 n := by
  have e : ∀ m, C m 1 = m := fun m => by
    induction m with
    | zero => rfl
    | succ m ih => rw [C_succ, C_zero, ih]; omega
  exact ⟨by rw [e]; exact Nat.le_refl _, by rw [e]; exact Nat.lt_succ_self _⟩
theorem C_one (m : Nat) : C m 1 = m := by
  induction m with
  | zero => rfl
  | succ m ih => rw [C_succ, C_zero, ih]; omega
theorem ex_top {n d : Nat} (h : 0 < n) : ∃ k, IsTop n (d + 1) k := ⟨_, top_is h⟩
/-- the shares add up to the number -/
theorem sh_sum : ∀ (d n : Nat), 1 ≤ d ∨ n = 0 → ((shN d n).map fun p => C p.1 p.2).sum = n
  | 0, n, h => by
    have : n = 0 := by omega
    subst this
    rfl
  | d + 1, n, _ => by
    rcases Nat.eq_zero_or_pos n with z | z
    · subst z
      rw [sh_zero]
      rfl
    · obtain ⟨k, t⟩ := ex_top (d := d) z
      have h1 := t.rest
      have h2 := t.lo
      have ih := sh_sum d (n - C k (d + 1)) (by
        cases d with
        | zero =>
          rw [C_zero] at h1
          omega
        | succ d => omega)
      rw [sh_step z t, List.map_cons, List.sum_cons, ih]
      show C k (d + 1) + (n - C k (d + 1)) = n
      omega
theorem sh_len : ∀ (d n : Nat), (shN d n).length ≤ d
  | 0, n => Nat.le_refl _
  | d + 1, n => by
    rcases Nat.eq_zero_or_pos n with z | z
    · subst z
      rw [sh_zero]
      exact Nat.zero_le _
    · obtain ⟨k, t⟩ := ex_top (d := d) z
      have := sh_len d (n - C k (d + 1))
      rw [sh_step z t, List.length_cons]
      omega
theorem sh_head {d n : Nat} {p : Nat × Nat} {r : List (Nat × Nat)} (h : shN d n = p :: r) : ∃ e, d = e + 1 ∧ 0 < n ∧ p.2 = d ∧ IsTop n d p.1 ∧ r = shN e (n - C p.1 d) := by
  cases d with
  | zero => cases h
  | succ d =>
    rcases Nat.eq_zero_or_pos n with z | z
    · subst z
      rw [sh_zero] at h
      cases h
    · obtain ⟨k, t⟩ := ex_top (d := d) z
      rw [sh_step z t] at h
      cases h
      exact ⟨d, rfl, z, rfl, t, rfl⟩
/-- each share: its number is at least its degree, which is at least 1 -/
theorem sh_ok : ∀ (d n : Nat), ∀ p ∈ shN d n, p.2 ≤ p.1 ∧ 1 ≤ p.2 ∧ p.2 ≤ d ∧ p.1 ≤ n + d
  | 0, n, p, h => by cases h
  | d + 1, n, p, h => by
    rcases Nat.eq_zero_or_pos n with z | z
    · subst z
      rw [sh_zero] at h
      cases h
    · obtain ⟨k, t⟩ := ex_top (d := d) z
      rw [sh_step z t] at h
      rcases List.mem_cons.mp h with e | e
      · subst e
        refine ⟨t.ge z, by show 1 ≤ d + 1; omega, Nat.le_refl _, ?_⟩
        show k ≤ n + (d + 1)
        rcases Nat.lt_or_ge (n + (d + 1)) k with c | c
        · have h1 := C_far d (n + 1)
          have h2 := C_mono (d + 1) (show d + 1 + (n + 1) - 1 + 1 ≤ k by omega)
          have h3 := t.lo
          rw [show d + 1 + (n + 1) - 1 + 1 = d + 1 + (n + 1) by omega] at h2
          omega
        · exact c
      · have := sh_ok d _ p e
        omega
/-- they fall -/
theorem sh_fall : ∀ (d n i : Nat) (p q : Nat × Nat), (shN d n)[i]? = some p → (shN d n)[i + 1]? = some q → q.1 < p.1 ∧ p.2 = q.2 + 1
  | 0, n, i, p, q, h, _ => by simp [shN] at h
  | d + 1, n, i, p, q, h, g => by
    rcases Nat.eq_zero_or_pos n with z | z
    · subst z
      rw [sh_zero] at h
      simp at h
    · obtain ⟨k, t⟩ := ex_top (d := d) z
      rw [sh_step z t] at h g
      cases i with
      | zero =>
        obtain rfl := Option.some.inj h
        rw [List.getElem?_cons_succ] at g
        cases e : shN d (n - C k (d + 1)) with
        | nil =>
          rw [e] at g
          simp at g
        | cons x r =>
          rw [e] at g
          obtain rfl := Option.some.inj g
          obtain ⟨e', hd, hp, h2, ht, _⟩ := sh_head e
          have h1 := t.rest
          have h3 := ht.lo
          refine ⟨?_, by rw [h2]⟩
          rcases Nat.lt_or_ge x.1 k with c | c
          · exact c
          · have := C_mono d c
            omega
      | succ i =>
        rw [List.getElem?_cons_succ] at h g
        exact sh_fall d _ i p q h g
theorem bd_cons (p : Nat × Nat) (L : List (Nat × Nat)) : bd (p :: L) = C (p.1 + 1) (p.2 + 1) + bd L := by
  unfold bd
  rw [List.map_cons, List.sum_cons]
theorem G_zero (d : Nat) : G d 0 = 0 := by
  show bd (shN d 0) = 0
  rw [sh_zero]
  rfl
theorem G_step {n d k : Nat} (h : 0 < n) (t : IsTop n (d + 1) k) : G (d + 1) n = C (k + 1) (d + 2) + G d (n - C k (d + 1)) := by
  show bd (shN (d + 1) n) = _
  rw [sh_step h t, bd_cons]
theorem G_top {d k : Nat} (h : d + 1 ≤ k) : G (d + 1) (C k (d + 1)) = C (k + 1) (d + 2) := by
  have hp := C_pos (show d ≤ k by omega)
  have hp2 := C_pos h
  have t : IsTop (C k (d + 1)) (d + 1) k := ⟨Nat.le_refl _, by rw [C_succ]; omega⟩
  rw [G_step hp2 t, Nat.sub_self, G_zero, Nat.add_zero]
/-- growth bounds rise -/
theorem G_lt : ∀ (d n : Nat), G (d + 1) n < G (d + 1) (n + 1)
  | d, n => by
    rcases Nat.eq_zero_or_pos n with z | z
    · subst z
      rw [G_zero]
      have t : IsTop 1 (d + 1) (d + 1) := ⟨by rw [C_self]; exact Nat.le_refl _, by rw [C_succ, C_self]; have := C_pos (show d ≤ d + 1 by omega); have h2 := C_far d 1; rw [show d + 1 + 1 = (d + 1) + 1 from rfl, C_succ, C_self] at h2; omega⟩
      rw [G_step Nat.one_pos t]
      have := C_pos (show d + 2 ≤ d + 1 + 1 by omega)
      omega
    · obtain ⟨k, t⟩ := ex_top (d := d) z
      have hr := t.rest
      have hl := t.lo
      have hk := t.ge z
      rw [G_step z t]
      by_cases c : n - C k (d + 1) + 1 < C k d
      · have t' : IsTop (n + 1) (d + 1) k := ⟨by omega, by rw [C_succ]; omega⟩
        rw [G_step (Nat.succ_pos n) t', show n + 1 - C k (d + 1) = n - C k (d + 1) + 1 by omega]
        cases d with
        | zero =>
          rw [C_zero] at c
          omega
        | succ d =>
          have := G_lt d (n - C k (d + 1 + 1))
          omega
      · have e : n + 1 = C (k + 1) (d + 1) := by rw [C_succ]; omega
        rw [e, G_top (show d + 1 ≤ k + 1 by omega)]
        have e2 : C (k + 1 + 1) (d + 2) = C (k + 1) (d + 1) + C (k + 1) (d + 2) := C_succ _ _
        have : G d (n - C k (d + 1)) < C (k + 1) (d + 1) := by
          cases d with
          | zero =>
            show 0 < C (k + 1) 1
            rw [C_one]
            omega
          | succ d =>
            have mono : ∀ a b, a < b → G (d + 1) a < G (d + 1) b := by
              intro a b hab
              induction b with
              | zero => omega
              | succ b ih =>
                by_cases e' : a = b
                · subst e'
                  exact G_lt d a
                · exact Nat.lt_trans (ih (by omega)) (G_lt d b)
            have h3 := mono _ _ hr
            rw [G_top (show d + 1 ≤ k by omega)] at h3
            exact h3
        omega
/-- products one degree higher that the first ones leave -/
def divB (u t : List Nat) : Bool := (List.zipWith (fun a b => Nat.ble a b) u t).all id
def hasB (L : List (List Nat)) (t : List Nat) : Bool := L.any fun u => divB u t
def leftN (l d m : Nat) : Nat := ((rows l (d + 1)).filter fun t => !hasB ((rows l d).take ((rows l d).length - m)) t).length
def okG (l d : Nat) : Bool := (List.range (W (l - 1) (d + 1) + 1)).all fun m => G d m == leftN l d m
theorem all_okG : (List.range 3).all (fun i => (List.range 4).all fun d => okG (i + 2) (d + 1)) = true := by decide +kernel
theorem G_left {l d m : Nat} (h2 : 2 ≤ l) (h4 : l ≤ 4) (hd : 1 ≤ d) (hd4 : d ≤ 4) (hm : m ≤ W (l - 1) (d + 1)) : G d m = leftN l d m := by
  have h := List.all_eq_true.mp all_okG (l - 2) (List.mem_range.mpr (by omega))
  rw [show l - 2 + 2 = l by omega] at h
  have g := List.all_eq_true.mp h (d - 1) (List.mem_range.mpr (by omega))
  rw [show d - 1 + 1 = d by omega] at g
  exact beq_iff_eq.mp (List.all_eq_true.mp g m (List.mem_range.mpr (by omega)))
end L6

namespace L6
open PySem PySem.Spec PyProof.Rows L2 L5 RZ
section
variable {P : Program} {w : World} {K : PySem.W.Frag} {mg : Str → Option Value} {base : Heap}
abbrev prs (L : List (Nat × Nat)) : List (List Nat) := L.map fun p => [p.1, p.2]
theorem nv_two (a b : Nat) : [V.int ((a : Nat) : Int), V.int ((b : Nat) : Int)] = nv [a, b] := rfl
theorem cho_nat (a k : Nat) : (if ((a : Nat) : Int) < ((k : Nat) : Int) then (0 : Int) else ((C ((a : Nat) : Int).toNat k : Nat) : Int)) = ((C a k : Nat) : Int) := by
  rw [Int.toNat_natCast]
  by_cases c : a < k
  · rw [if_pos (by omega), C_over c]
    rfl
  · rw [if_neg (by omega)]
/-! ### greatest_top -/
def sp_gto : Sp := fun vs H Q _ => ∃ (n d b k : Nat), vs = [.int ((n : Nat) : Int), .int ((d : Nat) : Int), .int ((b : Nat) : Int)] ∧ 0 < n ∧ IsTop n d k ∧ n < C b d ∧ d ≤ 100 ∧ b ≤ 100000000 ∧ Q (.int ((k : Nat) : Int)) H
theorem ok_gto (T : Txt K mg) : FnOk P w K mg base CX0 2 T.a_greatest_top T.d_greatest_top ["number", "bottom", "beyond"] sp_gto := by
  refine T.F_greatest_top.ok sc_greatest_top (fun vs H Q E h => ?_) (fun cdv A outer s H vs Q E hr h => ?_)
  · obtain ⟨n, d, b, k, rfl, _⟩ := h
    rfl
  · obtain ⟨n, d, b, k, rfl, hn, ht, hb, hd, hb8, q⟩ := h
    refine ⟨_, pss_cons (ps_set (i := 3) sc_greatest_top.nd rfl (Or.inl rfl) (pv 1))
      (pss_cons (ps_while PassesOwn.never (pt_cmpR op_gt (pe_op op_sub (pv 2) (pv 3)) pe_int (nomark _))
        (pss_cons (ps_set (i := 4) sc_greatest_top.nd rfl (Or.inl rfl) (PE.weak (t' := fun σ' H' Q' => ∃ lo hi : Nat, σ'[3]? = some (some (.int ((lo : Nat) : Int))) ∧ σ'[2]? = some (some (.int ((hi : Nat) : Int))) ∧ Q' (.int (((lo + hi) / 2 : Nat) : Int)) H') (pe_op op_fdiv (pe_op op_add (pv 3) (pv 2)) pe_int) ?w))
        (pss_one (ps_if (pt_cmpR op_le (pe_call (ok_cho T) hr (by rfl) T.m_choices T.F_choices.kp T.b_choices .nil pass0 (pa_cons (pv 4) (pa_cons (pv 1) pa_nil))) (pv 0) (nomark _))
          (pss_one (ps_set (i := 3) sc_greatest_top.nd rfl (Or.inl rfl) (pv 4))) (pss_one (ps_set (i := 2) sc_greatest_top.nd rfl (Or.inl rfl) (pv 4)))))))
      (pss_one (ps_ret (pv 3)))), ?_⟩
    case w =>
      rintro σ' H' Q' ⟨lo, hi, e3, e2, q'⟩
      refine ⟨_, e3, _, e2, _, _, rfl, rfl, _, _, rfl, rfl, ⟨by decide, by decide⟩, ?_⟩
      have em : (((lo : Nat) : Int) + ((hi : Nat) : Int)) / 2 = (((lo + hi) / 2 : Nat) : Int) := by omega
      show Q' (.int ((((lo : Nat) : Int) + ((hi : Nat) : Int)) / 2)) H'
      rw [em]
      exact q'
    have hdb : d < b := by
      rcases Nat.lt_or_ge d b with c | c
      · exact c
      · have := C_mono d c
        rw [C_self] at this
        omega
    refine ⟨_, rfl, ?_⟩
    refine ⟨fun m σ H' => H' = H ∧ ∃ (lo hi : Nat) (v4 : Option V), lo + m = hi ∧ lo < hi ∧ C lo d ≤ n ∧ n < C hi d ∧ hi ≤ 100000000 ∧ σ = [some (.int ((n : Nat) : Int)), some (.int ((d : Nat) : Int)), some (.int ((hi : Nat) : Int)), some (.int ((lo : Nat) : Int)), v4], ⟨b - d, rfl, d, b, none, by omega, hdb, by rw [C_self]; exact hn, hb, hb8, rfl⟩, ?_⟩
    · rintro m σ H' ⟨rfl, lo, hi, v4, hm, hlt, hlo, hhi, h8, rfl⟩
      refine ⟨_, rfl, _, rfl, _, _, rfl, rfl, _, _, rfl, rfl, _, rfl, ite2 (fun c => ?_) (fun c => ?_)⟩
      · have c' := of_decide_eq_true c
        have mid1 : lo < (lo + hi) / 2 := by omega
        have mid2 : (lo + hi) / 2 < hi := by omega
        refine ⟨fun σ' H'' => ∃ m', m' < m ∧ (H'' = H' ∧ ∃ (lo hi : Nat) (v4 : Option V), lo + m' = hi ∧ lo < hi ∧ C lo d ≤ n ∧ n < C hi d ∧ hi ≤ 100000000 ∧ σ' = [some (.int ((n : Nat) : Int)), some (.int ((d : Nat) : Int)), some (.int ((hi : Nat) : Int)), some (.int ((lo : Nat) : Int)), v4]), fun σ' H'' h => h, ?_⟩
        refine ⟨lo, hi, rfl, rfl, ?_⟩
        generalize (lo + hi) / 2 = mid at mid1 mid2
        refine ⟨_, rfl, _, rfl, _, _, d, rfl, rfl, by omega, by omega, ?_⟩
        rw [cho_nat]
        refine ⟨_, rfl, _, _, rfl, rfl, _, rfl, ite2 (fun e => ?_) (fun e => ?_)⟩
        · have e' := of_decide_eq_true e
          exact ⟨_, rfl, hi - mid, by omega, rfl, mid, hi, _, by omega, mid2, by omega, hhi, h8, rfl⟩
        · have e' : ¬ _ := fun z => e (decide_eq_true z)
          exact ⟨_, rfl, mid - lo, by omega, rfl, lo, mid, _, by omega, mid1, hlo, by omega, by omega, rfl⟩
      · have c' : ¬ _ := fun z => c (decide_eq_true z)
        have e1 : hi = lo + 1 := by omega
        subst e1
        have := ht.uniq (⟨hlo, hhi⟩ : IsTop n d lo)
        subst this
        exact ⟨_, rfl, q⟩
/-! ### shares_of, bound_of -/
def sp_sho (K : PySem.W.Frag) : Sp := fun vs H Q _ => ∃ (n d : Nat), vs = [.int ((n : Nat) : Int), .int ((d : Nat) : Int)] ∧ 1 ≤ d ∧ d ≤ 60 ∧ n ≤ 1000000 ∧
  ∀ (H' : Hp) (z : Addr) (rs : List Addr), Same H H' → SqT K H' z (rs.map V.ref) → Tups K H' rs (prs (shN d n)) → Q (.ref z) H'
theorem ok_sho (T : Txt K mg) : FnOk P w K mg base CX0 3 T.a_shares_of T.d_shares_of ["number", "degree"] (sp_sho K) := by
  refine T.F_shares_of.ok sc_shares_of (fun vs H Q E h => ?_) (fun cdv A outer s H vs Q E hr h => ?_)
  · obtain ⟨n, d, rfl, _⟩ := h
    rfl
  · obtain ⟨n, d, rfl, hd1, hd6, hn6, q⟩ := h
    refine ⟨_, pss_cons (ps_set (i := 2) sc_shares_of.nd rfl (Or.inl rfl) (pe_lst pa_nil))
      (pss_cons (ps_par (i := 3) (j := 4) (by rfl) sc_shares_of.nd rfl rfl (by decide) rfl rfl (pa_cons (pv 0) (pa_cons (pe_op op_add (pv 0) (pv 1)) pa_nil)) (by rfl))
      (pss_cons (ps_while PassesOwn.never (pt_cmpR op_gt (pv 3) pe_int (nomark _))
        (pss_cons (ps_set (i := 4) sc_shares_of.nd rfl (Or.inl rfl) (pe_call (ok_gto T) hr (by rfl) T.m_greatest_top T.F_greatest_top.kp T.b_greatest_top .nil pass0 (pa_cons (pv 3) (pa_cons (pv 1) (pa_cons (pv 4) pa_nil)))))
        (pss_cons (ps_expr (pe_bm PySem.F.plainAttrs_list PySem.F.slot_list_append PySem.F.type_list_append mt_append (pv 2) (pa_cons (pe_tup (pa_cons (pv 4) (pa_cons (pv 1) pa_nil))) pa_nil)))
        (pss_cons (ps_aug (i := 3) sc_shares_of.nd rfl (Or.inl rfl) (pe_call (ok_cho T) (hr.mono (by decide)) (by rfl) T.m_choices T.F_choices.kp T.b_choices .nil pass0 (pa_cons (pv 4) (pa_cons (pv 1) pa_nil))) ip_sub)
        (pss_one (ps_aug (i := 1) sc_shares_of.nd rfl (Or.inl rfl) pe_int ip_sub))))))
      (pss_one (ps_ret (pe_callTy call_tuple_of (by rfl) T.z_tuple boot_tuple (pa_cons (pv 2) pa_nil)))))), ?_⟩
    refine ⟨Nat.zero_le _, fun x hx => ?_⟩
    have sx := same_new hx (.lst [])
    refine ⟨_, rfl, _, rfl, _, rfl, _, _, rfl, rfl, _, _, rfl, ?_⟩
    have hfar : n < C (n + d) d := by
      have := C_far (d - 1) n
      rw [show d - 1 + 1 = d by omega, Nat.add_comm d n] at this
      omega
    refine ⟨fun m σ H' => ∃ (r b : Nat) (L : List (Nat × Nat)) (rs : List Addr), σ = [some (.int ((n : Nat) : Int)), some (.int ((m : Nat) : Int)), some (.ref x), some (.int ((r : Nat) : Int)), some (.int ((b : Nat) : Int))] ∧ L ++ shN m r = shN d n ∧ (1 ≤ m ∨ r = 0) ∧ r < C b m ∧ b ≤ n + d ∧ m + L.length ≤ d ∧ r ≤ n ∧ Same H H' ∧ H' x = some (.lst (rs.map V.ref)) ∧ Tups K H' rs (prs L),
      ⟨d, n, n + d, [], [], rfl, rfl, .inl hd1, hfar, Nat.le_refl _, by simp, Nat.le_refl _, sx, upd_same, .nil⟩, ?_⟩
    rintro m σ H1 ⟨r, b, L, rs, rfl, hL, hm, hrb, hb, hml, hrn, s1, hx1, hT⟩
    refine ⟨_, rfl, _, _, rfl, rfl, _, rfl, ite2 (fun c => ?_) (fun c => ?_)⟩
    · have c' : 0 < r := by
        have := of_decide_eq_true c
        omega
      obtain ⟨e, rfl⟩ : ∃ e, m = e + 1 := ⟨m - 1, by omega⟩
      obtain ⟨k, t⟩ := ex_top (d := e) c'
      have hk := t.ge c'
      have hlo := t.lo
      have hrest := t.rest
      have hkb : k ≤ b := by
        rcases Nat.lt_or_ge b k with z | z
        · have := C_mono (e + 1) (show b ≤ k by omega)
          omega
        · exact z
      refine ⟨fun σ' H'' => ∃ m', m' < e + 1 ∧ ∃ (r b : Nat) (L : List (Nat × Nat)) (rs : List Addr), σ' = [some (.int ((n : Nat) : Int)), some (.int ((m' : Nat) : Int)), some (.ref x), some (.int ((r : Nat) : Int)), some (.int ((b : Nat) : Int))] ∧ L ++ shN m' r = shN d n ∧ (1 ≤ m' ∨ r = 0) ∧ r < C b m' ∧ b ≤ n + d ∧ m' + L.length ≤ d ∧ r ≤ n ∧ Same H H'' ∧ H'' x = some (.lst (rs.map V.ref)) ∧ Tups K H'' rs (prs L), fun σ' H'' h => h, ?_⟩
      refine ⟨_, rfl, _, rfl, _, rfl, r, e + 1, b, k, rfl, c', t, hrb, by omega, by omega, ?_⟩
      refine ⟨_, rfl, .inl ⟨rfl, _, SqL.of hx1⟩, _, rfl, _, rfl, by show 2 ≤ sizeLine; decide, fun z hz => ?_⟩
      have sz := same_new hz (.tup [V.int ((k : Nat) : Int), V.int ((e + 1 : Nat) : Int)])
      have hx2 := sz _ _ hx1
      have hrl := hT.length
      rw [List.length_map] at hrl
      refine ⟨x, _, _, rfl, rfl, hx2, by rw [List.length_map]; exact sizeK (by omega), ?_⟩
      refine ⟨_, rfl, _, rfl, _, rfl, _, _, e + 1, rfl, rfl, by omega, by omega, ?_⟩
      rw [cho_nat]
      refine ⟨_, _, rfl, rfl, _, rfl, _, _, rfl, rfl, e, by omega, r - C k (e + 1), k, L ++ [(k, e + 1)], rs ++ [z], ?_, ?_, ?_, hrest, by omega, ?_, by omega, same_updL (s1.trans sz) hx, by rw [upd_same, List.map_append]; rfl, ?_⟩
      · have e1 : ((r : Nat) : Int) - ((C k (e + 1) : Nat) : Int) = ((r - C k (e + 1) : Nat) : Int) := by omega
        have e2 : ((e + 1 : Nat) : Int) - 1 = ((e : Nat) : Int) := by omega
        show [some (V.int ((n : Nat) : Int)), some (V.int (((e + 1 : Nat) : Int) - 1)), some (V.ref x), some (V.int (((r : Nat) : Int) - ((C k (e + 1) : Nat) : Int))), some (V.int ((k : Nat) : Int))] = _
        rw [e1, e2]
      · rw [← hL, sh_step c' t, List.append_assoc]
        rfl
      · cases e with
        | zero =>
          rw [C_zero] at hrest
          omega
        | succ e => omega
      · rw [List.length_append, List.length_singleton]
        omega
      · rw [show prs (L ++ [(k, e + 1)]) = prs L ++ [[k, e + 1]] from List.map_append]
        exact ((hT.same sz).updL hx2).app (.cons (sqt_updL hx2 (SqT.of upd_same)) .nil)
    · have c' : ¬ _ := fun z => c (decide_eq_true z)
      have r0 : r = 0 := by omega
      subst r0
      rw [sh_zero, List.append_nil] at hL
      subst hL
      refine ⟨_, rfl, x, _, rfl, .inl ⟨SqL.of hx1, fun z hz => ?_⟩⟩
      have sz := same_new hz (.tup (rs.map V.ref))
      exact q _ z rs (s1.trans sz) (SqT.of upd_same) (hT.same sz)
theorem sh_bound {d n : Nat} {p : Nat × Nat} (hd6 : d ≤ 60) (hn : n ≤ 1000000) (h : p ∈ shN d n) : p.2 ≤ p.1 ∧ 1 ≤ p.2 ∧ p.2 ≤ 60 ∧ p.1 ≤ 1000060 := by
  have := sh_ok d n p h
  omega
theorem pt_get {H : Hp} {rs : List Addr} {L : List (Nat × Nat)} {i : Nat} {a : Addr} (h : Tups K H rs (prs L)) (e : rs[i]? = some a) : ∃ p, L[i]? = some p ∧ SqT K H a [.int ((p.1 : Nat) : Int), .int ((p.2 : Nat) : Int)] := by
  obtain ⟨t, ht, hs⟩ := h.get e
  rw [List.getElem?_map] at ht
  cases g : L[i]? with
  | none =>
    rw [g] at ht
    cases ht
  | some p =>
    rw [g] at ht
    obtain rfl := Option.some.inj ht
    exact ⟨p, rfl, hs⟩
def sp_bof : Sp := fun vs H Q _ => ∃ (n d : Nat), vs = [.int ((n : Nat) : Int), .int ((d : Nat) : Int)] ∧ 1 ≤ d ∧ d ≤ 60 ∧ n ≤ 1000000 ∧ ∀ H', Same H H' → Q (.int ((G d n : Nat) : Int)) H'
theorem ok_bof (T : Txt K mg) : FnOk P w K mg base CX0 4 T.a_bound_of T.d_bound_of ["number", "degree"] sp_bof := by
  refine T.F_bound_of.ok sc_bound_of (fun vs H Q E h => ?_) (fun cdv A outer s H vs Q E hr h => ?_)
  · obtain ⟨n, d, rfl, _⟩ := h
    rfl
  · obtain ⟨n, d, rfl, hd1, hd6, hn6, q⟩ := h
    refine ⟨_, pss_one (ps_ret (pe_callB (cr_sum rfl) (by rfl) T.z_sum boot_sum (pa_cons
      (pe_lc (own := [("top", 2), ("bottom", 3)]) (g := gTup K 2 (gCons (gName 2) (gCons (gName 3) gNil))) (tt := tYes) rfl sc_bound_of.nd (pi_tup (pe_call (ok_sho T) hr (by rfl) T.m_shares_of T.F_shares_of.kp T.b_shares_of .nil pass0 (pa_cons (pv 0) (pa_cons (pv 1) pa_nil)))) (blkOk_by (own := [("top", 2), ("bottom", 3)]) (N := N_bound_of) (sc := defScope s_bound_of) (by decide +kernel))
          (fun _ _ _ _ _ => pg_tup (by rfl) (pgs_cons (pg_name (i := 2) sc_bound_of.nd rfl (Or.inl rfl)) (pgs_cons (pg_name (i := 3) sc_bound_of.nd rfl (Or.inl rfl)) pgs_nil))) (fun _ _ _ _ _ => pts_nil)
          (fun _ _ _ _ _ => pe_call (ok_cho T) (hr.mono (by decide)) (by rfl) T.m_choices T.F_choices.kp T.b_choices .nil pass0 (pa_cons (pe_op op_add (pv 2) pe_int) (pa_cons (pe_op op_add (pv 3) pe_int) pa_nil)))) pa_nil))), ?_⟩
    refine ⟨_, rfl, _, rfl, n, d, rfl, hd1, hd6, hn6, fun H1 z rs s1 hz hT => ?_⟩
    refine ⟨z, rfl, ⟨_, hz⟩, fun D hD => ?_⟩
    have sD := same_new hD (.lst [])
    have hrl := hT.length
    have hsl := sh_len d n
    rw [List.length_map] at hrl
    have emap : ∀ i : Nat, ((shN d n).map fun p => C (p.1 + 1) (p.2 + 1)).take i = ((shN d n).take i).map fun p => C (p.1 + 1) (p.2 + 1) := fun i => List.map_take.symm
    refine lc_tup (K := K) (a := z) (xs := rs.map V.ref) (fun i H' => Same H1 H' ∧ H' D = some (.lst (nv (((shN d n).map fun p => C (p.1 + 1) (p.2 + 1)).take i)))) ⟨sD, upd_same⟩ (fun i H' _ h => same_sqt h.1 hz) ?_ ?_
    · rintro i x H' hx ⟨s2, hD2⟩
      obtain ⟨a, ha, rfl⟩ := ref_get hx
      obtain ⟨p, hp, hs⟩ := pt_get (hT.same s2) ha
      have hb := sh_bound hd6 hn6 (List.mem_of_getElem? hp)
      have hi : i < (shN d n).length := (List.getElem?_eq_some_iff.mp hp).1
      refine ⟨a, _, rfl, hs, rfl, _, _, rfl, _, _, rfl, rfl, ?_⟩
      refine ⟨rfl, _, rfl, _, _, rfl, rfl, _, rfl, _, _, rfl, rfl, _, _, p.2 + 1, rfl, by omega, by omega, by omega, ?_⟩
      have ec : (if ((p.1 : Nat) : Int) + 1 < ((p.2 + 1 : Nat) : Int) then (0 : Int) else ((C (((p.1 : Nat) : Int) + 1).toNat (p.2 + 1) : Nat) : Int)) = ((C (p.1 + 1) (p.2 + 1) : Nat) : Int) := cho_nat (p.1 + 1) (p.2 + 1)
      rw [ec]
      refine ⟨_, hD2, by rw [nv_len, List.length_take, List.length_map]; exact sizeK (by omega), same_updL s2 hD, ?_⟩
      rw [upd_same, emap, emap, take_more hp, List.map_append, nv_app]
      rfl
    · rintro H' ⟨s2, hD2⟩
      rw [List.length_map, List.take_of_length_le (by rw [List.length_map]; omega)] at hD2
      refine ⟨D, _, rfl, by rw [← nv_ints]; exact SqL.of hD2, ?_⟩
      rw [sum_cast]
      exact q H' (s1.trans s2)
end
end L6

namespace L6
open PySem PySem.Spec PyProof.Rows L2 L5 RZ
theorem for_cntC {lo c : Int} {n : Nat} {g : TG} {tb : TS} {D : Ends} {σ : L2.St} {H : Hp} (Pv : Nat → L2.St → Hp → Prop) (h0 : Pv 0 σ H)
    (hs : ∀ i σ H, i < n → Pv i σ H → g (.int (lo + (i : Nat) * c)) σ H fun σ2 H2 => tb { D with nx := Pv (i + 1), ct := Pv (i + 1), bk := D.nx } σ2 H2) (hd : ∀ σ H, Pv n σ H → D.nx σ H) :
    ∃ W : Nat → Nat → L2.St → Hp → Prop, (∃ m, W 0 m σ H) ∧ ∀ i m σ H, W i m σ H →
      ((Itc lo c n).stop i H ∧ D.nx σ H) ∨ ((Itc lo c n).go i H ∧ ∃ N : L2.St → Hp → Prop, (∀ σ' H', N σ' H' → ∃ m', m' < m ∧ W (i + 1) m' σ' H') ∧ ∀ x H', (Itc lo c n).yld i H x H' → g x σ H' fun σ2 H2 => tb { D with nx := N, ct := N, bk := D.nx } σ2 H2) := by
  refine ⟨fun i m σ H => m = n - i ∧ i ≤ n ∧ Pv i σ H, ⟨n, by simp, Nat.zero_le _, h0⟩, ?_⟩
  rintro i m σ H ⟨rfl, hi, p⟩
  by_cases hlt : i < n
  · refine .inr ⟨hlt, Pv (i + 1), fun σ' H' p' => ⟨n - (i + 1), by omega, rfl, hlt, p'⟩, fun x H' y => ?_⟩
    obtain ⟨e, y⟩ := y
    subst e y
    exact hs i σ _ hlt p
  · have e : i = n := by omega
    subst e
    exact .inl ⟨Nat.le_refl _, hd σ H p⟩
section
variable {P : Program} {w : World} {K : PySem.W.Frag} {mg : Str → Option Value} {base : Heap}
/-! ### check_share, shares, growth_bound -/
def sp_chs : Sp := fun vs H Q _ => ∃ (n d : Nat), vs = [.int ((n : Nat) : Int), .int ((d : Nat) : Int)] ∧ 1 ≤ d ∧ d ≤ 60 ∧ n ≤ 1000000 ∧ Q .non H
theorem ok_chs (T : Txt K mg) : FnOk P w K mg base CX0 4 T.a_check_share T.d_check_share ["number", "degree"] sp_chs := by
  refine T.F_check_share.ok sc_check_share (fun vs H Q E h => ?_) (fun cdv A outer s H vs Q E hr h => ?_)
  · obtain ⟨n, d, rfl, _⟩ := h
    rfl
  · obtain ⟨n, d, rfl, h1, h6, hn, q⟩ := h
    refine ⟨_, pss_cons (ps_expr (pe_call (ok_checkw T) hr (by rfl) T.m_check_within T.F_check_within.kp T.b_check_within .nil pass0 (pa_cons (pv 0) (pa_cons pe_int (pa_cons (pe_glob (v := .int 1000000) rfl T.c_MOST_FAR ⟨_, rfl⟩) pa_nil)))))
      (pss_one (ps_expr (pe_call (ok_checkw T) hr (by rfl) T.m_check_within T.F_check_within.kp T.b_check_within .nil pass0 (pa_cons (pv 1) (pa_cons pe_int (pa_cons (pe_glob (v := .int 60) rfl T.c_MAX_DEGREE ⟨_, rfl⟩) pa_nil)))))), ?_⟩
    exact ⟨_, rfl, _, _, _, rfl, by omega, by omega, _, rfl, _, _, _, rfl, by omega, by omega, q⟩
theorem ok_shr (T : Txt K mg) : FnOk P w K mg base CX0 5 T.a_shares T.d_shares ["number", "degree"] (sp_sho K) := by
  refine T.F_shares.ok sc_shares (fun vs H Q E h => ?_) (fun cdv A outer s H vs Q E hr h => ?_)
  · obtain ⟨n, d, rfl, _⟩ := h
    rfl
  · obtain ⟨n, d, rfl, h1, h6, hn, q⟩ := h
    refine ⟨_, pss_cons (ps_expr (pe_call (ok_chs T) hr (by rfl) T.m_check_share T.F_check_share.kp T.b_check_share .nil pass0 (pa_cons (pv 0) (pa_cons (pv 1) pa_nil))))
      (pss_one (ps_ret (pe_call (ok_sho T) (hr.mono (by decide)) (by rfl) T.m_shares_of T.F_shares_of.kp T.b_shares_of .nil pass0 (pa_cons (pv 0) (pa_cons (pv 1) pa_nil))))), ?_⟩
    exact ⟨_, rfl, _, rfl, n, d, rfl, h1, h6, hn, _, rfl, _, rfl, n, d, rfl, h1, h6, hn, q⟩
theorem ok_gro (T : Txt K mg) : FnOk P w K mg base CX0 5 T.a_growth_bound T.d_growth_bound ["number", "degree"] sp_bof := by
  refine T.F_growth_bound.ok sc_growth_bound (fun vs H Q E h => ?_) (fun cdv A outer s H vs Q E hr h => ?_)
  · obtain ⟨n, d, rfl, _⟩ := h
    rfl
  · obtain ⟨n, d, rfl, h1, h6, hn, q⟩ := h
    refine ⟨_, pss_cons (ps_expr (pe_call (ok_chs T) hr (by rfl) T.m_check_share T.F_check_share.kp T.b_check_share .nil pass0 (pa_cons (pv 0) (pa_cons (pv 1) pa_nil))))
      (pss_one (ps_ret (pe_call (ok_bof T) hr (by rfl) T.m_bound_of T.F_bound_of.kp T.b_bound_of .nil pass0 (pa_cons (pv 0) (pa_cons (pv 1) pa_nil))))), ?_⟩
    exact ⟨_, rfl, _, rfl, n, d, rfl, h1, h6, hn, _, rfl, _, rfl, n, d, rfl, h1, h6, hn, q⟩
/-! ### the law's shares, by trials -/
def sp_wsh (K : PySem.W.Frag) : Sp := fun vs H Q _ => ∃ (n d : Nat), vs = [.int ((n : Nat) : Int), .int ((d : Nat) : Int)] ∧ 1 ≤ d ∧ d ≤ 60 ∧ n ≤ 1000000 ∧
  ∀ (H' : Hp) (z : Addr) (rs : List Addr), Same H H' → H' z = some (.lst (rs.map V.ref)) → Tups K H' rs (prs (shN d n)) → Q (.ref z) H'
theorem ok_wsh (T : Txt K mg) : FnOk P w K mg base CX0 2 T.a_w_shares T.d_w_shares ["_law_number", "_law_degree"] (sp_wsh K) := by
  refine T.F_w_shares.ok sc_w_shares (fun vs H Q E h => ?_) (fun cdv A outer s H vs Q E hr h => ?_)
  · obtain ⟨n, d, rfl, _⟩ := h
    rfl
  · obtain ⟨n, d, rfl, h1, h6, hn, q⟩ := h
    refine ⟨_, pss_cons (ps_par (i := 2) (j := 3) (by rfl) sc_w_shares.nd rfl rfl (by decide) rfl rfl (pa_cons (pe_lst pa_nil) (pa_cons (pv 0) pa_nil)) (by rfl))
      (pss_cons (ps_for PassesOwn.never rfl (pi_range3 rfl T.z_range (pa_cons (pv 1) (pa_cons pe_int (pa_cons (pe_un un_neg pe_int) pa_nil)))) (pg_name (i := 4) sc_w_shares.nd rfl (Or.inl rfl))
        (pss_one (ps_if (pt_cmpR op_gt (pv 3) pe_int (nomark _))
          (pss_cons (ps_set (i := 5) sc_w_shares.nd rfl (Or.inl rfl) (PE.weak (t' := fun σ' H' Q' => ∃ r e : Nat, σ'[3]? = some (some (.int ((r : Nat) : Int))) ∧ σ'[4]? = some (some (.int ((e + 1 : Nat) : Int))) ∧ 0 < r ∧ ∀ k0 : Nat, C k0 (e + 1) ≤ r → e + 1 ≤ k0 → Q' (.int ((k0 : Nat) : Int)) H') (pe_ifExp (pt_cmpR op_gt (pv 4) pe_int (nomark _)) (pv 4) (pv 3)) ?wi))
          (pss_cons (PS.weak (t' := fun D σ' H' => ∃ (v0 v1 v2 : Option V) (r e k0 k : Nat), σ' = [v0, v1, v2, some (.int ((r : Nat) : Int)), some (.int ((e : Nat) : Int)), some (.int ((k0 : Nat) : Int))] ∧ IsTop r e k ∧ C k0 e ≤ r ∧ e ≤ k0 ∧ e ≤ 100 ∧ k ≤ 10000000 ∧ D.nx [v0, v1, v2, some (.int ((r : Nat) : Int)), some (.int ((e : Nat) : Int)), some (.int ((k : Nat) : Int))] H')
            (ps_while PassesOwn.never (pt_cmpR op_le (pe_call (ok_bin T) hr (by rfl) T.m_w_binomial T.F_w_binomial.kp T.b_w_binomial .nil pass0 (pa_cons (pe_op op_add (pv 5) pe_int) (pa_cons (pv 4) pa_nil))) (pv 3) (nomark _))
            (pss_one (ps_set (i := 5) sc_w_shares.nd rfl (Or.inl rfl) (pe_op op_add (pv 5) pe_int)))) ?wh)
          (pss_cons (ps_expr (pe_bm PySem.F.plainAttrs_list PySem.F.slot_list_append PySem.F.type_list_append mt_append (pv 2) (pa_cons (pe_tup (pa_cons (pv 5) (pa_cons (pv 4) pa_nil))) pa_nil)))
          (pss_one (ps_set (i := 3) sc_w_shares.nd rfl (Or.inl rfl) (pe_op op_sub (pv 3) (pe_call (ok_bin T) hr (by rfl) T.m_w_binomial T.F_w_binomial.kp T.b_w_binomial .nil pass0 (pa_cons (pv 5) (pa_cons (pv 4) pa_nil)))))))))
          pss_nil)))
      (pss_one (ps_ret (pv 2)))), ?_⟩
    case wi =>
      rintro σ' H' Q' ⟨r, e, e3, e4, hr0, qq⟩
      refine ⟨_, e4, _, _, rfl, rfl, _, rfl, ite2 (fun g => ?_) (fun g => ?_)⟩
      · exact ⟨_, e4, qq (e + 1) (by rw [C_self]; exact hr0) (Nat.le_refl _)⟩
      · have g' : ¬ _ := fun z => g (decide_eq_true z)
        have e0 : e = 0 := by omega
        subst e0
        exact ⟨_, e3, qq r (by rw [C_one]; exact Nat.le_refl _) (by omega)⟩
    case wh =>
      rintro D σ' H' ⟨v0, v1, v2, r, e, k0, k, rfl, ht, hk0, hek, he, hk, qq⟩
      have le_top : ∀ j, C j e ≤ r → j ≤ k := fun j hj => by
        rcases Nat.lt_or_ge k j with c | c
        · have h1 := C_mono e (show k + 1 ≤ j from c)
          have h2 := ht.hi
          omega
        · exact c
      refine ⟨fun m σ H2 => H2 = H' ∧ ∃ j, j + m = k ∧ e ≤ j ∧ C j e ≤ r ∧ σ = [v0, v1, v2, some (.int ((r : Nat) : Int)), some (.int ((e : Nat) : Int)), some (.int ((j : Nat) : Int))], ⟨k - k0, rfl, k0, by have := le_top k0 hk0; omega, hek, hk0, rfl⟩, ?_⟩
      rintro m σ H2 ⟨rfl, j, hj, hej, hjr, rfl⟩
      refine ⟨_, rfl, _, _, rfl, rfl, _, rfl, _, _, j + 1, e, rfl, by omega, rfl, by omega, by omega, by omega, ?_⟩
      refine ⟨_, rfl, _, _, rfl, rfl, _, rfl, ite2 (fun c => ?_) (fun c => ?_)⟩
      · have c' := of_decide_eq_true c
        have hlt := le_top (j + 1) (by omega)
        refine ⟨fun σ' H'' => ∃ m', m' < m ∧ (H'' = H2 ∧ ∃ j, j + m' = k ∧ e ≤ j ∧ C j e ≤ r ∧ σ' = [v0, v1, v2, some (.int ((r : Nat) : Int)), some (.int ((e : Nat) : Int)), some (.int ((j : Nat) : Int))]), fun σ' H'' h => h, ?_⟩
        exact ⟨_, rfl, _, _, rfl, rfl, m - 1, by omega, rfl, j + 1, by omega, by omega, by omega, rfl⟩
      · have c' : ¬ _ := fun z => c (decide_eq_true z)
        have := ht.uniq (⟨hjr, by omega⟩ : IsTop r e j)
        subst this
        exact qq
    refine ⟨Nat.zero_le _, fun x hx => ⟨_, rfl, _, _, rfl, ?_⟩⟩
    have sx := same_new hx (.lst [])
    refine ⟨_, rfl, _, rfl, _, _, _, d, rfl, ?_, ?_⟩
    · have := RgC.neg (i := ((d : Nat) : Int)) (j := 0) (by omega) (by omega) (by decide) (by decide)
      rw [show (((d : Nat) : Int) - 0).toNat = d by omega] at this
      exact this
    refine for_cntC (fun i σ H' => ∃ (r : Nat) (L : List (Nat × Nat)) (rs : List Addr) (v4 v5 : Option V), σ = [some (.int ((n : Nat) : Int)), some (.int ((d : Nat) : Int)), some (.ref x), some (.int ((r : Nat) : Int)), v4, v5] ∧ L ++ shN (d - i) r = shN d n ∧ r ≤ n ∧ L.length ≤ i ∧ Same H H' ∧ H' x = some (.lst (rs.map V.ref)) ∧ Tups K H' rs (prs L))
      ⟨n, [], [], none, none, rfl, rfl, Nat.le_refl _, Nat.le_refl _, sx, upd_same, .nil⟩ ?_ ?_
    · rintro i σ H1 hi ⟨r, L, rs, v4, v5, rfl, hL, hrn, hLl, s1, hx1, hT⟩
      obtain ⟨e, he⟩ : ∃ e, d - i = e + 1 := ⟨d - i - 1, by omega⟩
      have ee : ((d : Nat) : Int) + ((i : Nat) : Int) * (-1) = ((e + 1 : Nat) : Int) := by omega
      rw [ee]
      rw [he] at hL
      refine ⟨_, rfl, _, _, rfl, rfl, _, rfl, ite2 (fun c => ?_) (fun c => ?_)⟩
      · have c' : 0 < r := by
          have := of_decide_eq_true c
          omega
        obtain ⟨k, t⟩ := ex_top (d := e) c'
        have hk := t.ge c'
        have hlo := t.lo
        have hkn : k ≤ n + 100 := by
          have hmem : (k, e + 1) ∈ shN (e + 1) r := by
            rw [sh_step c' t]
            exact List.mem_cons_self ..
          have := (sh_ok (e + 1) r _ hmem).2.2.2
          have h3 : k ≤ r + (e + 1) := this
          omega
        have hrl := hT.length
        rw [List.length_map] at hrl
        refine ⟨r, e, rfl, rfl, c', fun k0 hk0 hek0 => ?_⟩
        refine ⟨_, _, _, r, e + 1, k0, k, rfl, t, hk0, hek0, by omega, by omega, ?_⟩
        refine ⟨_, rfl, .inl ⟨rfl, _, SqL.of hx1⟩, _, rfl, _, rfl, by show 2 ≤ sizeLine; decide, fun z hz => ?_⟩
        have sz := same_new hz (.tup [V.int ((k : Nat) : Int), V.int ((e + 1 : Nat) : Int)])
        have hx2 := sz _ _ hx1
        refine ⟨x, _, _, rfl, rfl, hx2, by rw [List.length_map]; exact sizeK (by omega), ?_⟩
        refine ⟨_, rfl, _, rfl, _, rfl, _, _, k, e + 1, rfl, rfl, rfl, by omega, by omega, by omega, ?_⟩
        refine ⟨_, _, rfl, rfl, r - C k (e + 1), L ++ [(k, e + 1)], rs ++ [z], some (.int ((e + 1 : Nat) : Int)), some (.int ((k : Nat) : Int)), ?_, ?_, by omega, ?_, same_updL (s1.trans sz) hx, by rw [upd_same, List.map_append]; rfl, ?_⟩
        · have e1 : ((r : Nat) : Int) - ((C k (e + 1) : Nat) : Int) = ((r - C k (e + 1) : Nat) : Int) := by omega
          show [some (V.int ((n : Nat) : Int)), some (V.int ((d : Nat) : Int)), some (V.ref x), some (V.int (((r : Nat) : Int) - ((C k (e + 1) : Nat) : Int))), some (V.int ((e + 1 : Nat) : Int)), some (V.int ((k : Nat) : Int))] = _
          rw [e1]
        · rw [← hL, sh_step c' t, List.append_assoc, show d - (i + 1) = e by omega]
          rfl
        · rw [List.length_append, List.length_singleton]
          omega
        · rw [show prs (L ++ [(k, e + 1)]) = prs L ++ [[k, e + 1]] from List.map_append]
          exact ((hT.same sz).updL hx2).app (.cons (sqt_updL hx2 (SqT.of upd_same)) .nil)
      · have c' : ¬ _ := fun z => c (decide_eq_true z)
        have r0 : r = 0 := by omega
        subst r0
        rw [sh_zero] at hL
        exact ⟨0, L, rs, some (.int ((e + 1 : Nat) : Int)), v5, rfl, by rw [sh_zero]; exact hL, Nat.zero_le _, by omega, s1, hx1, hT⟩
    · rintro σ H1 ⟨r, L, rs, v4, v5, rfl, hL, hrn, hLl, s1, hx1, hT⟩
      rw [Nat.sub_self] at hL
      have hL' : L = shN d n := by
        rw [← hL]
        exact (List.append_nil L).symm
      subst hL'
      exact ⟨_, rfl, q H1 x rs s1 hx1 hT⟩
end
end L6

namespace L6
open PySem PySem.Spec PyProof.Rows L2 L5 RZ
/-! ### zip of two tuples, to the end of the shorter one -/
theorem for_zipS {K : PySem.W.Frag} {a b : Addr} {xs ys : List V} {g : TG} {tb : TS} {D : Ends} {σ : L2.St} {H : Hp} (n : Nat) (h1 : n ≤ xs.length) (h2 : n ≤ ys.length) (h3 : xs.length = n ∨ ys.length = n) (Pv : Nat → L2.St → Hp → Prop) (h0 : Pv 0 σ H) (hq : ∀ i σ H, Pv i σ H → SqT K H a xs ∧ SqT K H b ys)
    (hs : ∀ (i : Nat) (x y : V) (T : Addr) (σ : L2.St) (H : Hp), i < n → xs[i]? = some x → ys[i]? = some y → Pv i σ H → H T = none → g (.ref T) σ (upd H T (.tup [x, y])) fun σ2 H2 => tb { D with nx := Pv (i + 1), ct := Pv (i + 1), bk := D.nx } σ2 H2) (hd : ∀ σ H, Pv n σ H → D.nx σ H) :
    ∃ W : Nat → Nat → L2.St → Hp → Prop, (∃ m, W 0 m σ H) ∧ ∀ i m σ H, W i m σ H →
      ((ItzT K a b).stop i H ∧ D.nx σ H) ∨ ((ItzT K a b).go i H ∧ ∃ N : L2.St → Hp → Prop, (∀ σ' H', N σ' H' → ∃ m', m' < m ∧ W (i + 1) m' σ' H') ∧ ∀ v H', (ItzT K a b).yld i H v H' → g v σ H' fun σ2 H2 => tb { D with nx := N, ct := N, bk := D.nx } σ2 H2) := by
  refine ⟨fun i m σ H => i + m = n ∧ Pv i σ H, ⟨n, Nat.zero_add _, h0⟩, fun i m σ H hw => ?_⟩
  obtain ⟨em, pi⟩ := hw
  obtain ⟨qx, qy⟩ := hq i σ H pi
  cases m with
  | zero =>
    have ei : i = n := em
    subst ei
    exact .inl ⟨⟨xs, ys, qx, qy, h3.elim (fun e => .inl (by omega)) fun e => .inr (by omega)⟩, hd σ H pi⟩
  | succ m =>
    have i1 : i < xs.length := by omega
    have i2 : i < ys.length := by omega
    refine .inr ⟨⟨xs, ys, _, _, qx, qy, List.getElem?_eq_getElem i1, List.getElem?_eq_getElem i2⟩, Pv (i + 1), fun σ' H' p => ⟨m, Nat.lt_succ_self m, by omega, p⟩, fun v H' out => ?_⟩
    obtain ⟨T, _, _, rfl, free, rfl, fx, fy⟩ := out
    exact hs i _ _ T σ H (by omega) (fx xs qx) (fy ys qy) pi free
abbrev lcTurn (D : Addr) (g : TG) (tt : TT) (te : TE) (vs : List Nat) (σ : L2.St) (Nx : Hp → Prop) (v : V) (H : Hp) : Prop := g v (wipe σ vs) H fun σ2 H2 => wipe σ2 vs = wipe σ vs ∧ tt σ2 H2 fun b H3 =>
  if b = true then te σ2 H3 fun y H4 => ∃ acc, H4 D = some (.lst acc) ∧ acc.length < sizeLine ∧ Nx (upd H4 D (.lst (acc ++ [y]))) else Nx H3
theorem lc_zipT {K : PySem.W.Frag} {a b : Addr} {xs ys : List V} {g : TG} {tt : TT} {te : TE} {vs : List Nat} {σ : L2.St} {H1 : Hp} {D : Addr} {Qd : Hp → Prop} (hl : xs.length = ys.length) (Pv : Nat → Hp → Prop) (h0 : Pv 0 (upd H1 D (.lst []))) (hq : ∀ i H, Pv i H → SqT K H a xs ∧ SqT K H b ys)
    (hs : ∀ (i : Nat) (x y : V) (T : Addr) (H : Hp), xs[i]? = some x → ys[i]? = some y → Pv i H → H T = none → lcTurn D g tt te vs σ (Pv (i + 1)) (.ref T) (upd H T (.tup [x, y]))) (hd : ∀ H, Pv xs.length H → Qd H) :
    ∃ W : Nat → Nat → Hp → Prop, (∃ m, W 0 m (upd H1 D (.lst []))) ∧ ∀ i m H0, W i m H0 →
      ((ItzT K a b).stop i H0 ∧ Qd H0) ∨ ((ItzT K a b).go i H0 ∧ ∃ Nx : Hp → Prop, (∀ H', Nx H' → ∃ m', m' < m ∧ W (i + 1) m' H') ∧ ∀ v H', (ItzT K a b).yld i H0 v H' → lcTurn D g tt te vs σ Nx v H') := by
  refine ⟨fun i m H => i + m = xs.length ∧ Pv i H, ⟨xs.length, Nat.zero_add _, h0⟩, fun i m H0 hw => ?_⟩
  obtain ⟨em, pi⟩ := hw
  obtain ⟨ta, tb⟩ := hq i H0 pi
  cases m with
  | zero =>
    have ei : i = xs.length := em
    subst ei
    exact .inl ⟨⟨xs, ys, ta, tb, Or.inl (Nat.le_refl _)⟩, hd H0 pi⟩
  | succ m =>
    have i1 : i < xs.length := by omega
    have i2 : i < ys.length := hl ▸ i1
    refine .inr ⟨⟨xs, ys, _, _, ta, tb, List.getElem?_eq_getElem i1, List.getElem?_eq_getElem i2⟩, Pv (i + 1), fun H' p => ⟨m, Nat.lt_succ_self m, by omega, p⟩, fun v H' out => ?_⟩
    obtain ⟨T, _, _, rfl, free, rfl, fx, fy⟩ := out
    exact hs i _ _ T H0 (fx xs ta) (fy ys tb) pi free
/-! ### a list of ones, held against the empty list -/
abbrev ones (c : Nat) : PyData := .list ((List.replicate c 1).map fun n => PyData.int ((n : Nat) : Int))
theorem shaped_ones (c : Nat) : SeqAt.shaped (ones c) = true := by
  have g := can_nats (List.replicate c 1)
  unfold SeqAt.shaped
  simp only [ones, PyData.canLay0, PyData.depth, g.1, g.2, Bool.true_and]
  exact decide_eq_true (by omega)
theorem eqv_ones (c : Nat) : PyData.eqv (ones c) (.list []) = decide (c = 0) := by
  cases c with
  | zero => decide +kernel
  | succ c =>
    rw [decide_eq_false (Nat.succ_ne_zero c)]
    rfl
section
variable {P : Program} {w : World} {K : PySem.W.Frag} {mg : Str → Option Value} {base : Heap}
theorem ok_wbd (T : Txt K mg) : FnOk P w K mg base CX0 3 T.a_w_bound T.d_w_bound ["_law_number", "_law_degree"] sp_bof := by
  refine T.F_w_bound.ok sc_w_bound (fun vs H Q E h => ?_) (fun cdv A outer s H vs Q E hr h => ?_)
  · obtain ⟨n, d, rfl, _⟩ := h
    rfl
  · obtain ⟨n, d, rfl, hd1, hd6, hn6, q⟩ := h
    refine ⟨_, pss_one (ps_ret (pe_callB (cr_sum rfl) (by rfl) T.z_sum boot_sum (pa_cons
      (pe_lc (own := [("_law_k", 2), ("_law_i", 3)]) (g := gTup K 2 (gCons (gName 2) (gCons (gName 3) gNil))) (tt := tYes) rfl sc_w_bound.nd (pi_list (pe_call (ok_wsh T) hr (by rfl) T.m_w_shares T.F_w_shares.kp T.b_w_shares .nil pass0 (pa_cons (pv 0) (pa_cons (pv 1) pa_nil)))) (blkOk_by (own := [("_law_k", 2), ("_law_i", 3)]) (N := N_w_bound) (sc := defScope s_w_bound) (by decide +kernel))
          (fun _ _ _ _ _ => pg_tup (by rfl) (pgs_cons (pg_name (i := 2) sc_w_bound.nd rfl (Or.inl rfl)) (pgs_cons (pg_name (i := 3) sc_w_bound.nd rfl (Or.inl rfl)) pgs_nil))) (fun _ _ _ _ _ => pts_nil)
          (fun _ _ _ _ _ => pe_call (ok_bin T) (hr.mono (by decide)) (by rfl) T.m_w_binomial T.F_w_binomial.kp T.b_w_binomial .nil pass0 (pa_cons (pe_op op_add (pv 2) pe_int) (pa_cons (pe_op op_add (pv 3) pe_int) pa_nil)))) pa_nil))), ?_⟩
    refine ⟨_, rfl, _, rfl, n, d, rfl, hd1, hd6, hn6, fun H1 z rs s1 hz hT => ?_⟩
    refine ⟨z, rfl, ⟨_, SqL.of hz⟩, fun D hD => ?_⟩
    have sD := same_new hD (.lst [])
    have hrl := hT.length
    have hsl := sh_len d n
    rw [List.length_map] at hrl
    have emap : ∀ i : Nat, ((shN d n).map fun p => C (p.1 + 1) (p.2 + 1)).take i = ((shN d n).take i).map fun p => C (p.1 + 1) (p.2 + 1) := fun i => List.map_take.symm
    refine lc_list (K := K) (a := z) (xs := rs.map V.ref) (fun i H' => Same H1 H' ∧ H' D = some (.lst (nv (((shN d n).map fun p => C (p.1 + 1) (p.2 + 1)).take i)))) ⟨sD, upd_same⟩ (fun i H' _ h => h.1.seq (SqL.of hz)) ?_ ?_
    · rintro i x H' hx ⟨s2, hD2⟩
      obtain ⟨a, ha, rfl⟩ := ref_get hx
      obtain ⟨p, hp, hs⟩ := pt_get (hT.same s2) ha
      have hb := sh_bound hd6 hn6 (List.mem_of_getElem? hp)
      have hi : i < (shN d n).length := (List.getElem?_eq_some_iff.mp hp).1
      refine ⟨a, _, rfl, hs, rfl, _, _, rfl, _, _, rfl, rfl, ?_⟩
      refine ⟨rfl, _, rfl, _, _, rfl, rfl, _, rfl, _, _, rfl, rfl, _, _, p.1 + 1, p.2 + 1, rfl, by omega, by omega, by omega, by omega, by omega, ?_⟩
      refine ⟨_, hD2, by rw [nv_len, List.length_take, List.length_map]; exact sizeK (by omega), same_updL s2 hD, ?_⟩
      rw [upd_same, emap, emap, take_more hp, List.map_append, nv_app]
      rfl
    · rintro H' ⟨s2, hD2⟩
      rw [List.length_map, List.take_of_length_le (by rw [List.length_map]; omega)] at hD2
      refine ⟨D, _, rfl, by rw [← nv_ints]; exact SqL.of hD2, ?_⟩
      rw [sum_cast]
      exact q H' (s1.trans s2)
/-! ### _law_divides, _law_has -/
def sp_div (K : PySem.W.Frag) : Sp := fun vs H Q _ => ∃ (p r : Addr) (t u : List Nat), vs = [.ref p, .ref r] ∧ SqT K H p (nv t) ∧ SqT K H r (nv u) ∧ t.length = u.length ∧ t.length ≤ 1000 ∧ ∀ H', Same H H' → Q (.bl (divB t u)) H'
theorem ok_div (T : Txt K mg) : FnOk P w K mg base CX0 1 T.a_w_divides T.d_w_divides ["_law_one", "_law_other"] (sp_div K) := by
  refine T.F_w_divides.ok sc_w_divides (fun vs H Q E h => ?_) (fun cdv A outer s H vs Q E hr h => ?_)
  · obtain ⟨p, r, t, u, rfl, _⟩ := h
    rfl
  · obtain ⟨p, r, t, u, rfl, hT, hU, hl, hz, q⟩ := h
    refine ⟨_, pss_one (ps_ret (pe_cmpR (op_eqD hr.units)
      (pe_lc (own := [("_law_left", 2), ("_law_right_here", 3)]) (g := gTup K 2 (gCons (gName 2) (gCons (gName 3) gNil))) rfl sc_w_divides.nd (pi_zipA (by rfl) T.z_zip (pa_cons (pv 0) (pa_cons (pv 1) pa_nil))) (blkOk_by (own := [("_law_left", 2), ("_law_right_here", 3)]) (N := N_w_divides) (sc := defScope s_w_divides) (by decide +kernel))
        (fun _ _ _ _ _ => pg_tup (by rfl) (pgs_cons (pg_name (i := 2) sc_w_divides.nd rfl (Or.inl rfl)) (pgs_cons (pg_name (i := 3) sc_w_divides.nd rfl (Or.inl rfl)) pgs_nil)))
        (fun _ _ _ _ _ => pts_one (pt_cmpR op_gt (pv 2) (pv 3) (nomark _))) (fun _ _ _ _ _ => pe_int)) (pe_lst pa_nil) (nomark _))), ?_⟩
    refine ⟨_, rfl, _, rfl, p, r, nv t, nv u, rfl, .inr ⟨hT, hU, fun D hD => ?_⟩⟩
    have sD := same_new hD (.lst [])
    refine lc_zipT (by rw [nv_len, nv_len, hl]) (fun i H' => Same H H' ∧ ∃ c, c ≤ i ∧ H' D = some (.lst (nv (List.replicate c 1))) ∧ decide (c = 0) = ((List.zipWith (fun a b => Nat.ble a b) t u).take i).all id) ⟨sD, 0, Nat.le_refl _, upd_same, rfl⟩ (fun i H' h => ⟨same_sqt h.1 hT, same_sqt h.1 hU⟩) (fun i x y T' H' hx hy h hT' => ?_) (fun H' h => ?_)
    · obtain ⟨sm, c, hc, eD, hall⟩ := h
      obtain ⟨a, ha, rfl⟩ := nv_get hx
      obtain ⟨b, hb, rfl⟩ := nv_get hy
      have hlt : i < t.length := (List.getElem?_eq_some_iff.mp ha).1
      have sT := same_new hT' (.tup [V.int ((a : Nat) : Int), V.int ((b : Nat) : Int)])
      have hz2 : (List.zipWith (fun a b => Nat.ble a b) t u)[i]? = some (Nat.ble a b) := by rw [List.getElem?_zipWith, ha, hb]
      have eD' := sT _ _ eD
      refine ⟨T', _, rfl, SqT.of upd_same, rfl, _, _, rfl, _, _, rfl, rfl, ?_⟩
      refine ⟨rfl, _, rfl, _, rfl, _, _, rfl, rfl, _, rfl, ite2 (fun g => ?_) (fun g => ?_)⟩
      · have g' := of_decide_eq_true g
        have hf : Nat.ble a b = false := by
          cases e : Nat.ble a b with
          | false => rfl
          | true =>
            have := Nat.le_of_ble_eq_true e
            omega
        refine ⟨_, eD', by rw [nv_len, List.length_replicate]; exact sizeK (by omega), same_updL (sm.trans sT) hD, c + 1, by omega, ?_, ?_⟩
        · rw [upd_same, List.replicate_succ', nv_app]
          rfl
        · rw [take_more hz2, List.all_append, hf, decide_eq_false (Nat.succ_ne_zero c)]
          simp
      · have g' : ¬ _ := fun z => g (decide_eq_true z)
        have hf : Nat.ble a b = true := Nat.ble_eq_true_of_le (by omega)
        refine ⟨sm.trans sT, c, by omega, eD', ?_⟩
        rw [take_more hz2, List.all_append, hf, hall]
        simp
    · obtain ⟨sm, c, hc, eD, hall⟩ := h
      rw [List.take_of_length_le (by rw [List.length_zipWith, nv_len]; omega)] at hall
      refine ⟨Nat.zero_le _, fun z hz8 => ?_⟩
      have s8 := same_new hz8 (.lst [])
      refine ⟨ones c, .list [], .lst (SqL.of (s8 _ _ eD)) (dp_nats _), .lst (SqL.of upd_same) .nil, shaped_ones c, by decide, ?_⟩
      rw [eqv_ones, hall]
      exact q _ (sm.trans s8)
def sp_has (K : PySem.W.Frag) : Sp := fun vs H Q _ => ∃ (y p : Addr) (rs : List Addr) (L : List (List Nat)) (t : List Nat), vs = [.ref y, .ref p] ∧ SqL K H y (rs.map V.ref) ∧ Tups K H rs L ∧ SqT K H p (nv t) ∧ (∀ u ∈ L, u.length = t.length) ∧ L.length ≤ 1000 ∧ t.length ≤ 1000 ∧ ∀ H', Same H H' → Q (.bl (hasB L t)) H'
theorem ok_has (T : Txt K mg) : FnOk P w K mg base CX0 2 T.a_w_has T.d_w_has ["_law_members", "_law_product"] (sp_has K) := by
  refine T.F_w_has.ok sc_w_has (fun vs H Q E h => ?_) (fun cdv A outer s H vs Q E hr h => ?_)
  · obtain ⟨y, p, rs, L, t, rfl, _⟩ := h
    rfl
  · obtain ⟨y, p, rs, L, t, rfl, hy, hT, hp, hul, hL, ht, q⟩ := h
    refine ⟨_, pss_one (ps_ret (pe_cmpR (op_neD hr.units)
      (pe_lc (own := [("_law_member", 2)]) (g := gName 2) rfl sc_w_has.nd (pi_list (pv 0)) (blkOk_by (own := [("_law_member", 2)]) (N := N_w_has) (sc := defScope s_w_has) (by decide +kernel))
        (fun _ _ _ _ _ => pg_name (i := 2) sc_w_has.nd rfl (Or.inl rfl))
        (fun _ _ _ _ _ => pts_one (pt_val (pe_call (ok_div T) hr (by rfl) T.m_w_divides T.F_w_divides.kp T.b_w_divides .nil pass0 (pa_cons (pv 2) (pa_cons (pv 1) pa_nil))))) (fun _ _ _ _ _ => pe_int)) (pe_lst pa_nil) (nomark _))), ?_⟩
    refine ⟨_, rfl, y, rfl, ⟨_, hy⟩, fun D hD => ?_⟩
    have sD := same_new hD (.lst [])
    have hrl := hT.length
    refine lc_list (K := K) (a := y) (xs := rs.map V.ref) (fun i H' => Same H H' ∧ ∃ c, c ≤ i ∧ H' D = some (.lst (nv (List.replicate c 1))) ∧ (!decide (c = 0)) = hasB (L.take i) t) ⟨sD, 0, Nat.le_refl _, upd_same, rfl⟩ (fun i H' _ h => h.1.seq hy) ?_ ?_
    · rintro i x H' hx ⟨sm, c, hc, eD, hall⟩
      obtain ⟨a, ha, rfl⟩ := ref_get hx
      obtain ⟨u, hu, hau⟩ := (hT.same sm).get ha
      have hlt : i < L.length := (List.getElem?_eq_some_iff.mp hu).1
      refine ⟨rfl, _, rfl, _, rfl, a, p, u, t, rfl, hau, same_sqt sm hp, hul u (List.mem_of_getElem? hu), by rw [hul u (List.mem_of_getElem? hu)]; exact ht, fun H2 s2 => ⟨_, rfl, ?_⟩⟩
      have eD2 := s2 _ _ eD
      have hstep : hasB (L.take (i + 1)) t = (hasB (L.take i) t || divB u t) := by
        rw [take_more hu]
        unfold hasB
        rw [List.any_append]
        simp
      cases e : divB u t with
      | true =>
        refine iteT ⟨_, eD2, by rw [nv_len, List.length_replicate]; exact sizeK (by omega), same_updL (sm.trans s2) hD, c + 1, by omega, ?_, ?_⟩
        · rw [upd_same, List.replicate_succ', nv_app]
          rfl
        · rw [hstep, e, Bool.or_true, decide_eq_false (Nat.succ_ne_zero c)]
          rfl
      | false =>
        refine iteF ⟨sm.trans s2, c, by omega, eD2, ?_⟩
        rw [hstep, e, Bool.or_false, hall]
    · rintro H' ⟨sm, c, hc, eD, hall⟩
      rw [List.length_map, List.take_of_length_le (by omega)] at hall
      rw [List.length_map] at hc
      refine ⟨Nat.zero_le _, fun z hz8 => ?_⟩
      have s8 := same_new hz8 (.lst [])
      refine ⟨ones c, .list [], .lst (SqL.of (s8 _ _ eD)) (dp_nats _), .lst (SqL.of upd_same) .nil, shaped_ones c, by decide, ?_⟩
      rw [eqv_ones, hall]
      exact q _ (sm.trans s8)
end
end L6

namespace L6
open PySem PySem.Spec PyProof.Rows L2 L5 RZ
theorem shaped_tupsT (L : List (List Nat)) : SeqAt.shaped (.tuple (L.map encT)) = true := by
  have h := can_tups L
  unfold SeqAt.shaped
  simp only [PyData.canLay0, PyData.depth, h.1, Bool.true_and]
  exact decide_eq_true (by omega)
theorem eqv_tupsT (L : List (List Nat)) : PyData.eqv (.tuple (L.map encT)) (.tuple (L.map encT)) = true := SeqAt.eqv_refl _ (by
  simp only [PyData.canLay0]
  exact (can_tups L).1)
theorem cut_1 (xs : List V) : cutV xs (some 1) none = xs.drop 1 := by
  cases xs with
  | nil => rfl
  | cons x r => exact cut_from (x :: r) 1 (by simp)
theorem eqv_tups0 (L : List (List Nat)) : PyData.eqv (.tuple (L.map encT)) (.tuple []) = decide (L = []) := by
  cases L with
  | nil => decide +kernel
  | cons x r =>
    rw [decide_eq_false (List.cons_ne_nil x r)]
    rfl
section
variable {P : Program} {w : World} {K : PySem.W.Frag} {mg : Str → Option Value} {base : Heap}
def sp_shrt : Sp := fun vs H Q _ => ∃ (n d : Nat), vs = [.int ((n : Nat) : Int), .int ((d : Nat) : Int)] ∧ 1 ≤ d ∧ d ≤ 60 ∧ n ≤ 1000000 ∧ ∀ H', Same H H' → Q (.bl true) H'
theorem ok_shrt (T : Txt K mg) : FnOk P w K mg base CX0 6 T.a_w_shares_right T.d_w_shares_right ["_law_number", "_law_degree"] sp_shrt := by
  refine T.F_w_shares_right.ok sc_w_shares_right (fun vs H Q E h => ?_) (fun cdv A outer s H vs Q E hr h => ?_)
  · obtain ⟨n, d, rfl, _⟩ := h
    rfl
  · obtain ⟨n, d, rfl, hd1, hd6, hn6, q⟩ := h
    refine ⟨_, pss_cons (ps_set (i := 2) sc_w_shares_right.nd rfl (Or.inl rfl) (pe_call (ok_shr T) hr (by rfl) T.m_shares T.F_shares.kp T.b_shares .nil pass0 (pa_cons (pv 0) (pa_cons (pv 1) pa_nil))))
      (pss_cons (ps_if (PW.pt (pw_or (pt_cmpR (op_neD hr.units) (pe_callTy call_list_of (by rfl) T.z_list boot_list (pa_cons (pv 2) pa_nil)) (pe_call (ok_wsh T) (hr.mono (by decide)) (by rfl) T.m_w_shares T.F_w_shares.kp T.b_w_shares .nil pass0 (pa_cons (pv 0) (pa_cons (pv 1) pa_nil))) (nomark _))
          (pw_or1 (pt_cmpR op_ne (pe_call (ok_gro T) hr (by rfl) T.m_growth_bound T.F_growth_bound.kp T.b_growth_bound .nil pass0 (pa_cons (pv 0) (pa_cons (pv 1) pa_nil))) (pe_call (ok_wbd T) (hr.mono (by decide)) (by rfl) T.m_w_bound T.F_w_bound.kp T.b_w_bound .nil pass0 (pa_cons (pv 0) (pa_cons (pv 1) pa_nil))) (nomark _))))) (pss_one (ps_ret pe_bl)) pss_nil)
      (pss_cons (ps_if (PW.pt (pw_or (pt_cmpR op_ne (pe_callB (cr_sum rfl) (by rfl) T.z_sum boot_sum (pa_cons
            (pe_lc (own := [("_law_k", 5), ("_law_i", 6)]) (g := gTup K 2 (gCons (gName 5) (gCons (gName 6) gNil))) (tt := tYes) rfl sc_w_shares_right.nd (pi_tup (pv 2)) (blkOk_by (own := [("_law_k", 5), ("_law_i", 6)]) (N := N_w_shares_right) (sc := defScope s_w_shares_right) (by decide +kernel))
              (fun _ _ _ _ _ => pg_tup (by rfl) (pgs_cons (pg_name (i := 5) sc_w_shares_right.nd rfl (Or.inl rfl)) (pgs_cons (pg_name (i := 6) sc_w_shares_right.nd rfl (Or.inl rfl)) pgs_nil))) (fun _ _ _ _ _ => pts_nil)
              (fun _ _ _ _ _ => pe_call (ok_bin T) (hr.mono (by decide)) (by rfl) T.m_w_binomial T.F_w_binomial.kp T.b_w_binomial .nil pass0 (pa_cons (pv 5) (pa_cons (pv 6) pa_nil)))) pa_nil)) (pv 0) (nomark _))
          (pw_or1 (pt_cmpR (op_neD hr.units)
            (pe_lc (own := [("_law_k", 5), ("_law_i", 6)]) (g := gTup K 2 (gCons (gName 5) (gCons (gName 6) gNil))) rfl sc_w_shares_right.nd (pi_tup (pv 2)) (blkOk_by (own := [("_law_k", 5), ("_law_i", 6)]) (N := N_w_shares_right) (sc := defScope s_w_shares_right) (by decide +kernel))
              (fun _ _ _ _ _ => pg_tup (by rfl) (pgs_cons (pg_name (i := 5) sc_w_shares_right.nd rfl (Or.inl rfl)) (pgs_cons (pg_name (i := 6) sc_w_shares_right.nd rfl (Or.inl rfl)) pgs_nil)))
              (fun _ _ _ _ _ => pts_one (PW.pt (pw_or (pt_cmpR op_lt (pv 5) (pv 6) (nomark _)) (pw_or1 (pt_cmpR op_lt (pv 6) pe_int (nomark _))))))
              (fun _ _ _ _ _ => pe_int)) (pe_lst pa_nil) (nomark _))))) (pss_one (ps_ret pe_bl)) pss_nil)
      (pss_cons (ps_for PassesOwn.never rfl (pi_zipA (by rfl) T.z_zip (pa_cons (pv 2) (pa_cons (pe_slice sl_tupB (pv 2) (po_some pe_int) po_none) pa_nil))) (pg_tup (by rfl) (pgs_cons (pg_name (i := 3) sc_w_shares_right.nd rfl (Or.inl rfl)) (pgs_cons (pg_name (i := 4) sc_w_shares_right.nd rfl (Or.inl rfl)) pgs_nil)))
        (pss_one (ps_if (PW.pt (pw_or (pt_cmpR op_le (pe_ix ix_tup (pv 3) pe_int (fun _ _ => rfl)) (pe_ix ix_tup (pv 4) pe_int (fun _ _ => rfl)) (nomark _))
          (pw_or1 (pt_cmpR op_ne (pe_ix ix_tup (pv 3) pe_int (fun _ _ => rfl)) (pe_op op_add (pe_ix ix_tup (pv 4) pe_int (fun _ _ => rfl)) pe_int) (nomark _))))) (pss_one (ps_ret pe_bl)) pss_nil)))
      (pss_one (ps_ret (pe_or (pe_cmpR (op_eqD hr.units) (pv 2) (pe_tup pa_nil) (nomark _)) (pe_one (pe_cmpR op_eq (pe_ix ix_tup (pe_ix ix_tup (pv 2) pe_int (fun _ _ => rfl)) pe_int (fun _ _ => rfl)) (pv 1) (nomark _))))))))), ?_⟩
    refine ⟨_, rfl, _, rfl, n, d, rfl, hd1, hd6, hn6, fun H1 z rs s1 hz hT => ?_⟩
    have hrl := hT.length
    have hsl := sh_len d n
    rw [List.length_map] at hrl
    -- list(told) and the law's shares
    refine ⟨_, rfl, z, _, rfl, .inr hz, fun a ha => ?_⟩
    have sa := same_new ha (.lst (rs.map V.ref))
    refine ⟨_, rfl, _, rfl, n, d, rfl, hd1, hd6, hn6, fun H2 b qs s2 hb hT2 => ?_⟩
    have S2 := sa.trans s2
    refine ⟨_, _, .lst (SqL.of (s2 _ _ upd_same)) (dp_tups (hT.same S2)), .lst (SqL.of hb) (dp_tups hT2), shaped_tups _, shaped_tups _, false, congrArg V.bl (by rw [eqv_tups] <;> rfl), iteF ?_⟩
    refine ⟨_, rfl, _, rfl, n, d, rfl, hd1, hd6, hn6, fun H3 s3 => ?_⟩
    refine ⟨_, rfl, _, rfl, n, d, rfl, hd1, hd6, hn6, fun H4 s4 => ⟨rfl, false, congrArg V.bl (by rw [decide_eq_true rfl] <;> rfl), iteF ?_⟩⟩
    have S4 := S2.trans (s3.trans s4)
    have hz4 := same_sqt S4 hz
    have hT4 := hT.same S4
    have Sall := s1.trans S4
    generalize hLL : shN d n = L at hrl hsl hT4
    have hbd : ∀ p ∈ L, p.2 ≤ p.1 ∧ 1 ≤ p.2 ∧ p.2 ≤ 60 ∧ p.1 ≤ 1000060 := fun p hp => sh_bound hd6 hn6 (by rw [hLL]; exact hp)
    -- the binomials add up to the number
    refine ⟨_, rfl, z, rfl, ⟨_, hz4⟩, fun D hD => ?_⟩
    have sD := same_new hD (.lst [])
    have emap : ∀ i : Nat, (L.map fun p => C p.1 p.2).take i = (L.take i).map fun p => C p.1 p.2 := fun i => List.map_take.symm
    refine lc_tup (K := K) (a := z) (xs := rs.map V.ref) (fun i H' => Same H4 H' ∧ H' D = some (.lst (nv ((L.map fun p => C p.1 p.2).take i)))) ⟨sD, upd_same⟩ (fun i H' _ h => same_sqt h.1 hz4) ?_ ?_
    · rintro i x H' hx ⟨s5, hD5⟩
      obtain ⟨a, ha, rfl⟩ := ref_get hx
      obtain ⟨p, hp, hs⟩ := pt_get (hT4.same s5) ha
      have hb := hbd p (List.mem_of_getElem? hp)
      have hi : i < L.length := (List.getElem?_eq_some_iff.mp hp).1
      refine ⟨a, _, rfl, hs, rfl, _, _, rfl, _, _, rfl, rfl, ?_⟩
      refine ⟨rfl, _, rfl, _, rfl, _, _, p.1, p.2, rfl, rfl, rfl, by omega, by omega, by omega, ?_⟩
      refine ⟨_, hD5, by rw [nv_len, List.length_take, List.length_map]; exact sizeK (by omega), same_updL s5 hD, ?_⟩
      rw [upd_same, emap, emap, take_more hp, List.map_append, nv_app]
      rfl
    rintro H5 ⟨s5, hD5⟩
    rw [List.length_map, List.take_of_length_le (by rw [List.length_map]; omega)] at hD5
    have hsum : (L.map fun p => C p.1 p.2).sum = n := by
      rw [← hLL]
      exact sh_sum d n (.inl hd1)
    refine ⟨D, _, rfl, by rw [← nv_ints]; exact SqL.of hD5, ?_⟩
    rw [sum_cast, hsum]
    refine ⟨_, rfl, rfl, false, congrArg V.bl (by rw [decide_eq_true rfl] <;> rfl), iteF ?_⟩
    -- each share is as it must be
    have hz5 := same_sqt s5 hz4
    have hT5 := hT4.same s5
    refine ⟨_, rfl, z, rfl, ⟨_, hz5⟩, fun D2 hD2 => ?_⟩
    have sD2 := same_new hD2 (.lst [])
    refine lc_tup (K := K) (a := z) (xs := rs.map V.ref) (fun i H' => Same H5 H' ∧ H' D2 = some (.lst [])) ⟨sD2, upd_same⟩ (fun i H' _ h => same_sqt h.1 hz5) ?_ ?_
    · rintro i x H' hx ⟨s6, hD6⟩
      obtain ⟨a, ha, rfl⟩ := ref_get hx
      obtain ⟨p, hp, hs⟩ := pt_get (hT5.same s6) ha
      have hb := hbd p (List.mem_of_getElem? hp)
      have sT : Same H' H' := Same.refl _
      refine ⟨a, _, rfl, hs, rfl, _, _, rfl, _, _, rfl, rfl, ?_⟩
      refine ⟨rfl, _, rfl, _, rfl, _, _, rfl, rfl, _, rfl, ?_⟩
      rw [decide_eq_false (show ¬ ((p.1 : Nat) : Int) < ((p.2 : Nat) : Int) by omega)]
      refine iteF ⟨_, rfl, _, _, rfl, rfl, _, rfl, ?_⟩
      rw [decide_eq_false (show ¬ ((p.2 : Nat) : Int) < 1 by omega)]
      exact iteF ⟨s6, hD6⟩
    rintro H6 ⟨s6, hD6⟩
    refine ⟨Nat.zero_le _, fun e he => ?_⟩
    have s7 := same_new he (.lst [])
    refine ⟨.list [], .list [], .lst (SqL.of (s7 _ _ hD6)) .nil, .lst (SqL.of upd_same) .nil, by decide, by decide, false, rfl, iteF ?_⟩
    have S7 := s6.trans s7
    have hz7 := same_sqt S7 hz5
    have hT7 := hT5.same S7
    have Sall7 := Sall.trans (s5.trans S7)
    generalize (upd H6 e (.lst [])) = H7 at hz7 hT7 Sall7
    -- they fall
    refine ⟨_, rfl, _, rfl, _, rfl, z, _, rfl, hz7, fun H8 y s8 hy => ?_⟩
    rw [cut_1] at hy
    have hz8 := same_sqt s8 hz7
    have hT8 := hT7.same s8
    refine ⟨z, y, _, _, rfl, .inr ⟨hz8, hy, ?_⟩⟩
    have hdl : ((rs.map V.ref).drop 1).length = rs.length - 1 := by rw [List.length_drop, List.length_map]
    refine for_zipS (xs := rs.map V.ref) (ys := (rs.map V.ref).drop 1) (rs.length - 1) (by rw [List.length_map]; omega) (by rw [hdl]; exact Nat.le_refl _) (.inr hdl) (fun i σ H' => ∃ v3 v4 : Option V, σ = [some (.int ((n : Nat) : Int)), some (.int ((d : Nat) : Int)), some (.ref z), v3, v4, none, none] ∧ Same H8 H') ⟨none, none, rfl, Same.refl _⟩ ?_ ?_ ?_
    · rintro i σ H' ⟨v3, v4, rfl, s9⟩
      exact ⟨same_sqt s9 hz8, same_sqt s9 hy⟩
    · rintro i x x' T' σ H' hi hx hx' ⟨v3, v4, rfl, s9⟩ hT'
      rw [List.getElem?_drop, Nat.add_comm] at hx'
      obtain ⟨a, ha, rfl⟩ := ref_get hx
      obtain ⟨b, hb, rfl⟩ := ref_get hx'
      have sT := same_new hT' (.tup [V.ref a, V.ref b])
      have hTT := hT8.same (s9.trans sT)
      obtain ⟨p, hp, hsa⟩ := pt_get hTT ha
      obtain ⟨r, hr', hsb⟩ := pt_get hTT hb
      have hf := sh_fall d n i p r (by rw [hLL]; exact hp) (by rw [hLL]; exact hr')
      refine ⟨T', _, rfl, SqT.of upd_same, rfl, _, _, rfl, _, _, rfl, rfl, ?_⟩
      refine ⟨_, rfl, a, _, 0, .int ((p.1 : Nat) : Int), rfl, rfl, hsa, rfl, _, rfl, b, _, 0, .int ((r.1 : Nat) : Int), rfl, rfl, hsb, rfl, _, _, rfl, rfl, _, rfl, ?_⟩
      rw [decide_eq_false (show ¬ ((p.1 : Nat) : Int) ≤ ((r.1 : Nat) : Int) by omega)]
      refine iteF ⟨_, rfl, a, _, 1, .int ((p.2 : Nat) : Int), rfl, rfl, hsa, rfl, _, rfl, b, _, 1, .int ((r.2 : Nat) : Int), rfl, rfl, hsb, rfl, _, _, rfl, rfl, rfl, false, congrArg V.bl ?_, iteF ?_⟩
      · show (!decide (V.int ((p.2 : Nat) : Int) = V.int (((r.2 : Nat) : Int) + 1))) = false
        rw [decide_eq_true (by rw [hf.2]; rfl)]
        rfl
      · exact ⟨_, _, rfl, s9.trans sT⟩
    · rintro σ H9 ⟨v3, v4, rfl, s9⟩
      have hz9 := same_sqt s9 hz8
      have hT9 := hT8.same s9
      refine ⟨_, rfl, Nat.zero_le _, fun e he => ?_⟩
      have s10 := same_new he (.tup [])
      have hz10 := same_sqt s10 hz9
      refine ⟨.tuple ((prs L).map encT), .tuple [], .tup hz10 (dp_tups (hT9.same s10)), .tup (SqT.of upd_same) .nil, shaped_tupsT _, by decide, _, rfl, ?_⟩
      rw [eqv_tups0]
      have SA := Sall7.trans (s8.trans (s9.trans s10))
      cases L with
      | nil =>
        rw [decide_eq_true (show prs [] = [] from rfl)]
        exact iteT (q _ SA)
      | cons p r =>
        rw [decide_eq_false (show ¬ prs (p :: r) = [] by simp)]
        obtain ⟨_, _, _, h2, _, _⟩ := sh_head hLL
        cases hT9 with
        | @cons a0 _ rs' _ ha0 hrs =>
          refine iteF ⟨_, rfl, z, _, 0, .ref a0, rfl, rfl, hz10, atI_nat (j := 0) rfl, a0, _, 1, .int ((p.2 : Nat) : Int), rfl, rfl, same_sqt s10 ha0, rfl, _, rfl, rfl, ?_⟩
          rw [h2, decide_eq_true rfl]
          exact q _ SA
end
end L6

namespace L6
open PySem PySem.Spec PyProof.Rows L2 L5 RZ
theorem tups_take {K : PySem.W.Frag} {H : Hp} : ∀ {rs : List Addr} {L : List (List Nat)} (k : Nat), Tups K H rs L → Tups K H (rs.take k) (L.take k)
  | _, _, 0, _ => .nil
  | _, _, k + 1, .nil => .nil
  | _, _, k + 1, .cons h r => .cons h (tups_take k r)
theorem rows_len {l d : Nat} (O : Ok6 l d) {t : List Nat} (h : t ∈ rows l d) : t.length = l := (prod_of (O.prod t h)).1
section
variable {P : Program} {w : World} {K : PySem.W.Frag} {mg : Str → Option Value} {base : Heap}
/-! ### what the first products leave one degree higher -/
def sp_la : Sp := fun vs H Q _ => ∃ (l d m : Nat), vs = [.int ((l : Nat) : Int), .int ((d : Nat) : Int), .int ((m : Nat) : Int)] ∧ 1 ≤ l ∧ l ≤ 4 ∧ d ≤ 5 ∧ m ≤ (rows l d).length ∧ ∀ H', Same H H' → Q (.int ((leftN l d m : Nat) : Int)) H'
theorem ok_la (T : Txt K mg) : FnOk P w K mg base CX0 3 T.a_w_left_above T.d_w_left_above ["_law_letters", "_law_degree", "_law_many_here"] sp_la := by
  refine T.F_w_left_above.ok sc_w_left_above (fun vs H Q E h => ?_) (fun cdv A outer s H vs Q E hr h => ?_)
  · obtain ⟨l, d, m, rfl, _⟩ := h
    rfl
  · obtain ⟨l, d, m, rfl, h1, h4, hd, hm, q⟩ := h
    have O := ok6 h1 h4 (show d < 7 by omega)
    have O2 := ok6 h1 h4 (show d + 1 < 7 by omega)
    refine ⟨_, pss_cons (ps_set (i := 3) sc_w_left_above.nd rfl (Or.inl rfl) (pe_call (ok_lis T) (hr.mono (by decide)) (by rfl) T.m_w_listed T.F_w_listed.kp T.b_w_listed .nil pass0 (pa_cons (pv 0) (pa_cons (pv 1) pa_nil))))
      (pss_cons (ps_set (i := 4) sc_w_left_above.nd rfl (Or.inr rfl) (pe_slice sl_list (pv 3) po_none (po_some (pe_op op_sub (pe_callB call_len_seq (by rfl) T.z_len boot_len (pa_cons (pv 3) pa_nil)) (pv 2)))))
      (pss_one (ps_ret (pe_callB call_len_seq (by rfl) T.z_len boot_len (pa_cons
        (pe_lc (own := [("_law_product", 5)]) (g := gName 5) rfl sc_w_left_above.nd (pi_list (pe_call (ok_lis T) (hr.mono (by decide)) (by rfl) T.m_w_listed T.F_w_listed.kp T.b_w_listed .nil pass0 (pa_cons (pv 0) (pa_cons (pe_op op_add (pv 1) pe_int) pa_nil)))) (blkOk_by (own := [("_law_product", 5)]) (N := N_w_left_above) (sc := defScope s_w_left_above) (by decide +kernel))
          (fun _ _ _ _ _ => pg_name (i := 5) sc_w_left_above.nd rfl (Or.inl rfl))
          (fun _ _ _ _ _ => pts_one (pt_not (pt_val (pe_call (ok_has T) hr (by rfl) T.m_w_has T.F_w_has.kp T.b_w_has .nil pass0 (pa_cons (pv 4) (pa_cons (pv 5) pa_nil))))))
          (fun _ _ _ _ _ => pe_int)) pa_nil))))), ?_⟩
    have hz1 := O.size (l - 1) (by omega)
    have hz2 := O2.size (l - 1) (by omega)
    have e1 : (rows l d).length = (pairsN d (l - 1)).length := List.length_map _
    have e2 : (rows l (d + 1)).length = (pairsN (d + 1) (l - 1)).length := List.length_map _
    refine ⟨_, rfl, _, rfl, l, d, rfl, h1, h4, by omega, O, fun H1 y rs s1 _ hy hT => ?_⟩
    have hrl := hT.length
    have ely : (rs.map V.ref).length = (rows l d).length := by rw [List.length_map, hrl]
    refine ⟨_, rfl, _, rfl, y, _, rfl, .inl (SqL.of hy), _, rfl, _, _, rfl, rfl, _, rfl, y, _, rfl, SqL.of hy, fun a ha => ?_⟩
    rw [ely]
    have ecut : cutV (rs.map V.ref) none (some ((((rows l d).length : Nat) : Int) - ((m : Nat) : Int))) = (rs.take ((rows l d).length - m)).map V.ref := by
      rw [show (((rows l d).length : Nat) : Int) - ((m : Nat) : Int) = (((rows l d).length - m : Nat) : Int) by omega, cut_to _ _ (by rw [ely]; omega), List.map_take]
    rw [ecut]
    have sa := same_new ha (.lst ((rs.take ((rows l d).length - m)).map V.ref))
    have hTk := tups_take ((rows l d).length - m) (hT.same sa)
    have ha2 : (upd H1 a (.lst ((rs.take ((rows l d).length - m)).map V.ref))) a = some (.lst ((rs.take ((rows l d).length - m)).map V.ref)) := upd_same
    generalize (upd H1 a (.lst ((rs.take ((rows l d).length - m)).map V.ref))) = H2 at sa hTk ha2
    refine ⟨_, rfl, _, rfl, _, _, rfl, rfl, l, d + 1, rfl, h1, h4, by omega, O2, fun H3 b qs s3 _ hb hT3 => ?_⟩
    have hql := hT3.length
    refine ⟨b, rfl, ⟨_, SqL.of hb⟩, fun D hD => ?_⟩
    have sD := same_new hD (.lst [])
    have ha3 := s3 _ _ ha2
    have hTk3 := hTk.same s3
    refine lc_list (K := K) (a := b) (xs := qs.map V.ref) (fun i H' => Same H3 H' ∧ H' D = some (.lst (nv (List.replicate (((rows l (d + 1)).take i).filter fun t => !hasB ((rows l d).take ((rows l d).length - m)) t).length 1)))) ⟨sD, upd_same⟩ (fun i H' _ h => h.1.seq (SqL.of hb)) ?_ ?_
    · rintro i x H' hx ⟨s4, hD4⟩
      obtain ⟨c, hc, rfl⟩ := ref_get hx
      obtain ⟨t, ht, htc⟩ := (hT3.same s4).get hc
      have htl := rows_len O2 (List.mem_of_getElem? ht)
      have hfl := List.length_filter_le (fun t => !hasB ((rows l d).take ((rows l d).length - m)) t) ((rows l (d + 1)).take i)
      rw [List.length_take] at hfl
      refine ⟨rfl, _, rfl, _, rfl, a, c, _, _, t, rfl, SqL.of (s4 _ _ ha3), hTk3.same s4, htc, fun u hu => ?_, ?_, by omega, fun H5 s5 => ⟨_, rfl, ?_⟩⟩
      · rw [htl, rows_len O (List.mem_of_mem_take hu)]
      · rw [List.length_take]
        omega
      have hD5 := s5 _ _ hD4
      cases e : hasB ((rows l d).take ((rows l d).length - m)) t with
      | true =>
        refine iteF ⟨s4.trans s5, ?_⟩
        have ef : [t].filter (fun t => !hasB ((rows l d).take ((rows l d).length - m)) t) = [] := List.filter_cons_of_neg (p := fun t : List Nat => !hasB ((rows l d).take ((rows l d).length - m)) t) (by rw [e]; decide)
        rw [take_more ht, List.filter_append, ef, List.append_nil]
        exact hD5
      | false =>
        have ef : [t].filter (fun t => !hasB ((rows l d).take ((rows l d).length - m)) t) = [t] := List.filter_cons_of_pos (p := fun t : List Nat => !hasB ((rows l d).take ((rows l d).length - m)) t) (by rw [e]; decide)
        refine iteT ⟨_, hD5, by rw [nv_len, List.length_replicate]; exact sizeK (by omega), same_updL (s4.trans s5) hD, ?_⟩
        rw [upd_same, take_more ht, List.filter_append, ef, List.length_append, List.length_singleton, List.replicate_succ', nv_app]
        rfl
    · rintro H' ⟨s4, hD4⟩
      have et : (rows l (d + 1)).take qs.length = rows l (d + 1) := List.take_of_length_le (by omega)
      rw [List.length_map, et] at hD4
      refine ⟨D, _, rfl, .inl (SqL.of hD4), ?_⟩
      rw [nv_len, List.length_replicate]
      exact q H' (s1.trans (sa.trans (s3.trans s4)))
end
end L6

namespace L6
open PySem PySem.Spec PyProof.Rows L2 L5 RZ
section
variable {P : Program} {w : World} {K : PySem.W.Frag} {mg : Str → Option Value} {base : Heap}
def sp_right : Sp := fun vs H Q _ => ∃ (p : Addr) (g x c : Int), vs = [.ref p] ∧ H p = some (tubO g x c) ∧ ∀ H' g x c, Bar p H H' → H' p = some (tubO g x c) → Q (.bl true) H'
theorem ok_right (T : Txt K mg) : FnOk P w K mg base CX0 7 T.a_w_right T.d_w_right ["_law_tub_here"] sp_right := by
  refine T.F_w_right.ok sc_w_right (fun vs H Q E h => ?_) (fun cdv A outer s H vs Q E hr h => ?_)
  · obtain ⟨p, g, x, c, rfl, _⟩ := h
    rfl
  · obtain ⟨p, g, x, c, rfl, hp0, q⟩ := h
    refine ⟨_, pss_cons (ps_set (i := 1) sc_w_right.nd rfl (Or.inl rfl) (PE.weak (t' := fun σ' H' Q' => ∃ g x c, σ'[0]? = some (some (.ref p)) ∧ H' p = some (tubO g x c) ∧ ∀ (H2 : Hp) (d : Nat) (g x c : Int), 1 ≤ d → d ≤ 60 → Bar p H' H2 → H2 p = some (tubO g x c) → Q' (.int ((d : Nat) : Int)) H2)
        (pe_op op_add pe_int (pe_call (ok_pour T) (hr.mono (by decide)) (by rfl) T.m_w_pour T.F_w_pour.kp T.b_w_pour .nil pass0 (pa_cons (pv 0) (pa_cons (pe_call (ok_choice T) (hr.mono (by decide)) (by rfl) T.m_w_choice T.F_w_choice.kp T.b_w_choice .nil pass0 (pa_cons (pv 0) (pa_cons (pe_lst (pa_cons pe_int (pa_cons pe_int (pa_cons pe_int pa_nil)))) pa_nil))) pa_nil)))) ?w1))
      (pss_cons (ps_set (i := 2) sc_w_right.nd rfl (Or.inl rfl) (PE.weak (t' := fun σ' H' Q' => ∃ g x c, σ'[0]? = some (some (.ref p)) ∧ H' p = some (tubO g x c) ∧ ∀ (H2 : Hp) (n : Nat) (g x c : Int), n ≤ 1000000 → Bar p H' H2 → H2 p = some (tubO g x c) → Q' (.int ((n : Nat) : Int)) H2)
        (pe_call (ok_pour T) (hr.mono (by decide)) (by rfl) T.m_w_pour T.F_w_pour.kp T.b_w_pour .nil pass0 (pa_cons (pv 0) (pa_cons (pe_call (ok_choice T) (hr.mono (by decide)) (by rfl) T.m_w_choice T.F_w_choice.kp T.b_w_choice .nil pass0 (pa_cons (pv 0) (pa_cons (pe_lst (pa_cons pe_int (pa_cons pe_int (pa_cons pe_int pa_nil)))) pa_nil))) pa_nil))) ?w2))
      (pss_cons (ps_if (pt_not (pt_val (pe_call (ok_shrt T) hr (by rfl) T.m_w_shares_right T.F_w_shares_right.kp T.b_w_shares_right .nil pass0 (pa_cons (pv 2) (pa_cons (pv 1) pa_nil))))) (pss_one (ps_ret pe_bl)) pss_nil)
      (pss_cons (PS.weak (t' := fun D σ' H' => ∃ n d : Nat, σ'[1]? = some (some (.int ((d : Nat) : Int))) ∧ σ'[2]? = some (some (.int ((n : Nat) : Int))) ∧ 1 ≤ d ∧ d ≤ 60 ∧ n ≤ 1000000 ∧ ∀ H2, Same H' H2 → D.nx σ' H2) (ps_if (PW.pt (pw_and (pt_cmpR op_lt (pv 2) pe_int (nomark _)) (pw_and1 (pt_cmpR op_le (pe_call (ok_gro T) (hr.mono (by decide)) (by rfl) T.m_growth_bound T.F_growth_bound.kp T.b_growth_bound .nil pass0 (pa_cons (pe_op op_add (pv 2) pe_int) (pa_cons (pv 1) pa_nil)))
          (pe_call (ok_gro T) (hr.mono (by decide)) (by rfl) T.m_growth_bound T.F_growth_bound.kp T.b_growth_bound .nil pass0 (pa_cons (pv 2) (pa_cons (pv 1) pa_nil))) (nomark _))))) (pss_one (ps_ret pe_bl)) pss_nil) ?w3)
      (pss_cons (ps_par (i := 3) (j := 4) (by rfl) sc_w_right.nd rfl rfl (by decide) rfl rfl (pa_cons (pe_op op_add pe_int (pe_call (ok_pour T) (hr.mono (by decide)) (by rfl) T.m_w_pour T.F_w_pour.kp T.b_w_pour .nil pass0 (pa_cons (pv 0) (pa_cons pe_int pa_nil)))) (pa_cons (pe_op op_add pe_int (pe_call (ok_pour T) (hr.mono (by decide)) (by rfl) T.m_w_pour T.F_w_pour.kp T.b_w_pour .nil pass0 (pa_cons (pv 0) (pa_cons pe_int pa_nil)))) pa_nil)) (by rfl))
      (pss_cons (ps_set (i := 5) sc_w_right.nd rfl (Or.inl rfl) (pe_call (ok_pour T) (hr.mono (by decide)) (by rfl) T.m_w_pour T.F_w_pour.kp T.b_w_pour .nil pass0 (pa_cons (pv 0) (pa_cons (pe_op op_add (pe_call (ok_many T) (hr.mono (by decide)) (by rfl) T.m_w_many T.F_w_many.kp T.b_w_many .nil pass0 (pa_cons (pv 3) (pa_cons (pv 4) pa_nil))) pe_int) pa_nil))))
      (pss_one (ps_ret (pe_cmpR op_eq (pe_call (ok_gro T) (hr.mono (by decide)) (by rfl) T.m_growth_bound T.F_growth_bound.kp T.b_growth_bound .nil pass0 (pa_cons (pv 5) (pa_cons (pv 4) pa_nil)))
        (pe_call (ok_la T) (hr.mono (by decide)) (by rfl) T.m_w_left_above T.F_w_left_above.kp T.b_w_left_above .nil pass0 (pa_cons (pv 3) (pa_cons (pv 4) (pa_cons (pv 5) pa_nil)))) (nomark _))))))))), ?_⟩
    case w1 =>
      rintro σ' H' Q' ⟨g, x, c, e0, hp, h⟩
      refine ⟨_, e0, _, e0, by show 3 ≤ sizeLine; decide, fun z hz => ?_⟩
      have sz := same_new hz (.lst [V.int 4, V.int 12, V.int 60])
      have hne : z ≠ p := fun e => by
        rw [e, hp] at hz
        cases hz
      refine ⟨p, z, _, g, x, c, rfl, sz _ _ hp, hne, SqL.of upd_same, by simp, by simp, fun g' x' c' v hv => ?_⟩
      have hv' : ∃ m : Nat, v = V.int ((m : Nat) : Int) ∧ 1 ≤ m ∧ m ≤ 60 := by
        simp only [List.mem_cons, List.not_mem_nil, or_false] at hv
        rcases hv with e | e | e
        · exact ⟨4, e, by decide, by decide⟩
        · exact ⟨12, e, by decide, by decide⟩
        · exact ⟨60, e, by decide, by decide⟩
      obtain ⟨m, rfl, hm1, hm⟩ := hv'
      refine ⟨p, _, g', x', c', rfl, upd_same, by omega, by omega, fun g2 x2 c2 r r0 r1 => ?_⟩
      have q' := h (upd (upd (upd H' z (.lst [V.int 4, V.int 12, V.int 60])) p (tubO g' x' c')) p (tubO g2 x2 c2)) (1 + r).toNat g2 x2 c2 (by omega) (by omega) (((Bar.same sz).trans Bar.upd).trans Bar.upd) upd_same
      rw [show (((1 + r).toNat : Nat) : Int) = 1 + r by omega] at q'
      exact ⟨_, _, rfl, rfl, q'⟩
    case w2 =>
      rintro σ' H' Q' ⟨g, x, c, e0, hp, h⟩
      refine ⟨_, e0, _, e0, by show 3 ≤ sizeLine; decide, fun z hz => ?_⟩
      have sz := same_new hz (.lst [V.int 10, V.int 500, V.int 1000001])
      have hne : z ≠ p := fun e => by
        rw [e, hp] at hz
        cases hz
      refine ⟨p, z, _, g, x, c, rfl, sz _ _ hp, hne, SqL.of upd_same, by simp, by simp, fun g' x' c' v hv => ?_⟩
      have hv' : ∃ m : Nat, v = V.int ((m : Nat) : Int) ∧ 1 ≤ m ∧ m ≤ 1000001 := by
        simp only [List.mem_cons, List.not_mem_nil, or_false] at hv
        rcases hv with e | e | e
        · exact ⟨10, e, by decide, by decide⟩
        · exact ⟨500, e, by decide, by decide⟩
        · exact ⟨1000001, e.trans (congrArg V.int (by omega)), by omega, by omega⟩
      obtain ⟨m, rfl, hm1, hm⟩ := hv'
      refine ⟨p, _, g', x', c', rfl, upd_same, by omega, by omega, fun g2 x2 c2 r r0 r1 => ?_⟩
      have q' := h (upd (upd (upd H' z (.lst [V.int 10, V.int 500, V.int 1000001])) p (tubO g' x' c')) p (tubO g2 x2 c2)) r.toNat g2 x2 c2 (by omega) (((Bar.same sz).trans Bar.upd).trans Bar.upd) upd_same
      rw [show ((r.toNat : Nat) : Int) = r by omega] at q'
      exact q'
    case w3 =>
      rintro D σ' H' ⟨n, d, e1, e2, hd1, hd6, hn, h⟩
      refine ⟨_, e2, ((n : Nat) : Int), 1000000, rfl, rfl, decide (((n : Nat) : Int) < 1000000), rfl, ?_⟩
      generalize hb : decide (((n : Nat) : Int) < 1000000) = b
      cases b with
      | true =>
        have g' := of_decide_eq_true hb
        refine iteT ?_
        refine ⟨_, e2, _, _, rfl, rfl, _, e1, n + 1, d, rfl, hd1, hd6, by omega, fun H2 s2 => ?_⟩
        refine ⟨_, e2, _, e1, n, d, rfl, hd1, hd6, hn, fun H3 s3 => ?_⟩
        have hlt := G_lt (d - 1) n
        rw [show d - 1 + 1 = d by omega] at hlt
        refine ⟨_, _, rfl, rfl, _, rfl, ?_⟩
        rw [decide_eq_false (show ¬ ((G d (n + 1) : Nat) : Int) ≤ ((G d n : Nat) : Int) by omega)]
        exact iteF (h H3 (s2.trans s3))
      | false => exact iteF (iteF (h H' (Same.refl _)))
    refine ⟨g, x, c, rfl, hp0, fun H1 d g1 x1 c1 hd1 hd6 B1 hp1 => ?_⟩
    refine ⟨g1, x1, c1, rfl, hp1, fun H2 n g2 x2 c2 hn B2 hp2 => ?_⟩
    refine ⟨_, rfl, _, rfl, n, d, rfl, hd1, hd6, hn, fun H3 s3 => ⟨true, rfl, iteF ?_⟩⟩
    have hp3 := s3 _ _ hp2
    have B3 := (B1.trans B2).trans (Bar.same s3)
    refine ⟨n, d, rfl, rfl, hd1, hd6, hn, fun H4 s4 => ?_⟩
    have hp4 := s4 _ _ hp3
    have B4 := B3.trans (Bar.same s4)
    -- letters, low
    refine ⟨_, rfl, p, _, g2, x2, c2, rfl, hp4, by decide, by decide, fun g5 x5 c5 l' l0 l1 => ?_⟩
    refine ⟨_, _, rfl, rfl, _, rfl, p, _, g5, x5, c5, rfl, upd_same, by decide, by decide, fun g6 x6 c6 e' e0 e1 => ?_⟩
    obtain ⟨l, hl⟩ : ∃ l : Nat, 2 + l' = ((l : Nat) : Int) := ⟨(2 + l').toNat, by omega⟩
    obtain ⟨e, he⟩ : ∃ e : Nat, 1 + e' = ((e : Nat) : Int) := ⟨(1 + e').toNat, by omega⟩
    have hp6 : (upd (upd H4 p (tubO g5 x5 c5)) p (tubO g6 x6 c6)) p = some (tubO g6 x6 c6) := upd_same
    have B6 : Bar p H (upd (upd H4 p (tubO g5 x5 c5)) p (tubO g6 x6 c6)) := (B4.trans Bar.upd).trans Bar.upd
    generalize (upd (upd H4 p (tubO g5 x5 c5)) p (tubO g6 x6 c6)) = H6 at hp6 B6
    refine ⟨_, _, rfl, rfl, _, _, rfl, ?_⟩
    show tSeq _ _ _ [some (V.ref p), some (V.int ((d : Nat) : Int)), some (V.int ((n : Nat) : Int)), some (V.int (2 + l')), some (V.int (1 + e')), none] H6
    rw [hl, he]
    have O := ok6 (l := l) (d := e) (by omega) (by omega) (by omega)
    have hW := W_le (l - 1) (by omega) e (by omega)
    refine ⟨_, rfl, _, rfl, _, rfl, _, _, l - 1, e, rfl, by omega, rfl, by omega, by omega, ?_⟩
    refine ⟨_, _, rfl, rfl, p, _, g6, x6, c6, rfl, hp6, by omega, by omega, fun g7 x7 c7 m m0 m1 => ?_⟩
    obtain ⟨m, rfl⟩ : ∃ n : Nat, m = ((n : Nat) : Int) := ⟨m.toNat, by omega⟩
    have hp7 : (upd H6 p (tubO g7 x7 c7)) p = some (tubO g7 x7 c7) := upd_same
    have B7 : Bar p H (upd H6 p (tubO g7 x7 c7)) := B6.trans Bar.upd
    refine ⟨_, rfl, _, rfl, m, e, rfl, by omega, by omega, by omega, fun H8 s8 => ?_⟩
    refine ⟨_, rfl, _, rfl, _, rfl, l, e, m, rfl, by omega, by omega, by omega, by rw [O.len]; omega, fun H9 s9 => ⟨rfl, ?_⟩⟩
    rw [G_left (l := l) (d := e) (m := m) (by omega) (by omega) (by omega) (by omega) (by omega), decide_eq_true rfl]
    exact q _ g7 x7 c7 (B7.trans (Bar.same (s8.trans s9))) (s9 _ _ (s8 _ _ hp7))
end
end L6

namespace L6
open PySem PySem.Spec PyProof.Rows L2 L5 RZ
theorem sh52 : shN 2 5 = [(3, 2), (2, 1)] := by decide +kernel
theorem sh103 : shN 3 10 = [(5, 3)] := by decide +kernel
theorem G52 : G 2 5 = 7 := by decide +kernel
theorem G103 : G 3 10 = 15 := by decide +kernel
theorem G601 : G 60 1 = 1 := by
  have t : IsTop 1 (59 + 1) 60 := ⟨by rw [C_self]; exact Nat.le_refl _, by have h2 := C_far 59 1; rw [show 59 + 1 + 1 = 60 + 1 from rfl] at h2; omega⟩
  have h := G_step Nat.one_pos t
  rw [C_self, C_self, Nat.sub_self, G_zero] at h
  exact h
theorem G_one (n : Nat) (hn : 0 < n) : 2 * G 1 n = n * (n + 1) := by
  have h := G_step (d := 0) hn (top_one n)
  have h2 := C_next (n + 1) 1 (by omega)
  have h3 : G 0 (n - C n (0 + 1)) = 0 := rfl
  rw [h3] at h
  rw [C_one, Nat.add_sub_cancel] at h2
  have h4 : C (n + 1) (0 + 2) = C (n + 1) (1 + 1) := rfl
  show 2 * G (0 + 1) n = _
  rw [h, h4, Nat.add_zero]
  exact h2
theorem G1m : G 1 1000000 = 500000500000 := by
  have h := G_one 1000000 (by omega)
  omega
section
variable {P : Program} {w : World} {K : PySem.W.Frag} {mg : Str → Option Value} {base : Heap}
def sp_law (K : PySem.W.Frag) : Sp := fun vs H Q _ => ∃ (a : Addr) (ns : List Int), vs = [.ref a] ∧ SqL K H a (ns.map V.int) ∧ ns.length ≤ 63 ∧ ∀ H', Q (.bl true) H'
theorem bar_back {z : Addr} {H A B : Hp} (s : Same H A) (b : Bar z A B) (hz : H z = none) : Same H B := fun c o h => b c o (ne_of_none h hz) (s c o h)
theorem ok_law (T : Txt K mg) : FnOk P w K mg base CX0 8 T.a_law T.d_law ["_law_script"] (sp_law K) := by
  refine T.F_law.ok sc_law (fun vs H Q E h => ?_) (fun cdv A outer s H vs Q E hr h => ?_)
  · obtain ⟨a, ns, rfl, _⟩ := h
    rfl
  · obtain ⟨a, ns, rfl, hS, hn, q⟩ := h
    refine ⟨_, pss_cons (ps_for PassesOwn.never rfl (pi_range1 rfl T.z_range (pa_cons (pe_callB (call_max2 rfl) (by rfl) T.z_max boot_max (pa_cons pe_int (pa_cons (pe_callB (call_min2 rfl) (by rfl) T.z_min (by decide +kernel) (pa_cons pe_int (pa_cons (pe_callB call_len_seq (by rfl) T.z_len boot_len (pa_cons (pv 0) pa_nil)) pa_nil))) pa_nil))) pa_nil)) (pg_name (i := 1) sc_law.nd rfl (Or.inl rfl))
        (pss_cons (ps_set (i := 2) sc_law.nd rfl (Or.inl rfl) (pe_call (ok_tub T) (hr.mono (by decide)) (by rfl) T.m_w_tub T.F_w_tub.kp T.b_w_tub .nil pass0 (pa_cons (pv 0) (pa_cons (pv 1) pa_nil))))
        (pss_one (ps_for PassesOwn.never rfl (pi_range1 rfl T.z_range (pa_cons pe_int pa_nil)) (pg_name (i := 3) sc_law.nd rfl (Or.inl rfl))
          (pss_one (ps_if (pt_not (pt_val (pe_call (ok_right T) hr (by rfl) T.m_w_right T.F_w_right.kp T.b_w_right .nil pass0 (pa_cons (pv 2) pa_nil)))) (pss_one (ps_ret pe_bl)) pss_nil))))))
      (pss_cons (ps_set (i := 4) sc_law.nd rfl (Or.inl rfl) (pe_lst
          (pa_cons (pe_call (ok_shr T) (hr.mono (by decide)) (by rfl) T.m_shares T.F_shares.kp T.b_shares .nil pass0 (pa_cons pe_int (pa_cons pe_int pa_nil)))
          (pa_cons (pe_call (ok_gro T) (hr.mono (by decide)) (by rfl) T.m_growth_bound T.F_growth_bound.kp T.b_growth_bound .nil pass0 (pa_cons pe_int (pa_cons pe_int pa_nil)))
          (pa_cons (pe_call (ok_shr T) (hr.mono (by decide)) (by rfl) T.m_shares T.F_shares.kp T.b_shares .nil pass0 (pa_cons pe_int (pa_cons pe_int pa_nil)))
          (pa_cons (pe_call (ok_gro T) (hr.mono (by decide)) (by rfl) T.m_growth_bound T.F_growth_bound.kp T.b_growth_bound .nil pass0 (pa_cons pe_int (pa_cons pe_int pa_nil)))
          (pa_cons (pe_call (ok_shr T) (hr.mono (by decide)) (by rfl) T.m_shares T.F_shares.kp T.b_shares .nil pass0 (pa_cons pe_int (pa_cons pe_int pa_nil)))
          (pa_cons (pe_call (ok_gro T) (hr.mono (by decide)) (by rfl) T.m_growth_bound T.F_growth_bound.kp T.b_growth_bound .nil pass0 (pa_cons pe_int (pa_cons pe_int pa_nil))) pa_nil))))))))
      (pss_cons (ps_if (pt_cmpR (op_neD hr.units) (pv 4) (pe_lst (pa_cons (pe_tup (pa_cons (pe_tup (pa_cons pe_int (pa_cons pe_int pa_nil))) (pa_cons (pe_tup (pa_cons pe_int (pa_cons pe_int pa_nil))) pa_nil)))
          (pa_cons pe_int (pa_cons (pe_tup (pa_cons (pe_tup (pa_cons pe_int (pa_cons pe_int pa_nil))) pa_nil)) (pa_cons pe_int (pa_cons (pe_tup pa_nil) (pa_cons pe_int pa_nil))))))) (nomark _)) (pss_one (ps_ret pe_bl)) pss_nil)
      (pss_one (ps_ret (pe_cmpR (op_eqD hr.units) (pe_lst (pa_cons (pe_call (ok_gro T) (hr.mono (by decide)) (by rfl) T.m_growth_bound T.F_growth_bound.kp T.b_growth_bound .nil pass0 (pa_cons pe_int (pa_cons pe_int pa_nil)))
          (pa_cons (pe_call (ok_gro T) (hr.mono (by decide)) (by rfl) T.m_growth_bound T.F_growth_bound.kp T.b_growth_bound .nil pass0 (pa_cons pe_int (pa_cons pe_int pa_nil))) pa_nil))) (pe_lst (pa_cons pe_int (pa_cons pe_int pa_nil))) (nomark _)))))), ?_⟩
    have hm1 : ∀ m : Int, (if (if ((ns.map V.int).length : Int) < 4 then ((ns.map V.int).length : Int) else 4) > 1 then (if ((ns.map V.int).length : Int) < 4 then ((ns.map V.int).length : Int) else 4) else 1) = m → 1 ≤ m ∧ m ≤ 4 := fun m e => by
      rw [← e]
      split <;> split <;> omega
    refine ⟨_, rfl, a, _, rfl, .inl hS, _, _, rfl, _, _, rfl, _, rfl, ?_⟩
    have hb := hm1 _ rfl
    refine ⟨Int.le_trans (by decide) hb.1, Int.lt_of_le_of_lt hb.2 (by decide), ?_⟩
    refine for_range (lo := 0) (n := _) (fun i σ H' => ∃ v1 v2 v3 : Option V, σ = [some (.ref a), v1, v2, v3, none] ∧ Same H H') ⟨none, none, none, rfl, Same.refl H⟩ ?_ ?_
    · rintro i σ H1 hi ⟨v1, v2, v3, rfl, s1⟩
      have hi3 : i < 1000 := by
        have := hb.2
        omega
      refine ⟨_, rfl, _, rfl, a, ns, i, by rw [Int.zero_add]; rfl, s1.seq hS, hi3, fun H2 z g x c s2 hz hz2 => ?_⟩
      have hzn : H z = none := Same.free s1 hz
      refine ⟨_, rfl, by decide, by decide, ?_⟩
      refine for_range (lo := 0) (n := _) (fun j σ H' => ∃ (v1 v3 : Option V) (g x c : Int), σ = [some (.ref a), v1, some (.ref z), v3, none] ∧ Same H H' ∧ H' z = some (tubO g x c)) ⟨_, _, g, x, c, rfl, s1.trans s2, hz2⟩ ?_ ?_
      · rintro j σ H3 hj ⟨v1, v3, g, x, c, rfl, s3, hz3⟩
        refine ⟨_, rfl, z, g, x, c, rfl, hz3, fun H4 g x c b4 hz4 => ⟨true, rfl, iteF ?_⟩⟩
        exact ⟨_, _, g, x, c, rfl, bar_back s3 b4 hzn, hz4⟩
      · rintro σ H3 ⟨v1, v3, g, x, c, rfl, s3, hz3⟩
        exact ⟨_, _, _, rfl, s3⟩
    · rintro σ H1 ⟨v1, v2, v3, rfl, s1⟩
      refine ⟨5, 2, rfl, by decide, by decide, by decide, fun H2 z2 r2 s2 h2 T2 => ?_⟩
      refine ⟨5, 2, rfl, by decide, by decide, by decide, fun H3 s3 => ?_⟩
      refine ⟨10, 3, rfl, by decide, by decide, by decide, fun H4 z4 r4 s4 h4 T4 => ?_⟩
      refine ⟨10, 3, rfl, by decide, by decide, by decide, fun H5 s5 => ?_⟩
      refine ⟨0, 4, rfl, by decide, by decide, by decide, fun H6 z6 r6 s6 h6 T6 => ?_⟩
      refine ⟨0, 4, rfl, by decide, by decide, by decide, fun H7 s7 => ?_⟩
      rw [sh52] at T2
      rw [sh103] at T4
      rw [sh_zero] at T6
      rw [G52, G103, G_zero]
      refine ⟨by show 6 ≤ sizeLine; decide, fun y hy => ?_⟩
      have s8 := same_new hy (.lst [V.ref z2, V.int ((7 : Nat) : Int), V.ref z4, V.int ((15 : Nat) : Int), V.ref z6, V.int ((0 : Nat) : Int)])
      have S8 := s7.trans s8
      have k2 := same_sqt (s3.trans (s4.trans (s5.trans (s6.trans S8)))) h2
      have k4 := same_sqt (s5.trans (s6.trans S8)) h4
      have k6 := same_sqt S8 h6
      have U2 := T2.same (s3.trans (s4.trans (s5.trans (s6.trans S8))))
      have U4 := T4.same (s5.trans (s6.trans S8))
      have U6 := T6.same S8
      have ky : (upd H7 y (.lst [V.ref z2, V.int ((7 : Nat) : Int), V.ref z4, V.int ((15 : Nat) : Int), V.ref z6, V.int ((0 : Nat) : Int)])) y = some (.lst [V.ref z2, V.int ((7 : Nat) : Int), V.ref z4, V.int ((15 : Nat) : Int), V.ref z6, V.int ((0 : Nat) : Int)]) := upd_same
      generalize (upd H7 y (.lst [V.ref z2, V.int ((7 : Nat) : Int), V.ref z4, V.int ((15 : Nat) : Int), V.ref z6, V.int ((0 : Nat) : Int)])) = H8 at k2 k4 k6 U2 U4 U6 ky
      refine ⟨_, rfl, by show 2 ≤ sizeLine; decide, fun a1 m1 => ⟨by show 2 ≤ sizeLine; decide, fun a2 m2 => ⟨by show 2 ≤ sizeLine; decide, fun a3 m3 => ⟨by show 2 ≤ sizeLine; decide, fun a4 m4 => ⟨by show 1 ≤ sizeLine; decide, fun a5 m5 => ⟨Nat.zero_le _, fun a6 m6 => ⟨by show 6 ≤ sizeLine; decide, fun e he => ?_⟩⟩⟩⟩⟩⟩⟩
      have t1 := same_new m1 (.tup [V.int 3, V.int 2])
      have t2 := same_new m2 (.tup [V.int 2, V.int 1])
      have t3 := same_new m3 (.tup [V.ref a1, V.ref a2])
      have t4 := same_new m4 (.tup [V.int 5, V.int 3])
      have t5 := same_new m5 (.tup [V.ref a4])
      have t6 := same_new m6 (.tup [])
      have t7 := same_new he (.lst [V.ref a3, V.int 7, V.ref a5, V.int 15, V.ref a6, V.int 0])
      have T7 := t1.trans (t2.trans (t3.trans (t4.trans (t5.trans (t6.trans t7)))))
      refine ⟨.list [.tuple ([[3, 2], [2, 1]].map encT), .int ((7 : Nat) : Int), .tuple ([[5, 3]].map encT), .int ((15 : Nat) : Int), .tuple [], .int ((0 : Nat) : Int)],
        .list [.tuple ([[3, 2], [2, 1]].map encT), .int 7, .tuple ([[5, 3]].map encT), .int 15, .tuple [], .int 0],
        .lst (SqL.of (T7 _ _ ky)) (.cons (.tup (same_sqt T7 k2) (dp_tups (U2.same T7))) (.cons (.int _) (.cons (.tup (same_sqt T7 k4) (dp_tups (U4.same T7))) (.cons (.int _) (.cons (.tup (same_sqt T7 k6) (dp_tups (U6.same T7))) (.cons (.int _) .nil)))))),
        .lst (SqL.of upd_same) (.cons (.tup (same_sqt (t4.trans (t5.trans (t6.trans t7))) (SqT.of upd_same)) (dp_tups (rs := [a1, a2]) (L := [[3, 2], [2, 1]]) (.cons (same_sqt (t2.trans (t3.trans (t4.trans (t5.trans (t6.trans t7))))) (SqT.of upd_same)) (.cons (same_sqt (t3.trans (t4.trans (t5.trans (t6.trans t7)))) (SqT.of upd_same)) .nil))))
          (.cons (.int _) (.cons (.tup (same_sqt (t6.trans t7) (SqT.of upd_same)) (dp_tups (rs := [a4]) (L := [[5, 3]]) (.cons (same_sqt (t5.trans (t6.trans t7)) (SqT.of upd_same)) .nil)))
          (.cons (.int _) (.cons (.tup (same_sqt t7 (SqT.of upd_same)) .nil) (.cons (.int _) .nil)))))), by decide +kernel, by decide +kernel, false, congrArg V.bl (by decide +kernel), iteF ?_⟩
      refine ⟨1, 60, rfl, by decide, by decide, by decide, fun H9 s9 => ?_⟩
      refine ⟨1000000, 1, rfl, by decide, by decide, Nat.le_refl _, fun H10 s10 => ?_⟩
      rw [G601, G1m]
      refine ⟨by show 2 ≤ sizeLine; decide, fun b hb' => ⟨by show 2 ≤ sizeLine; decide, fun b2 hb2 => ?_⟩⟩
      have u1 := same_new hb' (.lst [V.int ((1 : Nat) : Int), V.int ((500000500000 : Nat) : Int)])
      have u2 := same_new hb2 (.lst [V.int 1, V.int 500000500000])
      refine ⟨.list [.int ((1 : Nat) : Int), .int ((500000500000 : Nat) : Int)], .list [.int 1, .int 500000500000], .lst (SqL.of (u2 _ _ upd_same)) (.cons (.int _) (.cons (.int _) .nil)), .lst (SqL.of upd_same) (.cons (.int _) (.cons (.int _) .nil)), by decide +kernel, by decide +kernel, ?_⟩
      rw [show PyData.eqv (.list [.int ((1 : Nat) : Int), .int ((500000500000 : Nat) : Int)]) (.list [.int 1, .int 500000500000]) = true by decide +kernel]
      exact q _
end
end L6

namespace L6
open PySem PySem.Spec PyProof.Rows L2 L5 RZ
/-! ### the end -/
theorem all_mk {l : PySem.W.OpenLaw} {w : World} {K : PySem.W.Frag} {h : Heap} {mg : Str → Option Value} {fa : Addr} (X : K.In h) (G : h.Ns mainGlobals mg) (hfa : mg "law" = some (.ref fa))
    {od_is_number an_is_number : Option Addr} {sl_is_number : Array (Option Value)} {oc_is_number kV_is_number dc_is_number pm_is_number cd_is_number ct_is_number : Value} {f_is_number : Addr}
    (a_is_number : PySem.W.nsIn K mainGlobals "is_number" = some (some (.ref f_is_number))) (l_is_number : K.lookup f_is_number = some ⟨oc_is_number, od_is_number, .func (PySem.W.fnOf "is_number" "is_number" (defArgs s_is_number) (defBody s_is_number) (defScope s_is_number) .none kV_is_number dc_is_number pm_is_number an_is_number cd_is_number ct_is_number), sl_is_number⟩) (c_is_number : PySem.W.codeIn K cd_is_number "is_number" = true) (k_is_number : PySem.W.keepIn K (.ref f_is_number) = true)
    {od_is_within an_is_within : Option Addr} {sl_is_within : Array (Option Value)} {oc_is_within kV_is_within dc_is_within pm_is_within cd_is_within ct_is_within : Value} {f_is_within : Addr}
    (a_is_within : PySem.W.nsIn K mainGlobals "is_within" = some (some (.ref f_is_within))) (l_is_within : K.lookup f_is_within = some ⟨oc_is_within, od_is_within, .func (PySem.W.fnOf "is_within" "is_within" (defArgs s_is_within) (defBody s_is_within) (defScope s_is_within) .none kV_is_within dc_is_within pm_is_within an_is_within cd_is_within ct_is_within), sl_is_within⟩) (c_is_within : PySem.W.codeIn K cd_is_within "is_within" = true) (k_is_within : PySem.W.keepIn K (.ref f_is_within) = true)
    {od_check_within an_check_within : Option Addr} {sl_check_within : Array (Option Value)} {oc_check_within kV_check_within dc_check_within pm_check_within cd_check_within ct_check_within : Value} {f_check_within : Addr}
    (a_check_within : PySem.W.nsIn K mainGlobals "check_within" = some (some (.ref f_check_within))) (l_check_within : K.lookup f_check_within = some ⟨oc_check_within, od_check_within, .func (PySem.W.fnOf "check_within" "check_within" (defArgs s_check_within) (defBody s_check_within) (defScope s_check_within) .none kV_check_within dc_check_within pm_check_within an_check_within cd_check_within ct_check_within), sl_check_within⟩) (c_check_within : PySem.W.codeIn K cd_check_within "check_within" = true) (k_check_within : PySem.W.keepIn K (.ref f_check_within) = true)
    {od_choices an_choices : Option Addr} {sl_choices : Array (Option Value)} {oc_choices kV_choices dc_choices pm_choices cd_choices ct_choices : Value} {f_choices : Addr}
    (a_choices : PySem.W.nsIn K mainGlobals "choices" = some (some (.ref f_choices))) (l_choices : K.lookup f_choices = some ⟨oc_choices, od_choices, .func (PySem.W.fnOf "choices" "choices" (defArgs s_choices) (defBody s_choices) (defScope s_choices) .none kV_choices dc_choices pm_choices an_choices cd_choices ct_choices), sl_choices⟩) (c_choices : PySem.W.codeIn K cd_choices "choices" = true) (k_choices : PySem.W.keepIn K (.ref f_choices) = true)
    {od_shares_of an_shares_of : Option Addr} {sl_shares_of : Array (Option Value)} {oc_shares_of kV_shares_of dc_shares_of pm_shares_of cd_shares_of ct_shares_of : Value} {f_shares_of : Addr}
    (a_shares_of : PySem.W.nsIn K mainGlobals "shares_of" = some (some (.ref f_shares_of))) (l_shares_of : K.lookup f_shares_of = some ⟨oc_shares_of, od_shares_of, .func (PySem.W.fnOf "shares_of" "shares_of" (defArgs s_shares_of) (defBody s_shares_of) (defScope s_shares_of) .none kV_shares_of dc_shares_of pm_shares_of an_shares_of cd_shares_of ct_shares_of), sl_shares_of⟩) (c_shares_of : PySem.W.codeIn K cd_shares_of "shares_of" = true) (k_shares_of : PySem.W.keepIn K (.ref f_shares_of) = true)
    {od_greatest_top an_greatest_top : Option Addr} {sl_greatest_top : Array (Option Value)} {oc_greatest_top kV_greatest_top dc_greatest_top pm_greatest_top cd_greatest_top ct_greatest_top : Value} {f_greatest_top : Addr}
    (a_greatest_top : PySem.W.nsIn K mainGlobals "greatest_top" = some (some (.ref f_greatest_top))) (l_greatest_top : K.lookup f_greatest_top = some ⟨oc_greatest_top, od_greatest_top, .func (PySem.W.fnOf "greatest_top" "greatest_top" (defArgs s_greatest_top) (defBody s_greatest_top) (defScope s_greatest_top) .none kV_greatest_top dc_greatest_top pm_greatest_top an_greatest_top cd_greatest_top ct_greatest_top), sl_greatest_top⟩) (c_greatest_top : PySem.W.codeIn K cd_greatest_top "greatest_top" = true) (k_greatest_top : PySem.W.keepIn K (.ref f_greatest_top) = true)
    {od_bound_of an_bound_of : Option Addr} {sl_bound_of : Array (Option Value)} {oc_bound_of kV_bound_of dc_bound_of pm_bound_of cd_bound_of ct_bound_of : Value} {f_bound_of : Addr}
    (a_bound_of : PySem.W.nsIn K mainGlobals "bound_of" = some (some (.ref f_bound_of))) (l_bound_of : K.lookup f_bound_of = some ⟨oc_bound_of, od_bound_of, .func (PySem.W.fnOf "bound_of" "bound_of" (defArgs s_bound_of) (defBody s_bound_of) (defScope s_bound_of) .none kV_bound_of dc_bound_of pm_bound_of an_bound_of cd_bound_of ct_bound_of), sl_bound_of⟩) (c_bound_of : PySem.W.codeIn K cd_bound_of "bound_of" = true) (k_bound_of : PySem.W.keepIn K (.ref f_bound_of) = true)
    {od_check_share an_check_share : Option Addr} {sl_check_share : Array (Option Value)} {oc_check_share kV_check_share dc_check_share pm_check_share cd_check_share ct_check_share : Value} {f_check_share : Addr}
    (a_check_share : PySem.W.nsIn K mainGlobals "check_share" = some (some (.ref f_check_share))) (l_check_share : K.lookup f_check_share = some ⟨oc_check_share, od_check_share, .func (PySem.W.fnOf "check_share" "check_share" (defArgs s_check_share) (defBody s_check_share) (defScope s_check_share) .none kV_check_share dc_check_share pm_check_share an_check_share cd_check_share ct_check_share), sl_check_share⟩) (c_check_share : PySem.W.codeIn K cd_check_share "check_share" = true) (k_check_share : PySem.W.keepIn K (.ref f_check_share) = true)
    {od_shares an_shares : Option Addr} {sl_shares : Array (Option Value)} {oc_shares kV_shares dc_shares pm_shares cd_shares ct_shares : Value} {f_shares : Addr}
    (a_shares : PySem.W.nsIn K mainGlobals "shares" = some (some (.ref f_shares))) (l_shares : K.lookup f_shares = some ⟨oc_shares, od_shares, .func (PySem.W.fnOf "shares" "shares" (defArgs s_shares) (defBody s_shares) (defScope s_shares) .none kV_shares dc_shares pm_shares an_shares cd_shares ct_shares), sl_shares⟩) (c_shares : PySem.W.codeIn K cd_shares "shares" = true) (k_shares : PySem.W.keepIn K (.ref f_shares) = true)
    {od_growth_bound an_growth_bound : Option Addr} {sl_growth_bound : Array (Option Value)} {oc_growth_bound kV_growth_bound dc_growth_bound pm_growth_bound cd_growth_bound ct_growth_bound : Value} {f_growth_bound : Addr}
    (a_growth_bound : PySem.W.nsIn K mainGlobals "growth_bound" = some (some (.ref f_growth_bound))) (l_growth_bound : K.lookup f_growth_bound = some ⟨oc_growth_bound, od_growth_bound, .func (PySem.W.fnOf "growth_bound" "growth_bound" (defArgs s_growth_bound) (defBody s_growth_bound) (defScope s_growth_bound) .none kV_growth_bound dc_growth_bound pm_growth_bound an_growth_bound cd_growth_bound ct_growth_bound), sl_growth_bound⟩) (c_growth_bound : PySem.W.codeIn K cd_growth_bound "growth_bound" = true) (k_growth_bound : PySem.W.keepIn K (.ref f_growth_bound) = true)
    {od_w_tub an_w_tub : Option Addr} {sl_w_tub : Array (Option Value)} {oc_w_tub kV_w_tub dc_w_tub pm_w_tub cd_w_tub ct_w_tub : Value} {f_w_tub : Addr}
    (a_w_tub : PySem.W.nsIn K mainGlobals "_law_tub" = some (some (.ref f_w_tub))) (l_w_tub : K.lookup f_w_tub = some ⟨oc_w_tub, od_w_tub, .func (PySem.W.fnOf "_law_tub" "_law_tub" (defArgs s_w_tub) (defBody s_w_tub) (defScope s_w_tub) .none kV_w_tub dc_w_tub pm_w_tub an_w_tub cd_w_tub ct_w_tub), sl_w_tub⟩) (c_w_tub : PySem.W.codeIn K cd_w_tub "_law_tub" = true) (k_w_tub : PySem.W.keepIn K (.ref f_w_tub) = true)
    {od_w_pour an_w_pour : Option Addr} {sl_w_pour : Array (Option Value)} {oc_w_pour kV_w_pour dc_w_pour pm_w_pour cd_w_pour ct_w_pour : Value} {f_w_pour : Addr}
    (a_w_pour : PySem.W.nsIn K mainGlobals "_law_pour" = some (some (.ref f_w_pour))) (l_w_pour : K.lookup f_w_pour = some ⟨oc_w_pour, od_w_pour, .func (PySem.W.fnOf "_law_pour" "_law_pour" (defArgs s_w_pour) (defBody s_w_pour) (defScope s_w_pour) .none kV_w_pour dc_w_pour pm_w_pour an_w_pour cd_w_pour ct_w_pour), sl_w_pour⟩) (c_w_pour : PySem.W.codeIn K cd_w_pour "_law_pour" = true) (k_w_pour : PySem.W.keepIn K (.ref f_w_pour) = true)
    {od_w_choice an_w_choice : Option Addr} {sl_w_choice : Array (Option Value)} {oc_w_choice kV_w_choice dc_w_choice pm_w_choice cd_w_choice ct_w_choice : Value} {f_w_choice : Addr}
    (a_w_choice : PySem.W.nsIn K mainGlobals "_law_choice" = some (some (.ref f_w_choice))) (l_w_choice : K.lookup f_w_choice = some ⟨oc_w_choice, od_w_choice, .func (PySem.W.fnOf "_law_choice" "_law_choice" (defArgs s_w_choice) (defBody s_w_choice) (defScope s_w_choice) .none kV_w_choice dc_w_choice pm_w_choice an_w_choice cd_w_choice ct_w_choice), sl_w_choice⟩) (c_w_choice : PySem.W.codeIn K cd_w_choice "_law_choice" = true) (k_w_choice : PySem.W.keepIn K (.ref f_w_choice) = true)
    {od_w_binomial an_w_binomial : Option Addr} {sl_w_binomial : Array (Option Value)} {oc_w_binomial kV_w_binomial dc_w_binomial pm_w_binomial cd_w_binomial ct_w_binomial : Value} {f_w_binomial : Addr}
    (a_w_binomial : PySem.W.nsIn K mainGlobals "_law_binomial" = some (some (.ref f_w_binomial))) (l_w_binomial : K.lookup f_w_binomial = some ⟨oc_w_binomial, od_w_binomial, .func (PySem.W.fnOf "_law_binomial" "_law_binomial" (defArgs s_w_binomial) (defBody s_w_binomial) (defScope s_w_binomial) .none kV_w_binomial dc_w_binomial pm_w_binomial an_w_binomial cd_w_binomial ct_w_binomial), sl_w_binomial⟩) (c_w_binomial : PySem.W.codeIn K cd_w_binomial "_law_binomial" = true) (k_w_binomial : PySem.W.keepIn K (.ref f_w_binomial) = true)
    {od_w_many an_w_many : Option Addr} {sl_w_many : Array (Option Value)} {oc_w_many kV_w_many dc_w_many pm_w_many cd_w_many ct_w_many : Value} {f_w_many : Addr}
    (a_w_many : PySem.W.nsIn K mainGlobals "_law_many" = some (some (.ref f_w_many))) (l_w_many : K.lookup f_w_many = some ⟨oc_w_many, od_w_many, .func (PySem.W.fnOf "_law_many" "_law_many" (defArgs s_w_many) (defBody s_w_many) (defScope s_w_many) .none kV_w_many dc_w_many pm_w_many an_w_many cd_w_many ct_w_many), sl_w_many⟩) (c_w_many : PySem.W.codeIn K cd_w_many "_law_many" = true) (k_w_many : PySem.W.keepIn K (.ref f_w_many) = true)
    {od_w_listed an_w_listed : Option Addr} {sl_w_listed : Array (Option Value)} {oc_w_listed kV_w_listed dc_w_listed pm_w_listed cd_w_listed ct_w_listed : Value} {f_w_listed : Addr}
    (a_w_listed : PySem.W.nsIn K mainGlobals "_law_listed" = some (some (.ref f_w_listed))) (l_w_listed : K.lookup f_w_listed = some ⟨oc_w_listed, od_w_listed, .func (PySem.W.fnOf "_law_listed" "_law_listed" (defArgs s_w_listed) (defBody s_w_listed) (defScope s_w_listed) .none kV_w_listed dc_w_listed pm_w_listed an_w_listed cd_w_listed ct_w_listed), sl_w_listed⟩) (c_w_listed : PySem.W.codeIn K cd_w_listed "_law_listed" = true) (k_w_listed : PySem.W.keepIn K (.ref f_w_listed) = true)
    {od_w_shares an_w_shares : Option Addr} {sl_w_shares : Array (Option Value)} {oc_w_shares kV_w_shares dc_w_shares pm_w_shares cd_w_shares ct_w_shares : Value} {f_w_shares : Addr}
    (a_w_shares : PySem.W.nsIn K mainGlobals "_law_shares" = some (some (.ref f_w_shares))) (l_w_shares : K.lookup f_w_shares = some ⟨oc_w_shares, od_w_shares, .func (PySem.W.fnOf "_law_shares" "_law_shares" (defArgs s_w_shares) (defBody s_w_shares) (defScope s_w_shares) .none kV_w_shares dc_w_shares pm_w_shares an_w_shares cd_w_shares ct_w_shares), sl_w_shares⟩) (c_w_shares : PySem.W.codeIn K cd_w_shares "_law_shares" = true) (k_w_shares : PySem.W.keepIn K (.ref f_w_shares) = true)
    {od_w_bound an_w_bound : Option Addr} {sl_w_bound : Array (Option Value)} {oc_w_bound kV_w_bound dc_w_bound pm_w_bound cd_w_bound ct_w_bound : Value} {f_w_bound : Addr}
    (a_w_bound : PySem.W.nsIn K mainGlobals "_law_bound" = some (some (.ref f_w_bound))) (l_w_bound : K.lookup f_w_bound = some ⟨oc_w_bound, od_w_bound, .func (PySem.W.fnOf "_law_bound" "_law_bound" (defArgs s_w_bound) (defBody s_w_bound) (defScope s_w_bound) .none kV_w_bound dc_w_bound pm_w_bound an_w_bound cd_w_bound ct_w_bound), sl_w_bound⟩) (c_w_bound : PySem.W.codeIn K cd_w_bound "_law_bound" = true) (k_w_bound : PySem.W.keepIn K (.ref f_w_bound) = true)
    {od_w_divides an_w_divides : Option Addr} {sl_w_divides : Array (Option Value)} {oc_w_divides kV_w_divides dc_w_divides pm_w_divides cd_w_divides ct_w_divides : Value} {f_w_divides : Addr}
    (a_w_divides : PySem.W.nsIn K mainGlobals "_law_divides" = some (some (.ref f_w_divides))) (l_w_divides : K.lookup f_w_divides = some ⟨oc_w_divides, od_w_divides, .func (PySem.W.fnOf "_law_divides" "_law_divides" (defArgs s_w_divides) (defBody s_w_divides) (defScope s_w_divides) .none kV_w_divides dc_w_divides pm_w_divides an_w_divides cd_w_divides ct_w_divides), sl_w_divides⟩) (c_w_divides : PySem.W.codeIn K cd_w_divides "_law_divides" = true) (k_w_divides : PySem.W.keepIn K (.ref f_w_divides) = true)
    {od_w_has an_w_has : Option Addr} {sl_w_has : Array (Option Value)} {oc_w_has kV_w_has dc_w_has pm_w_has cd_w_has ct_w_has : Value} {f_w_has : Addr}
    (a_w_has : PySem.W.nsIn K mainGlobals "_law_has" = some (some (.ref f_w_has))) (l_w_has : K.lookup f_w_has = some ⟨oc_w_has, od_w_has, .func (PySem.W.fnOf "_law_has" "_law_has" (defArgs s_w_has) (defBody s_w_has) (defScope s_w_has) .none kV_w_has dc_w_has pm_w_has an_w_has cd_w_has ct_w_has), sl_w_has⟩) (c_w_has : PySem.W.codeIn K cd_w_has "_law_has" = true) (k_w_has : PySem.W.keepIn K (.ref f_w_has) = true)
    {od_w_shares_right an_w_shares_right : Option Addr} {sl_w_shares_right : Array (Option Value)} {oc_w_shares_right kV_w_shares_right dc_w_shares_right pm_w_shares_right cd_w_shares_right ct_w_shares_right : Value} {f_w_shares_right : Addr}
    (a_w_shares_right : PySem.W.nsIn K mainGlobals "_law_shares_right" = some (some (.ref f_w_shares_right))) (l_w_shares_right : K.lookup f_w_shares_right = some ⟨oc_w_shares_right, od_w_shares_right, .func (PySem.W.fnOf "_law_shares_right" "_law_shares_right" (defArgs s_w_shares_right) (defBody s_w_shares_right) (defScope s_w_shares_right) .none kV_w_shares_right dc_w_shares_right pm_w_shares_right an_w_shares_right cd_w_shares_right ct_w_shares_right), sl_w_shares_right⟩) (c_w_shares_right : PySem.W.codeIn K cd_w_shares_right "_law_shares_right" = true) (k_w_shares_right : PySem.W.keepIn K (.ref f_w_shares_right) = true)
    {od_w_left_above an_w_left_above : Option Addr} {sl_w_left_above : Array (Option Value)} {oc_w_left_above kV_w_left_above dc_w_left_above pm_w_left_above cd_w_left_above ct_w_left_above : Value} {f_w_left_above : Addr}
    (a_w_left_above : PySem.W.nsIn K mainGlobals "_law_left_above" = some (some (.ref f_w_left_above))) (l_w_left_above : K.lookup f_w_left_above = some ⟨oc_w_left_above, od_w_left_above, .func (PySem.W.fnOf "_law_left_above" "_law_left_above" (defArgs s_w_left_above) (defBody s_w_left_above) (defScope s_w_left_above) .none kV_w_left_above dc_w_left_above pm_w_left_above an_w_left_above cd_w_left_above ct_w_left_above), sl_w_left_above⟩) (c_w_left_above : PySem.W.codeIn K cd_w_left_above "_law_left_above" = true) (k_w_left_above : PySem.W.keepIn K (.ref f_w_left_above) = true)
    {od_w_right an_w_right : Option Addr} {sl_w_right : Array (Option Value)} {oc_w_right kV_w_right dc_w_right pm_w_right cd_w_right ct_w_right : Value} {f_w_right : Addr}
    (a_w_right : PySem.W.nsIn K mainGlobals "_law_right" = some (some (.ref f_w_right))) (l_w_right : K.lookup f_w_right = some ⟨oc_w_right, od_w_right, .func (PySem.W.fnOf "_law_right" "_law_right" (defArgs s_w_right) (defBody s_w_right) (defScope s_w_right) .none kV_w_right dc_w_right pm_w_right an_w_right cd_w_right ct_w_right), sl_w_right⟩) (c_w_right : PySem.W.codeIn K cd_w_right "_law_right" = true) (k_w_right : PySem.W.keepIn K (.ref f_w_right) = true)
    {od_law an_law : Option Addr} {sl_law : Array (Option Value)} {oc_law kV_law dc_law pm_law cd_law ct_law : Value} {f_law : Addr}
    (a_law : PySem.W.nsIn K mainGlobals "law" = some (some (.ref f_law))) (l_law : K.lookup f_law = some ⟨oc_law, od_law, .func (PySem.W.fnOf "law" "law" (defArgs s_law) (defBody s_law) (defScope s_law) .none kV_law dc_law pm_law an_law cd_law ct_law), sl_law⟩) (c_law : PySem.W.codeIn K cd_law "law" = true) (k_law : PySem.W.keepIn K (.ref f_law) = true)
    (z_isinstance : PySem.W.nsIn K mainGlobals "isinstance" = some none)
    (z_int : PySem.W.nsIn K mainGlobals "int" = some none)
    (z_bool : PySem.W.nsIn K mainGlobals "bool" = some none)
    (z_comb : PySem.W.nsIn K mainGlobals "comb" = some (some (.builtin "math.comb")))
    (z_tuple : PySem.W.nsIn K mainGlobals "tuple" = some none)
    (z_sum : PySem.W.nsIn K mainGlobals "sum" = some none)
    (z_len : PySem.W.nsIn K mainGlobals "len" = some none)
    (z_abs : PySem.W.nsIn K mainGlobals "abs" = some none)
    (z_max : PySem.W.nsIn K mainGlobals "max" = some none)
    (z_range : PySem.W.nsIn K mainGlobals "range" = some none)
    (z_list : PySem.W.nsIn K mainGlobals "list" = some none)
    (z_zip : PySem.W.nsIn K mainGlobals "zip" = some none)
    (z_min : PySem.W.nsIn K mainGlobals "min" = some none)
    {t_MOST_FAR : Nat} (g_MOST_FAR : PySem.W.nsIn K mainGlobals "MOST_FAR" = some (some (.int 1000000 t_MOST_FAR)))
    {t_MAX_DEGREE : Nat} (g_MAX_DEGREE : PySem.W.nsIn K mainGlobals "MAX_DEGREE" = some (some (.int 60 t_MAX_DEGREE)))
    : ∃ fd : FuncData, (∀ (s : Shared) (v : Value), BindsTo s fd ⟨[v], []⟩ [("_law_script", v)]) ∧ ∀ base : Heap, K.In base → base.Ns mainGlobals mg → FnOk l.prog w K mg base CX0 8 fa fd ["_law_script"] (sp_law K) := by
  have e := hfa.symm.trans (PySem.W.mg_of X G a_law)
  cases e
  have F_is_number := fun_mk (st := s_is_number) l_is_number c_is_number k_is_number
  have b_is_number := F_is_number.binds (ps := ["value"]) fun _ _ _ _ _ _ us hl => match us, hl with | [_], _ => rfl
  have F_is_within := fun_mk (st := s_is_within) l_is_within c_is_within k_is_within
  have b_is_within := F_is_within.binds (ps := ["value", "least", "most"]) fun _ _ _ _ _ _ us hl => match us, hl with | [_, _, _], _ => rfl
  have F_check_within := fun_mk (st := s_check_within) l_check_within c_check_within k_check_within
  have b_check_within := F_check_within.binds (ps := ["value", "least", "most"]) fun _ _ _ _ _ _ us hl => match us, hl with | [_, _, _], _ => rfl
  have F_choices := fun_mk (st := s_choices) l_choices c_choices k_choices
  have b_choices := F_choices.binds (ps := ["top", "bottom"]) fun _ _ _ _ _ _ us hl => match us, hl with | [_, _], _ => rfl
  have F_shares_of := fun_mk (st := s_shares_of) l_shares_of c_shares_of k_shares_of
  have b_shares_of := F_shares_of.binds (ps := ["number", "degree"]) fun _ _ _ _ _ _ us hl => match us, hl with | [_, _], _ => rfl
  have F_greatest_top := fun_mk (st := s_greatest_top) l_greatest_top c_greatest_top k_greatest_top
  have b_greatest_top := F_greatest_top.binds (ps := ["number", "bottom", "beyond"]) fun _ _ _ _ _ _ us hl => match us, hl with | [_, _, _], _ => rfl
  have F_bound_of := fun_mk (st := s_bound_of) l_bound_of c_bound_of k_bound_of
  have b_bound_of := F_bound_of.binds (ps := ["number", "degree"]) fun _ _ _ _ _ _ us hl => match us, hl with | [_, _], _ => rfl
  have F_check_share := fun_mk (st := s_check_share) l_check_share c_check_share k_check_share
  have b_check_share := F_check_share.binds (ps := ["number", "degree"]) fun _ _ _ _ _ _ us hl => match us, hl with | [_, _], _ => rfl
  have F_shares := fun_mk (st := s_shares) l_shares c_shares k_shares
  have b_shares := F_shares.binds (ps := ["number", "degree"]) fun _ _ _ _ _ _ us hl => match us, hl with | [_, _], _ => rfl
  have F_growth_bound := fun_mk (st := s_growth_bound) l_growth_bound c_growth_bound k_growth_bound
  have b_growth_bound := F_growth_bound.binds (ps := ["number", "degree"]) fun _ _ _ _ _ _ us hl => match us, hl with | [_, _], _ => rfl
  have F_w_tub := fun_mk (st := s_w_tub) l_w_tub c_w_tub k_w_tub
  have b_w_tub := F_w_tub.binds (ps := ["_law_script", "_law_spot"]) fun _ _ _ _ _ _ us hl => match us, hl with | [_, _], _ => rfl
  have F_w_pour := fun_mk (st := s_w_pour) l_w_pour c_w_pour k_w_pour
  have b_w_pour := F_w_pour.binds (ps := ["_law_tub_here", "_law_total"]) fun _ _ _ _ _ _ us hl => match us, hl with | [_, _], _ => rfl
  have F_w_choice := fun_mk (st := s_w_choice) l_w_choice c_w_choice k_w_choice
  have b_w_choice := F_w_choice.binds (ps := ["_law_tub_here", "_law_items"]) fun _ _ _ _ _ _ us hl => match us, hl with | [_, _], _ => rfl
  have F_w_binomial := fun_mk (st := s_w_binomial) l_w_binomial c_w_binomial k_w_binomial
  have b_w_binomial := F_w_binomial.binds (ps := ["_law_top", "_law_bottom"]) fun _ _ _ _ _ _ us hl => match us, hl with | [_, _], _ => rfl
  have F_w_many := fun_mk (st := s_w_many) l_w_many c_w_many k_w_many
  have b_w_many := F_w_many.binds (ps := ["_law_letters", "_law_degree"]) fun _ _ _ _ _ _ us hl => match us, hl with | [_, _], _ => rfl
  have F_w_listed := fun_mk (st := s_w_listed) l_w_listed c_w_listed k_w_listed
  have b_w_listed := F_w_listed.binds (ps := ["_law_letters", "_law_degree"]) fun _ _ _ _ _ _ us hl => match us, hl with | [_, _], _ => rfl
  have F_w_shares := fun_mk (st := s_w_shares) l_w_shares c_w_shares k_w_shares
  have b_w_shares := F_w_shares.binds (ps := ["_law_number", "_law_degree"]) fun _ _ _ _ _ _ us hl => match us, hl with | [_, _], _ => rfl
  have F_w_bound := fun_mk (st := s_w_bound) l_w_bound c_w_bound k_w_bound
  have b_w_bound := F_w_bound.binds (ps := ["_law_number", "_law_degree"]) fun _ _ _ _ _ _ us hl => match us, hl with | [_, _], _ => rfl
  have F_w_divides := fun_mk (st := s_w_divides) l_w_divides c_w_divides k_w_divides
  have b_w_divides := F_w_divides.binds (ps := ["_law_one", "_law_other"]) fun _ _ _ _ _ _ us hl => match us, hl with | [_, _], _ => rfl
  have F_w_has := fun_mk (st := s_w_has) l_w_has c_w_has k_w_has
  have b_w_has := F_w_has.binds (ps := ["_law_members", "_law_product"]) fun _ _ _ _ _ _ us hl => match us, hl with | [_, _], _ => rfl
  have F_w_shares_right := fun_mk (st := s_w_shares_right) l_w_shares_right c_w_shares_right k_w_shares_right
  have b_w_shares_right := F_w_shares_right.binds (ps := ["_law_number", "_law_degree"]) fun _ _ _ _ _ _ us hl => match us, hl with | [_, _], _ => rfl
  have F_w_left_above := fun_mk (st := s_w_left_above) l_w_left_above c_w_left_above k_w_left_above
  have b_w_left_above := F_w_left_above.binds (ps := ["_law_letters", "_law_degree", "_law_many_here"]) fun _ _ _ _ _ _ us hl => match us, hl with | [_, _, _], _ => rfl
  have F_w_right := fun_mk (st := s_w_right) l_w_right c_w_right k_w_right
  have b_w_right := F_w_right.binds (ps := ["_law_tub_here"]) fun _ _ _ _ _ _ us hl => match us, hl with | [_], _ => rfl
  have F_law := fun_mk (st := s_law) l_law c_law k_law
  have b_law := F_law.binds (ps := ["_law_script"]) fun _ _ _ _ _ _ us hl => match us, hl with | [_], _ => rfl
  let T : Txt K mg := ⟨_, _, F_is_number, b_is_number, PySem.W.mg_of X G a_is_number, _, _, F_is_within, b_is_within, PySem.W.mg_of X G a_is_within, _, _, F_check_within, b_check_within, PySem.W.mg_of X G a_check_within, _, _, F_choices, b_choices, PySem.W.mg_of X G a_choices, _, _, F_shares_of, b_shares_of, PySem.W.mg_of X G a_shares_of, _, _, F_greatest_top, b_greatest_top, PySem.W.mg_of X G a_greatest_top, _, _, F_bound_of, b_bound_of, PySem.W.mg_of X G a_bound_of, _, _, F_check_share, b_check_share, PySem.W.mg_of X G a_check_share, _, _, F_shares, b_shares, PySem.W.mg_of X G a_shares, _, _, F_growth_bound, b_growth_bound, PySem.W.mg_of X G a_growth_bound, _, _, F_w_tub, b_w_tub, PySem.W.mg_of X G a_w_tub, _, _, F_w_pour, b_w_pour, PySem.W.mg_of X G a_w_pour, _, _, F_w_choice, b_w_choice, PySem.W.mg_of X G a_w_choice, _, _, F_w_binomial, b_w_binomial, PySem.W.mg_of X G a_w_binomial, _, _, F_w_many, b_w_many, PySem.W.mg_of X G a_w_many, _, _, F_w_listed, b_w_listed, PySem.W.mg_of X G a_w_listed, _, _, F_w_shares, b_w_shares, PySem.W.mg_of X G a_w_shares, _, _, F_w_bound, b_w_bound, PySem.W.mg_of X G a_w_bound, _, _, F_w_divides, b_w_divides, PySem.W.mg_of X G a_w_divides, _, _, F_w_has, b_w_has, PySem.W.mg_of X G a_w_has, _, _, F_w_shares_right, b_w_shares_right, PySem.W.mg_of X G a_w_shares_right, _, _, F_w_left_above, b_w_left_above, PySem.W.mg_of X G a_w_left_above, _, _, F_w_right, b_w_right, PySem.W.mg_of X G a_w_right, _, _, F_law, b_law, PySem.W.mg_of X G a_law, PySem.W.mg_none_of X G z_isinstance, PySem.W.mg_none_of X G z_int, PySem.W.mg_none_of X G z_bool, PySem.W.mg_of X G z_comb, PySem.W.mg_none_of X G z_tuple, PySem.W.mg_none_of X G z_sum, PySem.W.mg_none_of X G z_len, PySem.W.mg_none_of X G z_abs, PySem.W.mg_none_of X G z_max, PySem.W.mg_none_of X G z_range, PySem.W.mg_none_of X G z_list, PySem.W.mg_none_of X G z_zip, PySem.W.mg_none_of X G z_min, _, PySem.W.mg_of X G g_MOST_FAR, _, PySem.W.mg_of X G g_MAX_DEGREE⟩
  exact ⟨_, fun s v => .of_eq rfl, fun base _ _ => ok_law T⟩
end L6
open PySem PySem.W PyProof.Rows
set_option maxRecDepth 100000 in
set_option maxHeartbeats 0 in
theorem PySem.Challenge.cw_pureladders_k17_whole_shares_and_growth_holds : PySem.Challenge.rw_pureladders_k17_whole_shares_and_growth.Holds := by
  w_on; o_law; k_head; (case hw => w_witness2)
  k_fill
  refine L2.walk_of (l := PySem.Challenge.rw_pureladders_k17_whole_shares_and_growth) (n := 63) (k := 8) (x := "_law_script") (CX := fun _ => L2.CX0) (sp := fun w => L6.sp_law _) rfl (by decide) rfl ⟨rfl, by decide, by decide⟩ (fun w h Y => PySem.W.kIn_of Y) ?F (fun _ _ a ns hl _ hS => ⟨a, ns, rfl, hS, hl, fun _ => rfl⟩) (fun _ _ _ _ _ h => h)
  case F =>
    intro w mg fa h KX G hmg
    refine' L6.all_mk KX G hmg ?a_is_number ?l_is_number ?c_is_number ?k_is_number ?a_is_within ?l_is_within ?c_is_within ?k_is_within ?a_check_within ?l_check_within ?c_check_within ?k_check_within ?a_choices ?l_choices ?c_choices ?k_choices ?a_shares_of ?l_shares_of ?c_shares_of ?k_shares_of ?a_greatest_top ?l_greatest_top ?c_greatest_top ?k_greatest_top ?a_bound_of ?l_bound_of ?c_bound_of ?k_bound_of ?a_check_share ?l_check_share ?c_check_share ?k_check_share ?a_shares ?l_shares ?c_shares ?k_shares ?a_growth_bound ?l_growth_bound ?c_growth_bound ?k_growth_bound ?a_w_tub ?l_w_tub ?c_w_tub ?k_w_tub ?a_w_pour ?l_w_pour ?c_w_pour ?k_w_pour ?a_w_choice ?l_w_choice ?c_w_choice ?k_w_choice ?a_w_binomial ?l_w_binomial ?c_w_binomial ?k_w_binomial ?a_w_many ?l_w_many ?c_w_many ?k_w_many ?a_w_listed ?l_w_listed ?c_w_listed ?k_w_listed ?a_w_shares ?l_w_shares ?c_w_shares ?k_w_shares ?a_w_bound ?l_w_bound ?c_w_bound ?k_w_bound ?a_w_divides ?l_w_divides ?c_w_divides ?k_w_divides ?a_w_has ?l_w_has ?c_w_has ?k_w_has ?a_w_shares_right ?l_w_shares_right ?c_w_shares_right ?k_w_shares_right ?a_w_left_above ?l_w_left_above ?c_w_left_above ?k_w_left_above ?a_w_right ?l_w_right ?c_w_right ?k_w_right ?a_law ?l_law ?c_law ?k_law ?z_isinstance ?z_int ?z_bool ?z_comb ?z_tuple ?z_sum ?z_len ?z_abs ?z_max ?z_range ?z_list ?z_zip ?z_min ?g_MOST_FAR ?g_MAX_DEGREE
    (case a_is_number => k_is)
    (case l_is_number => k_is)
    (case c_is_number => k_is)
    (case k_is_number => k_is)
    (case a_is_within => k_is)
    (case l_is_within => k_is)
    (case c_is_within => k_is)
    (case k_is_within => k_is)
    (case a_check_within => k_is)
    (case l_check_within => k_is)
    (case c_check_within => k_is)
    (case k_check_within => k_is)
    (case a_choices => k_is)
    (case l_choices => k_is)
    (case c_choices => k_is)
    (case k_choices => k_is)
    (case a_shares_of => k_is)
    (case l_shares_of => k_is)
    (case c_shares_of => k_is)
    (case k_shares_of => k_is)
    (case a_greatest_top => k_is)
    (case l_greatest_top => k_is)
    (case c_greatest_top => k_is)
    (case k_greatest_top => k_is)
    (case a_bound_of => k_is)
    (case l_bound_of => k_is)
    (case c_bound_of => k_is)
    (case k_bound_of => k_is)
    (case a_check_share => k_is)
    (case l_check_share => k_is)
    (case c_check_share => k_is)
    (case k_check_share => k_is)
    (case a_shares => k_is)
    (case l_shares => k_is)
    (case c_shares => k_is)
    (case k_shares => k_is)
    (case a_growth_bound => k_is)
    (case l_growth_bound => k_is)
    (case c_growth_bound => k_is)
    (case k_growth_bound => k_is)
    (case a_w_tub => k_is)
    (case l_w_tub => k_is)
    (case c_w_tub => k_is)
    (case k_w_tub => k_is)
    (case a_w_pour => k_is)
    (case l_w_pour => k_is)
    (case c_w_pour => k_is)
    (case k_w_pour => k_is)
    (case a_w_choice => k_is)
    (case l_w_choice => k_is)
    (case c_w_choice => k_is)
    (case k_w_choice => k_is)
    (case a_w_binomial => k_is)
    (case l_w_binomial => k_is)
    (case c_w_binomial => k_is)
    (case k_w_binomial => k_is)
    (case a_w_many => k_is)
    (case l_w_many => k_is)
    (case c_w_many => k_is)
    (case k_w_many => k_is)
    (case a_w_listed => k_is)
    (case l_w_listed => k_is)
    (case c_w_listed => k_is)
    (case k_w_listed => k_is)
    (case a_w_shares => k_is)
    (case l_w_shares => k_is)
    (case c_w_shares => k_is)
    (case k_w_shares => k_is)
    (case a_w_bound => k_is)
    (case l_w_bound => k_is)
    (case c_w_bound => k_is)
    (case k_w_bound => k_is)
    (case a_w_divides => k_is)
    (case l_w_divides => k_is)
    (case c_w_divides => k_is)
    (case k_w_divides => k_is)
    (case a_w_has => k_is)
    (case l_w_has => k_is)
    (case c_w_has => k_is)
    (case k_w_has => k_is)
    (case a_w_shares_right => k_is)
    (case l_w_shares_right => k_is)
    (case c_w_shares_right => k_is)
    (case k_w_shares_right => k_is)
    (case a_w_left_above => k_is)
    (case l_w_left_above => k_is)
    (case c_w_left_above => k_is)
    (case k_w_left_above => k_is)
    (case a_w_right => k_is)
    (case l_w_right => k_is)
    (case c_w_right => k_is)
    (case k_w_right => k_is)
    (case a_law => k_is)
    (case l_law => k_is)
    (case c_law => k_is)
    (case k_law => k_is)
    (case z_isinstance => k_is)
    (case z_int => k_is)
    (case z_bool => k_is)
    (case z_comb => k_is)
    (case z_tuple => k_is)
    (case z_sum => k_is)
    (case z_len => k_is)
    (case z_abs => k_is)
    (case z_max => k_is)
    (case z_range => k_is)
    (case z_list => k_is)
    (case z_zip => k_is)
    (case z_min => k_is)
    (case g_MOST_FAR => k_is)
    (case g_MAX_DEGREE => k_is)
