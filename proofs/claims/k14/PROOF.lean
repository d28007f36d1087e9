import PyProof.Rows.All
import Wide.All
import OpenK.AllK
import Wide.FinOn
import HandS.Base
import HandS.Call
import HandS.List
import HandS.Comp
import HandS.Ends
import HandS.Iter
import HandS.Words
import HandS.WordsList
import HandS.TupMul
import HandS.TupAny
import HandS.IsInst
import HandS.Zip
import HandS.Style
import HandS.Wide
import HandS.GenList
import KE.KTupSum
import KE.KEqSeq
import HandS.TupSets
import PyProof.WalksMore
import HandS.Property
import KE.KOpsOwn
import HandS.OwnEq
import HandS.WordsExc
import HandS.ForExc
import HandS.TryMany
import HandS.ExcInit
import HandS.ExcField
import HandS.Lambda
import KE.KExcInit
import HandS.Defaults
import KE.GoesMore
import HandS.Flow
import KE.DataMinMax
import HandS.SortKw
import HandS.More
import HandS.Dict
import HandS.Deep
import KE.KRevSl
import HandS.Conv
import PySem.Challenge.RW_pureladders_k14_whole_free_sets
set_option Elab.async false
set_option linter.all false
set_option maxRecDepth 100000
set_option maxHeartbeats 4000000
/-! rules that the layer lacks -/
namespace L5
open PySem PySem.Spec PyProof.Rows L2
/-! ### powers of great numbers -/
def CPowW (i j : Int) : Prop := 0 ≤ j ∧ (Builtin.Int.intBits i : Int) * j ≤ 2 ^ 27
theorem op_powW {X : Cx} : OpR X (binaryOp .Pow) (rI CPowW fun i j => .int (i ^ j.toNat)) := opI fun _ _ _ _ _ _ _ hc q => pow_int hc.1 hc.2 q
/-! ### sum and max of a tuple of ints -/
section
variable {pr : Program} {wd : World} {A : Around} {E : Value → Shared → Prop} {s : Shared} {tp : Addr} {us : List Value} {ms : List Int} {G : Value → Shared → Prop}
/-- a row of ints, as the library's walks want it -/
theorem items_of (hi : IntsAre us ms) : ∃ ws : Array (Int × Tok), us.toArray = intItems ws ∧ ws.toList.map (·.1) = ms := by
  obtain ⟨ws, ew⟩ := hi.allInts.items
  refine ⟨ws, ew, ?_⟩
  rw [← nums_intItems, ← ew]
  exact hi.numsOf
abbrev Stays (s : Shared) (h : Heap) : Prop := ∀ b o, s.heap.get? b = some o → h.get? b = some o
theorem sum_of_tuple (hh : A.handled = none) (ht : s.heap.IsTuple tp us.toArray) (hi : IntsAre us ms) (q : ∀ h n t, Stays s h → G (.int ms.sum t) { s with heap := h, toks := n }) :
    wpAny (model pr wd) A (call (.builtin "sum") [.ref tp]) G E s := by
  obtain ⟨ws, ew, en⟩ := items_of hi
  rw [ew] at ht
  refine PySem.W.ktm_sumG hh ht fun h n t kept => ?_
  have g := q h n t kept
  rw [← en] at g
  rw [preSum_eq, List.take_of_length_le (by rw [List.length_map, Array.length_toList]; exact Nat.le_refl _)]
  exact g
theorem max_of_tuple (hh : A.handled = none) (ht : s.heap.IsTuple tp us.toArray) (hi : IntsAre us ms) (some1 : 0 < ms.length) (q : ∀ h n M t, Stays s h → M ∈ ms → (∀ a, a ∈ ms → a ≤ M) → G (.int M t) { s with heap := h, toks := n }) :
    wpAny (model pr wd) A (call (.builtin "max") [.ref tp]) G E s := by
  obtain ⟨ws, ew, en⟩ := items_of hi
  subst en
  rw [ew] at ht
  have pos : 0 < ws.size := by simpa using some1
  have esz : (intItems ws).size = ws.size := by simp [intItems]
  obtain ⟨ob, hob, _⟩ := id ht
  have apart : tp ≠ s.heap.objs.size := Nat.ne_of_lt (Heap.lt_size hob)
  refine call_max_walk (wpAny_pyIter_tuple ht ?_)
  refine ⟨_, _, _, _, _, _, _, rfl, Walks.tuple (A := A.in1) hh s.heap.objs.size tp apart (intItems ws), ⟨⟨_, Heap.get?_push_size _ rfl, rfl, rfl⟩, ht.at fun o e => Heap.get?_push_of_some _ e⟩, fun b hb => ?_, by rw [esz]; exact pos, CmpOf.ints_gt (numAt ws) (fun _ _ => intItems_at), fun v h n hv kept => ?_⟩
  · have two : b = s.heap.objs.size ∨ b = tp := by simpa using hb
    rcases two with rfl | rfl
    · exact Heap.lt_size (o := _) (Heap.get?_push_size _ rfl)
    · exact Heap.lt_size (o := ob) (Heap.get?_push_of_some _ hob)
  · obtain ⟨t, rfl⟩ := intItems_at hv
    rw [esz] at *
    obtain ⟨top1, top2⟩ := argBest_gt (numAt ws) (ws.size - 1)
    have at_of : ∀ i, numAt ws i = (ws.toList.map (·.1)).getD i 0 := fun i => numAt_eq ..
    refine q h n _ t (fun b o e => kept b o (fun hb => ?_) (Heap.get?_push_of_some _ e)) ?_ fun a ha => ?_
    · rw [List.mem_singleton.mp hb] at e
      exact Nat.lt_irrefl _ (Heap.lt_size e)
    · rw [at_of]
      refine PySem.getD_mem ?_
      rw [List.length_map, Array.length_toList]
      omega
    · obtain ⟨i, less, rfl⟩ := mem_getD ha
      rw [List.length_map, Array.length_toList] at less
      rw [← at_of]
      exact top2 i (by omega)
end
section
variable {X : Cx}
def rSumT (K : PySem.W.Frag) : List V → Hp → VK → Prop := fun vs H Q => ∃ (a : Addr) (ns : List Int), vs = [V.ref a] ∧ SqT K H a (ns.map V.int) ∧ Q (.int ns.sum) H
theorem cr_sumT (calm : X.calm = true) : CallR X (.builtin "sum") (rSumT X.K) := fun _ _ _ _ _ _ _ I r h => by
  obtain ⟨_, _, rfl, ht, q⟩ := h
  obtain ⟨_, rv, plain, _⟩ := I.tuple ht
  rw [Vals.ref1 r]
  exact sum_of_tuple (I.ok.hd calm) plain rv.ints fun _ _ _ kept => ⟨.int _, _, I.kept kept, ⟨_, rfl⟩, q⟩
def rMaxT (K : PySem.W.Frag) : List V → Hp → VK → Prop := fun vs H Q => ∃ (a : Addr) (ns : List Int), vs = [V.ref a] ∧ SqT K H a (ns.map V.int) ∧ 0 < ns.length ∧ ∀ m, m ∈ ns → (∀ y, y ∈ ns → y ≤ m) → Q (.int m) H
theorem cr_maxT (calm : X.calm = true) : CallR X (.builtin "max") (rMaxT X.K) := fun _ _ _ _ _ _ _ I r h => by
  obtain ⟨_, _, rfl, ht, some1, q⟩ := h
  obtain ⟨_, rv, plain, _⟩ := I.tuple ht
  rw [Vals.ref1 r]
  exact max_of_tuple (I.ok.hd calm) plain rv.ints some1 fun _ _ m _ kept g1 g2 => ⟨.int m, _, I.kept kept, ⟨_, rfl⟩, q m g1 g2⟩
end
/-! ### tuple * int, any int: the tuple itself, the empty one, or a longer one -/
abbrev tupObj (items : Array Value) (n : Nat) (dd : Option Addr) (sl : Array (Option Value)) : Obj := { cls := .type "tuple", dict := dd, data := .seq items n, slots := sl }
theorem off_of {b : Bool} (h : b = false) : decide (b = true) = false := decide_eq_false (Bool.eq_false_iff.mp h)
theorem mul_same (tp : Addr) (items : Array Value) (n : Nat) (dd : Option Addr) (sl : Array (Option Value)) (x : Int) (u : Tok) (fits : (decide (x < -(2 ^ 63)) || decide (x ≥ 2 ^ 63)) = false) (same : (items.isEmpty || x == 1) = true) :
    Meets (Builtin.«tuple.__mul__» ⟨[.ref tp, .int x u], []⟩) (fun _ R s => s.heap.get? tp = some (tupObj items n dd sl) ∧ R (.ok (.ret (Value.ref tp))) { s with heap := s.heap, toks := s.toks }) :=
  .of_wp fun _ _ _ _ st both => by
    obtain ⟨_, _, _, _, _⟩ := st
    obtain ⟨at1, q⟩ := both
    have ix := AutoSeq1.idx_int
    wp_walk using wpAny_loadPart' at1
    repeat (first
      | (refine wpAny_ite_false (off_of fits) ?_; wp_walk using wpAny_loadPart' at1)
      | (refine wpAny_ite_true (decide_eq_true same) ?_; wp_walk using wpAny_loadPart' at1))
    exact ⟨_, rfl, q⟩
theorem mul_none (tp : Addr) (items : Array Value) (n : Nat) (dd : Option Addr) (sl : Array (Option Value)) (x : Int) (u : Tok) (fits : (decide (x < -(2 ^ 63)) || decide (x ≥ 2 ^ 63)) = false) (other : (items.isEmpty || x == 1) = false) (less : (decide (x ≤ 0) || items.isEmpty) = true) :
    Meets (Builtin.«tuple.__mul__» ⟨[.ref tp, .int x u], []⟩) (fun _ R s => s.heap.get? tp = some (tupObj items n dd sl) ∧
      R (.ok (.ret (Value.ref s.heap.objs.size))) { s with heap := s.heap.push { cls := Value.type "tuple", data := Data.seq #[] }, toks := s.toks }) :=
  .of_wp fun _ _ _ _ st both => by
    obtain ⟨_, _, _, _, _⟩ := st
    obtain ⟨at1, q⟩ := both
    have ix := AutoSeq1.idx_int
    wp_walk using wpAny_loadPart' at1
    repeat (first
      | (refine wpAny_ite_false (off_of fits) ?_; wp_walk using wpAny_loadPart' at1)
      | (refine wpAny_ite_false (off_of other) ?_; wp_walk using wpAny_loadPart' at1)
      | (refine wpAny_ite_true (decide_eq_true less) ?_; wp_walk using wpAny_loadPart' at1))
    exact ⟨_, rfl, q⟩
def rRepA (K : PySem.W.Frag) : R2 := fun x y H Q => ∃ l k xs, x = .ref l ∧ y = .int k ∧ SqT K H l xs ∧ xs ≠ [] ∧ -1000 ≤ k ∧ k ≤ 1000 ∧ xs.length ≤ 1000 ∧
  (k = 1 → Q (.ref l) H) ∧ (k ≠ 1 → ∀ p, H p = none → Q (.ref p) (upd H p (.tup (List.replicate k.toNat xs).flatten)))
section
variable {X : Cx}
theorem op_repA : OpR X (binaryOp .Mult) (rRepA X.K) := fun pins s σ H x y v u Q I rx ry h => by
  obtain ⟨tp, k, xs, rfl, rfl, isT, full, lo, hi, short, qa, qb⟩ := h
  by_cases two : 2 ≤ k
  · exact op_repT pins s σ H _ _ v u Q I rx ry ⟨tp, k, xs, rfl, rfl, isT, full, two, hi, short, qb (by omega)⟩
  cases rx
  obtain ⟨tk, rfl⟩ := ry
  obtain ⟨its, r, ⟨⟨c, dd, dt, sl⟩, ho, hc, n, hd⟩, _⟩ := I.tuple isT
  simp only at hc hd
  subst hc hd
  have filled : its.toArray.isEmpty = false := by
    cases its with
    | nil =>
      cases r
      exact absurd rfl full
    | cons _ _ => rfl
  have fits : (decide (k < -(2 ^ 63)) || decide (k ≥ 2 ^ 63)) = false := Bool.or_eq_false_iff.mpr ⟨decide_eq_false (by omega), decide_eq_false (by omega)⟩
  by_cases one : k = 1
  · subst one
    refine wpAny_binaryOp_repeat_ref (T := "tuple") (U := "int") (by decide) ⟨_, ho, rfl⟩ (fun z => typeIs_int z _ tk) noFill_tuple_mul F.fills_int_mul F.slot_int_rmul repeat_tuple F.slot_int_index.lookup
      (call_meets F.slot_int_rmul (typeIs_int s _ tk) F.entry_int_rmul (F.args_int_rmul_2 _ _) (int_rmul_tuple _ tk tp its.toArray n dd sl)
        ⟨ho, rfl, ⟨_, ho, rfl⟩, call_meets F.slot_tuple_mul ⟨_, ho, rfl⟩ F.entry_tuple_mul (F.args_tuple_mul_2 _ _) (mul_same tp its.toArray n dd sl 1 tk fits (by rw [filled]; rfl)) ⟨ho, ?_⟩⟩)
    exact ⟨.ref tp, H, I, rfl, qa rfl⟩
  · have other : (its.toArray.isEmpty || k == 1) = false := Bool.or_eq_false_iff.mpr ⟨filled, beq_eq_false_iff_ne.mpr one⟩
    have less : (decide (k ≤ 0) || its.toArray.isEmpty) = true := Bool.or_eq_true_iff.mpr (.inl (decide_eq_true (by omega)))
    refine wpAny_binaryOp_repeat_ref (T := "tuple") (U := "int") (by decide) ⟨_, ho, rfl⟩ (fun z => typeIs_int z k tk) noFill_tuple_mul F.fills_int_mul F.slot_int_rmul repeat_tuple F.slot_int_index.lookup
      (call_meets F.slot_int_rmul (typeIs_int s k tk) F.entry_int_rmul (F.args_int_rmul_2 _ _) (int_rmul_tuple k tk tp its.toArray n dd sl)
        ⟨ho, rfl, ⟨_, ho, rfl⟩, call_meets F.slot_tuple_mul ⟨_, ho, rfl⟩ F.entry_tuple_mul (F.args_tuple_mul_2 _ _) (mul_none tp its.toArray n dd sl k tk fits other less) ⟨ho, ?_⟩⟩)
    have e0 : (List.replicate k.toNat xs).flatten = [] := by
      rw [show k.toNat = 0 by omega]
      rfl
    have q := qb one s.heap.objs.size (I.hok.fresh (Nat.le_refl _))
    rw [e0] at q
    exact ⟨.ref s.heap.objs.size, _, I.laid (t' := s.toks) (o := .tup []) (fun _ _ e => Heap.get?_push_of_some _ e) (Nat.le_refl _) ⟨Nat.zero_le _, [], .nil, IsTup.new _ _⟩, rfl, q⟩
end
/-! ### words for what stands in the heap -/
section
variable {K : PySem.W.Frag} {H H' : Hp}
abbrev nv (t : List Nat) : List V := t.map fun n => V.int ((n : Nat) : Int)
theorem nv_ints (t : List Nat) : nv t = (t.map fun n => ((n : Nat) : Int)).map V.int := by
  rw [List.map_map]
  rfl
theorem nv_len (t : List Nat) : (nv t).length = t.length := List.length_map _
theorem nv_app (t u : List Nat) : nv (t ++ u) = nv t ++ nv u := List.map_append
theorem nv_get {t : List Nat} {i : Nat} {x : V} (h : (nv t)[i]? = some x) : ∃ n, t[i]? = some n ∧ x = .int ((n : Nat) : Int) := by
  rw [List.getElem?_map] at h
  cases e : t[i]? with
  | none =>
    rw [e] at h
    cases h
  | some n =>
    rw [e] at h
    exact ⟨n, rfl, (Option.some.inj h).symm⟩
theorem nv_at {t : List Nat} {i n : Nat} (h : t[i]? = some n) : atI (nv t) (i : Int) = some (.int ((n : Nat) : Int)) := atI_nat (by rw [List.getElem?_map, h] <;> rfl)
theorem sizeK {n : Nat} (h : n ≤ 1000000) : n < sizeLine := Nat.lt_of_le_of_lt h (by decide)
theorem same_updL {p : Addr} {o : HO} (s : Same H H') (hp : H p = none) : Same H (upd H' p o) := fun b u q => by
  rw [upd_ne (ne_of_none q hp)]
  exact s b u q
theorem sqt_updL {a p : Addr} {xs ys : List V} {o : HO} (hp : H p = some (.lst ys)) (h : SqT K H a xs) : SqT K (upd H p o) a xs := by
  have ne : ∀ u, H a = some u → u ≠ .lst ys → a ≠ p := fun u e n z => by
    rw [z, hp] at e
    exact n (Option.some.inj e).symm
  rcases h with (h | ⟨o, h⟩) | h
  · exact .inl (.inl (by rw [upd_ne (ne _ h (by intro z; cases z))]; exact h))
  · exact .inl (.inr ⟨o, by rw [upd_ne (ne _ h (by intro z; cases z))]; exact h⟩)
  · exact .inr h
theorem sql_updL {a p : Addr} {xs : List V} {o : HO} (hne : a ≠ p) (h : SqL K H a xs) : SqL K (upd H p o) a xs := by
  rcases h with (h | ⟨o, h⟩) | h
  · exact .inl (.inl (by rw [upd_ne hne]; exact h))
  · exact .inl (.inr ⟨o, by rw [upd_ne hne]; exact h⟩)
  · exact .inr h
theorem sum_cast (t : List Nat) : (t.map fun n => ((n : Nat) : Int)).sum = ((t.sum : Nat) : Int) := by
  induction t with
  | nil => rfl
  | cons x r ih => rw [List.map_cons, List.sum_cons, List.sum_cons, ih]; omega
theorem same_sqt {a : Addr} {xs : List V} (e : Same H H') (h : SqT K H a xs) : SqT K H' a xs := by
  rcases h with (h | ⟨o, h⟩) | h
  · exact .inl (.inl (e _ _ h))
  · exact .inl (.inr ⟨o, e _ _ h⟩)
  · exact .inr h
theorem same_new {p : Addr} (h : H p = none) (o : HO) : Same H (upd H p o) := fun b u q => by rw [upd_ne (ne_of_none q h)]; exact q
def Tups (K : PySem.W.Frag) (H : Hp) : List Addr → List (List Nat) → Prop := Paired fun a t => SqT K H a (nv t)
theorem Tups.same (e : Same H H') : ∀ {rs : List Addr} {L : List (List Nat)}, Tups K H rs L → Tups K H' rs L
  | _, _, .nil => .nil
  | _, _, .cons h t => .cons (same_sqt e h) (Tups.same e t)
theorem Tups.updL {p : Addr} {ys : List V} {o : HO} (hp : H p = some (.lst ys)) : ∀ {rs : List Addr} {L : List (List Nat)}, Tups K H rs L → Tups K (upd H p o) rs L
  | _, _, .nil => .nil
  | _, _, .cons h t => .cons (sqt_updL hp h) (Tups.updL hp t)
theorem Tups.length : ∀ {rs : List Addr} {L : List (List Nat)}, Tups K H rs L → rs.length = L.length
  | _, _, .nil => rfl
  | _, _, .cons _ t => congrArg (· + 1) (Tups.length t)
theorem Tups.app : ∀ {rs qs : List Addr} {L M : List (List Nat)}, Tups K H rs L → Tups K H qs M → Tups K H (rs ++ qs) (L ++ M)
  | _, _, _, _, .nil, s => s
  | _, _, _, _, .cons r t, s => .cons r (Tups.app t s)
theorem Tups.rev {rs : List Addr} {L : List (List Nat)} (h : Tups K H rs L) : Tups K H rs.reverse L.reverse := by
  induction h with
  | nil => exact .nil
  | cons r t ih =>
    rw [List.reverse_cons, List.reverse_cons]
    exact ih.app (.cons r .nil)
theorem Tups.get : ∀ {rs : List Addr} {L : List (List Nat)} {i : Nat} {a : Addr}, Tups K H rs L → rs[i]? = some a → ∃ t, L[i]? = some t ∧ SqT K H a (nv t)
  | _, _, _, _, .nil, e => by simp at e
  | _, _, 0, _, .cons r _, e => by simp at e; subst e; exact ⟨_, rfl, r⟩
  | _, _, i + 1, a, .cons _ t, e => by
    obtain ⟨u, h1, h2⟩ := Tups.get (i := i) (a := a) t (by simpa using e)
    exact ⟨u, by simpa using h1, h2⟩
theorem sqt_ty {a : Addr} {xs : List V} (h : SqT K H a xs) : TyX K H (.ref a) (.type "tuple") := by
  rcases h with (h | ⟨o, h⟩) | ⟨o, its, n, e, c, _⟩
  · exact .base (.tup h)
  · exact .fTuple h
  · exact .kTuple e c
/-- as data -/
abbrev encT (t : List Nat) : PyData := .tuple (t.map fun n => PyData.int ((n : Nat) : Int))
theorem dp_nats : ∀ (t : List Nat), DpAll K H (nv t) (t.map fun n => PyData.int ((n : Nat) : Int))
  | [] => .nil
  | n :: t => .cons (.int _) (dp_nats t)
theorem dp_tup {a : Addr} {t : List Nat} (h : SqT K H a (nv t)) : Dp K H (.ref a) (encT t) := .tup h (dp_nats t)
theorem dp_tups : ∀ {rs : List Addr} {L : List (List Nat)}, Tups K H rs L → DpAll K H (rs.map V.ref) (L.map encT)
  | _, _, .nil => .nil
  | _, _, .cons h t => .cons (dp_tup h) (dp_tups t)
theorem can_nats : ∀ t : List Nat, PyData.canLayAll0 (t.map fun n => PyData.int ((n : Nat) : Int)) = true ∧ PyData.depthAll (t.map fun n => PyData.int ((n : Nat) : Int)) = 0
  | [] => by simp [PyData.canLayAll0, PyData.depthAll]
  | n :: t => by
    have h := can_nats t
    simp only [List.map_cons, PyData.canLayAll0, PyData.depthAll, h.1, h.2, PyData.canLay0, PyData.depth]
    simp
theorem can_tups : ∀ L : List (List Nat), PyData.canLayAll0 (L.map encT) = true ∧ PyData.depthAll (L.map encT) ≤ 1
  | [] => by simp [PyData.canLayAll0, PyData.depthAll]
  | t :: L => by
    have h := can_tups L
    have g := can_nats t
    simp only [List.map_cons, PyData.canLayAll0, PyData.depthAll, h.1, PyData.canLay0, PyData.depth, g.1, g.2]
    exact ⟨by simp, by omega⟩
theorem shaped_tups (L : List (List Nat)) : SeqAt.shaped (.list (L.map encT)) = true := by
  have h := can_tups L
  unfold SeqAt.shaped
  simp only [PyData.canLay0, PyData.depth, h.1, Bool.true_and]
  exact decide_eq_true (by omega)
theorem eqv_tups (L : List (List Nat)) : PyData.eqv (.list (L.map encT)) (.list (L.map encT)) = true := SeqAt.eqv_refl _ (by
  simp only [PyData.canLay0]
  exact (can_tups L).1)
theorem shaped_tup (t : List Nat) : SeqAt.shaped (encT t) = true := by
  have g := can_nats t
  unfold SeqAt.shaped
  simp only [encT, PyData.canLay0, PyData.depth, g.1, g.2, Bool.true_and]
  exact decide_eq_true (by omega)
theorem eqv_tup (t : List Nat) : PyData.eqv (encT t) (encT t) = true := SeqAt.eqv_refl _ (by
  simp only [encT, PyData.canLay0]
  exact (can_nats t).1)
end
end L5

namespace W7
open PySem PySem.Spec PyProof.Rows L2
section
variable {P : Program} {w : World} {A : Around} {E : Value → Shared → Prop} {s : Shared}
theorem set_of_tuple {l : Addr} {items9 : Array Value} (ks9 : List (Addr × List Int)) {Q : Value → Shared → Prop} (hh9 : A.handled = none) (hl9 : s.heap.IsTuple l items9) (hit9 : items9.toList = ks9.map fun p => Value.ref p.1)
    (hk9 : ∀ p ∈ ks9, IsT P w s.heap p.2 p.1) (hfew9 : ks9.length < 64) (hu9 : A.units + 3 < cLine)
    (h : ∀ (h' : Heap) (tk9 : Nat) L es9 ep9 t, SetTR P w h' s.heap.objs.size L es9 ep9 t → Got ks9 ks9.length L → (∀ b o, s.heap.get? b = some o → h'.get? b = some o) → Q (.ref s.heap.objs.size) { s with heap := h', toks := tk9 }) :
    wpAny (model P w) A (call (.type "set") [.ref l]) Q E s := by
  have hisz9 : items9.size = ks9.length := by
    have q9 := congrArg List.length hit9
    rw [Array.length_toList, List.length_map] at q9
    exact q9
  obtain ⟨c9, tl9, hmro9⟩ := F.called_set.mro
  have hmade9 := F.called_set.made
  have hsub9 := F.called_set.sub
  refine wpAny_call (codeAny_of_tree ?_)
  show wpAny _ _ (callAny (.type "set") _) _ _ _
  refine wpAny_pure ⟨Code.quiet_builtin _ (by decide +kernel), codeAny_builtin F.entry_type_call ?_⟩
  rw [Around.under_plain (weight_type_call_type "set" [.ref l] []) rfl]
  have h19 := F.called_set.notType
  have h29 := F.called_set.canCreate
  have hct9 := F.typeCall_set_1 (.ref l)
  repeat (any_goals (first | assumption | wp_step))

  refine codeAny_mono (code_set_led1 (.ref l) (E := E) (Q₁ := fun obj9 sa9 => obj9 = .ref s.heap.objs.size ∧ sa9 = { s with heap := s.heap.push { cls := .type "set", dict := none, data := .set #[] 0 (.fresh 0 0 (!w.params.followText "set-order")) } }) ⟨rfl, rfl⟩) fun r sa9 hr9 => ?_
  cases r with
  | error e => exact hr9
  | ok fl9 =>
    cases fl9 with
    | ret obj9 =>
      obtain ⟨rfl, rfl⟩ := hr9
      have hS9 : (s.heap.push { cls := .type "set", dict := none, data := .set #[] 0 (.fresh 0 0 (!w.params.followText "set-order")) }).get? s.heap.objs.size = some { cls := .type "set", dict := none, data := .set #[] 0 (.fresh 0 0 (!w.params.followText "set-order")) } := Heap.get?_push_size _ rfl
      have hT9 : Shared.TypeIs { s with heap := s.heap.push { cls := .type "set", dict := none, data := .set #[] 0 (.fresh 0 0 (!w.params.followText "set-order")) } } (.ref s.heap.objs.size) "set" := ⟨_, hS9, rfl⟩
      have hli9 := F.called_set.init.lookup
      have hbi9 := F.called_set.init.bind (.ref s.heap.objs.size)
      repeat (any_goals (first | assumption | wp_step))

      refine codeAny_mono (codeAny_call_builtin (R := wants (fun r sb9 => r = .none ∧ ∃ h' tk9 L es9 ep9 t, sb9 = { s with heap := h', toks := tk9 } ∧ SetTR P w h' s.heap.objs.size L es9 ep9 t ∧ Got ks9 ks9.length L ∧
          (∀ b o, s.heap.get? b = some o → h'.get? b = some o)) E) F.called_set.init.plain F.entry_set_init (check_set_init_1 hT9 ?_)) fun rb9 sb9 hrb9 => ?_
      · obtain ⟨ol9, hol9, hcl9, nl9, hdl9⟩ := hl9
        obtain ⟨ocls9, odict9, odata9, oslots9⟩ := ol9
        simp only at hcl9 hdl9
        subst hcl9; subst hdl9
        have hol' : (s.heap.push { cls := .type "set", dict := none, data := .set #[] 0 (.fresh 0 0 (!w.params.followText "set-order")) }).get? l = some { cls := .type "tuple", dict := odict9, data := .seq items9 nl9, slots := oslots9 } := Heap.get?_push_of_some _ hol9
        have hsls9 := F.sub_tuple_set
        have hslf9 := F.sub_tuple_frozenset
        have hne9 : (Value.type "tuple" == Value.type "dict") = false := by decide
        have hl19 : (s.heap.push { cls := .type "set", dict := none, data := .set #[] 0 (.fresh 0 0 (!w.params.followText "set-order")) }).IsTuple l items9 := ⟨_, hol', rfl, nl9, rfl⟩
        unfold Builtin.«set.__init__» noKeywords Builtin.Frozenset.updateFrom
        generalize hPI9 : pyIter = PI9
        wp_walk
        subst hPI9

        refine wpAny_pyIter_tuple hl19 ?_
        refine wpAny_bind (wpAny_runValue ?_)
        have hlS9 : l < s.heap.objs.size := Heap.lt_size hol9
        have hh39 : A.in1.in1.in1.handled = none := by simp [hh9]
        have hz19 : (s.heap.push { cls := .type "set", dict := none, data := .set #[] 0 (.fresh 0 0 (!w.params.followText "set-order")) }).objs.size = s.heap.objs.size + 1 := Heap.size_push ..
        have hneI9 : l ≠ (s.heap.push { cls := .type "set", dict := none, data := .set #[] 0 (.fresh 0 0 (!w.params.followText "set-order")) }).objs.size := by
          rw [Heap.size_push]; exact Nat.ne_of_lt (Nat.lt_succ_of_lt hlS9)
        have hSf9 : s.heap.objs.size ∉ [(s.heap.push { cls := .type "set", dict := none, data := .set #[] 0 (.fresh 0 0 (!w.params.followText "set-order")) }).objs.size, l] := by
          rw [Heap.size_push]; simp only [List.mem_cons, List.mem_singleton, List.not_mem_nil, or_false, not_or]
          exact ⟨Nat.ne_of_lt (Nat.lt_succ_self _), Nat.ne_of_gt hlS9⟩
        have hval9 : ∀ (i : Nat) (v : Value), items9[i]? = some v → ∃ p, ks9[i]? = some p ∧ v = .ref p.1 := fun i v hv => by
          have q9 : items9.toList[i]? = some v := by rw [Array.getElem?_toList]; exact hv
          rw [hit9, List.getElem?_map] at q9
          cases hq : ks9[i]? with
          | none => rw [hq] at q9; cases q9
          | some p =>
            rw [hq] at q9
            exact ⟨p, rfl, (Option.some.inj q9).symm⟩
        have none_of9 : ∀ b, s.heap.objs.size ≤ b → s.heap.get? b = none := fun b hb => by
          cases q9 : s.heap.get? b with
          | none => rfl
          | some o => exact absurd (Nat.lt_of_lt_of_le (Heap.lt_size q9) hb) (Nat.lt_irrefl _)
        refine set_update_tups ((Walks.tuple hh39 _ l hneI9 items9).toS) s.heap.objs.size
          hSf9 ks9 hisz9 hfew9 hval9 s.heap hk9 (none_of9 _ (Nat.le_refl _)) (fun b hb => none_of9 b (by
            rw [List.mem_singleton.mp hb, Heap.size_push]
            exact Nat.le_succ _)) hu9 (items9.size - 0) 0 _ (by omega) (Nat.zero_le _)
          ⟨⟨_, Heap.get?_push_size _ rfl, rfl, rfl⟩, (hl19.at fun o e => Heap.get?_push_of_some _ e)⟩ (fun b o e => Heap.get?_push_of_some _ (Heap.get?_push_of_some _ e)) ?hS0 ?hR
        case hS0 =>
          have hget9 : ((s.heap.push { cls := .type "set", dict := none, data := .set #[] 0 (.fresh 0 0 (!w.params.followText "set-order")) }).push { cls := .type "tuple_iterator", data := .fields #[.ref l, .int 0 0] }).get? s.heap.objs.size
              = some { cls := .type "set", dict := none, data := .set #[] 0 (.fresh 0 0 (!w.params.followText "set-order")) } := Heap.get?_push_of_some _ hS9
          exact ⟨[], #[], 0, _, setTR_fresh hget9, Got.zero ks9⟩
        case hR =>
          intro s' L es9 ep9 t hm9 hSq9 gq9 hkp9
          obtain ⟨h', g29, dq9, tkq9, osq9⟩ := s'
          have eg9 : g29 = s.gens := hm9.gens
          have ed9 : dq9 = s.drawn := hm9.drawn
          have eo9 : osq9 = s.os := hm9.os
          subst eg9; subst ed9; subst eo9
          show wpAny _ _ _ _ _ _
          refine wpAny_pure ?_
          show wpAny _ _ (ret Value.none) _ _ _
          rw [hisz9] at gq9
          exact wpAny_pure ⟨rfl, h', tkq9, L, es9, ep9, t, rfl, hSq9, gq9, hkp9⟩

      · cases rb9 with
        | error e => exact hrb9
        | ok flb9 =>
          cases flb9 with
          | ret r =>
            obtain ⟨rfl, h', tk9, L, es9, ep9, t, rfl, hSq9, gq9, hkq9⟩ := hrb9
            repeat (any_goals (first | assumption | wp_step))
            exact h _ _ _ _ _ _ hSq9 gq9 hkq9
          | _ => exact hrb9.elim
    | _ => exact hr9.elim

end
end W7

/-! plain mathematics: lists of tuples of numbers, in the order of their entries; least ones -/
namespace M7
/-- entry by entry at most -/
def fitB : List Nat → List Nat → Bool
  | a :: t, b :: u => decide (a ≤ b) && fitB t u
  | _, _ => true
/-- before, at the first entry that is unlike -/
def ltN : List Nat → List Nat → Bool
  | a :: t, b :: u => decide (a < b) || (decide (a = b) && ltN t u)
  | _, _ => false
theorem fit_refl : ∀ t, fitB t t = true
  | [] => rfl
  | a :: t => by
    show (decide (a ≤ a) && fitB t t) = true
    rw [fit_refl t, decide_eq_true (Nat.le_refl a)]
    rfl
theorem fit_cons {a b : Nat} {t u : List Nat} : fitB (a :: t) (b :: u) = true ↔ a ≤ b ∧ fitB t u = true := by
  show (decide (a ≤ b) && fitB t u) = true ↔ _
  rw [Bool.and_eq_true, decide_eq_true_iff]
theorem fit_trans : ∀ {t u v : List Nat}, u.length = t.length → fitB t u = true → fitB u v = true → fitB t v = true
  | [], _, _, _, _, _ => by simp [fitB]
  | _ :: _, [], _, h, _, _ => by simp at h
  | _ :: _, _ :: _, [], _, _, _ => by simp [fitB]
  | a :: t, b :: u, c :: v, h, h1, h2 => by
    rw [fit_cons] at h1 h2 ⊢
    exact ⟨Nat.le_trans h1.1 h2.1, fit_trans (by simpa using h) h1.2 h2.2⟩
theorem fit_anti : ∀ {t u : List Nat}, u.length = t.length → fitB t u = true → fitB u t = true → t = u
  | [], [], _, _, _ => rfl
  | [], _ :: _, h, _, _ => by simp at h
  | _ :: _, [], h, _, _ => by simp at h
  | a :: t, b :: u, h, h1, h2 => by
    rw [fit_cons] at h1 h2
    rw [Nat.le_antisymm h1.1 h2.1, fit_anti (by simpa using h) h1.2 h2.2]
theorem lt_cons {a b : Nat} {t u : List Nat} : ltN (a :: t) (b :: u) = true ↔ a < b ∨ (a = b ∧ ltN t u = true) := by
  show (decide (a < b) || (decide (a = b) && ltN t u)) = true ↔ _
  rw [Bool.or_eq_true, Bool.and_eq_true, decide_eq_true_iff, decide_eq_true_iff]
theorem lt_irr : ∀ t, ltN t t = false
  | [] => rfl
  | a :: t => by
    cases h : ltN (a :: t) (a :: t) with
    | false => rfl
    | true =>
      rcases lt_cons.mp h with z | ⟨_, z⟩
      · omega
      · rw [lt_irr t] at z
        cases z
theorem lt_trans : ∀ {t u v : List Nat}, ltN t u = true → ltN u v = true → ltN t v = true
  | [], _, _, h, _ => by simp [ltN] at h
  | _ :: _, [], _, h, _ => by simp [ltN] at h
  | _ :: _, _ :: _, [], _, h => by simp [ltN] at h
  | a :: t, b :: u, c :: v, h1, h2 => by
    rw [lt_cons] at h1 h2 ⊢
    rcases h1 with h1 | ⟨h1, k1⟩ <;> rcases h2 with h2 | ⟨h2, k2⟩
    · exact .inl (by omega)
    · exact .inl (by omega)
    · exact .inl (by omega)
    · exact .inr ⟨by omega, lt_trans k1 k2⟩
theorem lt_tri : ∀ {t u : List Nat}, u.length = t.length → t ≠ u → ltN t u = true ∨ ltN u t = true
  | [], [], _, h => absurd rfl h
  | [], _ :: _, h, _ => by simp at h
  | _ :: _, [], h, _ => by simp at h
  | a :: t, b :: u, hl, h => by
    rw [lt_cons, lt_cons]
    rcases Nat.lt_trichotomy a b with z | z | z
    · exact .inl (.inl z)
    · subst z
      rcases lt_tri (t := t) (u := u) (by simpa using hl) (fun e => h (by rw [e])) with k | k
      · exact .inl (.inr ⟨rfl, k⟩)
      · exact .inr (.inr ⟨rfl, k⟩)
    · exact .inr (.inl z)
theorem fit_lt : ∀ {t u : List Nat}, u.length = t.length → fitB t u = true → t ≠ u → ltN t u = true
  | [], [], _, _, h => absurd rfl h
  | [], _ :: _, h, _, _ => by simp at h
  | _ :: _, [], h, _, _ => by simp at h
  | a :: t, b :: u, hl, hf, h => by
    rw [fit_cons] at hf
    rw [lt_cons]
    rcases Nat.lt_or_eq_of_le hf.1 with z | z
    · exact .inl z
    · subst z
      exact .inr ⟨rfl, fit_lt (by simpa using hl) hf.2 fun e => h (by rw [e])⟩
theorem fit_sum : ∀ {t u : List Nat}, u.length = t.length → fitB t u = true → t.sum ≤ u.sum ∧ (t ≠ u → t.sum < u.sum)
  | [], [], _, _ => ⟨Nat.le_refl _, fun h => absurd rfl h⟩
  | [], _ :: _, h, _ => by simp at h
  | _ :: _, [], h, _ => by simp at h
  | a :: t, b :: u, hl, hf => by
    rw [fit_cons] at hf
    obtain ⟨h1, h2⟩ := fit_sum (t := t) (u := u) (by simpa using hl) hf.2
    simp only [List.sum_cons]
    refine ⟨by omega, fun h => ?_⟩
    rcases Nat.lt_or_eq_of_le hf.1 with z | z
    · omega
    · subst z
      have := h2 fun e => h (by rw [e])
      omega
/-! ### lists that ascend -/
abbrev Asc (A : List (List Nat)) : Prop := A.Pairwise fun t u => ltN t u = true
theorem asc_unique : ∀ {A B : List (List Nat)}, Asc A → Asc B → (∀ x, x ∈ A ↔ x ∈ B) → A = B
  | [], [], _, _, _ => rfl
  | [], b :: B, _, _, h => by simpa using (h b).mpr List.mem_cons_self
  | a :: A, [], _, _, h => by simpa using (h a).mp List.mem_cons_self
  | a :: A, b :: B, h1, h2, h => by
    obtain ⟨a1, a2⟩ := List.pairwise_cons.mp h1
    obtain ⟨b1, b2⟩ := List.pairwise_cons.mp h2
    have e : a = b := by
      rcases List.mem_cons.mp ((h a).mp List.mem_cons_self) with z | z
      · exact z
      · rcases List.mem_cons.mp ((h b).mpr List.mem_cons_self) with k | k
        · exact k.symm
        · have := lt_trans (b1 a z) (a1 b k)
          rw [lt_irr] at this
          cases this
    subst e
    rw [asc_unique a2 b2 fun x => ?_]
    constructor
    · intro hx
      rcases List.mem_cons.mp ((h x).mp (List.mem_cons_of_mem _ hx)) with z | z
      · subst z
        have := a1 x hx
        rw [lt_irr] at this
        cases this
      · exact z
    · intro hx
      rcases List.mem_cons.mp ((h x).mpr (List.mem_cons_of_mem _ hx)) with z | z
      · subst z
        have := b1 x hx
        rw [lt_irr] at this
        cases this
      · exact z
def insN (x : List Nat) : List (List Nat) → List (List Nat)
  | [] => [x]
  | y :: r => if x = y then y :: r else if ltN x y = true then x :: y :: r else y :: insN x r
theorem mem_ins {x z : List Nat} : ∀ {L : List (List Nat)}, z ∈ insN x L ↔ z = x ∨ z ∈ L
  | [] => by simp [insN]
  | y :: r => by
    unfold insN
    split
    · rename_i h
      subst h
      simp
    · split
      · simp
      · rw [List.mem_cons, mem_ins, List.mem_cons]
        constructor
        · rintro (h | h | h)
          · exact .inr (.inl h)
          · exact .inl h
          · exact .inr (.inr h)
        · rintro (h | h | h)
          · exact .inr (.inl h)
          · exact .inl h
          · exact .inr (.inr h)
theorem asc_ins {x : List Nat} : ∀ {L : List (List Nat)}, (∀ y ∈ L, y.length = x.length) → Asc L → Asc (insN x L)
  | [], _, _ => List.pairwise_cons.mpr ⟨fun _ h => by simp at h, .nil⟩
  | y :: r, hl, h => by
    obtain ⟨h1, h2⟩ := List.pairwise_cons.mp h
    unfold insN
    split
    · exact h
    · rename_i hne
      split
      · rename_i hlt
        refine List.pairwise_cons.mpr ⟨fun z hz => ?_, h⟩
        rcases List.mem_cons.mp hz with e | e
        · rw [e]
          exact hlt
        · exact lt_trans hlt (h1 z e)
      · rename_i hn
        refine List.pairwise_cons.mpr ⟨fun z hz => ?_, asc_ins (fun y hy => hl y (List.mem_cons_of_mem _ hy)) h2⟩
        rcases mem_ins.mp hz with e | e
        · rw [e]
          rcases lt_tri (t := x) (u := y) (hl y List.mem_cons_self) hne with k | k
          · exact absurd k hn
          · exact k
        · exact h1 z e
def canonN (L : List (List Nat)) : List (List Nat) := L.foldr insN []
theorem mem_canon {z : List Nat} : ∀ {L : List (List Nat)}, z ∈ canonN L ↔ z ∈ L
  | [] => Iff.rfl
  | x :: L => by
    show z ∈ insN x (canonN L) ↔ _
    rw [mem_ins, mem_canon, List.mem_cons]
theorem asc_canon {d : Nat} : ∀ {L : List (List Nat)}, (∀ y ∈ L, y.length = d) → Asc (canonN L)
  | [], _ => .nil
  | x :: L, h => asc_ins (fun y hy => by rw [h y (List.mem_cons_of_mem _ (mem_canon.mp hy)), h x List.mem_cons_self]) (asc_canon fun y hy => h y (List.mem_cons_of_mem _ hy))
theorem canon_len : ∀ L : List (List Nat), (canonN L).length ≤ L.length
  | [] => Nat.le_refl _
  | x :: L => by
    have h := canon_len L
    have k : ∀ M : List (List Nat), (insN x M).length ≤ M.length + 1 := fun M => by
      induction M with
      | nil => exact Nat.le_refl _
      | cons y r ih =>
        unfold insN
        split
        · exact Nat.le_succ _
        · split
          · exact Nat.le_refl _
          · exact Nat.succ_le_succ ih
    exact Nat.le_trans (k _) (Nat.succ_le_succ h)
theorem canon_of {d : Nat} {A L : List (List Nat)} (hA : Asc A) (hd : ∀ y ∈ L, y.length = d) (h : ∀ x, x ∈ A ↔ x ∈ L) : A = canonN L :=
  asc_unique hA (asc_canon hd) fun x => (h x).trans mem_canon.symm
/-! ### least ones -/
abbrev takeN (kept : List (List Nat)) (p : List Nat) : List (List Nat) := if (kept.any fun k => fitB k p) = true then kept else kept ++ [p]
def keepN (A : List (List Nat)) : List (List Nat) := A.foldl takeN []
def minB (A : List (List Nat)) (p : List Nat) : Bool := !(A.any fun q => decide (q ≠ p) && fitB q p)
def leastN (L : List (List Nat)) : List (List Nat) := (canonN L).filter (minB (canonN L))
theorem min_false {A : List (List Nat)} {p : List Nat} : minB A p = false ↔ ∃ q ∈ A, q ≠ p ∧ fitB q p = true := by
  unfold minB
  rw [Bool.not_eq_false', List.any_eq_true]
  constructor
  · rintro ⟨q, h1, h2⟩
    rw [Bool.and_eq_true, decide_eq_true_iff] at h2
    exact ⟨q, h1, h2⟩
  · rintro ⟨q, h1, h2⟩
    exact ⟨q, h1, by rw [Bool.and_eq_true, decide_eq_true_iff]; exact h2⟩
theorem below {d : Nat} {A : List (List Nat)} (hd : ∀ y ∈ A, y.length = d) : ∀ (n : Nat) (q : List Nat), q.sum ≤ n → q ∈ A → ∃ m ∈ A, minB A m = true ∧ fitB m q = true
  | n, q, hn, hq => by
    cases h : minB A q with
    | true => exact ⟨q, hq, h, fit_refl q⟩
    | false =>
      obtain ⟨r, hr, hne, hf⟩ := min_false.mp h
      have hl : q.length = r.length := by rw [hd q hq, hd r hr]
      have hs := (fit_sum hl hf).2 hne
      cases n with
      | zero => omega
      | succ n =>
        obtain ⟨m, hm, h1, h2⟩ := below hd n r (by omega) hr
        exact ⟨m, hm, h1, fit_trans (by rw [hd r hr, hd m hm]) h2 hf⟩
theorem keep_from {d : Nat} {A : List (List Nat)} (hA : Asc A) (hd : ∀ y ∈ A, y.length = d) : ∀ (S P : List (List Nat)), A = P ++ S → S.foldl takeN (P.filter (minB A)) = A.filter (minB A)
  | [], P, e => by rw [e, List.append_nil]; rfl
  | p :: S, P, e => by
    have hp : p ∈ A := by rw [e]; exact List.mem_append_right _ List.mem_cons_self
    have asc := hA
    rw [e] at asc
    obtain ⟨_, a2, a3⟩ := List.pairwise_append.mp asc
    obtain ⟨b1, _⟩ := List.pairwise_cons.mp a2
    have key : ((P.filter (minB A)).any fun k => fitB k p) = !minB A p := by
      cases hm : minB A p with
      | true =>
        cases hk : (P.filter (minB A)).any fun k => fitB k p with
        | false => rfl
        | true =>
          obtain ⟨k, k1, k2⟩ := List.any_eq_true.mp hk
          have kP := (List.mem_filter.mp k1).1
          have kA : k ∈ A := by rw [e]; exact List.mem_append_left _ kP
          have kne : k ≠ p := fun z => by
            have := a3 k kP p List.mem_cons_self
            rw [z, lt_irr] at this
            cases this
          have := min_false.mpr ⟨k, kA, kne, k2⟩
          rw [hm] at this
          cases this
      | false =>
        obtain ⟨q, q1, q2, q3⟩ := min_false.mp hm
        obtain ⟨m, m1, m2, m3⟩ := below hd q.sum q (Nat.le_refl _) q1
        have lq : p.length = q.length := by rw [hd p hp, hd q q1]
        have lm : q.length = m.length := by rw [hd q q1, hd m m1]
        have mp := fit_trans lm m3 q3
        have mne : m ≠ p := fun z => by
          subst z
          exact q2 (fit_anti lq q3 m3)
        have mlt := fit_lt (by rw [lq, lm]) mp mne
        have mP : m ∈ P := by
          rw [e] at m1
          rcases List.mem_append.mp m1 with z | z
          · exact z
          · rcases List.mem_cons.mp z with k | k
            · exact absurd k mne
            · have := lt_trans mlt (b1 m k)
              rw [lt_irr] at this
              cases this
        exact List.any_eq_true.mpr ⟨m, List.mem_filter.mpr ⟨mP, m2⟩, mp⟩
    have step : takeN (P.filter (minB A)) p = (P ++ [p]).filter (minB A) := by
      show (if ((P.filter (minB A)).any fun k => fitB k p) = true then _ else _) = _
      rw [key, List.filter_append]
      cases hm : minB A p with
      | true =>
        rw [if_neg (by decide), List.filter_cons, if_pos hm]
        rfl
      | false =>
        rw [if_pos (show (!false) = true from rfl), List.filter_cons, if_neg (by rw [hm]; decide)]
        exact (List.append_nil _).symm
    show S.foldl takeN (takeN (P.filter (minB A)) p) = _
    rw [step]
    exact keep_from hA hd S (P ++ [p]) (by rw [e, List.append_assoc]; rfl)
theorem keep_least {d : Nat} {L : List (List Nat)} (hd : ∀ y ∈ L, y.length = d) : keepN (canonN L) = leastN L :=
  keep_from (asc_canon hd) (fun y hy => hd y (mem_canon.mp hy)) (canonN L) [] rfl
end M7

/-! sorted(set(x)), x a list or a tuple of tuples of numbers -/
namespace R7
open PySem PySem.Spec PyProof.Rows L2 L5 M7
abbrev zN (t : List Nat) : List Int := t.map fun n => ((n : Nat) : Int)
theorem zN_inj {t u : List Nat} (h : zN t = zN u) : t = u := (List.map_inj_right (f := fun n : Nat => ((n : Nat) : Int)) (fun a b e => by omega)).mp h
theorem bd_of {B : Nat} {t : List Nat} (h : ∀ e ∈ t, e < B) : TS.Bd (B : Int) (zN t) := fun m hm => by
  obtain ⟨n, hn, rfl⟩ := List.mem_map.mp hm
  have := h n hn
  omega
theorem lt_code {B : Nat} : ∀ {t u : List Nat}, u.length = t.length → (∀ e ∈ t, e < B) → (∀ e ∈ u, e < B) → ltN t u = true → TS.code (B : Int) (zN t) < TS.code (B : Int) (zN u)
  | [], _, _, _, _, h => by simp [ltN] at h
  | _ :: _, [], _, _, _, h => by simp [ltN] at h
  | a :: t, b :: u, hl, h1, h2, h => by
    have hl' : u.length = t.length := by simpa using hl
    have k1 : ∀ e ∈ t, e < B := fun e he => h1 e (List.mem_cons_of_mem _ he)
    have k2 : ∀ e ∈ u, e < B := fun e he => h2 e (List.mem_cons_of_mem _ he)
    rcases lt_cons.mp h with z | ⟨rfl, z⟩
    · exact TS.code_lt (by rw [List.length_map, List.length_map, hl']) (bd_of k1) (bd_of k2) (show ((a : Nat) : Int) < ((b : Nat) : Int) by omega)
    · have := lt_code hl' k1 k2 z
      show ((a : Nat) : Int) * (B : Int) ^ (zN t).length + TS.code (B : Int) (zN t) < ((a : Nat) : Int) * (B : Int) ^ (zN u).length + TS.code (B : Int) (zN u)
      rw [show (zN u).length = (zN t).length by rw [List.length_map, List.length_map, hl']]
      omega
theorem code_ltN {B : Nat} {t u : List Nat} (hl : u.length = t.length) (h1 : ∀ e ∈ t, e < B) (h2 : ∀ e ∈ u, e < B) (hc : TS.code (B : Int) (zN t) ≤ TS.code (B : Int) (zN u)) (hne : t ≠ u) : ltN t u = true := by
  rcases lt_tri hl hne with z | z
  · exact z
  · have := lt_code hl.symm h2 h1 z
    omega
section
variable {K : PySem.W.Frag} {H : Hp}
/-- addresses with what stands at them -/
theorem tups_pairs : ∀ {rs : List Addr} {L : List (List Nat)}, Tups K H rs L → ∃ ks : List (Addr × List Nat), ks.map (·.1) = rs ∧ ks.map (·.2) = L ∧ ∀ p ∈ ks, SqT K H p.1 (nv p.2)
  | _, _, .nil => ⟨[], rfl, rfl, fun _ h => nomatch h⟩
  | _, _, .cons (a := a) (b := t) h r => by
    obtain ⟨ks, e1, e2, e3⟩ := tups_pairs r
    refine ⟨(a, t) :: ks, by rw [List.map_cons, e1], by rw [List.map_cons, e2], fun p hp => ?_⟩
    rcases List.mem_cons.mp hp with rfl | hp
    · exact h
    · exact e3 p hp
theorem pairs_tups : ∀ {ks : List (Addr × List Nat)}, (∀ p ∈ ks, SqT K H p.1 (nv p.2)) → Tups K H (ks.map (·.1)) (ks.map (·.2))
  | [], _ => .nil
  | p :: ks, h => .cons (h p List.mem_cons_self) (pairs_tups fun q hq => h q (List.mem_cons_of_mem _ hq))
end
section
variable {X : Cx}
/-- set(x), x a tuple of tuples of ints -/
def rSetTT (K : PySem.W.Frag) (P : Program) (w : World) : List V → Hp → VK → Prop := fun xs H Q => ∃ (l : Addr) (ks : List (Addr × List Int)), xs = [V.ref l] ∧ SqT K H l (ks.map fun p => V.ref p.1) ∧ (∀ p ∈ ks, SqT K H p.1 (p.2.map V.int)) ∧ ks.length < 64 ∧
  ∀ a L, H a = none → (∀ p ∈ L, p ∈ ks) → (∀ p ∈ ks, p.2 ∈ L.map (·.2)) → Q (.ref a) (upd H a (SetTO P w a L))
theorem cr_setTT (calm : X.calm = true) (room : X.A.units + 64 < cLine) : CallR X (.type "set") (rSetTT X.K X.prog X.w) := by
  intro pins s σ H xs us Q I r h
  obtain ⟨l, ks, rfl, at_, each, few, q⟩ := h
  rw [Vals.ref1 r]
  obtain ⟨_, rv, plain, _⟩ := I.tuple at_
  have free : H s.heap.objs.size = none := I.hok.fresh (Nat.le_refl _)
  refine W7.set_of_tuple (P := X.prog) (w := X.w) ks (I.ok.hd calm) plain (by simpa using refs_of_vals rv) (fun p hp => I.isT (each p hp)) few (by omega) fun h' tk L es ep t R g k => ?_
  exact ⟨.ref s.heap.objs.size, upd H s.heap.objs.size (SetTO X.prog X.w s.heap.objs.size L), I.laid (t' := tk) k (Nat.le_refl _) (setTO_new R.t0), rfl, q _ L free (fun p hp => List.mem_of_mem_take (g.sub p hp)) fun p hp => g.all p (by rw [List.take_length]; exact hp)⟩
theorem cr_setAny (calm : X.calm = true) (room : X.A.units + 64 < cLine) : CallR X (.type "set") (fun xs H Q => rSetOfT X.K X.prog X.w xs H Q ∨ rSetTT X.K X.prog X.w xs H Q) := fun pins s σ H xs us Q I r h =>
  h.elim (fun h => cr_setOfT calm room pins s σ H xs us Q I r h) fun h => cr_setTT calm room pins s σ H xs us Q I r h
theorem weakE {e : Expr} {t t' : TE} (h : PE X e t) (i : ∀ σ H Q, t' σ H Q → t σ H Q) : PE X e t' := ⟨fun pins s σ H Q I h' => h.run pins s σ H Q I (i σ H Q h')⟩
/-- sorted(set(x)) -/
def tSS (K : PySem.W.Frag) (te : TE) : TE := fun σ H Q => te σ H fun x H1 => ∃ (l : Addr) (rs : List Addr) (L : List (List Nat)) (d B : Nat), x = .ref l ∧ (SqL K H1 l (rs.map V.ref) ∨ SqT K H1 l (rs.map V.ref)) ∧ Tups K H1 rs L ∧ L.length < 64 ∧ 1 ≤ d ∧ (∀ t ∈ L, t.length = d) ∧ (∀ t ∈ L, ∀ e ∈ t, e < B) ∧
  ∀ H' q rs', Same H1 H' → H1 q = none → H' q = some (.lst (rs'.map V.ref)) → Tups K H' rs' (canonN L) → Q (.ref q) H'
theorem pe_sset {e : Expr} {te : TE} {p1 p2 q1 q2 : Pos} (calm : X.calm = true) (room : X.A.units + 64 < cLine) (g1 : Gl X "sorted") (m1 : X.mg "sorted" = none) (g2 : Gl X "set") (m2 : X.mg "set" = none) (he : PE X e te)
    (t1 : starEach [.Call (.Name "set" p2) [e] [] q2] X.env = (false, eval (.Call (.Name "set" p2) [e] [] q2) X.env) :: starEach [] X.env := by rfl) (t2 : starEach [e] X.env = (false, eval e X.env) :: starEach [] X.env := by rfl)  :
    PE X (.Call (.Name "sorted" p1) [.Call (.Name "set" p2) [e] [] q2] [] q1) (tSS X.K te) := by
  have he' : PE X e (fun σ H Q => ∃ P : VK, te σ H P ∧ ∀ x H1, P x H1 → Q x H1) := ⟨fun pins s σ H Q I ⟨P, h, m⟩ => thn (he.run pins s σ H P I h) fun u s1 ⟨v, H1, I1, r, q⟩ => ⟨v, H1, I1, r, m v H1 q⟩⟩
  refine weakE (pe_callB (cr_sortedT calm) g1 m1 (by decide +kernel) (pa_cons (pe_callTy (cr_setAny calm room) g2 m2 (by decide +kernel) (pa_cons he' pa_nil (hs := t2)) (he := t2)) pa_nil (hs := t1)) (he := t1)) ?_
  intro σ H Q h
  refine ⟨_, h, ?_⟩
  rintro x H1 ⟨l, rs, L, d, B, rfl, at_, hT, few, hd, hlen, hB, q⟩
  obtain ⟨ks, e1, e2, e3⟩ := tups_pairs hT
  have nvz : ∀ t : List Nat, (zN t).map V.int = nv t := fun t => (nv_ints t).symm
  have ks3 : ∀ p ∈ ks.map (fun p => (p.1, zN p.2)), SqT X.K H1 p.1 (p.2.map V.int) := fun p hp => by
    obtain ⟨k, hk, rfl⟩ := List.mem_map.mp hp
    show SqT X.K H1 k.1 ((zN k.2).map V.int)
    rw [nvz]
    exact e3 k hk
  have refs : (ks.map fun p => (p.1, zN p.2)).map (fun p => V.ref p.1) = rs.map V.ref := by
    rw [List.map_map, ← e1, List.map_map]
    rfl
  have few' : (ks.map fun p => (p.1, zN p.2)).length < 64 := by
    rw [List.length_map, ← List.length_map (f := (·.2)) (as := ks), e2]
    exact few
  have go : ∀ a Ls, H1 a = none → (∀ p ∈ Ls, p ∈ ks.map fun p => (p.1, zN p.2)) → (∀ p ∈ ks.map (fun p => (p.1, zN p.2)), p.2 ∈ Ls.map (·.2)) → rSortedT X.K X.prog X.w [.ref a] (upd H1 a (SetTO X.prog X.w a Ls)) Q := by
    intro a Ls ha sub all
    have sa := same_new ha (SetTO X.prog X.w a Ls)
    have memL : ∀ p ∈ Ls, ∃ k ∈ ks, p = (k.1, zN k.2) := fun p hp => by
      obtain ⟨k, hk, e⟩ := List.mem_map.mp (sub p hp)
      exact ⟨k, hk, e.symm⟩
    have inL : ∀ k ∈ ks, k.2 ∈ L := fun k hk => by
      rw [← e2]
      exact List.mem_map_of_mem hk
    refine ⟨a, Ls, d, (B : Int), rfl, upd_same, fun p hp => same_sqt sa (ks3 p (sub p hp)), hd, fun p hp => ?_, fun L' p pm nd _ pw hp => ?_⟩
    · obtain ⟨k, hk, rfl⟩ := memL p hp
      exact ⟨by rw [List.length_map]; exact hlen _ (inL k hk), bd_of (hB _ (inL k hk))⟩
    · -- what stands in the sorted list
      have mem' : ∀ r ∈ L', ∃ k ∈ ks, r = (k.1, zN k.2) := fun r hr => memL r (pm.mem_iff.mp hr)
      have back : ∀ k : Addr × List Nat, (zN k.2).map Int.toNat = k.2 := fun k => by
        rw [List.map_map]
        exact (List.map_congr_left fun n _ => by show (((n : Nat) : Int)).toNat = n; omega).trans (List.map_id _)
      have asc : Asc (L'.map fun r => r.2.map Int.toNat) := by
        have nd' : L'.Pairwise fun q r => q.2 ≠ r.2 := List.pairwise_map.mp nd
        have both := pw.and nd'
        rw [Asc, List.pairwise_map]
        refine both.imp_of_mem fun {q r} hq hr hqr => ?_
        obtain ⟨k1, hk1, rfl⟩ := mem' q hq
        obtain ⟨k2, hk2, rfl⟩ := mem' r hr
        show ltN ((zN k1.2).map Int.toNat) ((zN k2.2).map Int.toNat) = true
        rw [back, back]
        exact code_ltN (by rw [hlen _ (inL k1 hk1), hlen _ (inL k2 hk2)]) (hB _ (inL k1 hk1)) (hB _ (inL k2 hk2)) hqr.1 fun z => hqr.2 (by show zN k1.2 = zN k2.2; rw [z])
      have canon : (L'.map fun r => r.2.map Int.toNat) = canonN L := by
        refine canon_of asc hlen fun t => ⟨fun ht => ?_, fun ht => ?_⟩
        · obtain ⟨r, hr, rfl⟩ := List.mem_map.mp ht
          obtain ⟨k, hk, rfl⟩ := mem' r hr
          show (zN k.2).map Int.toNat ∈ L
          rw [back]
          exact inL k hk
        · rw [← e2] at ht
          obtain ⟨k, hk, rfl⟩ := List.mem_map.mp ht
          obtain ⟨r, hr, e⟩ := List.mem_map.mp (all (k.1, zN k.2) (List.mem_map_of_mem (f := fun p : Addr × List Nat => (p.1, zN p.2)) hk))
          refine List.mem_map.mpr ⟨r, pm.mem_iff.mpr hr, ?_⟩
          show r.2.map Int.toNat = k.2
          rw [e]
          exact back k
      have sp := same_new hp (.lst (L'.map fun q => V.ref q.1))
      have tl : Tups X.K (upd (upd H1 a (SetTO X.prog X.w a Ls)) p (.lst (L'.map fun q => V.ref q.1))) ((L'.map fun r => (r.1, r.2.map Int.toNat)).map (·.1)) ((L'.map fun r => (r.1, r.2.map Int.toNat)).map (·.2)) := pairs_tups fun r hr => by
        obtain ⟨r0, hr0, rfl⟩ := List.mem_map.mp hr
        obtain ⟨k, hk, rfl⟩ := mem' r0 hr0
        show SqT X.K _ k.1 (nv ((zN k.2).map Int.toNat))
        rw [back]
        exact same_sqt (sa.trans sp) (e3 k hk)
      rw [List.map_map, List.map_map] at tl
      have tl2 : Tups X.K (upd (upd H1 a (SetTO X.prog X.w a Ls)) p (.lst (L'.map fun q => V.ref q.1))) (L'.map (·.1)) (L'.map fun r => r.2.map Int.toNat) := tl
      rw [canon] at tl2
      refine q _ p (L'.map (·.1)) (sa.trans sp) (sa.free hp) ?_ tl2
      rw [upd_same, List.map_map]
      rfl
  rcases at_ with at_ | at_
  · exact .inl ⟨l, _, rfl, by rw [refs]; exact at_, ks3, few', go⟩
  · exact .inr ⟨l, _, rfl, by rw [refs]; exact at_, ks3, few', go⟩
end
end R7

/-! a for over a list or a tuple, whichever it is -/
namespace R7
open PySem PySem.Spec PyProof.Rows L2 L5 M7
section
variable {X : Cx} {tg : Expr}
def iAny (K : PySem.W.Frag) (tl : TE) : TI := fun σ H R => tl σ H fun x H1 => ∃ a, x = .ref a ∧ (((∃ xs, SqL K H1 a xs) ∧ R (Itl K a) H1) ∨ ((∃ xs, SqT K H1 a xs) ∧ R (Itt K a) H1))
theorem pi_any {l : Expr} {tl : TE} (hl : PE X l tl) : PI X tg l (iAny X.K tl) := by
  refine ⟨fun pins s σ H R I h => thn (hl.run pins s σ H _ I h) fun v s1 ⟨x, H1, I1, r1, q1⟩ => ?_⟩
  obtain ⟨a, ea, ⟨⟨xs, at_⟩, q⟩ | ⟨⟨xs, at_⟩, q⟩⟩ := q1
  · subst ea; cases r1
    obtain ⟨_, _, plain, _⟩ := I1.list at_
    refine wpAny_pyIter_list plain.isList ⟨s1.heap.objs.size, [s1.heap.objs.size], _, _, H1, rfl, I1.kept (t' := s1.toks) fun b o e => Heap.get?_push_of_some _ e, turn_list a _, ⟨_, Heap.get?_push_size _ rfl, rfl, rfl⟩, fun b hb => ?_, q⟩
    obtain rfl : b = s1.heap.objs.size := List.mem_singleton.mp hb
    exact I1.fpOk (Nat.le_refl _) (I1.hok.fresh (Nat.le_refl _))
  · subst ea; cases r1
    obtain ⟨its, _, plain, _⟩ := I1.tuple at_
    refine wpAny_pyIter_tuple (show s1.heap.IsTuple a its.toArray from plain) ⟨s1.heap.objs.size, [s1.heap.objs.size], _, _, H1, rfl, I1.kept (t' := s1.toks) fun b o e => Heap.get?_push_of_some _ e, turn_tuple a _, ⟨_, Heap.get?_push_size _ rfl, rfl, rfl⟩, fun b hb => ?_, q⟩
    obtain rfl : b = s1.heap.objs.size := List.mem_singleton.mp hb
    exact I1.fpOk (Nat.le_refl _) (I1.hok.fresh (Nat.le_refl _))
end
def SqA (K : PySem.W.Frag) (H : Hp) (a : Addr) (xs : List V) : Prop := SqL K H a xs ∨ SqT K H a xs
section
variable {K : PySem.W.Frag} {H H' : Hp}
theorem sql_same {a : Addr} {xs : List V} (e : Same H H') (h : SqL K H a xs) : SqL K H' a xs := e.seq h
theorem SqA.same {a : Addr} {xs : List V} (e : Same H H') (h : SqA K H a xs) : SqA K H' a xs := h.imp (e.seq ·) (same_sqt e ·)
abbrev Turns (J : It) (g : TG) (tb : TS) (D : Ends) (σ : L2.St) (H : Hp) : Prop := ∃ W : Nat → Nat → L2.St → Hp → Prop, (∃ m, W 0 m σ H) ∧ ∀ i m σ H, W i m σ H →
  (J.stop i H ∧ D.nx σ H) ∨ (J.go i H ∧ ∃ N : L2.St → Hp → Prop, (∀ σ' H', N σ' H' → ∃ m', m' < m ∧ W (i + 1) m' σ' H') ∧ ∀ x H', J.yld i H x H' → g x σ H' fun σ2 H2 => tb { D with nx := N, ct := N, bk := D.nx } σ2 H2)
theorem for_any {a : Addr} {xs : List V} {g : TG} {tb : TS} {D : Ends} {σ : L2.St} (at_ : SqA K H a xs) (Pv : Nat → L2.St → Hp → Prop) (h0 : Pv 0 σ H) (keep : ∀ i σ' H', Pv i σ' H' → Same H H')
    (step : ∀ i x σ H, xs[i]? = some x → Pv i σ H → g x σ H fun σ2 H2 => tb { D with nx := Pv (i + 1), ct := Pv (i + 1), bk := D.nx } σ2 H2) (done : ∀ σ H, Pv xs.length σ H → D.nx σ H) :
    ((∃ xs, SqL K H a xs) ∧ Turns (Itl K a) g tb D σ H) ∨ ((∃ xs, SqT K H a xs) ∧ Turns (Itt K a) g tb D σ H) :=
  at_.elim (fun h => .inl ⟨⟨_, h⟩, for_list Pv h0 (fun i σ' H' _ p => (keep i σ' H' p).seq h) step done⟩) fun h => .inr ⟨⟨_, h⟩, for_tup Pv h0 (fun i σ' H' _ p => same_sqt (keep i σ' H' p) h) step done⟩
end
end R7

/-! [e for a in t for b in u], t and u tuples: the turns of both walks -/
namespace R7
open PySem PySem.Spec PyProof.Rows L2 L5 M7
section
variable {K : PySem.W.Frag} {g g1 : TG} {tt tt1 : TT} {te : TE} {vs vs1 : List Nat} {D : Addr}
abbrev In2 (J1 : It) (g1 : TG) (tt1 : TT) (te : TE) (vs1 : List Nat) (D : Addr) (σ2 : L2.St) (H4 : Hp) (Nx : Hp → Prop) : Prop := ∃ W1 : Nat → Nat → Hp → Prop, (∃ m, W1 0 m H4) ∧ ∀ j k H, W1 j k H →
  (J1.stop j H ∧ Nx H) ∨ (J1.go j H ∧ ∃ Nx1 : Hp → Prop, (∀ H', Nx1 H' → ∃ k', k' < k ∧ W1 (j + 1) k' H') ∧ ∀ x H', J1.yld j H x H' → g1 x (wipe σ2 vs1) H' fun σ3 H5 => wipe σ3 vs1 = wipe σ2 vs1 ∧ tt1 σ3 H5 fun b H6 =>
    if b = true then te σ3 H6 fun y H7 => ∃ acc, H7 D = some (.lst acc) ∧ acc.length < sizeLine ∧ Nx1 (upd H7 D (.lst (acc ++ [y]))) else Nx1 H6)
theorem in2_tup {b : Addr} {ys : List V} {σ2 : L2.St} {H4 : Hp} {Nx : Hp → Prop} (Pj : Nat → Hp → Prop) (h0 : Pj 0 H4) (at_ : ∀ j H, Pj j H → SqT K H b ys)
    (step : ∀ j y H, ys[j]? = some y → Pj j H → g1 y (wipe σ2 vs1) H fun σ3 H5 => wipe σ3 vs1 = wipe σ2 vs1 ∧ tt1 σ3 H5 fun c H6 => if c = true then te σ3 H6 fun z H7 => ∃ acc, H7 D = some (.lst acc) ∧ acc.length < sizeLine ∧ Pj (j + 1) (upd H7 D (.lst (acc ++ [z]))) else Pj (j + 1) H6)
    (done : ∀ H, Pj ys.length H → Nx H) : In2 (Itt K b) g1 tt1 te vs1 D σ2 H4 Nx := by
  refine ⟨fun j k H => j + k = ys.length ∧ Pj j H, ⟨ys.length, Nat.zero_add _, h0⟩, fun j k H0 hw => ?_⟩
  obtain ⟨e, pj⟩ := hw
  have here := at_ j H0 pj
  cases k with
  | zero =>
    obtain rfl : j = ys.length := e
    exact .inl ⟨⟨ys, here, Nat.le_refl _⟩, done H0 pj⟩
  | succ k =>
    have lt : j < ys.length := by omega
    refine .inr ⟨⟨ys, ys[j], here, List.getElem?_eq_getElem lt⟩, Pj (j + 1), fun H' p' => ⟨k, Nat.lt_succ_self k, by omega, p'⟩, fun x H' out => ?_⟩
    obtain ⟨same, val⟩ := out
    subst same
    exact step j x _ (val ys here) pj
theorem out2_tup {a : Addr} {xs : List V} {wi1 : TI} {σ : L2.St} {H1 : Hp} {Qd : Hp → Prop} (Pi : Nat → Hp → Prop) (h0 : Pi 0 (upd H1 D (.lst []))) (at_ : ∀ i H, Pi i H → SqT K H a xs)
    (step : ∀ i x H, xs[i]? = some x → Pi i H → g x (wipe σ vs) H fun σ2 H2 => wipe σ2 vs = wipe σ vs ∧ tt σ2 H2 fun c H3 => if c = true then wi1 σ2 H3 fun J1 H4 => In2 J1 g1 tt1 te vs1 D σ2 H4 (Pi (i + 1)) else Pi (i + 1) H3)
    (done : ∀ H, Pi xs.length H → Qd H) :
    ∃ W : Nat → Nat → Hp → Prop, (∃ m, W 0 m (upd H1 D (.lst []))) ∧ ∀ i m H, W i m H →
      ((Itt K a).stop i H ∧ Qd H) ∨ ((Itt K a).go i H ∧ ∃ Nx : Hp → Prop, (∀ H', Nx H' → ∃ m', m' < m ∧ W (i + 1) m' H') ∧ ∀ x H', (Itt K a).yld i H x H' → g x (wipe σ vs) H' fun σ2 H2 => wipe σ2 vs = wipe σ vs ∧ tt σ2 H2 fun c H3 =>
        if c = true then wi1 σ2 H3 fun J1 H4 => In2 J1 g1 tt1 te vs1 D σ2 H4 Nx else Nx H3) := by
  refine ⟨fun i m H => i + m = xs.length ∧ Pi i H, ⟨xs.length, Nat.zero_add _, h0⟩, fun i m H0 hw => ?_⟩
  obtain ⟨e, pi⟩ := hw
  have here := at_ i H0 pi
  cases m with
  | zero =>
    obtain rfl : i = xs.length := e
    exact .inl ⟨⟨xs, here, Nat.le_refl _⟩, done H0 pi⟩
  | succ m =>
    have lt : i < xs.length := by omega
    refine .inr ⟨⟨xs, xs[i], here, List.getElem?_eq_getElem lt⟩, Pi (i + 1), fun H' p' => ⟨m, Nat.lt_succ_self m, by omega, p'⟩, fun x H' out => ?_⟩
    obtain ⟨same, val⟩ := out
    subst same
    exact step i x _ (val xs here) pi
end
end R7

/-! an operator between two objects of one own class -/
namespace W7
open PySem PySem.W PySem.Calls PyProof.Rows
section
variable {prog : Program} {w : World} {A : Around} {E : Value → Shared → Prop} {s : Shared} {K : Frag} {x y C f : Addr} {ox oy : Obj} {od oe : Option Obj}
theorem fills_own {M : Model} {h : Heap} {cd : ClassData} {rest : List Value} {nm : String} (kin : K.In h) (hc : clsIn K C = some cd) (hm : cd.mro = .ref C :: rest) (hs : findIn K (.ref C) (PySem.dunder nm) = some (some (.ref f))) : Looks M h (fillsNumberSlot (.ref C) nm) true := fills_K kin hc hm hs
theorem bin_same {op : Operator} {Q : Value → Shared → Prop} (kin : K.In s.heap) (I : InstAt s.heap x ox C od) (J : InstAt s.heap y oy C oe) (first : selfFirst K C = true)
    (at_ : findIn K (.ref C) (PySem.dunder op.info.2) = some (some (.ref f))) (fn : isFn K (.ref f) = true) (h : wpAny (model prog w) A (call (.ref f) [.ref x, .ref y]) (PySem.W.CmpBack Q) E s) : wpAny (model prog w) A (binaryOp op (.ref x) (.ref y)) Q E s := by
  obtain ⟨cd, rest, known, mro⟩ := ksp_first first
  rcases info : op.info with ⟨sign, word⟩
  rw [info] at at_
  dsimp only at at_
  have tried := ksp_try kin I at_ fn h
  obtain ⟨hp, g, d, t, os⟩ := s
  have T1 : Looks (model prog w) hp (typeOf (.ref x)) (.ref C) := I.type
  have T2 : Looks (model prog w) hp (typeOf (.ref y)) (.ref C) := J.type
  have T3 : Looks (model prog w) hp (fillsNumberSlot (.ref C) word) true := fills_own kin known mro at_
  have same : (Value.ref C == Value.ref C) = true := beq_self_eq_true _
  simp only [binaryOp, info]
  refine wpAny_holding (wpAny_bind ?_)
  unfold binaryOp1
  refine wpAny_bind (T1.at (wpAny_bind (T2.at (wpAny_bind (T3.at ?_)))))
  simp only [same, if_true]
  ksp_lk
  refine wpAny_mono tried (fun r s' got => ?_) fun _ _ e => e
  obtain ⟨v, rfl, q⟩ := got
  ksp_lk
  exact q
end
end W7

namespace W7
open PySem PySem.Spec PyProof.Rows L2
section
variable {X : Cx} {CX : CXT} {C f : Addr} {fd : FuncData} {ps : List Str} {sp : Sp} {k : Nat} {op : Operator}
/-- a op b, both of the own class at C; sp: the method's promise -/
def rOwn (C : Addr) (sp : Sp) : R2 := fun x y H Q => ∃ (a b dx dy : Addr) (fs gs : List (Str × V)), x = .ref a ∧ y = .ref b ∧ H a = some (.ins C dx fs) ∧ H b = some (.ins C dy gs) ∧ sp [.ref a, .ref b] H Q E0
theorem no_notimpl {x : V} (h : RelV x .notImplemented) : False := by
  cases x <;> first | exact h.elim | (obtain ⟨_, e⟩ := h; cases e) | cases h
theorem op_own (first : PySem.W.selfFirst X.K C = true) (at_ : PySem.W.findIn X.K (.ref C) (PySem.dunder op.info.2) = some (some (.ref f))) (fn : PySem.W.isFn X.K (.ref f) = true) (F : FnOk X.prog X.w X.K X.mg X.base CX k f fd ps sp) (hr : Room k X.A) (hb : Binds X.K fd ps []) (hx : Passes CX X E0) : OpR X (binaryOp op) (rOwn C sp) := by
  intro pins s σ H x y v u Q I rx ry h
  obtain ⟨a, b, dx, dy, fs, gs, rfl, rfl, ha, hb2, q⟩ := h
  obtain rfl : v = Value.ref a := rx
  obtain rfl : u = Value.ref b := ry
  obtain ⟨_, Oa, _⟩ := ins_get I.hok ha
  obtain ⟨_, Ja, _⟩ := Oa.look
  obtain ⟨_, Ob, _⟩ := ins_get I.hok hb2
  obtain ⟨_, Jb, _⟩ := Ob.look
  refine bin_same I.kIn Ja Jb first at_ fn (wpAny_mono (run_fn (dvs := []) (ds := []) (vs := [.ref a, .ref b]) (us := [.ref a, .ref b]) (Q := Q) F hr hb .nil hx I (.cons rfl (.cons rfl .nil)) q) (fun r s' z => ?_) fun _ _ z => z)
  cases r with
  | notImplemented =>
    obtain ⟨_, _, _, rel, _⟩ := z
    exact no_notimpl rel
  | _ => exact z
end
end W7

/-! own exceptions with one field, over any built-in base; a try with several clauses, named or not -/
namespace XX
open PySem PySem.Spec PyProof.Rows L2 Builtin.ObjectAttr
/-! ### self.name = v of a fresh exception, whatever its built-in base is -/
section
variable {pr : Program} {wd : World} {A : Around} {R : Result → Shared → Prop} {hp : Heap} {g : Array GenState} {dr : Drawn} {t : Nat} {os : OsState} {B : String} {bmB : List Value}
theorem first_field {K : PySem.W.Frag} {name : Str} {tk : Tok} {v : Value} {x C : Addr} {fv : Array Value} {cd : ClassData} (SF : StoreFacts B bmB "object.__setattr__" "object") (kin : K.In hp)
    (hx : hp.get? x = some { cls := .ref C, data := .fields fv }) (hcd : PySem.W.clsIn K C = some cd) (over : PySem.W.excOver K C bmB = true) (has : cd.hasDict = true) (no : PySem.W.findIn K (.ref C) name = some none)
    (q : ∀ h' tk' dx, (∀ b o, b ≠ x → hp.get? b = some o → h'.get? b = some o) → hp.objs.size ≤ dx → dx ≠ x → h'.get? x = some { cls := .ref C, dict := some dx, data := .fields fv } →
      h'.Ns1 dx (fun y => if y = name then some v else none) → R (.ok (.ret .none)) ⟨h', g, dr, tk', os⟩) :
    codeAny (model pr wd) A (.call (.builtin "object.__setattr__") ⟨[.ref x, .str name tk, v], []⟩) R ⟨hp, g, dr, t, os⟩ := by
  have taker : PySem.W.takerIn K C name = some none := by
    unfold PySem.W.takerIn
    rw [no]
    rfl
  refine PySem.W.osa_openX (s := ⟨hp, g, dr, t, os⟩) (ox := { cls := .ref C, data := .fields fv }) (od := none) SF kin ⟨hx, rfl, rfl, trivial⟩ over taker fun b => ?_
  have away : x ≠ hp.objs.size := Nat.ne_of_lt (Heap.lt_size hx)
  have known : PySem.W.Looks (model pr wd) hp (classData C) cd := PySem.W.looks_clsIn kin hcd
  show wpAny _ _ (storeInOwnDict (.ref x) (.ref C) (.str name tk) name v b) _ _ _
  obtain ⟨_, _, _, _, _, hd, _, _, _, _, _⟩ := cd
  dsimp only at has
  subst has
  unfold storeInOwnDict ownDictForStores
  repeat (first | with_reducible refine HandSPX.store_in_new ?_ ?_ | with_reducible refine wpAny_loadPart_at hx ?_ | with_reducible refine known.at ?_ | wp_step)
  · exact ⟨_, #[], _, (Heap.get?_update_ne _ _ _ _ away.symm).trans (Heap.get?_push_at rfl rfl), rfl, fun e he => absurd he (by simp), fun _ => rfl⟩
  · intro h' tk' one same
    have still : (hp.push { cls := .type "dict", data := .dict #[] }).get? x = some { cls := .ref C, data := .fields fv } := Heap.get?_push_of_some _ hx
    exact q h' tk' hp.objs.size (fun b' o ne ob => (same.2 b' (Nat.ne_of_lt (Heap.lt_size ob))).trans ((Heap.get?_update_ne _ _ _ _ ne).trans (Heap.get?_push_of_some _ ob))) (Nat.le_refl _) away.symm
      ((same.2 x away).trans (Heap.get?_update_self _ still rfl)) one
end
/-- what the written part says of such a class -/
structure OexB (K : PySem.W.Frag) (C : Addr) (bmB : List Value) (newId : String) : Prop where
  cls : ∃ nm q N bs bm sn sub ab col dd k0 k1 k2 k3 k5, K.lookup C = some (excClassObj nm q C N bs bm true sn sub ab col dd k0 k1 k2 k3 k5 newId) ∧ PySem.W.excTail bmB bm = true
  sa : PySem.W.findIn K (.ref C) "__setattr__" = some (some (.builtin "object.__setattr__"))
  exC : PySem.W.subIn K (.ref C) (.type "BaseException") = some true
  tyC : PySem.W.typeIn K (.ref C) = some (.type "type")
  kC : PySem.W.keepIn K (.ref C) = true
section
variable {X : Cx} {pins : List (Addr × Obj)} {σ : L2.St} {H : Hp} {s : Shared} {a C : Addr} {f : Str} {y : V} {u : Value} {Q : Unit → Shared → Prop} {E : Value → Shared → Prop} {A : Around} {B newId initId : String} {bmB : List Value}
theorem ost_first (SF : StoreFacts B bmB "object.__setattr__" "object") (T : OexB X.K C bmB newId) (I : Inv X pins σ H s) (e : H a = some (exo a C none)) (no : PySem.W.findIn X.K (.ref C) f = some none) (ry : RelV y u)
    (q : ∀ dx s', H dx = none → dx ≠ a → Inv X pins σ (upd (upd H dx (exd dx [(f, y)])) a (exo a C (some dx))) s' → Q () s') : wpAny (model X.prog X.w) A (setAttr (.ref a) f u) Q E s := by
  obtain ⟨nm, qn, N, bs, bm, sn, sub, ab, col, dd, k0, k1, k2, k3, k5, hC, tail⟩ := T.cls
  have hcl : PySem.W.clsIn X.K C = some { name := nm, bases := bs, mro := .ref C :: bm, ns := N, qualname := qn, hasDict := true, slotNames := sn, subclasses := sub, abstract := ab, collection := col, hasDel := false } := by
    unfold PySem.W.clsIn
    rw [hC] <;> rfl
  have over : PySem.W.excOver X.K C bmB = true := by
    unfold PySem.W.excOver
    rw [hcl]
    show (C == C && PySem.W.excTail bmB bm) = true
    rw [tail, beq_self_eq_true] <;> rfl
  obtain ⟨t1, ho⟩ := exo_at I.hok e
  obtain ⟨hp, g, dr, t, os⟩ := s
  refine PySem.W.set_plain I.kIn (ox := { cls := .ref C, dict := none, data := .fields #[.ref t1, .none, .none, .none, .bool false, .none] }) (od := none) ⟨ho, rfl, rfl, trivial⟩ T.sa ?_
  refine first_field SF I.kIn ho hcl over rfl no fun h' tk' dx kept young away hx one => ?_
  have free : H dx = none := I.hok.fresh young
  have old : ∀ {b : Addr} {o : Obj}, hp.get? b = some o → b ≠ dx := fun z => Nat.ne_of_lt (Nat.lt_of_lt_of_le (Heap.lt_size z) young)
  have other : ∀ {b : Addr}, H b = none → b ≠ a := fun {b} n z => by
    rw [z, e] at n
    cases n
  have U : Un X.fs [] H (upd (upd H dx (exd dx [(f, y)])) a (exo a C (some dx))) hp h' := {
    keep := fun b o z n _ _ => kept b o (other n) z
    slot := fun b o z n _ _ => ⟨o.slots, kept b o (other n) z⟩
    free := fun b o z n _ => by rw [upd_ne (other n), upd_ne (old z)]; exact n
    there := fun b o z _ => by
      by_cases hb : b = a
      · rw [hb]
        exact ⟨_, hx⟩
      · exact ⟨o, kept b o hb z⟩
    tups := fun b xs z => by rw [upd_ne (at_ne e z exo_tup), upd_ne (ne_of_none z free)]; exact z
    frzs := fun b o v z => by rw [upd_ne (at_ne e z exo_frz), upd_ne (ne_of_none z free)]; exact z
    tbls := fun b ps z => ⟨#[], by rw [upd_ne (at_ne e z exo_tbl), upd_ne (ne_of_none z free), z]; simp⟩ }
  refine q dx _ free away (I.un (t' := tk') U fun b o z => ?_)
  by_cases hb : b = a
  · subst hb
    rw [upd_same] at z
    cases z
    exact exo_ok hx
  rw [upd_ne hb] at z
  by_cases hd : b = dx
  · subst hd
    rw [upd_same] at z
    cases z
    exact exd_ok one (relO_put (fs := []) ry fun _ => True.intro)
  · rw [upd_ne hd] at z
    refine (I.hok b o z).stay (fun c v hc ob => kept c v (fun ca => ?_) ob) (fun c hc => ?_) fun c xs hc => ?_
    · rcases hc with hc | hc
      · exact hb (hc ▸ ca)
      · exact at_ne e hc exo_own ca
    · rw [upd_ne (at_ne e hc exo_own), upd_ne (ne_of_none hc free)]
      exact hc
    · rw [upd_ne (at_ne e hc exo_tup), upd_ne (ne_of_none hc free)]
      exact hc
/-- self.f = e, of an exception that has no dict -/
def tOst1 (K : PySem.W.Frag) (bmB : List Value) (newId : String) (f : Str) (to te : TE) : TS := fun D σ H => te σ H fun y H1 => to σ H1 fun x H2 => ∃ a C : Addr, x = .ref a ∧ OexB K C bmB newId ∧ PySem.W.findIn K (.ref C) f = some none ∧
  H2 a = some (exo a C none) ∧ ∀ dx, H2 dx = none → dx ≠ a → D.nx σ (upd (upd H2 dx (exd dx [(f, y)])) a (exo a C (some dx)))
theorem ps_ost1 {o e : Expr} {to te : TE} {p' pos : Pos} (SF : StoreFacts B bmB "object.__setattr__" "object") (ho : PE X o to) (he : PE X e te) (hs : swapsWith e (some (.Attribute o f p')) pos.line X.env = pure false := by rfl) : PS X (.Assign [.Attribute o f p'] e pos) (tOst1 X.K bmB newId f to te) :=
  ⟨fun pins s σ H D I h => plainObj_wpAny_Assign_Attribute (thn (he.run pins s σ H _ I h) fun v s1 ⟨_, _, I1, r1, q1⟩ => thn (ho.run pins s1 σ _ _ I1 q1) fun u s2 ⟨_, _, I2, r2, q2⟩ => by
    obtain ⟨a, C, rfl, T, no, ea, q⟩ := q2
    obtain rfl : u = Value.ref a := r2
    exact ost_first SF T I2 ea no r1 fun dx s' n ne J => ⟨σ, _, J, q dx n ne⟩) hs⟩
theorem pmk_oexB {CX : CXT} {x : Str} {fI : Addr} {k : Nat} {fd : FuncData} {ps : List Str} {sp : Sp} {ds : List Value} {dvs : List V} {e : Expr} {es : List Expr} {ta : TA} {p pos : Pos} (F : ExcBaseFacts B newId initId bmB) (T : OexB X.K C bmB newId) (iC : PySem.W.findIn X.K (.ref C) "__init__" = some (some (.ref fI)))
    (tI : PySem.W.typeIn X.K (.ref fI) = some (.type "function")) (F1 : FnOk X.prog X.w X.K X.mg X.base CX k fI fd ps sp) (hr : Room (k + 1) X.A) (hb : Binds X.K fd ps ds) (hd : Vals dvs ds) (hx : Passes CX X (fun _ _ _ => False)) (hg : Gl X x) (hm : X.mg x = some (.ref C)) (ha : PA X (e :: es) ta)
    (hdb : (x == ("__debug__" : Str)) = false := by decide) (he : starEach (e :: es) X.env = (false, eval e X.env) :: starEach es X.env := by rfl) (hpl : (backTo pos (starEach es X.env)).any (·.1) = false := by rfl) :
    PMk X (.Call (.Name x p) (e :: es) [] pos) (tMkO C sp dvs ta) := fun pins s σ H Q I h => by
  obtain ⟨nm, qn, N, bs, bm, sn, sub, ab, col, dd, k0, k1, k2, k3, k5, hC, tail⟩ := T.cls
  refine wpAny_Call_Name_kw (ld_glob I hg hm ?_ hdb)
  refine PySem.W.callWith_K (h₀ := X.base) I.ok.mod.kin T.kC (thn (ha.run pos pins s σ H _ I h) fun us s1 ⟨vs, H1, I1, r1, few, q1⟩ => ⟨I1.kIn, ?_⟩) he hpl
  show wpAny _ _ (call (.ref C) us) _ _ _
  obtain ⟨hp, g, dr, tk, os⟩ := s1
  have up1 : hp.objs.size ≤ hp.objs.size + 1 := Nat.le_succ _
  have hq := q1 (hp.objs.size + 1) (I1.hok.fresh up1)
  have kk : ∀ b o, hp.get? b = some o → ((hp.push (PySem.W.kdv_tup us)).push (PySem.HandSPX.excO C hp.objs.size)).get? b = some o := fun b o z => Heap.get?_push_of_some _ (Heap.get?_push_of_some _ z)
  have made : ((hp.push (PySem.W.kdv_tup us)).push (PySem.HandSPX.excO C hp.objs.size)).get? (hp.objs.size + 1) = some (PySem.HandSPX.excO C hp.objs.size) := by heap_get
  have I2 : Inv X pins σ (upd H1 (hp.objs.size + 1) (exo (hp.objs.size + 1) C none)) ⟨(hp.push (PySem.W.kdv_tup us)).push (PySem.HandSPX.excO C hp.objs.size), g, dr, tk, os⟩ :=
    I1.laid (t' := tk) (a := hp.objs.size + 1) (o := exo (hp.objs.size + 1) C none) (h' := (hp.push (PySem.W.kdv_tup us)).push (PySem.HandSPX.excO C hp.objs.size)) kk up1 (exo_ok made)
  have r2 : Vals (V.ref (hp.objs.size + 1) :: (vs ++ dvs)) (Value.ref (hp.objs.size + 1) :: (us ++ ds)) := .cons rfl (r1.append hd)
  have many : (Value.ref (hp.objs.size + 1) :: us ++ ds).length = ps.length := by
    have z := r2.length
    rw [F1.len _ _ _ _ hq] at z
    exact z.symm
  have fits : us.length ≤ sizeLine := by
    rw [← Paired.length r1, sizeLine_eq]
    omega
  refine wpAny_call (PySem.HandSPX.call_own F (fun Y => PySem.W.excTail_contains Y bm tail) (I1.kIn _ _ hC) (PySem.W.looks_findIn I1.kIn iC) (fun self => PySem.W.bind_fn I1.kIn self tI) fits
    (codeAny_mono (F1.run _ X.stack _ _ ⟨Value.ref (hp.objs.size + 1) :: us, []⟩ (Value.ref (hp.objs.size + 1) :: (us ++ ds)) _ _ (fun _ _ _ => False) (hr.make C us []) (I2.env0.make C us []) (hb _ (Value.ref (hp.objs.size + 1) :: us) I2.kIn many) r2 hq) fun r s' z => ?_))
  cases r with
  | error er => exact hx pins σ _ _ er s' I2 z
  | ok fl =>
    cases fl with
    | ret u =>
      obtain ⟨v, H2, os2, bare2, un2, hok2, rv, rfl, d, fs, ea, ed, hd1, q2⟩ := z
      obtain ⟨h2, g2, d2, t2, os'⟩ := s'
      exact ⟨rv, mk_end (raises_own T.exC T.tyC) I1 up1 kk un2 hok2 os2 bare2 ea ed hd1 q2⟩
    | next => exact False.elim z
    | brk => exact False.elim z
    | cont => exact False.elim z
end
end XX

/-! a try with several clauses, each with a name or without one -/
namespace XX
open PySem PySem.Spec PyProof.Rows L2
/-- a clause: its class, the slot of its name, the reading of its suite -/
structure Clause where
  cls : Value
  slot : Option Nat
  ts : Addr → Value → Option Addr → TS
/-- behind a suite the clause's name is gone -/
def Ends.gone (D : Ends) (i : Nat) : Ends := { nx := fun σ H => D.nx (σ.set i none) H, rt := D.rt, bk := fun σ H => D.bk (σ.set i none) H, ct := fun σ H => D.ct (σ.set i none) H }
def Clause.go (c : Clause) (a : Addr) (cls : Value) (d : Option Addr) (D : Ends) (σ : L2.St) (H : Hp) : Prop := match c.slot with
  | none => c.ts a cls d D σ H
  | some i => c.ts a cls d (Ends.gone D i) (σ.set i (some (.ref a))) H
def wMix (K : PySem.W.Frag) (out : WX) (D : Ends) : List Clause → WX
  | [] => out
  | c :: r => fun cls d σ H => ∃ b, PySem.W.exmOne K cls c.cls = some b ∧ (b = true → ∀ a, H a = none → c.go a cls d D σ H) ∧ (b = false → wMix K out D r cls d σ H)
def NameOk (X : Cx) : Option Str → Option Nat → Prop
  | none, none => True
  | some n, some i => X.N[i]? = some n ∧ X.env.kindOf n = some .local
  | _, _ => False
inductive MixOk (X : Cx) : List ExceptHandler → List Clause → Prop
  | nil : MixOk X [] []
  | cons {x : Str} {nm : Option Str} {c : Clause} {st : Stmt} {suite : List Stmt} {np pp : Pos} {hds : List ExceptHandler} {l : List Clause} (names : Names X x c.cls) (ok : NameOk X nm c.slot)
      (body : ∀ (a : Addr) (oe : Obj) (cls : Value) (d : Option Addr) (pn : List (Addr × Obj)), Zc cls d oe → (∃ vs, oe.data = .fields vs) → PSs (X.suite a ((a, oe) :: pn)) (st :: suite) (c.ts a cls d)) (rest : MixOk X hds l) :
      MixOk X (.ExceptHandler (some (.Name x np)) nm (st :: suite) pp :: hds) (c :: l)
section
variable {X : Cx} {body : List Stmt} {h0 : ExceptHandler} {hds : List ExceptHandler} {l : List Clause} {pos : Pos} {tb : WX → TS} {out : WX}
theorem ps_try_mix (hs : X.stack = X.env :: X.outer) (hf : X.env.frame = some X.env.locals) (nodup : X.N.Nodup) (tk : Takes X out)
    (hb : ∀ (W : WX) (pn : List (Addr × Obj)) (xe : Value → Shared → Prop), Takes (X.tr pn xe) W → PassesOwn (model X.prog X.w) X.A X.env xe → PSs (X.tr pn xe) body (tb W))
    (hh : MixOk X (h0 :: hds) l) : PS X (.Try body (h0 :: hds) [] [] pos) (fun D σ H => tb (wMix X.K out D l) D σ H) := by
  refine ⟨fun pins s σ H D I h => ?_⟩
  have ok := I.ok
  have frames : X.A.frames = some (X.env :: X.outer) := by rw [ok.frames, hs]
  refine wpAny_Try_except ?_
  refine wpAny_mono ((hb (wMix X.K out D l) (X.pn ++ pins) (fun e s1 => wpAny (model X.prog X.w) X.A (noteFrame e X.env) (fun _ s2 => wpAny (model X.prog X.w) X.A (setFlight e none) (fun _ s3 =>
    wpAny (model X.prog X.w) X.A (handleBy e X.env (h0 :: hds)) (SP X pins D) X.xe s3) X.xe s2) X.xe s1) (fun u s' air => ?_) PassesOwn.looking).run [] s σ H D (I.toTry _) h) (fun f s1 sp => ?_) (fun e s1 he => he)
  · obtain ⟨a, B, sI, pins', σ', H', cls, d, rfl, J', nb, up, sky, na, os, ag, wish⟩ := air
    have J : Inv X pins σ' H' sI := J'.ofTry ok
    rw [hs] at sky
    show wpAny (model X.prog X.w) X.A (noteFrame (.ref a) X.env) _ _ _
    refine Sky.land Zc.steady frames hf sky fun h3 fl3 up3 => ?_
    have J3 : Inv X pins σ' H' { s' with heap := h3 } := J.landed nb fl3.1 (up.trans up3) os ag
    obtain ⟨oe3, vs3, at3, z3, d3⟩ := fl3.there
    have inAir : a ∉ frs (X.env :: X.outer) := fun hm => by
      obtain ⟨_, o', e', hnf⟩ := fl3.2.2.1.mem hm
      rw [at3] at e'
      cases e'
      exact hnf _ d3
    have nL : a ≠ X.env.locals := fun z => inAir (List.mem_filterMap.mpr ⟨X.env, List.mem_cons_self, by rw [hf, z]⟩)
    have nF : a ∉ X.fs := fun hm => by
      obtain ⟨e, he, q⟩ := List.mem_filterMap.mp hm
      exact inAir (List.mem_filterMap.mpr ⟨e, List.mem_cons_of_mem _ he, q⟩)
    have S3 := J3.suite at3 d3 na nL nF
    have clauses : ∀ {hds' : List ExceptHandler} {l' : List Clause}, MixOk X hds' l' → wMix X.K out D l' cls d σ' H' →
        wpAny (model X.prog X.w) X.A (handleBy (.ref a) X.env hds') (SP X pins D) X.xe { s' with heap := h3 } := by
      intro hds' l' hk
      induction hk with
      | nil =>
        intro wish'
        refine wpAny_handleBy_nil ?_
        obtain ⟨_, _, _, oe, vs, T, oT, ts', he, hz, hd, h1, hr⟩ := id fl3
        unfold PySem.passOn
        refine wpAny_bind (wpAny_field he hd h1 ?_)
        rw [if_neg (show ¬ ((Value.ref T == Value.none) = true) from by simp)]
        have on : wpAny (model X.prog X.w) X.A (setFlight (.ref a) X.env.frame) (fun _ s4 => wpAny (model X.prog X.w) X.A (throw (.ref a) : Sem Flow) (SP X pins D) X.xe s4) X.xe { s' with heap := h3 } := by
          rw [hf]
          refine HandSPX.setFlight_upZ fl3 fun h4 hh4 up4 => wpAny_throw (tk _ _ ?_)
          exact ⟨a, B, sI, pins, σ', H', cls, d, rfl, J, nb, (up.trans up3).trans up4, .inr (.inr (by rw [hs]; exact hh4)), na, os, ag, wish'⟩
        first
          | exact wpAny_bind (wpAny_pure (wpAny_bind on))
          | exact wpAny_bind on
      | @cons x nm c st suite np pp hds2 l2 names named bodyOk rest ih =>
        intro wish'
        obtain ⟨b, hb1, yes, no⟩ := wish'
        refine wpAny_handleBy_cons (codeAny_handlers_test ?_) (by intro q; cases q)
        have LT : PySem.W.Looks (model X.prog X.w) h3 (typeOf (.ref a)) cls := fun A Q E s k q => wpAny_typeOf_ref (k _ _ at3) (by rw [z3.1]; exact q)
        have LM := PySem.W.exm_one (M := model X.prog X.w) (J3.kIn) LT hb1
        have test : ∀ {Q : Value → Shared → Prop} {E : Value → Shared → Prop}, Q c.cls { s' with heap := h3 } → wpAny (model X.prog X.w) (X.A.mark (some (.ref a))) (eval (.Name x np) X.env) Q E { s' with heap := h3 } := fun {Q E} q => by
          obtain ⟨hg, hdbg, hm | ⟨hm, hv, hnn⟩⟩ := names
          · exact ld_glob (X := X.suite a ((a, oe3) :: (X.pn ++ pins))) S3 hg hm q hdbg
          · exact ld_blt (X := X.suite a ((a, oe3) :: (X.pn ++ pins))) S3 hg hm hv q hnn hdbg
        refine test (LM.here ?_)
        cases b with
        | false =>
          show wpAny _ X.A (handleBy (.ref a) X.env hds2) _ _ _
          exact ih (no rfl)
        | true =>
          have go := yes rfl a na
          obtain ⟨ccls, slot, cts⟩ := c
          cases nm with
          | none =>
            cases slot with
            | some i => exact named.elim
            | none =>
              refine codeAny_handlers_suite ?_
              refine HandSPX.lands_againZ fl3 fun h4 fl4 up4 => ?_
              have J4 : Inv X pins σ' H' { s' with heap := h4 } := J.landed nb fl4.1 ((up.trans up3).trans up4) os ag
              obtain ⟨oe4, vs4, at4, z4, d4⟩ := fl4.there
              refine wpAny_mono ((bodyOk a oe4 cls d (X.pn ++ pins) z4 ⟨_, d4⟩).run [] _ _ H' _ (J4.suite at4 d4 na nL nF) go) (fun f s6 sp => ?_) (fun _ _ z => False.elim z)
              cases f with
              | ret u =>
                obtain ⟨_, _, _, S6, r6, q6⟩ := sp
                exact ⟨_, _, _, S6.unsuite ok, r6, q6⟩
              | next =>
                obtain ⟨_, _, S6, q6⟩ := sp
                exact ⟨_, _, S6.unsuite ok, q6⟩
              | brk =>
                obtain ⟨_, _, S6, q6⟩ := sp
                exact ⟨_, _, S6.unsuite ok, q6⟩
              | cont =>
                obtain ⟨_, _, S6, q6⟩ := sp
                exact ⟨_, _, S6.unsuite ok, q6⟩
          | some n =>
            cases slot with
            | none => exact named.elim
            | some i =>
              obtain ⟨ni, nl⟩ := named
              refine codeAny_handlers_suite_as ?_
              refine HandSPX.lands_againZ fl3 fun h4 fl4 up4 => ?_
              have J4 : Inv X pins σ' H' { s' with heap := h4 } := J.landed nb fl4.1 ((up.trans up3).trans up4) os ag
              obtain ⟨oe4, vs4, at4, z4, d4⟩ := fl4.there
              refine store_ok (X := X.suite a ((a, oe4) :: (X.pn ++ pins))) (v := .ref a) (J4.suite at4 d4 na nL nF) nodup ni (.inl nl) rfl (fun s5 S5 => ?_) (.inr nl)
              refine wpAny_mono ((bodyOk a oe4 cls d (X.pn ++ pins) z4 ⟨_, d4⟩).run [] s5 _ H' _ S5 go) (fun f s6 sp => ?_) (fun _ _ z => False.elim z)
              have leave : ∀ {σ6 : L2.St} {H6 : Hp} {Q : Shared → Prop}, Inv (X.suite a ((a, oe4) :: (X.pn ++ pins))) [] σ6 H6 s6 → (∀ s7, Inv X pins (σ6.set i none) H6 s7 → Q s7) →
                  wpAny (model X.prog X.w) X.A (do bindName X.env n .none; unbindBehindTheSuite X.env n pp) (fun _ s7 => Q s7) X.xe s6 := fun {σ6 H6 Q} S6 hq => gone_ok (S6.unsuite ok) nodup ni nl hq
              cases f with
              | ret u =>
                obtain ⟨_, _, _, S6, r6, q6⟩ := sp
                exact leave S6 fun s7 J7 => ⟨_, _, _, J7, r6, q6⟩
              | next =>
                obtain ⟨_, _, S6, q6⟩ := sp
                exact leave S6 fun s7 J7 => ⟨_, _, J7, q6⟩
              | brk =>
                obtain ⟨_, _, S6, q6⟩ := sp
                exact leave S6 fun s7 J7 => ⟨_, _, J7, q6⟩
              | cont =>
                obtain ⟨_, _, S6, q6⟩ := sp
                exact leave S6 fun s7 J7 => ⟨_, _, J7, q6⟩
    exact clauses hh wish
  · cases f with
    | ret u =>
      obtain ⟨v, σ', H', J', r, q⟩ := sp
      exact ⟨v, σ', H', J'.ofTry ok, r, q⟩
    | next =>
      obtain ⟨σ', H', J', q⟩ := sp
      exact wpAny_execs_nil ⟨σ', H', J'.ofTry ok, q⟩
    | brk =>
      obtain ⟨σ', H', J', q⟩ := sp
      exact ⟨σ', H', J'.ofTry ok, q⟩
    | cont =>
      obtain ⟨σ', H', J', q⟩ := sp
      exact ⟨σ', H', J'.ofTry ok, q⟩
end
end XX

namespace K14
open PySem PySem.Spec PyProof.Rows L2 RZ L5 R7 XX
/-! ### the text by places -/
def topS (i : Nat) : Stmt := PySem.Challenge.pw_pureladders_k14_whole_free_sets.main.body.getD i (.Pass ⟨0, 0, 0, 0⟩)
abbrev s_is_number : Stmt := topS 10
abbrev N_is_number : List Str := ["value"]
theorem sc_is_number : FnScope N_is_number ["value"] (defScope s_is_number) := ⟨rfl, rfl, rfl, by decide +kernel, rfl, by decide +kernel, by decide +kernel⟩
abbrev s_is_within : Stmt := topS 11
abbrev N_is_within : List Str := ["value", "least", "most"]
theorem sc_is_within : FnScope N_is_within ["value", "least", "most"] (defScope s_is_within) := ⟨rfl, rfl, rfl, by decide +kernel, rfl, by decide +kernel, by decide +kernel⟩
abbrev s_check_within : Stmt := topS 12
abbrev N_check_within : List Str := ["value", "least", "most"]
theorem sc_check_within : FnScope N_check_within ["value", "least", "most"] (defScope s_check_within) := ⟨rfl, rfl, rfl, by decide +kernel, rfl, by decide +kernel, by decide +kernel⟩
abbrev s_are_exponents : Stmt := topS 14
abbrev N_are_exponents : List Str := ["value", "letters", "most", "exponent"]
theorem sc_are_exponents : FnScope N_are_exponents ["value", "letters", "most"] (defScope s_are_exponents) := ⟨rfl, rfl, rfl, by decide +kernel, rfl, by decide +kernel, by decide +kernel⟩
abbrev s_fits : Stmt := topS 16
abbrev N_fits : List Str := ["one", "other", "low", "high"]
theorem sc_fits : FnScope N_fits ["one", "other"] (defScope s_fits) := ⟨rfl, rfl, rfl, by decide +kernel, rfl, by decide +kernel, by decide +kernel⟩
abbrev s_is_divided : Stmt := topS 19
abbrev N_is_divided : List Str := ["product", "products", "one"]
theorem sc_is_divided : FnScope N_is_divided ["product", "products"] (defScope s_is_divided) := ⟨rfl, rfl, rfl, by decide +kernel, rfl, by decide +kernel, by decide +kernel⟩
abbrev s_is_least_of : Stmt := topS 20
abbrev N_is_least_of : List Str := ["product", "products", "one"]
theorem sc_is_least_of : FnScope N_is_least_of ["product", "products"] (defScope s_is_least_of) := ⟨rfl, rfl, rfl, by decide +kernel, rfl, by decide +kernel, by decide +kernel⟩
abbrev s_least_of : Stmt := topS 21
abbrev N_least_of : List Str := ["products", "most", "kept", "product"]
theorem sc_least_of : FnScope N_least_of ["products", "most"] (defScope s_least_of) := ⟨rfl, rfl, rfl, by decide +kernel, rfl, by decide +kernel, by decide +kernel⟩
abbrev s_are_products : Stmt := topS 42
abbrev N_are_products : List Str := ["value", "letters", "member"]
theorem sc_are_products : FnScope N_are_products ["value", "letters"] (defScope s_are_products) := ⟨rfl, rfl, rfl, by decide +kernel, rfl, by decide +kernel, by decide +kernel⟩
abbrev s_check_lot : Stmt := topS 44
abbrev N_check_lot : List Str := ["value"]
theorem sc_check_lot : FnScope N_check_lot ["value"] (defScope s_check_lot) := ⟨rfl, rfl, rfl, by decide +kernel, rfl, by decide +kernel, by decide +kernel⟩
abbrev s_limited_members : Stmt := topS 46
abbrev N_limited_members : List Str := ["products", "members"]
theorem sc_limited_members : FnScope N_limited_members ["products"] (defScope s_limited_members) := ⟨rfl, rfl, rfl, by decide +kernel, rfl, by decide +kernel, by decide +kernel⟩
abbrev s_has_great_exponent : Stmt := topS 47
abbrev N_has_great_exponent : List Str := ["products", "product"]
theorem sc_has_great_exponent : FnScope N_has_great_exponent ["products"] (defScope s_has_great_exponent) := ⟨rfl, rfl, rfl, by decide +kernel, rfl, by decide +kernel, by decide +kernel⟩
abbrev s_letter_sets : Stmt := topS 49
abbrev N_letter_sets : List Str := ["letters", "found", "index", "chosen"]
theorem sc_letter_sets : FnScope N_letter_sets ["letters"] (defScope s_letter_sets) := ⟨rfl, rfl, rfl, by decide +kernel, rfl, by decide +kernel, by decide +kernel⟩
abbrev s_is_free : Stmt := topS 50
abbrev N_is_free : List Str := ["chosen", "members", "member", "others", "index", "exponent"]
theorem sc_is_free : FnScope N_is_free ["chosen", "members"] (defScope s_is_free) := ⟨rfl, rfl, rfl, by decide +kernel, rfl, by decide +kernel, by decide +kernel⟩
abbrev s_free_sets : Stmt := topS 51
abbrev N_free_sets : List Str := ["letters", "members", "chosen"]
theorem sc_free_sets : FnScope N_free_sets ["letters", "members"] (defScope s_free_sets) := ⟨rfl, rfl, rfl, by decide +kernel, rfl, by decide +kernel, by decide +kernel⟩
abbrev s_greatest_size : Stmt := topS 52
abbrev N_greatest_size : List Str := ["sets", "chosen"]
theorem sc_greatest_size : FnScope N_greatest_size ["sets"] (defScope s_greatest_size) := ⟨rfl, rfl, rfl, by decide +kernel, rfl, by decide +kernel, by decide +kernel⟩
abbrev s_dimension : Stmt := topS 54
abbrev N_dimension : List Str := ["lot"]
theorem sc_dimension : FnScope N_dimension ["lot"] (defScope s_dimension) := ⟨rfl, rfl, rfl, by decide +kernel, rfl, by decide +kernel, by decide +kernel⟩
abbrev s_free_set : Stmt := topS 55
abbrev N_free_set : List Str := ["lot"]
theorem sc_free_set : FnScope N_free_set ["lot"] (defScope s_free_set) := ⟨rfl, rfl, rfl, by decide +kernel, rfl, by decide +kernel, by decide +kernel⟩
abbrev s_is_free_set : Stmt := topS 56
abbrev N_is_free_set : List Str := ["lot", "value", "sets", "index"]
theorem sc_is_free_set : FnScope N_is_free_set ["lot", "value"] (defScope s_is_free_set) := ⟨rfl, rfl, rfl, by decide +kernel, rfl, by decide +kernel, by decide +kernel⟩
abbrev s_greatest_free_sets : Stmt := topS 57
abbrev N_greatest_free_sets : List Str := ["lot", "sets", "most", "chosen"]
theorem sc_greatest_free_sets : FnScope N_greatest_free_sets ["lot"] (defScope s_greatest_free_sets) := ⟨rfl, rfl, rfl, by decide +kernel, rfl, by decide +kernel, by decide +kernel⟩
abbrev s_w_jug : Stmt := topS 59
abbrev N_w_jug : List Str := ["_law_script", "_law_turn", "_law_cell", "_law_great"]
theorem sc_w_jug : FnScope N_w_jug ["_law_script", "_law_turn"] (defScope s_w_jug) := ⟨rfl, rfl, rfl, by decide +kernel, rfl, by decide +kernel, by decide +kernel⟩
abbrev s_w_pour : Stmt := topS 60
abbrev N_w_pour : List Str := ["_law_jug_here", "_law_total", "_law_found", "_law_one", "_law_two"]
theorem sc_w_pour : FnScope N_w_pour ["_law_jug_here", "_law_total"] (defScope s_w_pour) := ⟨rfl, rfl, rfl, by decide +kernel, rfl, by decide +kernel, by decide +kernel⟩
abbrev s_w_taken : Stmt := topS 61
abbrev N_w_taken : List Str := ["_law_jug_here", "_law_items"]
theorem sc_w_taken : FnScope N_w_taken ["_law_jug_here", "_law_items"] (defScope s_w_taken) := ⟨rfl, rfl, rfl, by decide +kernel, rfl, by decide +kernel, by decide +kernel⟩
abbrev s_w_divides : Stmt := topS 62
abbrev N_w_divides : List Str := ["_law_one", "_law_other", "_law_left", "_law_right_here"]
theorem sc_w_divides : FnScope N_w_divides ["_law_one", "_law_other"] (defScope s_w_divides) := ⟨rfl, rfl, rfl, by decide +kernel, rfl, by decide +kernel, by decide +kernel⟩
abbrev s_w_least : Stmt := topS 64
abbrev N_w_least : List Str := ["_law_products", "_law_once", "_law_found", "_law_product_here", "_law_other"]
theorem sc_w_least : FnScope N_w_least ["_law_products"] (defScope s_w_least) := ⟨rfl, rfl, rfl, by decide +kernel, rfl, by decide +kernel, by decide +kernel⟩
abbrev s_w_product : Stmt := topS 65
abbrev N_w_product : List Str := ["_law_jug_here", "_law_letters", "_law_most", "_law_found", "_law_letter"]
theorem sc_w_product : FnScope N_w_product ["_law_jug_here", "_law_letters", "_law_most"] (defScope s_w_product) := ⟨rfl, rfl, rfl, by decide +kernel, rfl, by decide +kernel, by decide +kernel⟩
abbrev s_w_members : Stmt := topS 66
abbrev N_w_members : List Str := ["_law_jug_here", "_law_letters", "_law_total", "_law_most", "_law_turn"]
theorem sc_w_members : FnScope N_w_members ["_law_jug_here", "_law_letters", "_law_total", "_law_most"] (defScope s_w_members) := ⟨rfl, rfl, rfl, by decide +kernel, rfl, by decide +kernel, by decide +kernel⟩
abbrev s_w_is_free : Stmt := topS 67
abbrev N_w_is_free : List Str := ["_law_members_here", "_law_chosen", "_law_member", "_law_letter", "_law_exponent"]
theorem sc_w_is_free : FnScope N_w_is_free ["_law_members_here", "_law_chosen"] (defScope s_w_is_free) := ⟨rfl, rfl, rfl, by decide +kernel, rfl, by decide +kernel, by decide +kernel⟩
abbrev s_w_sets : Stmt := topS 68
abbrev N_w_sets : List Str := ["_law_letters", "_law_found", "_law_letter", "_law_chosen"]
theorem sc_w_sets : FnScope N_w_sets ["_law_letters"] (defScope s_w_sets) := ⟨rfl, rfl, rfl, by decide +kernel, rfl, by decide +kernel, by decide +kernel⟩
abbrev s_w_told : Stmt := topS 69
abbrev N_w_told : List Str := ["_law_lot", "error"]
theorem sc_w_told : FnScope N_w_told ["_law_lot"] (defScope s_w_told) := ⟨rfl, rfl, rfl, by decide +kernel, rfl, by decide +kernel, by decide +kernel⟩
abbrev s_w_right : Stmt := topS 70
abbrev N_w_right : List Str := ["_law_jug_here", "_law_letters", "_law_members_here", "_law_lot", "_law_free", "_law_due", "_law_told_here", "_law_values", "_law_value", "_law_is_right", "_law_chosen"]
theorem sc_w_right : FnScope N_w_right ["_law_jug_here"] (defScope s_w_right) := ⟨rfl, rfl, rfl, by decide +kernel, rfl, by decide +kernel, by decide +kernel⟩
abbrev s_law : Stmt := topS 71
abbrev N_law : List Str := ["_law_script", "_law_turn", "_law_edges", "_law_told_here"]
theorem sc_law : FnScope N_law ["_law_script"] (defScope s_law) := ⟨rfl, rfl, rfl, by decide +kernel, rfl, by decide +kernel, by decide +kernel⟩
abbrev si_Refused : Stmt := inClass (topS 8) 0
abbrev Ni_Refused : List Str := ["self", "reason"]
theorem sci_Refused : FnScope Ni_Refused ["self", "reason"] (defScope si_Refused) := ⟨rfl, rfl, rfl, by decide +kernel, rfl, by decide +kernel, by decide +kernel⟩
/-! ### what the top has written -/
/-- a maker of lambdas: its code object is known -/
structure FunC (K : PySem.W.Frag) (x qual : Str) (st : Stmt) (f : Addr) (fd : FuncData) (c : Addr) : Prop where
  ex : ∃ (oc : Value) (od : Option Addr) (kV doc pm : Value) (an : Option Addr) (ct : Value) (osl : Array (Option Value)),
    fd = PySem.W.fnOf x qual (defArgs st) (defBody st) (defScope st) .none kV doc pm an (.ref c) ct ∧ K.lookup f = some ⟨oc, od, .func fd, osl⟩ ∧ PySem.W.codeIn K (.ref c) qual = true
structure Txt (K : PySem.W.Frag) (mg : Str → Option Value) where
  a_is_number : Addr
  d_is_number : FuncData
  F_is_number : Fun K "is_number" "is_number" s_is_number a_is_number d_is_number
  b_is_number : Binds K d_is_number ["value"] []
  m_is_number : mg "is_number" = some (.ref a_is_number)
  a_is_within : Addr
  d_is_within : FuncData
  F_is_within : Fun K "is_within" "is_within" s_is_within a_is_within d_is_within
  b_is_within : Binds K d_is_within ["value", "least", "most"] []
  m_is_within : mg "is_within" = some (.ref a_is_within)
  a_check_within : Addr
  d_check_within : FuncData
  F_check_within : Fun K "check_within" "check_within" s_check_within a_check_within d_check_within
  b_check_within : Binds K d_check_within ["value", "least", "most"] []
  m_check_within : mg "check_within" = some (.ref a_check_within)
  a_are_exponents : Addr
  d_are_exponents : FuncData
  F_are_exponents : Fun K "are_exponents" "are_exponents" s_are_exponents a_are_exponents d_are_exponents
  b_are_exponents : Binds K d_are_exponents ["value", "letters", "most"] []
  m_are_exponents : mg "are_exponents" = some (.ref a_are_exponents)
  a_fits : Addr
  d_fits : FuncData
  F_fits : Fun K "fits" "fits" s_fits a_fits d_fits
  b_fits : Binds K d_fits ["one", "other"] []
  m_fits : mg "fits" = some (.ref a_fits)
  a_is_divided : Addr
  d_is_divided : FuncData
  F_is_divided : Fun K "is_divided" "is_divided" s_is_divided a_is_divided d_is_divided
  b_is_divided : Binds K d_is_divided ["product", "products"] []
  m_is_divided : mg "is_divided" = some (.ref a_is_divided)
  a_is_least_of : Addr
  d_is_least_of : FuncData
  F_is_least_of : Fun K "is_least_of" "is_least_of" s_is_least_of a_is_least_of d_is_least_of
  b_is_least_of : Binds K d_is_least_of ["product", "products"] []
  m_is_least_of : mg "is_least_of" = some (.ref a_is_least_of)
  a_least_of : Addr
  d_least_of : FuncData
  F_least_of : FunD K "least_of" "least_of" (defArgs s_least_of) (defBody s_least_of) (defScope s_least_of) [.non] [] a_least_of d_least_of
  k_least_of : PySem.W.keepIn K (.ref a_least_of) = true
  b_least_of : Binds K d_least_of ["products", "most"] []
  m_least_of : mg "least_of" = some (.ref a_least_of)
  a_are_products : Addr
  d_are_products : FuncData
  F_are_products : Fun K "are_products" "are_products" s_are_products a_are_products d_are_products
  b_are_products : Binds K d_are_products ["value", "letters"] []
  m_are_products : mg "are_products" = some (.ref a_are_products)
  a_check_lot : Addr
  d_check_lot : FuncData
  F_check_lot : Fun K "check_lot" "check_lot" s_check_lot a_check_lot d_check_lot
  b_check_lot : Binds K d_check_lot ["value"] []
  m_check_lot : mg "check_lot" = some (.ref a_check_lot)
  a_limited_members : Addr
  d_limited_members : FuncData
  F_limited_members : Fun K "limited_members" "limited_members" s_limited_members a_limited_members d_limited_members
  b_limited_members : Binds K d_limited_members ["products"] []
  m_limited_members : mg "limited_members" = some (.ref a_limited_members)
  a_has_great_exponent : Addr
  d_has_great_exponent : FuncData
  F_has_great_exponent : Fun K "has_great_exponent" "has_great_exponent" s_has_great_exponent a_has_great_exponent d_has_great_exponent
  b_has_great_exponent : Binds K d_has_great_exponent ["products"] []
  m_has_great_exponent : mg "has_great_exponent" = some (.ref a_has_great_exponent)
  a_letter_sets : Addr
  d_letter_sets : FuncData
  F_letter_sets : Fun K "letter_sets" "letter_sets" s_letter_sets a_letter_sets d_letter_sets
  b_letter_sets : Binds K d_letter_sets ["letters"] []
  m_letter_sets : mg "letter_sets" = some (.ref a_letter_sets)
  a_is_free : Addr
  d_is_free : FuncData
  F_is_free : Fun K "is_free" "is_free" s_is_free a_is_free d_is_free
  b_is_free : Binds K d_is_free ["chosen", "members"] []
  m_is_free : mg "is_free" = some (.ref a_is_free)
  a_free_sets : Addr
  d_free_sets : FuncData
  F_free_sets : Fun K "free_sets" "free_sets" s_free_sets a_free_sets d_free_sets
  b_free_sets : Binds K d_free_sets ["letters", "members"] []
  m_free_sets : mg "free_sets" = some (.ref a_free_sets)
  a_greatest_size : Addr
  d_greatest_size : FuncData
  F_greatest_size : Fun K "greatest_size" "greatest_size" s_greatest_size a_greatest_size d_greatest_size
  b_greatest_size : Binds K d_greatest_size ["sets"] []
  m_greatest_size : mg "greatest_size" = some (.ref a_greatest_size)
  a_dimension : Addr
  d_dimension : FuncData
  F_dimension : Fun K "dimension" "dimension" s_dimension a_dimension d_dimension
  b_dimension : Binds K d_dimension ["lot"] []
  m_dimension : mg "dimension" = some (.ref a_dimension)
  a_free_set : Addr
  d_free_set : FuncData
  F_free_set : Fun K "free_set" "free_set" s_free_set a_free_set d_free_set
  b_free_set : Binds K d_free_set ["lot"] []
  m_free_set : mg "free_set" = some (.ref a_free_set)
  a_is_free_set : Addr
  d_is_free_set : FuncData
  F_is_free_set : Fun K "is_free_set" "is_free_set" s_is_free_set a_is_free_set d_is_free_set
  b_is_free_set : Binds K d_is_free_set ["lot", "value"] []
  m_is_free_set : mg "is_free_set" = some (.ref a_is_free_set)
  a_greatest_free_sets : Addr
  d_greatest_free_sets : FuncData
  F_greatest_free_sets : Fun K "greatest_free_sets" "greatest_free_sets" s_greatest_free_sets a_greatest_free_sets d_greatest_free_sets
  b_greatest_free_sets : Binds K d_greatest_free_sets ["lot"] []
  m_greatest_free_sets : mg "greatest_free_sets" = some (.ref a_greatest_free_sets)
  a_w_jug : Addr
  d_w_jug : FuncData
  F_w_jug : Fun K "_law_jug" "_law_jug" s_w_jug a_w_jug d_w_jug
  b_w_jug : Binds K d_w_jug ["_law_script", "_law_turn"] []
  m_w_jug : mg "_law_jug" = some (.ref a_w_jug)
  a_w_pour : Addr
  d_w_pour : FuncData
  F_w_pour : Fun K "_law_pour" "_law_pour" s_w_pour a_w_pour d_w_pour
  b_w_pour : Binds K d_w_pour ["_law_jug_here", "_law_total"] []
  m_w_pour : mg "_law_pour" = some (.ref a_w_pour)
  a_w_taken : Addr
  d_w_taken : FuncData
  F_w_taken : Fun K "_law_taken" "_law_taken" s_w_taken a_w_taken d_w_taken
  b_w_taken : Binds K d_w_taken ["_law_jug_here", "_law_items"] []
  m_w_taken : mg "_law_taken" = some (.ref a_w_taken)
  a_w_divides : Addr
  d_w_divides : FuncData
  F_w_divides : Fun K "_law_divides" "_law_divides" s_w_divides a_w_divides d_w_divides
  b_w_divides : Binds K d_w_divides ["_law_one", "_law_other"] []
  m_w_divides : mg "_law_divides" = some (.ref a_w_divides)
  a_w_least : Addr
  d_w_least : FuncData
  F_w_least : Fun K "_law_least" "_law_least" s_w_least a_w_least d_w_least
  b_w_least : Binds K d_w_least ["_law_products"] []
  m_w_least : mg "_law_least" = some (.ref a_w_least)
  a_w_product : Addr
  d_w_product : FuncData
  F_w_product : Fun K "_law_product" "_law_product" s_w_product a_w_product d_w_product
  b_w_product : Binds K d_w_product ["_law_jug_here", "_law_letters", "_law_most"] []
  m_w_product : mg "_law_product" = some (.ref a_w_product)
  a_w_members : Addr
  d_w_members : FuncData
  F_w_members : Fun K "_law_members" "_law_members" s_w_members a_w_members d_w_members
  b_w_members : Binds K d_w_members ["_law_jug_here", "_law_letters", "_law_total", "_law_most"] []
  m_w_members : mg "_law_members" = some (.ref a_w_members)
  a_w_is_free : Addr
  d_w_is_free : FuncData
  F_w_is_free : Fun K "_law_is_free" "_law_is_free" s_w_is_free a_w_is_free d_w_is_free
  b_w_is_free : Binds K d_w_is_free ["_law_members_here", "_law_chosen"] []
  m_w_is_free : mg "_law_is_free" = some (.ref a_w_is_free)
  a_w_sets : Addr
  d_w_sets : FuncData
  F_w_sets : Fun K "_law_sets" "_law_sets" s_w_sets a_w_sets d_w_sets
  b_w_sets : Binds K d_w_sets ["_law_letters"] []
  m_w_sets : mg "_law_sets" = some (.ref a_w_sets)
  a_w_told : Addr
  d_w_told : FuncData
  F_w_told : Fun K "_law_told" "_law_told" s_w_told a_w_told d_w_told
  b_w_told : Binds K d_w_told ["_law_lot"] []
  m_w_told : mg "_law_told" = some (.ref a_w_told)
  a_w_right : Addr
  d_w_right : FuncData
  F_w_right : Fun K "_law_right" "_law_right" s_w_right a_w_right d_w_right
  b_w_right : Binds K d_w_right ["_law_jug_here"] []
  m_w_right : mg "_law_right" = some (.ref a_w_right)
  a_law : Addr
  d_law : FuncData
  F_law : Fun K "law" "law" s_law a_law d_law
  b_law : Binds K d_law ["_law_script"] []
  m_law : mg "law" = some (.ref a_law)
  z_isinstance : mg "isinstance" = none
  z_int : mg "int" = none
  z_bool : mg "bool" = none
  z_tuple : mg "tuple" = none
  z_len : mg "len" = none
  z_all : mg "all" = none
  z_zip : mg "zip" = none
  z_sorted : mg "sorted" = none
  z_set : mg "set" = none
  z_enumerate : mg "enumerate" = none
  z_range : mg "range" = none
  z_max : mg "max" = none
  z_sum : mg "sum" = none
  z_abs : mg "abs" = none
  z_list : mg "list" = none
  z_min : mg "min" = none
  t_MAX_LETTERS : Nat
  c_MAX_LETTERS : mg "MAX_LETTERS" = some (.int 8 t_MAX_LETTERS)
  t_MAX_EXPONENT : Nat
  c_MAX_EXPONENT : mg "MAX_EXPONENT" = some (.int 60 t_MAX_EXPONENT)
  t_LONGEST_EXPONENT : Nat
  c_LONGEST_EXPONENT : mg "LONGEST_EXPONENT" = some (.int 2 t_LONGEST_EXPONENT)
  t_MAX_MEMBER_EXPONENT : Nat
  c_MAX_MEMBER_EXPONENT : mg "MAX_MEMBER_EXPONENT" = some (.int 8 t_MAX_MEMBER_EXPONENT)
  t_MAX_MEMBERS : Nat
  c_MAX_MEMBERS : mg "MAX_MEMBERS" = some (.int 24 t_MAX_MEMBERS)
  t_MAX_PASSED : Nat
  c_MAX_PASSED : mg "MAX_PASSED" = some (.int 200 t_MAX_PASSED)
  t_MAX_POWER : Nat
  c_MAX_POWER : mg "MAX_POWER" = some (.int 4 t_MAX_POWER)
  C_Refused : Addr
  g_Refused : mg "Refused" = some (.ref C_Refused)
  bE_Refused : PySem.W.subIn K (.ref C_Refused) (.type "BaseException") = some true
  tE_Refused : PySem.W.typeIn K (.ref C_Refused) = some (.type "type")
  k_Refused : PySem.W.keepIn K (.ref C_Refused) = true
  o_Refused : OexB K C_Refused [.type "ArithmeticError", .type "Exception", .type "BaseException", .type "object"] "ArithmeticError.__new__"
  f_Refused : Addr
  d_Refused : FuncData
  i_Refused : PySem.W.findIn K (.ref C_Refused) "__init__" = some (some (.ref f_Refused))
  ti_Refused : PySem.W.typeIn K (.ref f_Refused) = some (.type "function")
  F_Refused : Fun K "__init__" "Refused.__init__" si_Refused f_Refused d_Refused
  b_Refused : Binds K d_Refused ["self", "reason"] []
  n_Refused : PySem.W.findIn K (.ref C_Refused) "reason" = some none
  x_Refused : XfC K C_Refused
  h_Refused_Refused : PySem.W.exmOne K (.ref C_Refused) (.ref C_Refused) = some true
end K14

namespace K14
open PySem PySem.Spec PyProof.Rows L2 RZ L5 R7 XX
section
variable {K : PySem.W.Frag} {H H' : Hp}
/-! ### values of any kind -/
/-- an entry: some i where it is an integer, no bool -/
inductive El (K : PySem.W.Frag) (H : Hp) : V → Option Int → Prop
  | int (i : Int) : El K H (.int i) (some i)
  | bl (b : Bool) : El K H (.bl b) none
  | non : El K H .non none
  | str (x : Str) : El K H (.str x) none
  | tup {a : Addr} {xs : List V} (h : SqT K H a xs) : El K H (.ref a) none
theorem El.same (s : Same H H') {v : V} {o : Option Int} (h : El K H v o) : El K H' v o := by
  cases h with
  | int i => exact .int i
  | bl b => exact .bl b
  | non => exact .non
  | str x => exact .str x
  | tup h => exact .tup (same_sqt s h)
theorem El.isi {v : V} {o : Option Int} (h : El K H v o) : ∃ t bi bb, TyX K H v t ∧ PySem.W.kitOne K t (.type "int") = some bi ∧ PySem.W.kitOne K t (.type "bool") = some bb ∧ o.isSome = (bi && !bb) ∧ ∀ i, o = some i → v = .int i := by
  cases h with
  | int i => exact ⟨_, true, false, .base (.int i), kit_ty (by decide +kernel), kit_ty (by decide +kernel), rfl, fun j e => by cases e; rfl⟩
  | bl b => exact ⟨_, true, true, .base (.bl b), kit_ty (by decide +kernel), kit_ty (by decide +kernel), rfl, fun j e => by cases e⟩
  | non => exact ⟨_, false, false, .base .non, kit_ty (by decide +kernel), kit_ty (by decide +kernel), rfl, fun j e => by cases e⟩
  | str x => exact ⟨_, false, false, .base (.str x), kit_ty (by decide +kernel), kit_ty (by decide +kernel), rfl, fun j e => by cases e⟩
  | tup h => exact ⟨_, false, false, sqt_ty h, kit_ty (by decide +kernel), kit_ty (by decide +kernel), rfl, fun j e => by cases e⟩
abbrev Els (K : PySem.W.Frag) (H : Hp) : List V → List (Option Int) → Prop := Paired (El K H)
theorem Els.same (s : Same H H') : ∀ {vs : List V} {os : List (Option Int)}, Els K H vs os → Els K H' vs os
  | _, _, .nil => .nil
  | _, _, .cons h t => .cons (h.same s) (Els.same s t)
theorem Els.length : ∀ {vs : List V} {os : List (Option Int)}, Els K H vs os → vs.length = os.length
  | _, _, .nil => rfl
  | _, _, .cons _ t => congrArg (· + 1) (Els.length t)
theorem Els.get : ∀ {vs : List V} {os : List (Option Int)} {i : Nat} {v : V}, Els K H vs os → vs[i]? = some v → ∃ o, os[i]? = some o ∧ El K H v o
  | _, _, _, _, .nil, e => by simp at e
  | _, _, 0, _, .cons h _, e => by simp at e; subst e; exact ⟨_, rfl, h⟩
  | _, _, i + 1, v, .cons _ t, e => by
    obtain ⟨u, h1, h2⟩ := Els.get (i := i) (v := v) t (by simpa using e)
    exact ⟨u, by simpa using h1, h2⟩
theorem Els.app : ∀ {vs us : List V} {os ps : List (Option Int)}, Els K H vs os → Els K H us ps → Els K H (vs ++ us) (os ++ ps)
  | _, _, _, _, .nil, s => s
  | _, _, _, _, .cons r t, s => .cons r (Els.app t s)
theorem els_nv : ∀ t : List Nat, Els K H (nv t) (t.map fun n => some ((n : Nat) : Int))
  | [] => .nil
  | n :: t => .cons (.int _) (els_nv t)
/-- a value: some os where it is a tuple -/
inductive Va (K : PySem.W.Frag) (H : Hp) : V → Option (List (Option Int)) → Prop
  | tup {a : Addr} {vs : List V} {os : List (Option Int)} (h : SqT K H a vs) (e : Els K H vs os) (hl : vs.length ≤ 1000) : Va K H (.ref a) (some os)
  | lst {a : Addr} {xs : List V} (h : SqL K H a xs) : Va K H (.ref a) none
  | dic {a : Addr} (h : H a = some (.dK [])) : Va K H (.ref a) none
  | non : Va K H .non none
  | int (i : Int) : Va K H (.int i) none
  | str (x : Str) : Va K H (.str x) none
  | own {a C dx : Addr} {fs : List (Str × V)} (h : H a = some (.ins C dx fs)) (t : ∀ H' : Hp, H' a = some (.ins C dx fs) → TyX K H' (.ref a) (.ref C)) (k : PySem.W.kitOne K (.ref C) (.type "tuple") = some false) : Va K H (.ref a) none
theorem same_sql {a : Addr} {xs : List V} (e : Same H H') (h : SqL K H a xs) : SqL K H' a xs := by
  rcases h with (h | ⟨o, h⟩) | h
  · exact .inl (.inl (e _ _ h))
  · exact .inl (.inr ⟨o, e _ _ h⟩)
  · exact .inr h
theorem sql_ty {a : Addr} {xs : List V} (h : SqL K H a xs) : TyX K H (.ref a) (.type "list") := by
  rcases h with (h | ⟨o, h⟩) | ⟨o, its, n, e, c, _⟩
  · exact .base (.lst h)
  · exact .base (.frz h)
  · exact .kList e c
theorem Va.same (s : Same H H') {v : V} {d : Option (List (Option Int))} (h : Va K H v d) : Va K H' v d := by
  cases h with
  | tup h e hl => exact .tup (same_sqt s h) (e.same s) hl
  | lst h => exact .lst (same_sql s h)
  | dic h => exact .dic (s _ _ h)
  | non => exact .non
  | int i => exact .int i
  | str x => exact .str x
  | own h t k => exact .own (s _ _ h) t k
theorem Va.isi {v : V} {d : Option (List (Option Int))} (h : Va K H v d) : ∃ t, TyX K H v t ∧ PySem.W.kitOne K t (.type "tuple") = some d.isSome := by
  cases h with
  | tup h e hl => exact ⟨_, sqt_ty h, kit_ty (show kitB "tuple" "tuple" = some true by decide +kernel)⟩
  | lst h => exact ⟨_, sql_ty h, kit_ty (by decide +kernel)⟩
  | dic h => exact ⟨_, .base (.dK h), kit_ty (by decide +kernel)⟩
  | non => exact ⟨_, .base .non, kit_ty (by decide +kernel)⟩
  | int i => exact ⟨_, .base (.int i), kit_ty (by decide +kernel)⟩
  | str x => exact ⟨_, .base (.str x), kit_ty (by decide +kernel)⟩
  | own h t k => exact ⟨_, t _ h, k⟩
theorem Va.get {v : V} {os : List (Option Int)} (h : Va K H v (some os)) : ∃ a vs, v = .ref a ∧ SqT K H a vs ∧ Els K H vs os ∧ vs.length ≤ 1000 := by
  cases h with
  | tup h e hl => exact ⟨_, _, rfl, h, e, hl⟩
/-! ### what the program asks of them -/
def inB (o : Option Int) (a b : Int) : Bool := match o with
  | some i => decide (a ≤ i) && decide (i ≤ b)
  | none => false
def areB (d : Option (List (Option Int))) (n m : Int) : Bool := match d with
  | some os => decide (((os.length : Nat) : Int) = n) && os.all fun o => inB o 0 m
  | none => false
def anyB (d : Option (List (Option Int))) : Bool := match d with
  | some os => decide (1 ≤ os.length) && decide (os.length ≤ 8) && areB d ((os.length : Nat) : Int) 60
  | none => false
def Prod60 (t : List Nat) : Prop := 1 ≤ t.length ∧ t.length ≤ 8 ∧ ∀ e ∈ t, e ≤ 60
theorem els_nat : ∀ {vs : List V} {os : List (Option Int)}, Els K H vs os → (os.all fun o => inB o 0 60) = true → ∃ u : List Nat, vs = nv u ∧ os = (u.map fun n => some ((n : Nat) : Int)) ∧ ∀ e ∈ u, e ≤ 60
  | _, _, .nil, _ => ⟨[], rfl, rfl, fun _ h => nomatch h⟩
  | _, _, .cons h t, ha => by
    rw [List.all_cons, Bool.and_eq_true] at ha
    obtain ⟨u, rfl, rfl, hu⟩ := els_nat t ha.2
    cases h with
    | int i =>
      have h1 : (decide ((0 : Int) ≤ i) && decide (i ≤ 60)) = true := ha.1
      rw [Bool.and_eq_true] at h1
      have h2 := of_decide_eq_true h1.1
      have h3 := of_decide_eq_true h1.2
      refine ⟨i.toNat :: u, ?_, ?_, fun e he => ?_⟩
      · show _ = V.int _ :: nv u
        rw [show ((i.toNat : Nat) : Int) = i by omega]
      · show _ = some _ :: _
        rw [show ((i.toNat : Nat) : Int) = i by omega]
      · rcases List.mem_cons.mp he with rfl | he
        · omega
        · exact hu e he
    | bl b => cases ha.1
    | non => cases ha.1
    | str x => cases ha.1
    | tup h => cases ha.1
theorem are_get {v : V} {d : Option (List (Option Int))} {n : Nat} (h : Va K H v d) (e : areB d ((n : Nat) : Int) 60 = true) : ∃ r u, v = .ref r ∧ SqT K H r (nv u) ∧ u.length = n ∧ (∀ e ∈ u, e ≤ 60) ∧ d = some (u.map fun n => some ((n : Nat) : Int)) := by
  cases d with
  | none => cases e
  | some os =>
    obtain ⟨a, vs, rfl, hT, hE, _⟩ := h.get
    have e' : (decide (((os.length : Nat) : Int) = ((n : Nat) : Int)) && os.all fun o => inB o 0 60) = true := e
    rw [Bool.and_eq_true] at e'
    obtain ⟨u, rfl, rfl, hu⟩ := els_nat hE e'.2
    have hl := of_decide_eq_true e'.1
    rw [List.length_map] at hl
    exact ⟨a, u, rfl, hT, by omega, hu, rfl⟩
theorem are_prod {t : List Nat} (h : ∀ e ∈ t, e ≤ 60) : areB (some (t.map fun n => some ((n : Nat) : Int))) ((t.length : Nat) : Int) 60 = true := by
  refine Bool.and_eq_true_iff.mpr ⟨decide_eq_true (by rw [List.length_map]), List.all_eq_true.mpr fun o ho => ?_⟩
  obtain ⟨n, hn, rfl⟩ := List.mem_map.mp ho
  have := h n hn
  show (decide ((0 : Int) ≤ ((n : Nat) : Int)) && decide (((n : Nat) : Int) ≤ 60)) = true
  rw [decide_eq_true (show (0 : Int) ≤ ((n : Nat) : Int) by omega), decide_eq_true (show ((n : Nat) : Int) ≤ 60 by omega)]
  rfl
theorem va_prod {a : Addr} {t : List Nat} (h : SqT K H a (nv t)) (hl : t.length ≤ 1000) : Va K H (.ref a) (some (t.map fun n => some ((n : Nat) : Int))) := .tup h (els_nv t) (by rw [nv_len]; exact hl)
end
end K14

namespace K14
open PySem PySem.Spec PyProof.Rows L2 RZ L5 R7 XX
theorem take_more {α : Type} {l : List α} {i : Nat} {x : α} (h : l[i]? = some x) : l.take (i + 1) = l.take i ++ [x] := by
  rw [List.take_add_one, h]
  rfl
section
variable {P : Program} {w : World} {K : PySem.W.Frag} {mg : Str → Option Value} {base : Heap}
/-! ### is_number, is_within, are_exponents, check_within, of any value -/
def sp_num (K : PySem.W.Frag) : Sp := fun vs H Q _ => ∃ v o, vs = [v] ∧ El K H v o ∧ Q (.bl o.isSome) H
theorem ok_num (T : Txt K mg) : FnOk P w K mg base CX0 1 T.a_is_number T.d_is_number ["value"] (sp_num K) := by
  refine T.F_is_number.ok sc_is_number (fun vs H Q E h => ?_) (fun cdv A outer s H vs Q E hr h => ?_)
  · obtain ⟨v, o, rfl, _⟩ := h
    rfl
  · obtain ⟨v, o, rfl, he, q⟩ := h
    refine ⟨_, pss_one (ps_ret (pe_and (pe_callB call_isi (by rfl) T.z_isinstance boot_isinstance (pa_cons (pv 0) (pa_cons (pe_bltn (v := .ty "int") (by rfl) T.z_int boot_int rfl) pa_nil)))
      (pe_one (pe_not (pe_callB call_isi (by rfl) T.z_isinstance boot_isinstance (pa_cons (pv 0) (pa_cons (pe_bltn (v := .ty "bool") (by rfl) T.z_bool boot_bool rfl) pa_nil))))))), ?_⟩
    obtain ⟨t, bi, bb, ty, e1, e2, e3, _⟩ := he.isi
    refine ⟨_, rfl, _, _, _, _, bi, rfl, .ty _, ty, e1, bi, rfl, ?_⟩
    cases bi with
    | true =>
      refine iteT ⟨_, rfl, _, _, _, _, bb, rfl, .ty _, ty, e2, bb, rfl, ?_⟩
      rw [e3] at q
      exact q
    | false =>
      refine iteF ?_
      rw [e3] at q
      exact q
def sp_within (K : PySem.W.Frag) : Sp := fun vs H Q _ => ∃ v o, ∃ a b : Int, vs = [v, .int a, .int b] ∧ El K H v o ∧ Q (.bl (inB o a b)) H
theorem ok_within (T : Txt K mg) : FnOk P w K mg base CX0 2 T.a_is_within T.d_is_within ["value", "least", "most"] (sp_within K) := by
  refine T.F_is_within.ok sc_is_within (fun vs H Q E h => ?_) (fun cdv A outer s H vs Q E hr h => ?_)
  · obtain ⟨v, o, a, b, rfl, _⟩ := h
    rfl
  · obtain ⟨v, o, a, b, rfl, he, q⟩ := h
    refine ⟨_, pss_one (ps_ret (pe_and (pe_call (ok_num T) hr (by rfl) T.m_is_number T.F_is_number.kp T.b_is_number .nil pass0 (pa_cons (pv 0) pa_nil)) (pe_one (pe_chain op_le op_le (pv 1) (pv 0) (pv 2))))), ?_⟩
    refine ⟨_, rfl, v, o, rfl, he, o.isSome, rfl, ?_⟩
    cases o with
    | none => exact iteF q
    | some i =>
      obtain ⟨_, _, _, _, _, _, _, e⟩ := he.isi
      obtain rfl := e i rfl
      refine iteT ?_
      refine ⟨_, rfl, _, rfl, _, _, rfl, rfl, _, rfl, ite2 (fun c => ?_) (fun c => ?_)⟩
      · refine ⟨_, rfl, _, _, rfl, rfl, ?_⟩
        have q' : Q (.bl (decide (a ≤ i) && decide (i ≤ b))) H := q
        rw [c] at q'
        exact q'
      · have q' : Q (.bl (decide (a ≤ i) && decide (i ≤ b))) H := q
        rw [Bool.eq_false_iff.mpr c] at q'
        exact q'
def sp_checkw : Sp := fun vs H Q _ => ∃ i a b : Int, vs = [.int i, .int a, .int b] ∧ a ≤ i ∧ i ≤ b ∧ Q .non H
theorem ok_checkw (T : Txt K mg) : FnOk P w K mg base CX0 3 T.a_check_within T.d_check_within ["value", "least", "most"] sp_checkw := by
  refine T.F_check_within.ok sc_check_within (fun vs H Q E h => ?_) (fun cdv A outer s H vs Q E hr h => ?_)
  · obtain ⟨i, a, b, rfl, _⟩ := h
    rfl
  · obtain ⟨i, a, b, rfl, h1, h2, q⟩ := h
    refine ⟨_, pss_one (ps_if (pt_not (pt_val (pe_call (ok_within T) hr (by rfl) T.m_is_within T.F_is_within.kp T.b_is_within .nil pass0 (pa_cons (pv 0) (pa_cons (pv 1) (pa_cons (pv 2) pa_nil)))))) (pss_one ps_never) pss_nil), ?_⟩
    refine ⟨_, rfl, _, rfl, _, rfl, _, some i, a, b, rfl, .int i, true, ?_, iteF q⟩
    refine congrArg V.bl ?_
    show (decide (a ≤ i) && decide (i ≤ b)) = true
    rw [decide_eq_true h1, decide_eq_true h2]
    rfl
def sp_are (K : PySem.W.Frag) : Sp := fun vs H Q _ => ∃ v d, ∃ n m : Int, vs = [v, .int n, .int m] ∧ Va K H v d ∧ ∀ H', Same H H' → Q (.bl (areB d n m)) H'
theorem ok_are (T : Txt K mg) : FnOk P w K mg base CX0 3 T.a_are_exponents T.d_are_exponents ["value", "letters", "most"] (sp_are K) := by
  refine T.F_are_exponents.ok sc_are_exponents (fun vs H Q E h => ?_) (fun cdv A outer s H vs Q E hr h => ?_)
  · obtain ⟨v, d, n, m, rfl, _⟩ := h
    rfl
  · obtain ⟨v, d, n, m, rfl, hv, q⟩ := h
    refine ⟨_, pss_cons (ps_if (PW.pt (pw_or (pt_not (pt_val (pe_callB call_isi (by rfl) T.z_isinstance boot_isinstance (pa_cons (pv 0) (pa_cons (pe_bltn (v := .ty "tuple") (by rfl) T.z_tuple boot_tuple rfl) pa_nil)))))
        (pw_or1 (pt_cmpR op_ne (pe_callB call_len_seq (by rfl) T.z_len boot_len (pa_cons (pv 0) pa_nil)) (pv 1) (nomark _))))) (pss_one (ps_ret pe_bl)) pss_nil)
      (pss_one (ps_ret (pe_callB (cr_all rfl) (by rfl) T.z_all (by decide +kernel) (pa_cons
        (pe_lc (own := [("exponent", 3)]) (g := gName 3) (tt := tYes) rfl sc_are_exponents.nd (pi_tup (pv 0)) (blkOk_by (own := [("exponent", 3)]) (N := N_are_exponents) (sc := defScope s_are_exponents) (by decide +kernel))
          (fun _ _ _ _ _ => pg_name (i := 3) sc_are_exponents.nd rfl (Or.inl rfl)) (fun _ _ _ _ _ => pts_nil)
          (fun _ _ _ _ _ => pe_call (ok_within T) hr (by rfl) T.m_is_within T.F_is_within.kp T.b_is_within .nil pass0 (pa_cons (pv 3) (pa_cons pe_int (pa_cons (pv 2) pa_nil))))) pa_nil)))), ?_⟩
    obtain ⟨t, ty, et⟩ := hv.isi
    refine ⟨_, rfl, _, _, _, _, _, rfl, .ty _, ty, et, _, rfl, ?_⟩
    cases d with
    | none => exact iteT (q H (Same.refl H))
    | some os =>
      obtain ⟨p, xs, rfl, hT, hE, hz⟩ := hv.get
      refine iteF ⟨_, rfl, p, _, rfl, .inr hT, _, rfl, ?_⟩
      have hlen := hE.length
      refine ⟨rfl, _, rfl, ite2 (fun c => ?_) (fun c => ?_)⟩
      · have c' : ¬ ((os.length : Nat) : Int) = n := fun z => by
          rw [hlen, z, decide_eq_true rfl] at c
          cases c
        have e1 : areB (some os) n m = false := by
          show (decide _ && _) = false
          rw [decide_eq_false c']
          rfl
        have := q H (Same.refl H)
        rw [e1] at this
        exact this
      · have c' : ((os.length : Nat) : Int) = n := by
          by_cases z : ((os.length : Nat) : Int) = n
          · exact z
          · exact absurd (by rw [hlen, decide_eq_false (fun y => z (V.int.inj y))]; rfl) c
        refine ⟨_, rfl, p, rfl, ⟨_, hT⟩, fun D hD => ?_⟩
        have s1 : Same H (upd H D (.lst [])) := same_new hD _
        refine lc_tup (K := K) (a := p) (xs := xs) (fun i H' => Same H H' ∧ H' D = some (.lst (((os.take i).map fun o => inB o 0 m).map V.bl))) ⟨s1, upd_same⟩ (fun i H' _ h => same_sqt h.1 hT) (fun i x H' hi h => ?_) (fun H' h => ?_)
        · obtain ⟨sm, eD⟩ := h
          obtain ⟨o, ho, hx⟩ := hE.get hi
          have hlt : i < xs.length := (List.getElem?_eq_some_iff.mp hi).1
          refine ⟨rfl, _, rfl, _, rfl, x, o, _, _, rfl, hx.same sm, ?_⟩
          refine ⟨_, eD, by rw [List.length_map, List.length_map, List.length_take]; exact sizeK (by omega), same_updL sm hD, ?_⟩
          rw [upd_same, take_more ho, List.map_append, List.map_append]
          rfl
        · obtain ⟨sm, eD⟩ := h
          rw [hlen, List.take_length] at eD
          refine ⟨D, _, rfl, SqL.of eD, ?_⟩
          have e1 : areB (some os) n m = (os.map fun o => inB o 0 m).all id := by
            show (decide _ && _) = _
            rw [decide_eq_true c', Bool.true_and, List.all_map]
            rfl
          have := q H' sm
          rw [e1] at this
          exact this
end
end K14

namespace K14
open PySem PySem.Spec PyProof.Rows L2 RZ L5 R7 XX
section
variable {P : Program} {w : World} {K : PySem.W.Frag} {mg : Str → Option Value} {base : Heap}
/-! ### a comprehension over zip of two tuples of one length -/
abbrev lcTurn (D : Addr) (g : TG) (tt : TT) (te : TE) (vs : List Nat) (σ : L2.St) (Nx : Hp → Prop) (v : V) (H : Hp) : Prop := g v (wipe σ vs) H fun σ2 H2 => wipe σ2 vs = wipe σ vs ∧ tt σ2 H2 fun b H3 =>
  if b = true then te σ2 H3 fun y H4 => ∃ acc, H4 D = some (.lst acc) ∧ acc.length < sizeLine ∧ Nx (upd H4 D (.lst (acc ++ [y]))) else Nx H3
theorem lc_zipT {a b : Addr} {xs ys : List V} {g : TG} {tt : TT} {te : TE} {vs : List Nat} {σ : L2.St} {H1 : Hp} {D : Addr} {Qd : Hp → Prop} (hl : xs.length = ys.length) (Pv : Nat → Hp → Prop) (h0 : Pv 0 (upd H1 D (.lst []))) (hq : ∀ i H, Pv i H → SqT K H a xs ∧ SqT K H b ys)
    (hs : ∀ (i : Nat) (x y : V) (T : Addr) (H : Hp), xs[i]? = some x → ys[i]? = some y → Pv i H → H T = none → lcTurn D g tt te vs σ (Pv (i + 1)) (.ref T) (upd H T (.tup [x, y]))) (hd : ∀ H, Pv xs.length H → Qd H) :
    ∃ W : Nat → Nat → Hp → Prop, (∃ m, W 0 m (upd H1 D (.lst []))) ∧ ∀ i m H0, W i m H0 →
      ((ItzT K a b).stop i H0 ∧ Qd H0) ∨ ((ItzT K a b).go i H0 ∧ ∃ Nx : Hp → Prop, (∀ H', Nx H' → ∃ m', m' < m ∧ W (i + 1) m' H') ∧ ∀ v H', (ItzT K a b).yld i H0 v H' → lcTurn D g tt te vs σ Nx v H') := by
  refine ⟨fun i m H => i + m = xs.length ∧ Pv i H, ⟨xs.length, Nat.zero_add _, h0⟩, fun i m H0 hw => ?_⟩
  obtain ⟨em, pi⟩ := hw
  obtain ⟨ta, tb⟩ := hq i H0 pi
  cases m with
  | zero =>
    have ei : i = xs.length := em
    subst ei
    exact .inl ⟨⟨xs, ys, ta, tb, Or.inl (Nat.le_refl _)⟩, hd H0 pi⟩
  | succ m =>
    have i1 : i < xs.length := by omega
    have i2 : i < ys.length := hl ▸ i1
    refine .inr ⟨⟨xs, ys, _, _, ta, tb, List.getElem?_eq_getElem i1, List.getElem?_eq_getElem i2⟩, Pv (i + 1), fun H' p => ⟨m, Nat.lt_succ_self m, by omega, p⟩, fun v H' out => ?_⟩
    obtain ⟨T, _, _, rfl, free, rfl, fx, fy⟩ := out
    exact hs i _ _ T H0 (fx xs ta) (fy ys tb) pi free
theorem getD_at {t : List Nat} {i : Nat} (h : i < t.length) : t[i]? = some (t.getD i 0) := by
  rw [List.getD_eq_getElem?_getD, List.getElem?_eq_getElem h]
  rfl
theorem nv_take (t : List Nat) (k : Nat) : nv (t.take k) = (nv t).take k := List.map_take
theorem cut_to (xs : List V) (k : Nat) (h : k ≤ xs.length) : cutV xs none (some (k : Int)) = xs.take k := by
  unfold cutV
  rw [show HT.sIx xs.length xs.length (some (k : Int)) = min k xs.length from HT.sIx_nat xs.length xs.length k, HT.sIx_none, Nat.min_eq_left h]
  rfl
/-! ### tuple rules whose answer is told alike in all cases -/
def rCatB (K : PySem.W.Frag) : R2 := fun x y H Q => ∃ a b xs ys, x = .ref a ∧ y = .ref b ∧ SqT K H a xs ∧ SqT K H b ys ∧ xs.length + ys.length ≤ sizeLine ∧ ∀ H' z, Same H H' → SqT K H' z (xs ++ ys) → Q (.ref z) H'
theorem op_catB {X : Cx} : OpR X (binaryOp .Add) (rCatB X.K) := by
  intro pins s σ H x y v u Q I rx ry h
  obtain ⟨a, b, xs, ys, rfl, rfl, hx, hy, hz, q⟩ := h
  refine op_catA pins s σ H _ _ v u Q I rx ry ⟨a, b, xs, ys, rfl, rfl, hx, hy, hz, fun e => ?_, fun _ e => ?_, fun _ _ p hp => q _ p (same_new hp _) (SqT.of upd_same)⟩
  · subst e
    exact q H b (Same.refl H) hy
  · subst e
    rw [List.append_nil] at q
    exact q H a (Same.refl H) hx
def rSlB (K : PySem.W.Frag) : V → Option Int → Option Int → Hp → VK → Prop := fun x lo hi H Q => ∃ a xs, x = .ref a ∧ SqT K H a xs ∧ ∀ H' z, Same H H' → SqT K H' z (cutV xs lo hi) → Q (.ref z) H'
theorem sl_tupB {X : Cx} : SlR X (rSlB X.K) := by
  intro pins s σ H x v vl vu lo hi sl Q I rx hs pl pu h
  obtain ⟨a, xs, rfl, hx, q⟩ := h
  refine sl_tupA pins s σ H _ v vl vu lo hi sl Q I rx hs pl pu ⟨a, xs, rfl, hx, fun e => ?_, fun _ p hp => q _ p (same_new hp _) (SqT.of upd_same)⟩
  have e2 : cutV xs lo hi = xs := by
    unfold cutV
    rw [e.1, e.2]
    exact List.take_length
  rw [e2] at q
  exact q H a (Same.refl H) hx
/-! ### all but the pail stands -/
def Bar (p : Addr) (H H' : Hp) : Prop := ∀ b o, b ≠ p → H b = some o → H' b = some o
theorem Bar.trans {p : Addr} {A B C : Hp} (a : Bar p A B) (b : Bar p B C) : Bar p A C := fun c o n h => b c o n (a c o n h)
theorem Bar.same {p : Addr} {A B : Hp} (a : Same A B) : Bar p A B := fun c o _ h => a c o h
theorem Bar.upd {p : Addr} {A : Hp} {o : HO} : Bar p A (upd A p o) := fun c u n h => by
  rw [upd_ne n]
  exact h
theorem passG {X : Cx} : Passes (CX X.prog X.w) X E0 := fun _ _ _ _ _ _ _ c => by
  obtain ⟨_, _, _, _, _, _, _, _, _, _, _, _, no⟩ := c
  exact no.elim
theorem nostop : NoStop K E0 := fun _ _ _ no => no.elim
theorem ref_get {rs : List Addr} {i : Nat} {x : V} (h : (rs.map V.ref)[i]? = some x) : ∃ a, rs[i]? = some a ∧ x = .ref a := by
  rw [List.getElem?_map] at h
  cases e : rs[i]? with
  | none =>
    rw [e] at h
    cases h
  | some n =>
    rw [e] at h
    exact ⟨n, rfl, (Option.some.inj h).symm⟩
end
section
variable {P : Program} {w : World} {K : PySem.W.Frag} {mg : Str → Option Value} {base : Heap}
/-! ### the law's own draws -/
abbrev pailO (g x c : Int) : HO := .lst [.int g, .int x, .int c]
theorem mpos {j : Int} (h : (0 : Int) < j) : (0 : Int) < j := h
theorem PE.weak {X : Cx} {e : Expr} {t t' : TE} (h : PE X e t) (i : ∀ σ H Q, t' σ H Q → t σ H Q) : PE X e t' := ⟨fun pins s σ H Q I h' => h.run pins s σ H Q I (i σ H Q h')⟩
def sp_jug (K : PySem.W.Frag) : Sp := fun vs H Q _ => ∃ (a : Addr) (ns : List Int) (k : Nat), vs = [.ref a, .int ((k : Nat) : Int)] ∧ SqL K H a (ns.map V.int) ∧ k < 1000 ∧ ∀ (H' : Hp) (r : Addr) (g x c : Int), Same H H' → H r = none → H' r = some (pailO g x c) → Q (.ref r) H'
theorem ok_jug (T : Txt K mg) : FnOk P w K mg base CX0 1 T.a_w_jug T.d_w_jug ["_law_script", "_law_turn"] (sp_jug K) := by
  refine T.F_w_jug.ok sc_w_jug (fun vs H Q E h => ?_) (fun cdv A outer s H vs Q E hr h => ?_)
  · obtain ⟨a, ns, k, rfl, _⟩ := h
    rfl
  · obtain ⟨a, ns, k, rfl, hS, hk, q⟩ := h
    refine ⟨_, pss_cons (ps_set (i := 2) sc_w_jug.nd rfl (Or.inl rfl) (PE.weak (t' := fun σ' H' Q' => σ' = start N_w_jug [.ref a, .int ((k : Nat) : Int)] ∧ H' = H ∧ ∀ (i : Int) H1, Same H H1 → Q' (.int i) H1) (pe_ifExp (pt_cmpR op_lt (pv 1) (pe_callB call_len_seq (by rfl) T.z_len boot_len (pa_cons (pv 0) pa_nil)) (nomark _))
        (pe_callTy call_int1 (by rfl) T.z_int boot_int (pa_cons (pe_ix ix_list (pv 0) (pv 1) (fun _ _ => rfl)) pa_nil))
        (pe_op op_add (pe_op op_add (pe_op op_mul pe_int (pv 1)) pe_int) (pe_op op_mod (pe_callTy call_int1 (by rfl) T.z_int boot_int (pa_cons (pe_callB (cr_sum rfl) (by rfl) T.z_sum boot_sum (pa_cons (pe_slice sl_list (pv 0) po_none (po_some pe_int)) pa_nil)) pa_nil)) pe_int))) ?imp))
      (pss_cons (ps_set (i := 3) sc_w_jug.nd rfl (Or.inl rfl) (pe_op op_mod (pe_callB call_abs (by rfl) T.z_abs boot_abs (pa_cons (pv 2) pa_nil)) (pe_op op_powW (pe_op op_pow pe_int pe_int) pe_int)))
      (pss_one (ps_ret (pe_lst (pa_cons (pe_callB (call_max2 rfl) (by rfl) T.z_max boot_max (pa_cons pe_int (pa_cons (pe_op op_sub (pv 3) (pe_op op_pow pe_int pe_int)) pa_nil)))
        (pa_cons (pe_op op_add (pe_op op_add (pe_op op_add (pe_op op_mul (pe_op op_mod (pv 3) pe_int) pe_int) (pe_op op_mul pe_int (pv 1))) (pe_op op_mul pe_int (pe_callTy call_int1 (by rfl) T.z_int boot_int (pa_cons (pe_cmpR op_lt (pv 2) pe_int (nomark _)) pa_nil)))) pe_int) (pa_cons pe_int pa_nil))))))), ?_⟩
    case imp =>
      rintro σ' H' Q' ⟨rfl, rfl, h⟩
      refine ⟨_, rfl, _, rfl, a, _, rfl, .inl hS, _, _, rfl, rfl, _, rfl, ite2 (fun c => ?_) (fun c => ?_)⟩
      · have c' := of_decide_eq_true c
        rw [List.length_map] at c'
        have hlt : k < ns.length := by omega
        refine ⟨_, rfl, _, rfl, a, _, _, .int ns[k], rfl, rfl, hS, atI_nat (by rw [List.getElem?_map, List.getElem?_eq_getElem hlt] <;> rfl), .inl ⟨_, rfl, ?_⟩⟩
        exact h _ _ (Same.refl _)
      · refine ⟨_, rfl, _, _, rfl, rfl, .inl ⟨by decide, by decide⟩, _, _, rfl, rfl, _, rfl, _, rfl, a, _, rfl, hS, fun z hz => ?_⟩
        have e1 : cutV (ns.map V.int) none (some 1) = (ns.take 1).map V.int := by
          unfold cutV
          rw [show HT.sIx (ns.map V.int).length (ns.map V.int).length (some 1) = min 1 (ns.map V.int).length from HT.sIx_nat _ _ 1, HT.sIx_none, List.map_take]
          show List.take (min 1 (ns.map V.int).length) (ns.map V.int) = _
          rcases ns with _ | ⟨n, r⟩
          · rfl
          · rw [List.map_cons, List.length_cons, show min 1 ((r.map V.int).length + 1) = 1 by omega]
        refine ⟨z, ns.take 1, rfl, SqL.of (by rw [upd_same, e1]), .inl ⟨_, rfl, _, _, rfl, rfl, mpos (by decide), _, _, rfl, rfl, ?_⟩⟩
        exact h _ _ (same_new hz _)
    refine ⟨rfl, rfl, fun cell H1 s1 => ?_⟩
    refine ⟨_, rfl, _, rfl, _, _, rfl, rfl, ⟨by decide, by decide, by decide⟩, _, _, rfl, rfl, ⟨by decide, by decide +kernel⟩, _, _, rfl, rfl, Int.pow_pos (Int.pow_pos (by decide)), ?_⟩
    refine ⟨_, rfl, _, _, rfl, rfl, ⟨by decide, by decide, by decide⟩, _, _, rfl, rfl, _, _, rfl, ?_⟩
    refine ⟨_, rfl, _, _, rfl, rfl, mpos (by decide), _, _, rfl, rfl, .inr ⟨by decide, by decide⟩, _, rfl, _, _, rfl, rfl, .inl ⟨by decide, by decide⟩, _, _, rfl, rfl, _, rfl, _, _, rfl, rfl, .inr ⟨_, rfl, _, _, rfl, rfl, .inl ⟨by decide, by decide⟩, _, _, rfl, rfl, _, _, rfl, rfl, ?_⟩⟩
    refine ⟨by show 3 ≤ sizeLine; decide, fun z hz => ?_⟩
    exact q _ z _ _ _ (s1.trans (same_new hz _)) (s1.free hz) upd_same
abbrev rDip (H : Hp) (p : Addr) (m : Int) (Q : VK) : Prop := ∀ g x c r : Int, 0 ≤ r → r < m → Q (.int r) (upd H p (pailO g x c))
def sp_dip : Sp := fun vs H Q _ => ∃ (p : Addr) (m g x c : Int), vs = [.ref p, .int m] ∧ H p = some (pailO g x c) ∧ 0 < m ∧ m < 1073741824 ∧ rDip H p m Q
theorem ok_dip (T : Txt K mg) : FnOk P w K mg base CX0 1 T.a_w_pour T.d_w_pour ["_law_jug_here", "_law_total"] sp_dip := by
  refine T.F_w_pour.ok sc_w_pour (fun vs H Q E h => ?_) (fun cdv A outer s H vs Q E hr h => ?_)
  · obtain ⟨p, m, g, x, c, rfl, _⟩ := h
    rfl
  · obtain ⟨p, m, g, x, c, rfl, hp, h0, h1, q⟩ := h
    refine ⟨_, pss_cons (ps_if (pt_cmpR op_gt (pe_ix ix_list (pv 0) pe_int (fun _ _ => rfl)) pe_int (nomark _))
        (pss_cons (ps_set (i := 2) sc_w_pour.nd rfl (Or.inl rfl) (pe_op op_mod (pe_callTy call_int1 (by rfl) T.z_int boot_int (pa_cons (pe_ix ix_list (pv 0) pe_int (fun _ _ => rfl)) pa_nil)) (pv 1)))
        (pss_cons (ps_asg (pe_op op_fdiv (pe_callTy call_int1 (by rfl) T.z_int boot_int (pa_cons (pe_ix ix_list (pv 0) pe_int (fun _ _ => rfl)) pa_nil)) (pv 1)) (pg_sub (pv 0) pe_int set_list))
        (pss_one (ps_ret (pv 2))))) pss_nil)
      (pss_cons (ps_asg (pe_op op_add (pe_ix ix_list (pv 0) pe_int (fun _ _ => rfl)) pe_int) (pg_sub (pv 0) pe_int set_list))
      (pss_cons (ps_set (i := 3) sc_w_pour.nd rfl (Or.inl rfl) (pe_op op_mod (pe_callTy call_int1 (by rfl) T.z_int boot_int (pa_cons (pe_op op_add (pe_ix ix_list (pv 0) pe_int (fun _ _ => rfl)) (pe_op op_mul pe_int (pe_ix ix_list (pv 0) pe_int (fun _ _ => rfl)))) pa_nil)) pe_int))
      (pss_cons (ps_set (i := 4) sc_w_pour.nd rfl (Or.inl rfl) (pe_op op_mod (pe_callTy call_int1 (by rfl) T.z_int boot_int (pa_cons (pe_op op_add (pe_op op_add (pe_op op_mul (pv 3) (pv 3)) (pe_op op_mul pe_int (pe_ix ix_list (pv 0) pe_int (fun _ _ => rfl)))) pe_int) pa_nil)) pe_int))
      (pss_one (ps_ret (pe_op op_mod (pe_callTy call_int1 (by rfl) T.z_int boot_int (pa_cons (pe_op op_fdiv (pe_op op_mul (pv 4) (pe_op op_add (pe_op op_mod (pv 3) pe_int) pe_int)) pe_int) pa_nil)) (pv 1))))))), ?_⟩
    have a0 : atI [V.int g, V.int x, V.int c] (0 : Int) = some (.int g) := rfl
    refine ⟨_, rfl, p, _, _, _, rfl, rfl, SqL.of hp, a0, _, _, rfl, rfl, _, rfl, ite2 (fun d => ?_) (fun d => ?_)⟩
    · refine ⟨_, rfl, p, _, _, _, rfl, rfl, SqL.of hp, a0, .inl ⟨_, rfl, _, rfl, _, _, rfl, rfl, h0, ?_⟩⟩
      refine ⟨_, rfl, p, _, _, _, rfl, rfl, SqL.of hp, a0, .inl ⟨_, rfl, _, rfl, _, _, rfl, rfl, ⟨h0, h1⟩, ?_⟩⟩
      refine ⟨_, rfl, p, _, _, 0, rfl, rfl, hp, rfl, ?_⟩
      exact ⟨_, rfl, q _ _ _ _ (Int.emod_nonneg _ (by omega)) (Int.emod_lt_of_pos _ h0)⟩
    · have a2 : atI [V.int g, V.int x, V.int c] (2 : Int) = some (.int c) := rfl
      refine ⟨_, rfl, p, _, _, _, rfl, rfl, SqL.of hp, a2, _, _, rfl, rfl, _, rfl, p, _, _, 2, rfl, rfl, hp, rfl, ?_⟩
      have hp' : (upd H p (.lst [V.int g, V.int x, V.int (c + 1)])) p = some (.lst [V.int g, V.int x, V.int (c + 1)]) := upd_same
      have b1 : atI [V.int g, V.int x, V.int (c + 1)] (1 : Int) = some (.int x) := rfl
      have b2 : atI [V.int g, V.int x, V.int (c + 1)] (2 : Int) = some (.int (c + 1)) := rfl
      refine ⟨_, rfl, p, _, _, _, rfl, rfl, SqL.of hp', b1, _, rfl, p, _, _, _, rfl, rfl, SqL.of hp', b2, _, _, rfl, rfl, .inl ⟨by decide, by decide⟩, _, _, rfl, rfl, .inl ⟨_, rfl, _, _, rfl, rfl, mpos (by decide), ?_⟩⟩
      have r0 := Int.emod_nonneg (x + 141650939 * (c + 1)) (show (2305843009213693951 : Int) ≠ 0 by decide)
      have r1 := Int.emod_lt_of_pos (x + 141650939 * (c + 1)) (show (0 : Int) < 2305843009213693951 by decide)
      generalize (x + 141650939 * (c + 1)) % 2305843009213693951 = one at r0 r1 ⊢
      refine ⟨_, rfl, _, rfl, _, _, rfl, rfl, .inl ⟨by omega, by omega⟩, _, rfl, p, _, _, _, rfl, rfl, SqL.of hp', b2, _, _, rfl, rfl, .inl ⟨by decide, by decide⟩, _, _, rfl, rfl, _, _, rfl, rfl, .inl ⟨_, rfl, _, _, rfl, rfl, mpos (by decide), ?_⟩⟩
      have m0 := Int.emod_nonneg one (show (1031 : Int) ≠ 0 by decide)
      have m1 := Int.emod_lt_of_pos one (show (0 : Int) < 1031 by decide)
      refine ⟨_, rfl, _, rfl, _, _, rfl, rfl, mpos (by decide), _, _, rfl, rfl, _, _, rfl, rfl, .inr ⟨by omega, by omega⟩, _, _, rfl, rfl, ⟨by decide, by decide⟩, .inl ⟨_, rfl, _, rfl, _, _, rfl, rfl, h0, ?_⟩⟩
      exact q _ _ _ _ (Int.emod_nonneg _ (by omega)) (Int.emod_lt_of_pos _ h0)
/-- items[pour(jug, len(items))] -/
def sp_some (K : PySem.W.Frag) : Sp := fun vs H Q _ => ∃ (p a : Addr) (xs : List V) (g x c : Int), vs = [.ref p, .ref a] ∧ H p = some (pailO g x c) ∧ a ≠ p ∧ SqL K H a xs ∧ xs ≠ [] ∧ xs.length ≤ 1000 ∧ ∀ g x c v, v ∈ xs → Q v (upd H p (pailO g x c))
theorem ok_some (T : Txt K mg) : FnOk P w K mg base CX0 2 T.a_w_taken T.d_w_taken ["_law_jug_here", "_law_items"] (sp_some K) := by
  refine T.F_w_taken.ok sc_w_taken (fun vs H Q E h => ?_) (fun cdv A outer s H vs Q E hr h => ?_)
  · obtain ⟨p, a, xs, g, x, c, rfl, _⟩ := h
    rfl
  · obtain ⟨p, a, xs, g, x, c, rfl, hp, hne, hS, hn, hz, q⟩ := h
    refine ⟨_, pss_one (ps_ret (pe_ix ix_list (pv 1) (pe_call (ok_dip T) hr (by rfl) T.m_w_pour T.F_w_pour.kp T.b_w_pour .nil pass0 (pa_cons (pv 0) (pa_cons (pe_callB call_len_seq (by rfl) T.z_len boot_len (pa_cons (pv 1) pa_nil)) pa_nil))) (fun _ _ => rfl))), ?_⟩
    have hpos : 0 < xs.length := List.length_pos_iff.mpr hn
    refine ⟨_, rfl, _, rfl, _, rfl, a, _, rfl, .inl hS, p, _, g, x, c, rfl, hp, by omega, by omega, fun g' x' c' r h0 h1 => ?_⟩
    have hlt : r.toNat < xs.length := by omega
    refine ⟨a, xs, r, xs[r.toNat], rfl, rfl, sql_updL hne hS, ?_, q _ _ _ _ (List.getElem_mem hlt)⟩
    have := atI_nat (xs := xs) (List.getElem?_eq_getElem hlt)
    rw [show ((r.toNat : Nat) : Int) = r by omega] at this
    exact this
end
end K14

namespace K14
open PySem PySem.Spec PyProof.Rows L2 RZ L5 R7 XX
section
variable {P : Program} {w : World} {K : PySem.W.Frag} {mg : Str → Option Value} {base : Heap}
/-! ### fits -/
abbrev fitL (t u : List Nat) : List Bool := List.zipWith (fun a b => decide (a ≤ b)) t u
abbrev fitB (t u : List Nat) : Bool := (fitL t u).all id
theorem fit_get {t u : List Nat} {i n m : Nat} (h1 : t[i]? = some n) (h2 : u[i]? = some m) : (fitL t u)[i]? = some (decide (n ≤ m)) := by
  rw [List.getElem?_zipWith, h1, h2]
theorem all_take_step {l : List Bool} {i : Nat} {b : Bool} (h : l[i]? = some b) : (l.take (i + 1)).all id = ((l.take i).all id && b) := by
  rw [take_more h, List.all_append]
  show _ = _
  simp
def sp_fits (K : PySem.W.Frag) : Sp := fun vs H Q _ => ∃ (p r : Addr) (t u : List Nat), vs = [.ref p, .ref r] ∧ SqT K H p (nv t) ∧ SqT K H r (nv u) ∧ u.length = t.length ∧ ∀ H', Same H H' → Q (.bl (fitB t u)) H'
theorem ok_fits (T : Txt K mg) : FnOk P w K mg base CX0 1 T.a_fits T.d_fits ["one", "other"] (sp_fits K) := by
  refine T.F_fits.ok sc_fits (fun vs H Q E h => ?_) (fun cdv A outer s H vs Q E hr h => ?_)
  · obtain ⟨p, r, t, u, rfl, _⟩ := h
    rfl
  · obtain ⟨p, r, t, u, rfl, hT, hU, hl, q⟩ := h
    refine ⟨_, pss_cons (ps_for PassesOwn.never rfl (pi_zipA (by rfl) T.z_zip (pa_cons (pv 0) (pa_cons (pv 1) pa_nil))) (pg_tup (by rfl) (pgs_cons (pg_name (i := 2) sc_fits.nd rfl (Or.inl rfl)) (pgs_cons (pg_name (i := 3) sc_fits.nd rfl (Or.inl rfl)) pgs_nil)))
        (pss_one (ps_if (pt_cmpR op_gt (pv 2) (pv 3) (nomark _)) (pss_one (ps_ret pe_bl)) pss_nil)))
      (pss_one (ps_ret pe_bl)), ?_⟩
    refine ⟨_, rfl, _, rfl, p, r, nv t, nv u, rfl, .inr ⟨hT, hU, ?_⟩⟩
    refine for_zipT (xs := nv t) (ys := nv u) (by rw [nv_len, nv_len, hl]) (fun i σ H' => ∃ v2 v3 : Option V, σ = [some (.ref p), some (.ref r), v2, v3] ∧ Same H H' ∧ ((fitL t u).take i).all id = true) ⟨none, none, rfl, Same.refl H, rfl⟩ ?_ ?_ ?_
    · rintro i σ H' ⟨v2, v3, rfl, sm, _⟩
      exact ⟨same_sqt sm hT, same_sqt sm hU⟩
    · rintro i x y T' σ H' hx hy ⟨v2, v3, rfl, sm, ha⟩ hT'
      obtain ⟨n, hn, rfl⟩ := nv_get hx
      obtain ⟨m, hm, rfl⟩ := nv_get hy
      have sT : Same H' (upd H' T' (.tup [.int ((n : Nat) : Int), .int ((m : Nat) : Int)])) := same_new hT' _
      have st := all_take_step (fit_get hn hm)
      refine ⟨T', _, rfl, SqT.of upd_same, rfl, _, _, rfl, _, _, rfl, rfl, ?_⟩
      refine ⟨_, rfl, _, rfl, _, _, rfl, rfl, _, rfl, ite2 (fun c => ?_) (fun c => ?_)⟩
      · have c' := of_decide_eq_true c
        have ef : fitB t u = false := by
          rw [ha, Bool.true_and, decide_eq_false (show ¬ n ≤ m by omega)] at st
          show (fitL t u).all id = false
          rw [← List.take_append_drop (i + 1) (fitL t u), List.all_append, st, Bool.false_and]
        rw [ef] at q
        exact q _ (sm.trans sT)
      · have c' : ¬ ((n : Nat) : Int) > ((m : Nat) : Int) := fun z => c (decide_eq_true z)
        refine ⟨_, _, rfl, sm.trans sT, ?_⟩
        rw [st, ha, decide_eq_true (show n ≤ m by omega)]
        rfl
    · rintro σ H' ⟨v2, v3, rfl, sm, ha⟩
      have ef : fitB t u = true := by
        rw [List.take_of_length_le (by rw [nv_len, List.length_zipWith]; omega)] at ha
        exact ha
      rw [ef] at q
      exact q _ sm
end
end K14

namespace K14
open PySem PySem.Spec PyProof.Rows L2 RZ L5 R7 XX
section
variable {P : Program} {w : World} {K : PySem.W.Frag} {mg : Str → Option Value} {base : Heap}
/-! ### is_divided, is_least, least_of, has_great_exponent, limited_members, of tuples of one length -/
theorem fit_eq : ∀ t u : List Nat, fitB t u = M7.fitB t u
  | [], _ => rfl
  | _ :: _, [] => rfl
  | a :: t, b :: u => by
    show (decide (a ≤ b) && fitB t u) = (decide (a ≤ b) && M7.fitB t u)
    rw [fit_eq t u]
theorem any_take_step {l : List Bool} {i : Nat} {b : Bool} (h : l[i]? = some b) : (l.take (i + 1)).any id = ((l.take i).any id || b) := by
  rw [take_more h, List.any_append]
  simp
theorem any_drop {l : List Bool} {i : Nat} (h : (l.take i).any id = true) : l.any id = true := by
  rw [← List.take_append_drop i l, List.any_append, h, Bool.true_or]
theorem eqvAll_nats : ∀ t u : List Nat, PyData.eqvAll (t.map fun n => PyData.int ((n : Nat) : Int)) (u.map fun n => PyData.int ((n : Nat) : Int)) = decide (t = u)
  | [], [] => by simp [PyData.eqvAll]
  | [], _ :: _ => by simp [PyData.eqvAll]
  | _ :: _, [] => by simp [PyData.eqvAll]
  | a :: t, b :: u => by
    simp only [List.map_cons, PyData.eqvAll, PyData.eqv, eqvAll_nats t u]
    rw [show (((a : Nat) : Int) == ((b : Nat) : Int)) = decide (a = b) by
      rw [Bool.eq_iff_iff, beq_iff_eq, decide_eq_true_iff]
      omega, ← Bool.decide_and]
    exact decide_eq_decide.mpr (by simp)
theorem eqv_tupE (t u : List Nat) : PyData.eqv (encT t) (encT u) = decide (t = u) := by
  simp only [encT, PyData.eqv]
  exact eqvAll_nats t u
theorem tups_get {H : Hp} {rs : List Addr} {L : List (List Nat)} {i : Nat} {x : V} (hT : Tups K H rs L) (h : (rs.map V.ref)[i]? = some x) : ∃ a t, x = .ref a ∧ rs[i]? = some a ∧ L[i]? = some t ∧ SqT K H a (nv t) := by
  obtain ⟨a, ha, rfl⟩ := ref_get h
  obtain ⟨t, ht, hs⟩ := hT.get ha
  exact ⟨a, t, rfl, ha, ht, hs⟩
def sp_isd (K : PySem.W.Frag) : Sp := fun vs H Q _ => ∃ (p l : Addr) (t : List Nat) (rs : List Addr) (L : List (List Nat)), vs = [.ref p, .ref l] ∧ SqT K H p (nv t) ∧ SqA K H l (rs.map V.ref) ∧ Tups K H rs L ∧ (∀ u ∈ L, u.length = t.length) ∧ ∀ H', Same H H' → Q (.bl (L.any fun k => M7.fitB k t)) H'
theorem ok_isd (T : Txt K mg) : FnOk P w K mg base CX0 2 T.a_is_divided T.d_is_divided ["product", "products"] (sp_isd K) := by
  refine T.F_is_divided.ok sc_is_divided (fun vs H Q E h => ?_) (fun cdv A outer s H vs Q E hr h => ?_)
  · obtain ⟨p, l, t, rs, L, rfl, _⟩ := h
    rfl
  · obtain ⟨p, l, t, rs, L, rfl, hT, hA, hL, hd, q⟩ := h
    refine ⟨_, pss_cons (ps_for PassesOwn.never rfl (pi_any (pv 1)) (pg_name (i := 2) sc_is_divided.nd rfl (Or.inl rfl))
        (pss_one (ps_if (pt_val (pe_call (ok_fits T) hr (by rfl) T.m_fits T.F_fits.kp T.b_fits .nil pass0 (pa_cons (pv 2) (pa_cons (pv 0) pa_nil)))) (pss_one (ps_ret pe_bl)) pss_nil)))
      (pss_one (ps_ret pe_bl)), ?_⟩
    have el : (L.map fun k => M7.fitB k t).any id = L.any fun k => M7.fitB k t := by rw [List.any_map]; rfl
    refine ⟨_, rfl, l, rfl, for_any hA (fun i σ H' => ∃ v2 : Option V, σ = [some (.ref p), some (.ref l), v2] ∧ Same H H' ∧ ((L.map fun k => M7.fitB k t).take i).any id = false) ⟨none, rfl, Same.refl H, rfl⟩ (fun i σ' H' ⟨_, _, s, _⟩ => s) ?_ ?_⟩
    · rintro i x σ H' hx ⟨v2, rfl, sm, ha⟩
      obtain ⟨a, u, rfl, _, hu, hs⟩ := tups_get (hL.same sm) hx
      have hul := hd u (List.mem_of_getElem? hu)
      have st := any_take_step (l := L.map fun k => M7.fitB k t) (i := i) (b := M7.fitB u t) (by rw [List.getElem?_map, hu]; rfl)
      refine ⟨_, rfl, _, rfl, a, p, u, t, rfl, hs, same_sqt sm hT, hul.symm, fun H2 s2 => ⟨_, rfl, ?_⟩⟩
      rw [fit_eq]
      cases ef : M7.fitB u t with
      | true =>
        rw [ha, ef] at st
        have := any_drop st
        rw [el] at this
        rw [this] at q
        exact iteT (q _ (sm.trans s2))
      | false =>
        rw [ha, ef] at st
        exact iteF ⟨_, rfl, sm.trans s2, st⟩
    · rintro σ H' ⟨v2, rfl, sm, ha⟩
      have hlen : rs.length = L.length := hL.length
      rw [List.length_map, hlen, ← List.length_map (f := fun k => M7.fitB k t) (as := L), List.take_length, el] at ha
      rw [ha] at q
      exact q _ sm
theorem FunD.ok0 {x qual : Str} {st : Stmt} {f : Addr} {fd : FuncData} {N ps : List Str} {k : Nat} {sp : Sp} {dvs : List V} {kws : List (Str × V)} (F : FunD K x qual (defArgs st) (defBody st) (defScope st) dvs kws f fd) (S : FnScope N ps (defScope st)) (len : ∀ vs H Q E, sp vs H Q E → vs.length = ps.length)
    (hbody : ∀ (cdv : Value) (A : Around) (outer : List Env) (s : Shared) (H : Hp) (vs : List V) (Q : VK) (E : XK), Room k (A.deeper (envOfC qual (defScope st) s.heap.objs.size f cdv)) → sp vs H Q E →
      ∃ t, PSs (cxOf CX0 P w K mg base N qual (defScope st) f cdv A outer s H E).nox (defBody st) t ∧ t { nx := fun _ H' => Q .non H', rt := Q } (start N vs) H) : FnOk P w K mg base CX0 (k + 1) f fd ps sp := by
  obtain ⟨oc, od, dV, kV, doc, pm, an, cdv, ct, osl, rfl, lk, hcd, _, _⟩ := F.ex
  refine fn_of lk hcd S len fun A outer s H vs Q E hr hsp => ?_
  obtain ⟨t, h, q⟩ := hbody cdv A outer s H vs Q E hr hsp
  exact ⟨t, h.nox, q⟩
/-! ### least_of, where no more than 24 are kept -/
theorem keep_pre : ∀ (S kept : List (List Nat)), kept.length ≤ (S.foldl M7.takeN kept).length
  | [], _ => Nat.le_refl _
  | p :: S, kept => by
    refine Nat.le_trans ?_ (keep_pre S (M7.takeN kept p))
    unfold M7.takeN
    split
    · exact Nat.le_refl _
    · rw [List.length_append]
      exact Nat.le_succ _
theorem keep_sub : ∀ (S kept : List (List Nat)) (x : List Nat), x ∈ S.foldl M7.takeN kept → x ∈ kept ∨ x ∈ S
  | [], _, _, h => .inl h
  | p :: S, kept, x, h => by
    rcases keep_sub S (M7.takeN kept p) x h with h | h
    · have : x ∈ kept ∨ x = p := by
        revert h
        unfold M7.takeN
        split
        · exact .inl
        · intro h
          rcases List.mem_append.mp h with h | h
          · exact .inl h
          · exact .inr (List.mem_singleton.mp h)
      rcases this with h | h
      · exact .inl h
      · exact .inr (h ▸ List.mem_cons_self)
    · exact .inr (List.mem_cons_of_mem _ h)
theorem sqt_but {H H' : Hp} {z a : Addr} {xs ys : List V} (hz : H z = some (.lst ys)) (st : ∀ b o, b ≠ z → H b = some o → H' b = some o) (h : SqT K H a xs) : SqT K H' a xs := by
  have ne : ∀ {o : HO}, H a = some o → o ≠ .lst ys → a ≠ z := fun {o} e n k => by
    rw [k, hz] at e
    exact n (Option.some.inj e).symm
  rcases h with (h | ⟨o, h⟩) | h
  · exact .inl (.inl (st _ _ (ne h fun k => nomatch k) h))
  · exact .inl (.inr ⟨o, st _ _ (ne h fun k => nomatch k) h⟩)
  · exact .inr h
theorem tups_but {H H' : Hp} {z : Addr} {ys : List V} (hz : H z = some (.lst ys)) (st : ∀ b o, b ≠ z → H b = some o → H' b = some o) : ∀ {rs : List Addr} {L : List (List Nat)}, Tups K H rs L → Tups K H' rs L
  | _, _, .nil => .nil
  | _, _, .cons h t => .cons (sqt_but hz st h) (tups_but hz st t)
def sp_least (K : PySem.W.Frag) : Sp := fun vs H Q _ => ∃ (l : Addr) (rs : List Addr) (L : List (List Nat)) (d B : Nat), vs = [.ref l, .int 25] ∧ SqA K H l (rs.map V.ref) ∧ Tups K H rs L ∧ L.length < 64 ∧ 1 ≤ d ∧ (∀ t ∈ L, t.length = d) ∧ (∀ t ∈ L, ∀ e ∈ t, e < B) ∧ (M7.leastN L).length ≤ 24 ∧
  ∀ H' q rs', Same H H' → H' q = some (.lst (rs'.map V.ref)) → Tups K H' rs' (M7.leastN L) → Q (.ref q) H'
theorem ok_least (T : Txt K mg) : FnOk P w K mg base CX0 3 T.a_least_of T.d_least_of ["products", "most"] (sp_least K) := by
  refine K14.FunD.ok0 T.F_least_of sc_least_of (fun vs H Q E h => ?_) (fun cdv A outer s H vs Q E hr h => ?_)
  · obtain ⟨l, rs, L, d, B, rfl, _⟩ := h
    rfl
  · obtain ⟨l, rs, L, d, B, rfl, hA, hL, hz, hd1, hd, hB, h24, q⟩ := h
    refine ⟨_, pss_cons (ps_set (i := 2) sc_least_of.nd rfl (Or.inl rfl) (pe_lst pa_nil))
      (pss_cons (ps_for PassesOwn.never rfl (pi_list (pe_sset rfl hr.units (by rfl) T.z_sorted (by rfl) T.z_set (pv 0))) (pg_name (i := 3) sc_least_of.nd rfl (Or.inl rfl))
        (pss_cons (ps_if (pt_cmpR op_eq (pe_callB call_len_seq (by rfl) T.z_len boot_len (pa_cons (pv 2) pa_nil)) (pv 1) (nomark _)) (pss_one ps_break) pss_nil)
        (pss_one (ps_if (pt_not (pt_val (pe_call (ok_isd T) hr (by rfl) T.m_is_divided T.F_is_divided.kp T.b_is_divided .nil pass0 (pa_cons (pv 3) (pa_cons (pv 2) pa_nil))))) (pss_one (ps_expr (pe_bm PySem.F.plainAttrs_list PySem.F.slot_list_append PySem.F.type_list_append mt_append (pv 2) (pa_cons (pv 3) pa_nil)))) pss_nil))))
      (pss_one (ps_ret (pv 2)))), ?_⟩
    refine ⟨by show 0 ≤ sizeLine; exact Nat.zero_le _, fun z hz0 => ?_⟩
    have sz := same_new hz0 (.lst [])
    refine ⟨_, rfl, l, rs, L, d, B, rfl, hA.same sz, hL.same sz, hz, hd1, hd, hB, fun H1 y qs s1 hyf hy hT => ?_⟩
    have S1 := sz.trans s1
    have hlc : qs.length = (M7.canonN L).length := hT.length
    have hdc : ∀ t ∈ M7.canonN L, t.length = d := fun t ht => hd t (M7.mem_canon.mp ht)
    have keep : M7.keepN (M7.canonN L) = M7.leastN L := M7.keep_least hd
    have pre : ∀ i, (((M7.canonN L).take i).foldl M7.takeN []).length ≤ 24 := fun i => by
      have := keep_pre ((M7.canonN L).drop i) (((M7.canonN L).take i).foldl M7.takeN [])
      rw [← List.foldl_append, List.take_append_drop] at this
      have k2 : ((M7.canonN L).foldl M7.takeN []).length ≤ 24 := by
        show (M7.keepN (M7.canonN L)).length ≤ 24
        rw [keep]
        exact h24
      omega
    have hyz : y ≠ z := fun e => by
      rw [e, upd_same] at hyf
      cases hyf
    have hz1 : H1 z = some (.lst []) := s1 _ _ upd_same
    have tups' : ∀ H', (∀ b o, b ≠ z → H1 b = some o → H' b = some o) → Tups K H' qs (M7.canonN L) := fun H' st => tups_but hz1 st hT
    refine ⟨y, rfl, ⟨_, SqL.of hy⟩, ?_⟩
    refine for_list (K := K) (a := y) (xs := qs.map V.ref) (fun i σ H' => ∃ (v3 : Option V) (ks : List Addr), σ = [some (.ref l), some (.int 25), some (.ref z), v3] ∧ (∀ b o, b ≠ z → H1 b = some o → H' b = some o) ∧ H' z = some (.lst (ks.map V.ref)) ∧ Tups K H' ks (((M7.canonN L).take i).foldl M7.takeN []))
      ⟨none, [], rfl, fun _ _ _ h => h, s1 _ _ upd_same, .nil⟩ ?_ ?_ ?_
    · rintro i σ H' _ ⟨v3, ks, rfl, st, _, _⟩
      exact SqL.of (st y _ hyz hy)
    · rintro i x σ H' hx ⟨v3, ks, rfl, st, hk, hT'⟩
      obtain ⟨a, t, rfl, _, ht, hs⟩ := tups_get (tups' H' st) hx
      have htd := hdc t (List.mem_of_getElem? ht)
      have hkl : ks.length = (((M7.canonN L).take i).foldl M7.takeN []).length := hT'.length
      have hp := pre i
      have st1 : ((M7.canonN L).take (i + 1)).foldl M7.takeN [] = M7.takeN (((M7.canonN L).take i).foldl M7.takeN []) t := by
        rw [take_more ht, List.foldl_append]
        rfl
      refine ⟨_, rfl, z, _, rfl, .inl (SqL.of hk), _, rfl, rfl, _, rfl, ?_⟩
      rw [decide_eq_false (fun e => by have := V.int.inj e; rw [List.length_map] at this; omega)]
      refine iteF ⟨_, rfl, _, rfl, a, z, t, ks, _, rfl, hs, .inl (SqL.of hk), hT', fun u hu => ?_, fun H2 s2 => ⟨_, rfl, ?_⟩⟩
      · rcases keep_sub _ [] u hu with h | h
        · cases h
        · rw [htd, hdc u (List.mem_of_mem_take h)]
      cases ea : (((M7.canonN L).take i).foldl M7.takeN []).any fun k => M7.fitB k t with
      | true =>
        refine iteF ⟨_, ks, rfl, fun b o n h => s2 b o (st b o n h), s2 _ _ hk, ?_⟩
        rw [st1, M7.takeN, if_pos ea]
        exact hT'.same s2
      | false =>
        have hk2 := s2 _ _ hk
        refine iteT ⟨_, rfl, .inl ⟨rfl, _, SqL.of hk2⟩, _, rfl, z, _, _, rfl, rfl, hk2, by rw [List.length_map]; exact sizeK (by omega), ?_⟩
        refine ⟨_, ks ++ [a], rfl, fun b o n h => ?_, ?_, ?_⟩
        · rw [upd_ne n]
          exact s2 b o (st b o n h)
        · rw [upd_same, List.map_append]
          rfl
        · rw [st1, M7.takeN, if_neg (by rw [ea]; decide)]
          exact ((hT'.same s2).updL hk2).app (.cons (sqt_updL hk2 (same_sqt s2 hs)) .nil)
    · rintro σ H' ⟨v3, ks, rfl, st, hk, hT'⟩
      rw [List.length_map, hlc, List.take_length] at hT'
      refine ⟨_, rfl, q H' z ks (fun b o h => ?_) hk ?_⟩
      · refine st b o (ne_of_none h hz0) (S1 b o h)
      · rw [← keep]
        exact hT'
end
end K14

namespace K14
open PySem PySem.Spec PyProof.Rows L2 RZ L5 R7 XX
section
variable {P : Program} {w : World} {K : PySem.W.Frag} {mg : Str → Option Value} {base : Heap}
/-! ### has_great_exponent, limited_members: where nothing is too great -/
def sp_no (n : Nat) : Sp := fun vs _ _ _ => vs.length = n ∧ False
theorem ok_isl (T : Txt K mg) : FnOk P w K mg base CX0 1 T.a_is_least_of T.d_is_least_of ["product", "products"] (sp_no 2) :=
  T.F_is_least_of.ok sc_is_least_of (fun vs H Q E h => h.1) (fun cdv A outer s H vs Q E hr h => h.2.elim)
def sp_hge (K : PySem.W.Frag) : Sp := fun vs H Q _ => ∃ (l : Addr) (rs : List Addr) (L : List (List Nat)), vs = [.ref l] ∧ SqA K H l (rs.map V.ref) ∧ Tups K H rs L ∧ (∀ t ∈ L, t ≠ []) ∧ (∀ t ∈ L, ∀ e ∈ t, e ≤ 60) ∧ ∀ H', Same H H' → Q (.bl false) H'
theorem ok_hge (T : Txt K mg) : FnOk P w K mg base CX0 2 T.a_has_great_exponent T.d_has_great_exponent ["products"] (sp_hge K) := by
  refine T.F_has_great_exponent.ok sc_has_great_exponent (fun vs H Q E h => ?_) (fun cdv A outer s H vs Q E hr h => ?_)
  · obtain ⟨l, rs, L, rfl, _⟩ := h
    rfl
  · obtain ⟨l, rs, L, rfl, hA, hL, hne, h60, q⟩ := h
    refine ⟨_, pss_cons (ps_for PassesOwn.never rfl (pi_any (pv 0)) (pg_name (i := 1) sc_has_great_exponent.nd rfl (Or.inl rfl))
        (pss_one (ps_if (PW.pt (pw_and (pt_cmpR op_gt (pe_callB (cr_maxT rfl) (by rfl) T.z_max boot_max (pa_cons (pv 1) pa_nil)) (pe_glob (v := .int 60) rfl T.c_MAX_EXPONENT ⟨_, rfl⟩) (nomark _))
          (pw_and1 (pt_val (pe_call (ok_isl T) hr (by rfl) T.m_is_least_of T.F_is_least_of.kp T.b_is_least_of .nil pass0 (pa_cons (pv 1) (pa_cons (pv 0) pa_nil))))))) (pss_one (ps_ret pe_bl)) pss_nil)))
      (pss_one (ps_ret pe_bl)), ?_⟩
    refine ⟨_, rfl, l, rfl, for_any hA (fun i σ H' => ∃ v1 : Option V, σ = [some (.ref l), v1] ∧ Same H H') ⟨none, rfl, Same.refl H⟩ (fun i σ' H' ⟨_, _, s⟩ => s) ?_ ?_⟩
    · rintro i x σ H' hx ⟨v1, rfl, sm⟩
      obtain ⟨a, u, rfl, _, hu, hs⟩ := tups_get (hL.same sm) hx
      have hm := List.mem_of_getElem? hu
      refine ⟨_, rfl, a, _, rfl, by rw [← nv_ints]; exact hs, by rw [List.length_map]; exact List.length_pos_iff.mpr (hne u hm), fun m hm2 _ => ?_⟩
      obtain ⟨e, he, rfl⟩ := List.mem_map.mp hm2
      have := h60 u hm e he
      refine ⟨_, _, rfl, rfl, _, rfl, ?_⟩
      rw [decide_eq_false (by omega)]
      exact iteF (iteF ⟨_, rfl, sm⟩)
    · rintro σ H' ⟨v1, rfl, sm⟩
      exact q _ sm
/-- products that a lot may hold: of one length, small, few -/
structure Few (d : Nat) (L : List (List Nat)) : Prop where
  pos : 1 ≤ d
  len : ∀ t ∈ L, t.length = d
  low : ∀ t ∈ L, ∀ e ∈ t, e ≤ 60
  few : L.length < 64
  kept : (M7.leastN L).length ≤ 24
def sp_lim (K : PySem.W.Frag) : Sp := fun vs H Q _ => ∃ (l : Addr) (rs : List Addr) (L : List (List Nat)) (d : Nat), vs = [.ref l] ∧ SqA K H l (rs.map V.ref) ∧ Tups K H rs L ∧ Few d L ∧
  ∀ H' q rs', Same H H' → SqT K H' q (rs'.map V.ref) → Tups K H' rs' (M7.leastN L) → Q (.ref q) H'
theorem ok_lim (T : Txt K mg) : FnOk P w K mg base CX0 4 T.a_limited_members T.d_limited_members ["products"] (sp_lim K) := by
  refine T.F_limited_members.ok sc_limited_members (fun vs H Q E h => ?_) (fun cdv A outer s H vs Q E hr h => ?_)
  · obtain ⟨l, rs, L, d, rfl, _⟩ := h
    rfl
  · obtain ⟨l, rs, L, d, rfl, hA, hL, hf, q⟩ := h
    refine ⟨_, pss_cons (ps_if (pt_val (pe_call (ok_hge T) (hr.mono (by decide)) (by rfl) T.m_has_great_exponent T.F_has_great_exponent.kp T.b_has_great_exponent .nil pass0 (pa_cons (pv 0) pa_nil))) (pss_one ps_never) pss_nil)
      (pss_cons (ps_set (i := 1) sc_limited_members.nd rfl (Or.inl rfl) (pe_call (ok_least T) hr (by rfl) T.m_least_of T.k_least_of T.b_least_of .nil pass0 (pa_cons (pv 0) (pa_cons (pe_op op_add (pe_glob (v := .int 24) rfl T.c_MAX_MEMBERS ⟨_, rfl⟩) pe_int) pa_nil))))
      (pss_cons (ps_if (pt_cmpR op_gt (pe_callB call_len_seq (by rfl) T.z_len boot_len (pa_cons (pv 1) pa_nil)) (pe_glob (v := .int 24) rfl T.c_MAX_MEMBERS ⟨_, rfl⟩) (nomark _)) (pss_one ps_never) pss_nil)
      (pss_one (ps_ret (pe_callTy call_tuple_of (by rfl) T.z_tuple boot_tuple (pa_cons (pv 1) pa_nil)))))), ?_⟩
    refine ⟨_, rfl, l, rs, L, rfl, hA, hL, fun t ht e => ?_, hf.low, fun H1 s1 => ⟨_, rfl, iteF ?_⟩⟩
    · have := hf.len t ht
      have := hf.pos
      rw [e] at *
      simp at *
      omega
    refine ⟨_, rfl, _, _, rfl, rfl, l, rs, L, d, 61, rfl, hA.same s1, hL.same s1, hf.few, hf.pos, hf.len, fun t ht e he => Nat.lt_succ_of_le (hf.low t ht e he), hf.kept, fun H2 z rs' s2 hz hT => ?_⟩
    refine ⟨_, rfl, z, _, rfl, .inl (SqL.of hz), _, _, rfl, rfl, _, rfl, ?_⟩
    have hlen : rs'.length = (M7.leastN L).length := hT.length
    have hk := hf.kept
    rw [decide_eq_false (by rw [List.length_map]; omega)]
    refine iteF ⟨_, rfl, z, _, rfl, .inl ⟨SqL.of hz, fun z2 hz2 => ?_⟩⟩
    have s3 := same_new hz2 (.tup (rs'.map V.ref))
    exact q _ z2 rs' (s1.trans (s2.trans s3)) (SqT.of upd_same) (hT.same s3)
/-! ### are_products -/
def sp_arp (K : PySem.W.Frag) : Sp := fun vs H Q _ => ∃ (l : Addr) (rs : List Addr) (L : List (List Nat)) (d : Nat), vs = [.ref l, .int ((d : Nat) : Int)] ∧ SqT K H l (rs.map V.ref) ∧ Tups K H rs L ∧ L.length ≤ 200 ∧ d ≤ 1000 ∧ (∀ t ∈ L, t.length = d) ∧ (∀ t ∈ L, ∀ e ∈ t, e ≤ 8) ∧ ∀ H', Same H H' → Q (.bl true) H'
theorem are_low {t : List Nat} {m : Nat} (h : ∀ e ∈ t, e ≤ m) : areB (some (t.map fun n => some ((n : Nat) : Int))) ((t.length : Nat) : Int) ((m : Nat) : Int) = true := by
  refine Bool.and_eq_true_iff.mpr ⟨decide_eq_true (by rw [List.length_map]), List.all_eq_true.mpr fun o ho => ?_⟩
  obtain ⟨n, hn, rfl⟩ := List.mem_map.mp ho
  have := h n hn
  show (decide ((0 : Int) ≤ ((n : Nat) : Int)) && decide (((n : Nat) : Int) ≤ ((m : Nat) : Int))) = true
  rw [decide_eq_true (show (0 : Int) ≤ ((n : Nat) : Int) by omega), decide_eq_true (show ((n : Nat) : Int) ≤ ((m : Nat) : Int) by omega)]
  rfl
theorem ok_arp (T : Txt K mg) : FnOk P w K mg base CX0 4 T.a_are_products T.d_are_products ["value", "letters"] (sp_arp K) := by
  refine T.F_are_products.ok sc_are_products (fun vs H Q E h => ?_) (fun cdv A outer s H vs Q E hr h => ?_)
  · obtain ⟨l, rs, L, d, rfl, _⟩ := h
    rfl
  · obtain ⟨l, rs, L, d, rfl, hA, hL, h200, hd1, hd, h8, q⟩ := h
    refine ⟨_, pss_cons (ps_if (PW.pt (pw_or (pt_not (pt_val (pe_callB call_isi (by rfl) T.z_isinstance boot_isinstance (pa_cons (pv 0) (pa_cons (pe_bltn (v := .ty "tuple") (by rfl) T.z_tuple boot_tuple rfl) pa_nil)))))
        (pw_or1 (pt_cmpR op_gt (pe_callB call_len_seq (by rfl) T.z_len boot_len (pa_cons (pv 0) pa_nil)) (pe_glob (v := .int 200) rfl T.c_MAX_PASSED ⟨_, rfl⟩) (nomark _))))) (pss_one (ps_ret pe_bl)) pss_nil)
      (pss_one (ps_ret (pe_callB (cr_all rfl) (by rfl) T.z_all (by decide +kernel) (pa_cons
        (pe_lc (own := [("member", 2)]) (g := gName 2) (tt := tYes) rfl sc_are_products.nd (pi_tup (pv 0)) (blkOk_by (own := [("member", 2)]) (N := N_are_products) (sc := defScope s_are_products) (by decide +kernel))
          (fun _ _ _ _ _ => pg_name (i := 2) sc_are_products.nd rfl (Or.inl rfl)) (fun _ _ _ _ _ => pts_nil)
          (fun _ _ _ _ _ => pe_call (ok_are T) hr (by rfl) T.m_are_exponents T.F_are_exponents.kp T.b_are_exponents .nil pass0 (pa_cons (pv 2) (pa_cons (pv 1) (pa_cons (pe_glob (v := .int 8) rfl T.c_MAX_MEMBER_EXPONENT ⟨_, rfl⟩) pa_nil))))) pa_nil)))), ?_⟩
    have hlen : rs.length = L.length := hL.length
    refine ⟨_, rfl, _, _, _, _, true, rfl, .ty _, sqt_ty hA, kit_ty (by decide +kernel), true, rfl, ?_⟩
    refine iteF ⟨_, rfl, l, _, rfl, .inr hA, _, _, rfl, rfl, _, rfl, ?_⟩
    rw [decide_eq_false (by rw [List.length_map]; omega)]
    refine iteF ⟨_, rfl, l, rfl, ⟨_, hA⟩, fun D hD => ?_⟩
    have s1 : Same H (upd H D (.lst [])) := same_new hD _
    refine lc_tup (K := K) (a := l) (xs := rs.map V.ref) (fun i H' => Same H H' ∧ H' D = some (.lst ((List.replicate i true).map V.bl))) ⟨s1, upd_same⟩ (fun i H' _ h => same_sqt h.1 hA) (fun i x H' hi h => ?_) (fun H' h => ?_)
    · obtain ⟨sm, eD⟩ := h
      obtain ⟨a, u, rfl, _, hu, hs⟩ := tups_get (hL.same sm) hi
      have hm := List.mem_of_getElem? hu
      have hlt : i < rs.length := by
        have := (List.getElem?_eq_some_iff.mp hi).1
        rw [List.length_map] at this
        exact this
      have hud := hd u hm
      refine ⟨rfl, _, rfl, _, rfl, .ref a, _, _, 8, rfl, va_prod hs (by omega), fun H2 s2 => ?_⟩
      have e8 : areB (some (u.map fun n => some ((n : Nat) : Int))) ((u.length : Nat) : Int) 8 = true := are_low (m := 8) (h8 u hm)
      rw [← hud, e8]
      refine ⟨_, s2 _ _ eD, by rw [List.length_map, List.length_replicate]; exact sizeK (by omega), same_updL (sm.trans s2) hD, ?_⟩
      rw [upd_same, List.replicate_succ', List.map_append]
      rfl
    · obtain ⟨sm, eD⟩ := h
      refine ⟨D, _, rfl, SqL.of eD, ?_⟩
      rw [show (List.replicate (rs.map V.ref).length true).all id = true by rw [List.all_replicate]; simp]
      exact q H' sm
end
end K14

namespace K14
open PySem PySem.Spec PyProof.Rows L2 RZ L5 R7 XX
section
variable {P : Program} {w : World} {K : PySem.W.Frag} {mg : Str → Option Value} {base : Heap}
/-! ### the class Lot -/
abbrev s_init : Stmt := inClass (topS 41) 0
abbrev N_init : List Str := ["self", "letters", "members"]
theorem sc_init : FnScope N_init ["self", "letters", "members"] (defScope s_init) := ⟨rfl, rfl, rfl, by decide +kernel, rfl, by decide +kernel, by decide +kernel⟩
structure LotT (K : PySem.W.Frag) (mg : Str → Option Value) where
  C : Addr
  cl : Cls K C
  nL : NoAttr K C "_letters"
  nM : NoAttr K C "_members"
  gC : mg "Lot" = some (.ref C)
  fI : Addr
  dI : FuncData
  FI : Fun K "__init__" "Lot.__init__" s_init fI dI
  bI : Binds K dI ["self", "letters", "members"] []
  M : Mk K C fI
def lotF (d : Nat) (m : Addr) : List (Str × V) := [("_letters", .int ((d : Nat) : Int)), ("_members", .ref m)]
/-- a lot at a: its letters, its least members -/
def LotAt (K : PySem.W.Frag) (C : Addr) (H : Hp) (a : Addr) (d : Nat) (L : List (List Nat)) : Prop := ∃ dx m rs, H a = some (.ins C dx (lotF d m)) ∧ SqT K H m (rs.map V.ref) ∧ Tups K H rs L
theorem LotAt.same {C : Addr} {H H' : Hp} {a : Addr} {d : Nat} {L : List (List Nat)} (s : Same H H') : LotAt K C H a d L → LotAt K C H' a d L := fun ⟨dx, m, rs, h1, h2, h3⟩ => ⟨dx, m, rs, s _ _ h1, same_sqt s h2, h3.same s⟩
theorem sqt_ins {H H' : Hp} {z a C dx : Addr} {fs : List (Str × V)} {xs : List V} (hz : H z = some (.ins C dx fs)) (st : ∀ b o, b ≠ z → H b = some o → H' b = some o) (h : SqT K H a xs) : SqT K H' a xs := by
  have ne : ∀ {o : HO}, H a = some o → o ≠ .ins C dx fs → a ≠ z := fun {o} e n k => by
    rw [k, hz] at e
    exact n (Option.some.inj e).symm
  rcases h with (h | ⟨o, h⟩) | h
  · exact .inl (.inl (st _ _ (ne h fun k => nomatch k) h))
  · exact .inl (.inr ⟨o, st _ _ (ne h fun k => nomatch k) h⟩)
  · exact .inr h
theorem tups_ins {H H' : Hp} {z C dx : Addr} {fs : List (Str × V)} (hz : H z = some (.ins C dx fs)) (st : ∀ b o, b ≠ z → H b = some o → H' b = some o) : ∀ {rs : List Addr} {L : List (List Nat)}, Tups K H rs L → Tups K H' rs L
  | _, _, .nil => .nil
  | _, _, .cons h t => .cons (sqt_ins hz st h) (tups_ins hz st t)
def sp_init (K : PySem.W.Frag) (C : Addr) : Sp := fun vs H Q _ => ∃ (p dx l : Addr) (d : Nat) (rs : List Addr) (L : List (List Nat)), vs = [.ref p, .int ((d : Nat) : Int), .ref l] ∧ H p = some (.ins C dx []) ∧ SqT K H l (rs.map V.ref) ∧ Tups K H rs L ∧ Few d L ∧ d ≤ 8 ∧ (∀ t ∈ L, ∀ e ∈ t, e ≤ 8) ∧
  ∀ H' m rs', (∀ b o, b ≠ p → H b = some o → H' b = some o) → H' p = some (.ins C dx (lotF d m)) → SqT K H' m (rs'.map V.ref) → Tups K H' rs' (M7.leastN L) → Q .non H'
theorem ok_init (T : Txt K mg) (O : LotT K mg) : FnOk P w K mg base CX0 5 O.fI O.dI ["self", "letters", "members"] (sp_init K O.C) := by
  refine O.FI.ok sc_init (fun vs H Q E h => ?_) (fun cdv A outer s H vs Q E hr h => ?_)
  · obtain ⟨p, dx, l, d, rs, L, rfl, _⟩ := h
    rfl
  · obtain ⟨p, dx, l, d, rs, L, rfl, hp, hA, hL, hf, hd8, h8, q⟩ := h
    refine ⟨_, pss_cons (ps_expr (pe_call (ok_checkw T) (hr.mono (by decide)) (by rfl) T.m_check_within T.F_check_within.kp T.b_check_within .nil pass0 (pa_cons (pv 1) (pa_cons pe_int (pa_cons (pe_glob (v := .int 8) rfl T.c_MAX_LETTERS ⟨_, rfl⟩) pa_nil)))))
      (pss_cons (ps_if (pt_not (pt_val (pe_call (ok_arp T) hr (by rfl) T.m_are_products T.F_are_products.kp T.b_are_products .nil pass0 (pa_cons (pv 2) (pa_cons (pv 1) pa_nil))))) (pss_one ps_never) pss_nil)
      (pss_cons (ps_fld (pv 0) (pv 1) rfl)
      (pss_one (ps_fld (pv 0) (pe_call (ok_lim T) hr (by rfl) T.m_limited_members T.F_limited_members.kp T.b_limited_members .nil pass0 (pa_cons (pv 2) pa_nil)) rfl)))), ?_⟩
    have h1 := hf.pos
    have h64 := hf.few
    refine ⟨_, rfl, _, _, _, rfl, by omega, by omega, ?_⟩
    refine ⟨_, rfl, _, rfl, l, rs, L, d, rfl, hA, hL, by omega, by omega, hf.len, h8, fun H1 s1 => ⟨_, rfl, iteF ?_⟩⟩
    have hp1 := s1 _ _ hp
    refine ⟨_, rfl, _, rfl, p, _, dx, [], rfl, hp1, O.cl, O.nL, by show 0 < 1000; decide, ?_⟩
    have st1 : ∀ b o, b ≠ p → H1 b = some o → (upd H1 p (.ins O.C dx (putF "_letters" (.int ((d : Nat) : Int)) []))) b = some o := fun b o n h => by
      rw [upd_ne n]
      exact h
    have hp2 : (upd H1 p (.ins O.C dx (putF "_letters" (.int ((d : Nat) : Int)) []))) p = some (.ins O.C dx [("_letters", .int ((d : Nat) : Int))]) := upd_same
    generalize (upd H1 p (.ins O.C dx (putF "_letters" (.int ((d : Nat) : Int)) []))) = H2 at st1 hp2 ⊢
    refine ⟨_, rfl, l, rs, L, d, rfl, .inr (sqt_ins hp1 st1 (same_sqt s1 hA)), tups_ins hp1 st1 (hL.same s1), hf, fun H3 m rs' s3 hm hT => ?_⟩
    have hp3 := s3 _ _ hp2
    refine ⟨_, rfl, p, _, dx, _, rfl, hp3, O.cl, O.nM, by show 1 < 1000; decide, ?_⟩
    have st3 : ∀ b o, b ≠ p → H3 b = some o → (upd H3 p (.ins O.C dx (putF "_members" (.ref m) [("_letters", .int ((d : Nat) : Int))]))) b = some o := fun b o n h => by
      rw [upd_ne n]
      exact h
    refine q _ m rs' (fun b o n h => st3 b o n (s3 b o (st1 b o n (s1 b o h)))) ?_ (sqt_ins hp3 st3 hm) (tups_ins hp3 st3 hT)
    rw [upd_same]
    rfl
end
end K14

namespace K14
open PySem PySem.Spec PyProof.Rows L2 RZ L5 R7 XX
section
variable {P : Program} {w : World} {K : PySem.W.Frag} {mg : Str → Option Value} {base : Heap}
/-! ### the properties letters and members, check_lot -/
abbrev s_letters : Stmt := inClass (topS 41) 2
abbrev s_members : Stmt := inClass (topS 41) 3
theorem sc_letters : FnScope ["self"] ["self"] (defScope s_letters) := ⟨rfl, rfl, rfl, by decide +kernel, rfl, by decide +kernel, by decide +kernel⟩
theorem sc_members : FnScope ["self"] ["self"] (defScope s_members) := ⟨rfl, rfl, rfl, by decide +kernel, rfl, by decide +kernel, by decide +kernel⟩
structure LotP (K : PySem.W.Frag) (C : Addr) where
  pL : Addr
  gL : Addr
  dL : FuncData
  PL : PropOf K C "letters" pL gL
  FL : Fun K "letters" "Lot.letters" s_letters gL dL
  bL : Binds K dL ["self"] []
  pM : Addr
  gM : Addr
  dM : FuncData
  PM : PropOf K C "members" pM gM
  FM : Fun K "members" "Lot.members" s_members gM dM
  bM : Binds K dM ["self"] []
def sp_ltr (K : PySem.W.Frag) (C : Addr) : Sp := fun vs H Q _ => ∃ a d L, vs = [.ref a] ∧ LotAt K C H a d L ∧ Q (.int ((d : Nat) : Int)) H
theorem ok_ltr (O : LotT K mg) (R : LotP K O.C) : FnOk P w K mg base CX0 1 R.gL R.dL ["self"] (sp_ltr K O.C) := by
  refine R.FL.ok sc_letters (fun vs H Q E h => ?_) (fun cdv A outer s H vs Q E hr h => ?_)
  · obtain ⟨a, d, L, rfl, _⟩ := h
    rfl
  · obtain ⟨a, d, L, rfl, ⟨dx, m, rs, h1, h2, h3⟩, q⟩ := h
    exact ⟨_, pss_one (ps_ret (pe_fld (pv 0) rfl)), _, rfl, a, O.C, dx, _, _, rfl, h1, O.cl, O.nL, rfl, q⟩
def sp_mem (K : PySem.W.Frag) (C : Addr) : Sp := fun vs H Q _ => ∃ a d L, vs = [.ref a] ∧ LotAt K C H a d L ∧ ∀ m rs, SqT K H m (rs.map V.ref) → Tups K H rs L → Q (.ref m) H
theorem ok_mem (O : LotT K mg) (R : LotP K O.C) : FnOk P w K mg base CX0 1 R.gM R.dM ["self"] (sp_mem K O.C) := by
  refine R.FM.ok sc_members (fun vs H Q E h => ?_) (fun cdv A outer s H vs Q E hr h => ?_)
  · obtain ⟨a, d, L, rfl, _⟩ := h
    rfl
  · obtain ⟨a, d, L, rfl, ⟨dx, m, rs, h1, h2, h3⟩, q⟩ := h
    exact ⟨_, pss_one (ps_ret (pe_fld (pv 0) rfl)), _, rfl, a, O.C, dx, _, _, rfl, h1, O.cl, O.nM, rfl, q m rs h2 h3⟩
structure LotO (K : PySem.W.Frag) (mg : Str → Option Value) (C : Addr) where
  ty : ∀ (H : Hp) (a dx : Addr) (fs : List (Str × V)), H a = some (.ins C dx fs) → TyX K H (.ref a) (.ref C)
  kit : PySem.W.kitOne K (.ref C) (.ref C) = some true
/-- what the text and the class have written -/
structure LotsT (K : PySem.W.Frag) (mg : Str → Option Value) where
  T : Txt K mg
  O : LotT K mg
  R : LotP K O.C
  W : LotO K mg O.C
def sp_chl (K : PySem.W.Frag) (C : Addr) : Sp := fun vs H Q _ => ∃ a d L, vs = [.ref a] ∧ LotAt K C H a d L ∧ Q .non H
theorem ok_chl (G : LotsT K mg) : FnOk P w K mg base CX0 1 G.T.a_check_lot G.T.d_check_lot ["value"] (sp_chl K G.O.C) := by
  refine G.T.F_check_lot.ok sc_check_lot (fun vs H Q E h => ?_) (fun cdv A outer s H vs Q E hr h => ?_)
  · obtain ⟨a, d, L, rfl, _⟩ := h
    rfl
  · obtain ⟨a, d, L, rfl, ⟨dx, m, rs, h1, h2, h3⟩, q⟩ := h
    refine ⟨_, pss_one (ps_if (pt_not (pt_val (pe_callB call_isi (by rfl) G.T.z_isinstance boot_isinstance (pa_cons (pv 0) (pa_cons (pe_glob (v := .ref G.O.C) rfl G.O.gC rfl) pa_nil))))) (pss_one ps_never) pss_nil), ?_⟩
    exact ⟨_, rfl, _, _, _, _, true, rfl, .own _, G.W.ty H a dx _ h1, G.W.kit, true, rfl, iteF q⟩
/-! ### own errors are made -/
def sp_ini (C : Addr) (f : Str) : Sp := fun vs H Q _ => ∃ a v, vs = [.ref a, v] ∧ H a = some (exo a C none) ∧ ∀ dx, H dx = none → dx ≠ a → Q .non (upd (upd H dx (exd dx [(f, v)])) a (exo a C (some dx)))
theorem ok_iniR (T : Txt K mg) : FnOk P w K mg base CX0 1 T.f_Refused T.d_Refused ["self", "reason"] (sp_ini T.C_Refused "reason") := by
  refine T.F_Refused.ok sci_Refused (fun vs H Q E h => ?_) (fun cdv A outer s H vs Q E hr h => ?_)
  · obtain ⟨a, v, rfl, _⟩ := h
    rfl
  · obtain ⟨a, v, rfl, ha, q⟩ := h
    refine ⟨_, pss_one (ps_ost1 (newId := "ArithmeticError.__new__") PySem.F.store_ArithmeticError (pv 0) (pv 1)), ?_⟩
    exact ⟨_, rfl, _, rfl, a, _, rfl, T.o_Refused, T.n_Refused, ha, q⟩
theorem ini_made {C : Addr} {f : Str} {v : V} {H : Hp} {a : Addr} {q : XK} (hl : True) (ha : H a = none) (h : ∀ H' dd, Same H H' → H' dd = some (.xd [(f, v)]) → q (.ref C) (some dd) H') :
    sp_ini C f (.ref a :: ([v] ++ [])) (upd H a (exo a C none)) (fun x H2 => x = .non ∧ ∃ (d : Addr) (fs : List (Str × V)), H2 a = some (exo a C (some d)) ∧ H2 d = some (exd d fs) ∧ H d = none ∧ q (.ref C) (some d) (upd (del H2 a) d (.xd fs))) (fun _ _ _ => False) := by
  refine ⟨a, v, rfl, upd_same, fun dx n ne => ⟨rfl, dx, _, upd_same, by rw [upd_ne ne, upd_same], by rw [upd_ne ne] at n; exact n, ?_⟩⟩
  have n' : H dx = none := by rw [upd_ne ne] at n; exact n
  refine h _ dx (fun b o e => ?_) upd_same
  have b1 : b ≠ a := fun z => by rw [z, ha] at e; cases e
  have b2 : b ≠ dx := fun z => by rw [z, n'] at e; cases e
  rw [upd_ne b2, del_ne b1, upd_ne b1, upd_ne b2, upd_ne b1]
  exact e
end
end K14

/-! enumerate of a tuple -/
namespace PySem
open Sem (wp)
open AutoSeq1 (wpAny_loadPart')
theorem meets_enumerate_newT (l : Addr) (items : Array Value) :
    Meets (Builtin.«enumerate.__new__» ⟨[.type "enumerate", .ref l], []⟩) (fun _ R s => s.heap.IsTuple l items ∧
      R (.ok (.ret (.ref (s.heap.push { cls := .type "tuple_iterator", data := .fields #[.ref l, .int 0 0] }).objs.size)))
        { s with heap := (s.heap.push { cls := .type "tuple_iterator", data := .fields #[.ref l, .int 0 0] }).push { cls := .type "enumerate", data := .fields #[.none, .bool false, .ref s.heap.objs.size, rawInt 0, .none, .none] } }) :=
  .of_wp fun prog w A R s h => by
    obtain ⟨hp, g, d, tk, os⟩ := s; obtain ⟨hl, h⟩ := h
    have hsub := sub_enumerate
    have q1 : ∀ {A' : Around} {E : Value → Shared → Prop} {Q : Value → Shared → Prop}, Q (.ref hp.objs.size) ⟨(hp.push { cls := .type "tuple_iterator", data := .fields #[.ref l, .int 0 0] }), g, d, tk, os⟩ → wpAny (model prog w) A' (pyIter (.ref l)) Q E ⟨hp, g, d, tk, os⟩ :=
      fun q => wpAny_pyIter_tuple hl q
    wp_walk using q1
    refine wpAny_stack_any fun st => wpAny_pure ?_
    split
    · rename_i c _ _ _ _ _
      cases (c == Value.type "enumerate")
      · wp_walk using q1
        exact ⟨_, rfl, h⟩
      · wp_walk using q1
        exact ⟨_, rfl, h⟩
    · wp_walk using q1
      exact ⟨_, rfl, h⟩
section
variable {prog : Program} {w : World} {A : Around} {E : Value → Shared → Prop} {s : Shared}
theorem call_enumerate_tuple {l : Addr} {items : Array Value} {Q : Value → Shared → Prop} (hL : s.heap.IsTuple l items)
    (h : ∀ h', IsEnum h' (s.heap.objs.size + 1) s.heap.objs.size 0 .none → h'.IsTupleIter s.heap.objs.size l 0 → h'.objs.size = s.heap.objs.size + 2 →
      (∀ b o, s.heap.get? b = some o → h'.get? b = some o) → Q (.ref (s.heap.objs.size + 1)) { s with heap := h' }) :
    wpAny (model prog w) A (call (.type "enumerate") [.ref l]) Q E s := by
  refine callType_new F.called_enumerate (by decide) (F.typeCall_enumerate_1 _) (F.newCall_enumerate_1 _) (fun obj => F.args_object_init_2 obj _) F.entry_enumerate_new
    (meets_enumerate_newT l items) ⟨hL, ?_⟩
  have hz : (s.heap.push { cls := .type "tuple_iterator", data := .fields #[.ref l, .int 0 0] }).objs.size = s.heap.objs.size + 1 := Heap.size_push ..
  show _ ∧ _
  rw [hz]
  have he : IsEnum ((s.heap.push { cls := .type "tuple_iterator", data := .fields #[.ref l, .int 0 0] }).push
      { cls := .type "enumerate", data := .fields #[.none, .bool false, .ref s.heap.objs.size, rawInt 0, .none, .none] }) (s.heap.objs.size + 1) s.heap.objs.size 0 .none := by
    have := Heap.get?_push_size (s.heap.push { cls := .type "tuple_iterator", data := .fields #[.ref l, .int 0 0] })
      (o := { cls := .type "enumerate", data := .fields #[.none, .bool false, .ref s.heap.objs.size, rawInt 0, .none, .none] }) rfl
    rw [hz] at this; exact this
  refine ⟨⟨_, he, rfl⟩, h _ he ⟨_, Heap.get?_push_of_some _ (Heap.get?_push_size _ rfl), rfl, rfl⟩ (by rw [Heap.size_push, hz]) fun b o x => Heap.get?_push_of_some _ (Heap.get?_push_of_some _ x)⟩
end
end PySem
namespace L2
open PySem PySem.Spec PyProof.Rows
/-- the tuple at a, each item in a new pair -/
def IteT (K : PySem.W.Frag) (a : Addr) : It :=
  ⟨fun i H => ∃ (xs : List V) (x : V), SqT K H a xs ∧ xs[i]? = some x, fun i H v H' => ∃ T x, v = .ref T ∧ H T = none ∧ H' = upd H T (.tup [.int (i : Nat), x]) ∧ ∀ xs, SqT K H a xs → xs[i]? = some x, fun i H => ∃ xs : List V, SqT K H a xs ∧ xs.length ≤ i⟩
theorem turn_enumT {P : Program} {w : World} {K : PySem.W.Frag} {elts : List Expr} {kk : Nat} {tpos : Pos} (a e it : Addr) :
    Turn P w K (.Tuple elts kk tpos) (IteT K a) [e, it] e (fun i h => (∃ old, IsEnum h e it ((i : Nat) : Int) old) ∧ h.IsTupleIter it a i ∧ e ≠ it ∧ a < it) where
  mem := by simp
  obj := fun i h st b hb => by
    obtain ⟨⟨old, he⟩, ⟨o, ho, hc, hd⟩, _⟩ := st
    have e' : b = e ∨ b = it := by simpa using hb
    rcases e' with z | z
    · rw [z]; exact ⟨_, he, fun v q => nomatch q⟩
    · rw [z]; exact ⟨o, ho, fun v q => by rw [hd] at q; cases q⟩
  keep := fun i h h' st k => let ⟨⟨old, he⟩, hi, hne⟩ := st; ⟨⟨old, k e (by simp) _ he⟩, hi.at fun o q => k it (by simp) o q, hne⟩
  item := by
    intro X hP hw hK hc i pins s σ H E I hf st hg
    subst hP hw hK
    obtain ⟨⟨old, he⟩, hit, hne, hlt⟩ := st
    obtain ⟨xs, x, hq, hx⟩ := hg
    obtain ⟨its, rv, p, hz⟩ := I.tuple hq
    obtain ⟨u, hu, ru⟩ := rv.get hx
    have hel : e < s.heap.objs.size := Heap.lt_size he
    have hil : it < s.heap.objs.size := by obtain ⟨_, q, _⟩ := hit; exact Heap.lt_size q
    have hai : a ≠ it := Nat.ne_of_lt hlt
    have hae : a ≠ e := fun z => by
      obtain ⟨o, ho, hc', _⟩ := p
      rw [z, he] at ho
      rw [← Option.some.inj ho] at hc'
      injection hc' with q
      exact absurd q (by decide)
    have hi : i < its.toArray.size := by
      rcases Nat.lt_or_ge i its.toArray.size with z | z
      · exact z
      · rw [List.getElem?_eq_none (by simpa using z)] at hu
        cases hu
    refine wpAny_pyNext_enum_itemD (Draws.tuple (show X.A.in1.handled = none from I.ok.hd hc) it a hai its.toArray) he ⟨hit, p⟩ hi hne (by simp [hne, Ne.symm hae]) fun x' h' tk hx' ho hst hT hsz hk => ?_
    have ex : x' = u := by
      have : its.toArray[i]? = some u := by simpa using hu
      rw [this] at hx'
      exact (Option.some.inj hx').symm
    subst ex
    refine ⟨_, rfl, wpAny_letOwnedTupleGo_enum (s := { s with heap := h', toks := tk + 1 }) ho fun h'' he' sb => ?_⟩
    have hT2 : h''.get? s.heap.objs.size = some { cls := .type "tuple", data := .seq #[.int i tk, x'] } := (sb.2 _ (Nat.ne_of_gt hel)).trans hT
    have new : ObjOk X.prog X.w (upd H s.heap.objs.size (.tup [.int (i : Nat), x])) h'' s.heap.objs.size (.tup [.int (i : Nat), x]) :=
      ⟨by show 2 ≤ sizeLine; decide, [.int i tk, x'], .cons ⟨_, rfl⟩ (.cons ru .nil), ⟨_, hT2, rfl, _, rfl⟩⟩
    have I1 : Inv X pins σ (upd H s.heap.objs.size (.tup [.int (i : Nat), x])) { s with heap := h'', toks := tk + 1 } :=
      I.turnedNew (ch := [e, it]) (fun b ob hb q => (sb.2 b (fun z => hb (by simp [z]))).trans (hk b ob (fun z => hb (by simp [z])) (fun z => hb (by simp [z])) q)) hf (Nat.le_refl _) new
    refine ⟨.ref s.heap.objs.size, _, I1, rfl, ⟨_, x, rfl, I.hok.fresh (Nat.le_refl _), rfl, fun ys hy => by rw [I.tuple_inj hy hq]; exact hx⟩, ⟨⟨x', ?_⟩, hst.1.at fun o q => (sb.2 it (Ne.symm hne)).trans q, hne, hlt⟩, fun b hb => ?_⟩
    · have e1 : ((i + 1 : Nat) : Int) = (i : Int) + 1 := by omega
      rw [e1]; exact he'
    · have hb' : b < s.heap.objs.size := by
        have e' : b = e ∨ b = it := by simpa using hb
        rcases e' with z | z
        · rw [z]; exact hel
        · rw [z]; exact hil
      rw [upd_ne (Nat.ne_of_lt hb')]
      exact (hf b hb).1
  done := by
    intro X hP hw hK hc i pins s σ H E I hf st hg
    subst hP hw hK
    obtain ⟨⟨old, he⟩, hit, hne, hlt⟩ := st
    obtain ⟨xs, hq, hx⟩ := hg
    obtain ⟨its, rv, p, hz⟩ := I.tuple hq
    obtain ⟨f0, f1, f2, f3, f4, f5⟩ := hf it (by simp)
    have hl := rv.length
    have hd : X.A.handled = none := I.ok.hd hc
    have hx' : its.toArray[i]? = none := by simp; omega
    have hT : s.TypeIs (.ref e) "enumerate" := ⟨_, he, rfl⟩
    unfold pyNext
    refine wpAny_bind (wpAny_attempt (wpAny_callSpecial?_slot (name := Str.ofString "__next__") hT F.slot_enumerate_next
      (wpAny_call_entry F.slot_enumerate_next hT F.entry_enumerate_next ?_ (F.args_enumerate_next_1 _))))
    show wpAny _ _ (field (.ref e) 2 >>= _) _ _ _
    refine wpAny_bind (wpAny_field he rfl (x := .ref it) rfl ?_)
    refine wpAny_bind (wpAny_nextOf_tuple_end hd hit p hx' fun h' x he' hx2 => ?_)
    obtain ⟨o, ho, hc2⟩ := hx2
    refine wpAny_bind (wpAny_isInstance (T := "StopIteration") (b := true) ⟨o, ho, hc2⟩ isSubtype_stop ?_)
    exact wpAny_pure ⟨rfl, I.turned (t' := s.toks) (fun b o hb q => he' b o hb q) f0 f1 f3 f4 f5⟩
  self := fun A i s Q E st h => let ⟨⟨_, he⟩, _⟩ := st; wpAny_pyIter_enum he h
def iEnumT (K : PySem.W.Frag) (ta : TA) : TI := fun σ H R => ta σ H fun vs H1 => ∃ a xs, vs = [.ref a] ∧ SqT K H1 a xs ∧ R (IteT K a) H1
theorem pi_enumT {X : Cx} {e : Expr} {ta : TA} {p pos tpos : Pos} {elts : List Expr} {kk : Nat} (hg : Gl X "enumerate") (hm : X.mg "enumerate" = none) (ha : PA X [e] ta) (hs : starEach [e] X.env = [(false, eval e X.env)] := by rfl) :
    PI X (.Tuple elts kk tpos) (.Call (.Name "enumerate" p) [e] [] pos) (iEnumT X.K ta) := by
  refine ⟨fun pins s σ H R I h => ?_⟩
  refine Call_ (ld_blt I hg hm boot_enumerate (PyProof.Rows.callWith_type1 (thn (ha.run pos pins s σ H _ I h) fun us s1 ⟨vs, H1, I1, r1, q1⟩ => ?_) hs rfl))
  obtain ⟨a, xs, ex, hq, q⟩ := q1
  subst ex
  cases r1 with
  | cons r rr =>
    cases rr
    cases r
    obtain ⟨its, rv, p', hz⟩ := I1.tuple hq
    have hlt : a < s1.heap.objs.size := by obtain ⟨o, ho, _⟩ := id p'; exact Heap.lt_size ho
    refine call_enumerate_tuple p' fun h' he hit hsz hk => wpAny_pyIter_enum he ?_
    have I2 : Inv X pins σ H1 { s1 with heap := h' } := I1.kept (t' := s1.toks) hk
    refine ⟨s1.heap.objs.size + 1, [s1.heap.objs.size + 1, s1.heap.objs.size], _, _, H1, rfl, I2, turn_enumT a (s1.heap.objs.size + 1) s1.heap.objs.size, ⟨⟨.none, he⟩, hit, Nat.succ_ne_self _, hlt⟩, fun b hb => ?_, q⟩
    have e' : b = s1.heap.objs.size + 1 ∨ b = s1.heap.objs.size := by simpa using hb
    have hle : s1.heap.objs.size ≤ b := by
      rcases e' with z | z
      · rw [z]; exact Nat.le_add_right _ _
      · rw [z]; exact Nat.le_refl _
    exact I1.fpOk hle (I1.hok.fresh hle)
end L2

namespace K14
open PySem PySem.Spec PyProof.Rows L2 RZ L5 R7 XX
theorem lc_enumT {K : PySem.W.Frag} {a : Addr} {xs : List V} {g : TG} {tt : TT} {te : TE} {vs : List Nat} {σ : L2.St} {H1 : Hp} {D : Addr} {Qd : Hp → Prop} (Pv : Nat → Hp → Prop) (h0 : Pv 0 (upd H1 D (.lst []))) (hl : ∀ i H, Pv i H → SqT K H a xs)
    (hs : ∀ i x T H, xs[i]? = some x → Pv i H → H T = none → lcTurn D g tt te vs σ (Pv (i + 1)) (.ref T) (upd H T (.tup [.int (i : Nat), x]))) (hd : ∀ H, Pv xs.length H → Qd H) :
    ∃ W : Nat → Nat → Hp → Prop, (∃ m, W 0 m (upd H1 D (.lst []))) ∧ ∀ i m H0, W i m H0 →
      ((IteT K a).stop i H0 ∧ Qd H0) ∨ ((IteT K a).go i H0 ∧ ∃ Nx : Hp → Prop, (∀ H', Nx H' → ∃ m', m' < m ∧ W (i + 1) m' H') ∧ ∀ v H', (IteT K a).yld i H0 v H' → lcTurn D g tt te vs σ Nx v H') := by
  refine ⟨fun i m H => i + m = xs.length ∧ Pv i H, ⟨xs.length, Nat.zero_add _, h0⟩, fun i m H0 hw => ?_⟩
  obtain ⟨em, pi⟩ := hw
  have ta := hl i H0 pi
  cases m with
  | zero =>
    have ei : i = xs.length := em
    subst ei
    exact .inl ⟨⟨xs, ta, Nat.le_refl _⟩, hd H0 pi⟩
  | succ m =>
    have i1 : i < xs.length := by omega
    refine .inr ⟨⟨xs, _, ta, List.getElem?_eq_getElem i1⟩, Pv (i + 1), fun H' p => ⟨m, Nat.lt_succ_self m, by omega, p⟩, fun v H' out => ?_⟩
    obtain ⟨T, x', rfl, free, rfl, fx⟩ := out
    exact hs i x' T H0 (fx xs ta) pi free
/-! ### sets of letters, as lists of numbers -/
def setsL : Nat → List (List Nat)
  | 0 => [[]]
  | k + 1 => setsL k ++ (setsL k).map fun c => c ++ [k]
theorem sets_len : ∀ k, (setsL k).length = 2 ^ k
  | 0 => rfl
  | k + 1 => by
    show (setsL k ++ (setsL k).map fun c => c ++ [k]).length = _
    rw [List.length_append, List.length_map, sets_len k, Nat.pow_succ]
    omega
theorem sets_few {k : Nat} (h : k ≤ 8) : (setsL k).length ≤ 256 := by
  rw [sets_len]
  exact Nat.pow_le_pow_right (by decide) h
theorem sets_short : ∀ (k : Nat) (c : List Nat), c ∈ setsL k → c.length ≤ k ∧ ∀ e ∈ c, e < k
  | 0, c, h => by
    rw [List.mem_singleton.mp h]
    exact ⟨Nat.le_refl 0, fun _ h => nomatch h⟩
  | k + 1, c, h => by
    rcases List.mem_append.mp h with h | h
    · obtain ⟨h1, h2⟩ := sets_short k c h
      exact ⟨by omega, fun e he => Nat.lt_succ_of_lt (h2 e he)⟩
    · obtain ⟨d, hd, rfl⟩ := List.mem_map.mp h
      obtain ⟨h1, h2⟩ := sets_short k d hd
      refine ⟨by rw [List.length_append]; show _ + 1 ≤ _; omega, fun e he => ?_⟩
      rcases List.mem_append.mp he with he | he
      · exact Nat.lt_succ_of_lt (h2 e he)
      · rw [List.mem_singleton.mp he]
        exact Nat.lt_succ_self k
theorem sets_nil (k : Nat) : [] ∈ setsL k := by
  induction k with
  | zero => exact List.mem_singleton.mpr rfl
  | succ k ih => exact List.mem_append.mpr (.inl ih)
/-- the letters of a product that are not chosen, of the first ones -/
def othN (c t : List Nat) (i : Nat) : List Nat := (List.range i).filter fun j => decide (0 < t.getD j 0) && !c.contains j
theorem oth_step (c t : List Nat) (i : Nat) : othN c t (i + 1) = if (decide (0 < t.getD i 0) && !c.contains i) = true then othN c t i ++ [i] else othN c t i := by
  unfold othN
  rw [List.range_succ, List.filter_append]
  by_cases h : (decide (0 < t.getD i 0) && !c.contains i) = true
  · rw [if_pos h]
    simp only [List.filter_cons, List.filter_nil, h, if_true]
  · rw [if_neg h]
    simp only [List.filter_cons, List.filter_nil, h, if_false, List.append_nil]
    simp
theorem oth_len (c t : List Nat) (i : Nat) : (othN c t i).length ≤ i := Nat.le_trans (List.length_filter_le _ _) (by rw [List.length_range]; exact Nat.le_refl _)
def freeB (c : List Nat) (L : List (List Nat)) : Bool := L.all fun t => !(othN c t t.length).isEmpty
def freeS (d : Nat) (L : List (List Nat)) : List (List Nat) := (setsL d).filter fun c => freeB c L
/-- the greatest length, -1 where there is none -/
def bigL : List (List Nat) → Int
  | [] => -1
  | c :: S => if bigL S < ((c.length : Nat) : Int) then ((c.length : Nat) : Int) else bigL S
theorem big_ge : ∀ S : List (List Nat), -1 ≤ bigL S ∧ ∀ c ∈ S, ((c.length : Nat) : Int) ≤ bigL S
  | [] => ⟨Int.le_refl _, fun _ h => nomatch h⟩
  | c :: S => by
    obtain ⟨h1, h2⟩ := big_ge S
    show -1 ≤ (if bigL S < ((c.length : Nat) : Int) then ((c.length : Nat) : Int) else bigL S) ∧ ∀ x ∈ c :: S, ((x.length : Nat) : Int) ≤ (if bigL S < ((c.length : Nat) : Int) then ((c.length : Nat) : Int) else bigL S)
    refine ⟨by split <;> omega, fun x hx => ?_⟩
    rcases List.mem_cons.mp hx with rfl | hx
    · split <;> omega
    · have := h2 x hx
      split <;> omega
theorem big_at : ∀ S : List (List Nat), S ≠ [] → ∃ c ∈ S, ((c.length : Nat) : Int) = bigL S
  | [], h => absurd rfl h
  | c :: S, _ => by
    show ∃ x ∈ c :: S, ((x.length : Nat) : Int) = (if bigL S < ((c.length : Nat) : Int) then ((c.length : Nat) : Int) else bigL S)
    by_cases h : bigL S < ((c.length : Nat) : Int)
    · exact ⟨c, List.mem_cons_self, by rw [if_pos h]⟩
    · rw [if_neg h]
      cases S with
      | nil =>
        have : ¬ (-1 : Int) < ((c.length : Nat) : Int) := h
        omega
      | cons x S =>
        obtain ⟨y, hy, e⟩ := big_at (x :: S) (by simp)
        exact ⟨y, List.mem_cons_of_mem _ hy, e⟩
theorem big_is {S : List (List Nat)} {m : Int} (h0 : S = [] → m = -1) (h : S ≠ [] → (∃ c ∈ S, m = ((c.length : Nat) : Int)) ∧ ∀ c ∈ S, ((c.length : Nat) : Int) ≤ m) : m = bigL S := by
  cases S with
  | nil => exact h0 rfl
  | cons x S =>
    obtain ⟨⟨c, hc, e⟩, hm⟩ := h (by simp)
    obtain ⟨y, hy, e2⟩ := big_at (x :: S) (by simp)
    have h1 := (big_ge (x :: S)).2 c hc
    have h2 := hm y hy
    omega
theorem big_none {S : List (List Nat)} : bigL S = -1 ↔ S = [] := by
  refine ⟨fun h => ?_, fun h => by rw [h]; rfl⟩
  cases S with
  | nil => rfl
  | cons x S =>
    have := (big_ge (x :: S)).2 x List.mem_cons_self
    omega
def bigS (S : List (List Nat)) : List (List Nat) := S.filter fun c => decide (((c.length : Nat) : Int) = bigL S)
theorem big_head {S : List (List Nat)} (h : S ≠ []) : ∃ c r, bigS S = c :: r := by
  obtain ⟨c, hc, e⟩ := big_at S h
  have hm : c ∈ bigS S := List.mem_filter.mpr ⟨hc, decide_eq_true e⟩
  cases e2 : bigS S with
  | nil =>
    rw [e2] at hm
    cases hm
  | cons a r => exact ⟨a, r, rfl⟩
theorem mem_big {S : List (List Nat)} {c : List Nat} : c ∈ bigS S ↔ c ∈ S ∧ ((c.length : Nat) : Int) = bigL S := by
  unfold bigS
  rw [List.mem_filter, decide_eq_true_iff]
theorem filtN_yes {f : List Nat → Bool} {A : List (List Nat)} {i : Nat} {t : List Nat} (h : A[i]? = some t) (e : f t = true) : (A.take (i + 1)).filter f = (A.take i).filter f ++ [t] := by
  rw [take_more h, List.filter_append]
  simp [e]
theorem filtN_no {f : List Nat → Bool} {A : List (List Nat)} {i : Nat} {t : List Nat} (h : A[i]? = some t) (e : f t = false) : (A.take (i + 1)).filter f = (A.take i).filter f := by
  rw [take_more h, List.filter_append]
  simp [e]
theorem inV_nv (c : List Nat) (j : Nat) : inV (.int ((j : Nat) : Int)) (nv c) = c.contains j := by
  unfold inV nv
  rw [List.any_map, Bool.eq_iff_iff, List.any_eq_true, List.contains_iff_mem]
  constructor
  · rintro ⟨x, hx, e⟩
    have e1 : (((x : Nat) : Int) == ((j : Nat) : Int)) = true := e
    have e2 := eq_of_beq e1
    have e3 : x = j := by omega
    rw [← e3]
    exact hx
  · intro h
    exact ⟨j, h, beq_self_eq_true (((j : Nat) : Int))⟩
theorem flat_nv (c : List Nat) : (nv c).all flatV = true := by
  unfold nv
  rw [List.all_map, List.all_eq_true]
  exact fun _ _ => rfl
section
variable {P : Program} {w : World} {K : PySem.W.Frag} {mg : Str → Option Value} {base : Heap}
def sp_sets (K : PySem.W.Frag) : Sp := fun vs H Q _ => ∃ d : Nat, vs = [.int ((d : Nat) : Int)] ∧ d ≤ 8 ∧ ∀ H' z rs, Same H H' → SqL K H' z (rs.map V.ref) → Tups K H' rs (setsL d) → Q (.ref z) H'
theorem ok_sets (T : Txt K mg) : FnOk P w K mg base CX0 1 T.a_letter_sets T.d_letter_sets ["letters"] (sp_sets K) := by
  refine T.F_letter_sets.ok sc_letter_sets (fun vs H Q E h => ?_) (fun cdv A outer s H vs Q E hr h => ?_)
  · obtain ⟨d, rfl, _⟩ := h
    rfl
  · obtain ⟨d, rfl, hd, q⟩ := h
    refine ⟨_, pss_cons (ps_set (i := 1) sc_letter_sets.nd rfl (Or.inl rfl) (pe_lst (pa_cons (pe_tup pa_nil) pa_nil)))
      (pss_cons (ps_for PassesOwn.never rfl (pi_range1 rfl T.z_range (pa_cons (pv 0) pa_nil)) (pg_name (i := 2) sc_letter_sets.nd rfl (Or.inr rfl))
        (pss_one (ps_set (i := 1) sc_letter_sets.nd rfl (Or.inl rfl) (pe_op op_cat (pv 1)
          (pe_lc (own := [("chosen", 3)]) (g := gName 3) (tt := tYes) rfl sc_letter_sets.nd (pi_list (pv 1)) (blkOk_by (own := [("chosen", 3)]) (N := N_letter_sets) (sc := defScope s_letter_sets) (by decide +kernel))
            (fun _ _ _ _ _ => pg_name (i := 3) sc_letter_sets.nd rfl (Or.inl rfl)) (fun _ _ _ _ _ => pts_nil)
            (fun _ _ _ _ _ => pe_op (show OpR _ _ (rCatB K) from op_catB) (pv 3) (pe_tup (pa_cons (pv 2) pa_nil))))))))
      (pss_one (ps_ret (pv 1)))), ?_⟩
    refine ⟨by show 0 ≤ sizeLine; exact Nat.zero_le _, fun z0 hz0 => ?_⟩
    have s2 := same_new hz0 (.tup [])
    refine ⟨by show 1 ≤ sizeLine; decide, fun la hla => ?_⟩
    have s3 := same_new hla (.lst [V.ref z0])
    refine ⟨_, rfl, _, rfl, by omega, by omega, ?_⟩
    refine for_range (lo := 0) (n := (((d : Nat) : Int)).toNat) (fun i σ H' => ∃ (v2 : Option V) (fa : Addr) (rs : List Addr), σ = [some (.int ((d : Nat) : Int)), some (.ref fa), v2, none] ∧ Same H H' ∧ H' fa = some (.lst (rs.map V.ref)) ∧ Tups K H' rs (setsL i))
      ⟨none, la, [z0], rfl, s2.trans s3, upd_same, .cons (same_sqt s3 (SqT.of upd_same)) .nil⟩ ?_ ?_
    · rintro i σ H1 hi ⟨v2, fa, rs, rfl, sm, hf, hfT⟩
      have hi8 : i < d := hi
      have w1 := sets_few (k := i) (by omega)
      have hrl : rs.length = _ := hfT.length
      rw [show (0 : Int) + ((i : Nat) : Int) = ((i : Nat) : Int) from Int.zero_add _]
      refine ⟨_, rfl, _, rfl, fa, rfl, ⟨_, SqL.of hf⟩, fun D hD => ?_⟩
      have sD := same_new hD (.lst [])
      refine lc_list (K := K) (a := fa) (xs := rs.map V.ref) (fun i2 H' => Same H1 H' ∧ ∃ es : List Addr, H' D = some (.lst (es.map V.ref)) ∧ Tups K H' es (((setsL i).take i2).map fun c => c ++ [i])) ⟨sD, [], upd_same, .nil⟩ (fun i2 H' _ hh => SqL.of (hh.1 _ _ hf)) (fun i2 x H2 hx hh => ?_) (fun H2 hh => ?_)
      · obtain ⟨s4, es, eD, hTe⟩ := hh
        obtain ⟨c, t, rfl, _, ht, hs⟩ := tups_get hfT hx
        have ht4 := (sets_short i t (List.mem_of_getElem? ht)).1
        have hel : es.length ≤ 256 := by
          have e1 : es.length = _ := hTe.length
          rw [List.length_map, List.length_take] at e1
          omega
        refine ⟨rfl, _, rfl, _, rfl, by show 1 ≤ sizeLine; decide, fun z1 hz1 => ?_⟩
        have s5 := same_new hz1 (.tup [V.int ((i : Nat) : Int)])
        refine ⟨c, z1, _, _, rfl, rfl, same_sqt (s4.trans s5) hs, SqT.of upd_same, by rw [nv_len]; exact Nat.le_of_lt (sizeK (by show _ + 1 ≤ _; omega)), fun H5 z5 s6 hz5 => ?_⟩
        have S6 := s5.trans s6
        have hz5' : SqT K H5 z5 (nv (t ++ [i])) := by
          unfold nv at hz5 ⊢
          rw [List.map_append]
          exact hz5
        refine ⟨_, S6 _ _ eD, by rw [List.length_map]; exact sizeK (by omega), same_updL (s4.trans S6) hD, es ++ [z5], by rw [upd_same, List.map_append]; rfl, ?_⟩
        rw [take_more ht, List.map_append]
        exact ((hTe.same S6).updL (S6 _ _ eD)).app (.cons (sqt_updL (S6 _ _ eD) hz5') .nil)
      · obtain ⟨s4, es, eD, hTe⟩ := hh
        rw [List.length_map, hrl, List.take_length] at hTe
        have hel : es.length = _ := hTe.length
        rw [List.length_map] at hel
        refine ⟨fa, D, _, _, rfl, rfl, s4 _ _ hf, eD, by rw [List.length_map, List.length_map]; exact Nat.le_of_lt (sizeK (by omega)), fun p hp => ?_⟩
        have s5 := same_new hp (.lst (rs.map V.ref ++ es.map V.ref))
        exact ⟨_, p, rs ++ es, rfl, sm.trans (s4.trans s5), by rw [upd_same, List.map_append], ((hfT.same s4).same s5).app (hTe.same s5)⟩
    · rintro σ H1 ⟨v2, fa, rs, rfl, sm, hf, hfT⟩
      have hfT' : Tups K H1 rs (setsL d) := hfT
      exact ⟨_, rfl, q H1 fa rs sm (SqL.of hf) hfT'⟩
def sp_free (K : PySem.W.Frag) : Sp := fun vs H Q _ => ∃ (a l : Addr) (c : List Nat) (rs : List Addr) (L : List (List Nat)), vs = [.ref a, .ref l] ∧ SqT K H a (nv c) ∧ SqA K H l (rs.map V.ref) ∧ Tups K H rs L ∧ (∀ t ∈ L, t.length ≤ 8) ∧ ∀ H', Same H H' → Q (.bl (freeB c L)) H'
theorem ok_free (T : Txt K mg) : FnOk P w K mg base CX0 1 T.a_is_free T.d_is_free ["chosen", "members"] (sp_free K) := by
  refine T.F_is_free.ok sc_is_free (fun vs H Q E h => ?_) (fun cdv A outer s H vs Q E hr h => ?_)
  · obtain ⟨a, l, c, rs, L, rfl, _⟩ := h
    rfl
  · obtain ⟨a, l, c, rs, L, rfl, hC, hA, hL, h8, q⟩ := h
    refine ⟨_, pss_cons (ps_for PassesOwn.never rfl (pi_any (pv 1)) (pg_name (i := 2) sc_is_free.nd rfl (Or.inl rfl))
        (pss_cons (ps_setLc (i := 3) (own := [("index", 4), ("exponent", 5)]) (g := gTup K 2 (gCons (gName 4) (gCons (gName 5) gNil))) rfl sc_is_free.nd rfl rfl (sw_true rfl rfl rfl (by decide +kernel)) (show PI _ _ _ (iEnumT K _) from pi_enumT (by rfl) T.z_enumerate (pa_cons (pv 2) pa_nil)) (blkOk_by (own := [("index", 4), ("exponent", 5)]) (N := N_is_free) (sc := defScope s_is_free) (by decide +kernel))
          (fun _ _ _ _ _ => pg_tup (by rfl) (pgs_cons (pg_name (i := 4) sc_is_free.nd rfl (Or.inl rfl)) (pgs_cons (pg_name (i := 5) sc_is_free.nd rfl (Or.inl rfl)) pgs_nil)))
          (fun _ _ _ _ _ => pts_one (PW.pt (pw_and (pt_cmpR op_gt (pv 5) pe_int (nomark _)) (pw_and1 (pt_cmpR (show OpR _ _ (rIn K true) from op_notIn_seq) (pv 4) (pv 0) (by rfl))))))
          (fun _ _ _ _ _ => pv 4))
        (pss_one (ps_if (pt_not (pt_truth (pv 3) (fun _ => rfl))) (pss_one (ps_ret pe_bl)) pss_nil))))
      (pss_one (ps_ret pe_bl)), ?_⟩
    have el : (L.map fun t => !(othN c t t.length).isEmpty).all id = freeB c L := by rw [List.all_map]; rfl
    refine ⟨_, rfl, l, rfl, for_any hA (fun i σ H' => ∃ v2 v3 : Option V, σ = [some (.ref a), some (.ref l), v2, v3, none, none] ∧ Same H H' ∧ ((L.map fun t => !(othN c t t.length).isEmpty).take i).all id = true) ⟨none, none, rfl, Same.refl H, rfl⟩ (fun i σ' H' ⟨_, _, _, s, _⟩ => s) ?_ ?_⟩
    · rintro i x σ H' hx ⟨v2, v3, rfl, sm, ha⟩
      obtain ⟨b, u, rfl, _, hu, hs⟩ := tups_get (hL.same sm) hx
      have hul := h8 u (List.mem_of_getElem? hu)
      have st := all_take_step (l := L.map fun t => !(othN c t t.length).isEmpty) (i := i) (b := !(othN c u u.length).isEmpty) (by rw [List.getElem?_map, hu]; rfl)
      have hC' := same_sqt sm hC
      refine ⟨_, rfl, b, _, rfl, hs, fun D hD => ?_⟩
      have sD := same_new hD (.lst [])
      refine lc_enumT (K := K) (a := b) (xs := nv u) (fun j H2 => Same H' H2 ∧ H2 D = some (.lst (nv (othN c u j)))) ⟨sD, upd_same⟩ (fun j H2 h => same_sqt h.1 hs) ?_ ?_
      · rintro j x D2 H2 hx ⟨s2, hD2⟩ hfree
        obtain ⟨e, he, rfl⟩ := nv_get hx
        have hj : j < u.length := (List.getElem?_eq_some_iff.mp he).1
        have hg : u.getD j 0 = e := by rw [List.getD_eq_getElem?_getD, he]; rfl
        have hlen := oth_len c u j
        have hstep := oth_step c u j
        rw [hg] at hstep
        have sT := same_new hfree (.tup [V.int ((j : Nat) : Int), V.int ((e : Nat) : Int)])
        have hD3 := sT _ _ hD2
        refine ⟨D2, _, rfl, SqT.of upd_same, rfl, _, _, rfl, _, _, rfl, rfl, ?_⟩
        refine ⟨rfl, _, rfl, _, _, rfl, rfl, _, rfl, ?_⟩
        by_cases h0 : 0 < e
        · rw [decide_eq_true (show (0 : Int) < ((e : Nat) : Int) by omega)]
          refine iteT ⟨_, rfl, _, rfl, a, nv c, rfl, .inr (same_sqt (s2.trans sT) hC'), rfl, flat_nv c, _, rfl, ?_⟩
          rw [inV_nv, show (if true = true then !c.contains j else c.contains j) = !c.contains j from rfl]
          rw [decide_eq_true h0, Bool.true_and] at hstep
          refine ite2 (fun cc => ?_) (fun cc => ?_)
          · rw [if_pos cc] at hstep
            refine ⟨_, rfl, _, hD3, by rw [nv_len]; exact sizeK (by omega), same_updL (s2.trans sT) hD, ?_⟩
            rw [upd_same, hstep]
            unfold nv
            rw [List.map_append]
            rfl
          · rw [if_neg cc] at hstep
            refine ⟨s2.trans sT, ?_⟩
            rw [hstep]
            exact hD3
        · rw [decide_eq_false (show ¬ (0 : Int) < ((e : Nat) : Int) by omega)]
          rw [decide_eq_false h0, Bool.false_and, if_neg (by decide)] at hstep
          refine iteF ⟨s2.trans sT, ?_⟩
          rw [hstep]
          exact hD3
      · rintro H2 ⟨s2, hD2⟩
        rw [nv_len] at hD2
        refine ⟨_, rfl, _, .inl ⟨_, SqL.of hD2, rfl⟩, ?_⟩
        have ee : (nv (othN c u u.length)).isEmpty = (othN c u u.length).isEmpty := by
          unfold nv
          rw [List.isEmpty_map]
        rw [ee]
        cases ef : (othN c u u.length).isEmpty with
        | true =>
          rw [ha, ef] at st
          have hF : freeB c L = false := by
            rw [← el, ← List.take_append_drop (i + 1) (L.map fun t => !(othN c t t.length).isEmpty), List.all_append, st]
            rfl
          rw [hF] at q
          exact iteT (q _ (sm.trans s2))
        | false =>
          rw [ha, ef] at st
          exact iteF ⟨_, _, rfl, sm.trans s2, st⟩
    · rintro σ H' ⟨v2, v3, rfl, sm, ha⟩
      have hlen : rs.length = L.length := hL.length
      rw [List.length_map, hlen, ← List.length_map (f := fun t => !(othN c t t.length).isEmpty) (as := L), List.take_length, el] at ha
      rw [ha] at q
      exact q _ sm
end
end K14

namespace W14
open PySem PySem.Spec PyProof.Rows L2
/-! ### max(xs, default=d) of a list of ints -/
theorem fold_most : ∀ (ns : List Int) (n : Int), (ns.foldl max n ∈ n :: ns) ∧ n ≤ ns.foldl max n ∧ ∀ y ∈ ns, y ≤ ns.foldl max n
  | [], n => ⟨List.mem_cons_self, Int.le_refl n, fun _ h => nomatch h⟩
  | a :: r, n => by
    obtain ⟨h1, h2, h3⟩ := fold_most r (max n a)
    have e : (a :: r).foldl max n = r.foldl max (max n a) := rfl
    rw [e]
    refine ⟨?_, by omega, fun y hy => ?_⟩
    · rcases List.mem_cons.mp h1 with h | h
      · rw [h]
        rcases Int.le_total n a with z | z
        · rw [Int.max_eq_right z]
          simp
        · rw [Int.max_eq_left z]
          simp
      · exact List.mem_cons_of_mem _ (List.mem_cons_of_mem _ h)
    · rcases List.mem_cons.mp hy with rfl | hy
      · omega
      · exact h3 y hy
theorem reads_are {h : Heap} : ∀ {us : List Value} {ns : List Int}, IntsAre us ns → ∃ as, ReadsAll h us (ns.map PyData.int) as
  | _, _, .nil => ⟨_, .nil⟩
  | _, _, .cons n t r => by
    obtain ⟨as, q⟩ := reads_are (h := h) r
    exact ⟨_, .cons (.int n t) q⟩
theorem flat_ints : ∀ ns : List Int, PyData.depthAll (ns.map PyData.int) = 0
  | [] => by simp [PyData.depthAll]
  | n :: ns => by simp [PyData.depthAll, PyData.depth, flat_ints ns]
theorem alike_ints (ns : List Int) : PySem.W.AlikeAll (ns.map PyData.int) := by
  refine ⟨fun x hx y hy => ?_, fun x hx e => ?_⟩
  · obtain ⟨a, _, rfl⟩ := List.mem_map.mp hx
    obtain ⟨b, _, rfl⟩ := List.mem_map.mp hy
    first | rfl | simp [PySem.W.alike] | decide
  · obtain ⟨a, _, rfl⟩ := List.mem_map.mp hx
    cases e
def rMaxDef (K : PySem.W.Frag) : List V → List V → Hp → VK → Prop := fun vs zs H Q => ∃ (a : Addr) (ns : List Int) (d : Int), vs = [V.ref a] ∧ zs = [V.int d] ∧ SqL K H a (ns.map V.int) ∧ ∀ m, (ns = [] → m = d) → (ns ≠ [] → m ∈ ns ∧ ∀ y ∈ ns, y ≤ m) → Q (.int m) H
theorem cr_maxDef {X : Cx} (hc : X.calm = true) (hu : X.A.units + 64 < cLine) : CallRK X (.builtin "max") [Str.ofString "default"] (rMaxDef X.K) := by
  intro pins s σ H vs zs us ws Q I r rz h
  obtain ⟨a, ns, d, rfl, rfl, hs, q⟩ := h
  obtain rfl := Vals.ref1 r
  obtain ⟨w1, rfl, e1⟩ := vals1 rz
  obtain ⟨t, rfl⟩ := e1
  obtain ⟨its, rv, hl, _⟩ := I.list hs
  obtain ⟨as, hr⟩ := reads_are (h := s.heap) rv.ints
  refine PySem.W.max_list_default (I.ok.hd hc) hl.isList (by simpa using hr) (alike_ints ns) (by rw [flat_ints]; omega) (fun e h' tk k => ?_) (fun y ys i v h' tk bs e hv hm k => ?_)
  · have e0 : ns = [] := List.map_eq_nil_iff.mp e
    exact ⟨.int d, H, I.kept k, ⟨_, rfl⟩, q d (fun _ => rfl) (fun n => absurd e0 n)⟩
  · cases ns with
    | nil => cases e
    | cons n ns =>
      rw [List.map_cons] at e
      injection e with e1 e2
      subst e1
      subst e2
      rw [PySem.W.maxD_ints] at hm
      obtain ⟨f1, f2, f3⟩ := fold_most ns n
      generalize ns.foldl max n = M at hm f1 f2 f3
      cases hm with
      | int _ t2 =>
        refine ⟨.int M, H, I.kept k, ⟨_, rfl⟩, q M (fun z => nomatch z) fun _ => ⟨f1, fun y hy => ?_⟩⟩
        rcases List.mem_cons.mp hy with rfl | hy
        · exact f2
        · exact f3 y hy
end W14

/-! sorted of a list of tuples of ints, of unlike lengths, none of them empty -/
namespace TM
open PySem PyProof.Rows TS
/-- the place of a tuple of up to m ints in [0, B) in the order of tuples -/
def cod (B : Int) : Nat → List Int → Int
  | 0, _ => 0
  | _ + 1, [] => 0
  | m + 1, d :: r => (d + 1) * (B + 1) ^ m + cod B m r
theorem cod_bd {B : Int} (hB : 0 ≤ B) : ∀ (m : Nat) (ns : List Int), Bd B ns → 0 ≤ cod B m ns ∧ cod B m ns < (B + 1) ^ m
  | 0, ns, _ => by
    constructor
    · show (0 : Int) ≤ 0; exact Int.le_refl _
    · show (0 : Int) < (B + 1) ^ 0
      rw [Int.pow_zero]; decide
  | m + 1, [], _ => by
    constructor
    · show (0 : Int) ≤ 0; exact Int.le_refl _
    · show (0 : Int) < (B + 1) ^ (m + 1)
      exact Int.pow_pos (by omega)
  | m + 1, d :: r, h => by
    obtain ⟨c0, c1⟩ := cod_bd hB m r h.tail
    obtain ⟨d0, d1⟩ := h.head
    show 0 ≤ (d + 1) * (B + 1) ^ m + cod B m r ∧ (d + 1) * (B + 1) ^ m + cod B m r < (B + 1) ^ (m + 1)
    rw [Int.pow_succ]
    exact num1 c0 c1 (by omega) (by omega)
theorem cod_nil {B : Int} (hB : 0 ≤ B) (m : Nat) {d : Int} {r : List Int} (h : Bd B (d :: r)) : cod B (m + 1) [] < cod B (m + 1) (d :: r) := by
  obtain ⟨c0, _⟩ := cod_bd hB m r h.tail
  obtain ⟨d0, d1⟩ := h.head
  show (0 : Int) < (d + 1) * (B + 1) ^ m + cod B m r
  have p : 0 < (d + 1) * (B + 1) ^ m := Int.mul_pos (by omega) (Int.pow_pos (by omega))
  omega
theorem cod_lt {B : Int} (hB : 0 ≤ B) (m : Nat) {d e : Int} {r q : List Int} (hr : Bd B r) (hq : Bd B q) (h : d < e) : cod B (m + 1) (d :: r) < cod B (m + 1) (e :: q) := by
  obtain ⟨c0, c1⟩ := cod_bd hB m r hr
  obtain ⟨g0, g1⟩ := cod_bd hB m q hq
  show (d + 1) * (B + 1) ^ m + cod B m r < (e + 1) * (B + 1) ^ m + cod B m q
  exact num2 c0 c1 g0 (by omega)
theorem cod_same {B : Int} (m : Nat) {d : Int} {r q : List Int} : cod B (m + 1) (d :: r) < cod B (m + 1) (d :: q) ↔ cod B m r < cod B m q := by
  show (d + 1) * (B + 1) ^ m + cod B m r < (d + 1) * (B + 1) ^ m + cod B m q ↔ _
  generalize (d + 1) * (B + 1) ^ m = X
  constructor <;> intro z <;> omega
/-- unlike tuples have unlike places -/
theorem cod_inj {B : Int} (hB : 0 ≤ B) : ∀ (m : Nat) {ns ms : List Int}, Bd B ns → Bd B ms → ns.length ≤ m → ms.length ≤ m → cod B m ns = cod B m ms → ns = ms
  | 0, [], [], _, _, _, _, _ => rfl
  | 0, _ :: _, _, _, _, h, _, _ => by simp at h
  | 0, [], _ :: _, _, _, _, h, _ => by simp at h
  | m + 1, [], [], _, _, _, _, _ => rfl
  | m + 1, [], e :: q, _, h2, _, _, h => by
    have := cod_nil hB m h2
    omega
  | m + 1, d :: r, [], h1, _, _, _, h => by
    have := cod_nil hB m h1
    omega
  | m + 1, d :: r, e :: q, h1, h2, l1, l2, h => by
    rcases Int.lt_trichotomy d e with z | z | z
    · have := cod_lt hB m h1.tail h2.tail z
      omega
    · subst z
      have hc : cod B m r = cod B m q := by
        have h' : (d + 1) * (B + 1) ^ m + cod B m r = (d + 1) * (B + 1) ^ m + cod B m q := h
        omega
      rw [cod_inj hB m h1.tail h2.tail (by simpa using l1) (by simpa using l2) hc]
    · have := cod_lt hB m h2.tail h1.tail z
      omega
section
variable {prog : Program} {w : World} {A : Around} {E : Value → Shared → Prop} {s : Shared} {Q : Bool → Shared → Prop}
theorem lex_mixed {B : Int} (hB : 0 ≤ B) {b fin : Bool} {xs ys : List Value} {ns ms : List Int} (m i : Nat) (hx : IntsAre xs ns) (hy : IntsAre ys ms) (h1 : Bd B ns) (h2 : Bd B ms) (l1 : ns.length ≤ m) (l2 : ms.length ≤ m)
    (hf : fin = decide (ns.length < ms.length)) (h : Q (decide (cod B m ns < cod B m ms)) s) : PySem.W.KatLex prog w A b fin Q (xs.zip ys) i s := by
  induction hx generalizing ys ms i m with
  | nil =>
    cases hy with
    | nil =>
      have e : decide (cod B m [] < cod B m []) = fin := by rw [hf, decide_eq_false (Int.lt_irrefl _)]; rfl
      rw [e] at h
      exact PySem.W.kat_nil h
    | @cons q u ys ms hy =>
      obtain ⟨k, rfl⟩ : ∃ k, m = k + 1 := ⟨m - 1, by simp at l2; omega⟩
      have e : decide (cod B (k + 1) [] < cod B (k + 1) (q :: ms)) = fin := by
        rw [hf, decide_eq_true (cod_nil hB k h2)]
        exact (decide_eq_true (by simp)).symm
      rw [e] at h
      exact PySem.W.kat_nil h
  | @cons p t xs ns hx ih =>
    obtain ⟨k, rfl⟩ : ∃ k, m = k + 1 := ⟨m - 1, by simp at l1; omega⟩
    cases hy with
    | nil =>
      have e : decide (cod B (k + 1) (p :: ns) < cod B (k + 1) []) = fin := by
        have := cod_nil hB k h1
        rw [hf, decide_eq_false (by omega)]
        exact (decide_eq_false (by simp)).symm
      rw [e] at h
      exact PySem.W.kat_nil h
    | @cons q u ys ms hy =>
      show PySem.W.KatLex prog w A b fin Q ((Value.int p t, Value.int q u) :: xs.zip ys) i s
      refine PySem.W.kat_cons (wpAny_eqBool_int ?_)
      by_cases e : p = q
      · subst e
        rw [beq_self_eq_true]
        have d : decide (cod B (k + 1) (p :: ns) < cod B (k + 1) (p :: ms)) = decide (cod B k ns < cod B k ms) := decide_eq_decide.mpr (cod_same k)
        rw [d] at h
        refine PySem.W.kat_yes ?_
        exact ih k (i + 1) hy h1.tail h2.tail (by simpa using l1) (by simpa using l2) (by rw [hf]; exact decide_eq_decide.mpr (by simp)) h
      · rw [show (p == q) = false from beq_eq_false_iff_ne.mpr e]
        refine PySem.W.kat_no (oneLt_ints _ ?_)
        have d : decide (cod B (k + 1) (p :: ns) < cod B (k + 1) (q :: ms)) = decide (p < q) := by
          refine decide_eq_decide.mpr ⟨fun x => ?_, fun x => cod_lt hB k h1.tail h2.tail x⟩
          rcases Int.lt_trichotomy p q with y | y | y
          · exact y
          · exact absurd y e
          · have := cod_lt hB k h2.tail h1.tail y
            omega
        rw [d] at h
        exact h
end
/-- what is sorted: tuples of 1 to m ints each in [0, B) -/
def TupsM (h : Heap) (m : Nat) (B : Int) (vs : List Value) : Prop := ∀ v, v ∈ vs → ∃ ns, TupInts h v ns ∧ 1 ≤ ns.length ∧ ns.length ≤ m ∧ Bd B ns
theorem TupsM.keeps {h h' : Heap} {m : Nat} {B : Int} {vs : List Value} (x : TupsM h m B vs) (k : ∀ b o, h.get? b = some o → o.cls = .type "tuple" → h'.get? b = some o) : TupsM h' m B vs := fun v hv =>
  let ⟨ns, t, r⟩ := x v hv; ⟨ns, t.keeps k, r⟩
theorem firsts_mixed {h : Heap} {m : Nat} {B : Int} : ∀ vs : List Value, TupsM h m B vs → ∃ fs, PySem.W.KatTups h vs fs ∧ fs.length = vs.length ∧ ∀ f, f ∈ fs → ∃ n t, f = Value.int n t
  | [], _ => ⟨[], PySem.W.KatTups.nil, rfl, fun f hf => by simp at hf⟩
  | v :: vs, x => by
    obtain ⟨fs, k, hl, hi⟩ := firsts_mixed vs fun u hu => x u (List.mem_cons_of_mem _ hu)
    obtain ⟨ns, ⟨a, xs, rfl, ⟨o, ho, hc, n, hdt⟩, i⟩, hn, _⟩ := x v (List.mem_cons_self ..)
    obtain ⟨y, ys, e⟩ : ∃ y ys, xs.toList = y :: ys := by
      cases q : xs.toList with
      | nil =>
        rw [q] at i
        have l := i.length
        rw [List.length_nil] at l
        omega
      | cons y ys => exact ⟨y, ys, rfl⟩
    obtain ⟨m, t, hy⟩ := i.all y (by rw [e]; exact List.mem_cons_self ..)
    refine ⟨y :: fs, PySem.W.KatTups.cons ho hc hdt ?_ k, by simp [hl], ?_⟩
    · have z := congrArg (fun l : List Value => l[0]?) e
      simpa using z
    · intro f hf
      rcases List.mem_cons.mp hf with rfl | hf
      · exact ⟨m, t, hy⟩
      · exact hi f hf
section
variable {prog : Program} {w : World} {A : Around} {E : Value → Shared → Prop} {s : Shared}
theorem kind_mixed {m : Nat} {B : Int} {vs : List Value} (hB : 0 ≤ B) (h2 : 2 ≤ vs.length) (x : TupsM s.heap m B vs) (r : Value → Int) (hr : ∀ v, v ∈ vs → ∀ ns, TupInts s.heap v ns → r v = cod B m ns) (Q : SortKind → Shared → Prop)
    (h : ∀ κ, Cmp prog w A s κ (pairsOf vs) r → Q κ s) : wpAny (model prog w) A (keyKind' vs.toArray) Q E s := by
  obtain ⟨fs, k, hl, hi⟩ := firsts_mixed vs x
  refine PySem.W.kat_kind (T := Value.type "int") k (by omega) (fun f hf => ?_) rfl (h _ ?_)
  · obtain ⟨n, t, rfl⟩ := hi f hf
    exact PySem.W.Looks.of_pure rfl
  · intro p q hp hq Q' E' hQ
    rw [pairsOf_toList] at hp hq
    obtain ⟨ns, tp, _, lp, bp⟩ := x _ (mem_zip_self hp).2
    obtain ⟨ms, tq, _, lq, bq⟩ := x _ (mem_zip_self hq).2
    have ep := hr _ (mem_zip_self hp).2 _ tp
    have eq2 := hr _ (mem_zip_self hq).2 _ tq
    have hQ' : Q' (decide (cod B m ns < cod B m ms)) s := by
      have z : decide (r p.1 < r q.1) = decide (cod B m ns < cod B m ms) := by rw [ep, eq2]
      rw [← z]; exact hQ
    obtain ⟨a, xs, e1, ⟨o, ho, hc, n, hdt⟩, i⟩ := tp
    obtain ⟨a', ys, e2, ⟨o', ho', hc', n', hdt'⟩, i'⟩ := tq
    rw [e1, e2]
    refine PySem.W.kat_lt ho hdt ho' hdt' ?_
    have l1 := i.length
    have l2 := i'.length
    rw [Array.length_toList] at l1 l2
    exact lex_mixed hB m 0 i i' bp bq lp lq (by rw [l1, l2]) hQ'
theorem sort_mixed {a : Addr} {vs : List Value} {n m : Nat} {B : Int} {P : PySem.Fin → Shared → Prop} (ho : s.heap.get? a = some (seqObj "list" vs.toArray n)) (h64 : vs.length < 64) (hB : 0 ≤ B) (x : TupsM s.heap m B vs)
    (r : Value → Int) (hr : ∀ v, v ∈ vs → ∀ ns, TupInts s.heap v ns → r v = cod B m ns)
    (h : ∀ out : Array Value, out.toList.Perm vs → out.toList.Pairwise (fun u v => r u ≤ r v) → P (.done (.ret .none)) { s with heap := sortedHeap s.heap a vs out }) :
    wpAny (model prog w) A (Builtin.«list.sort» ⟨[.ref a], []⟩) P E s := by
  have keep : ∀ b o, s.heap.get? b = some o → o.cls = .type "tuple" → (midHeap s.heap a vs).get? b = some o := fun b o e hc => by
    refine midHeap_old ?_ e
    rintro rfl
    rw [ho] at e
    have e' : seqObj "list" vs.toArray n = o := Option.some.inj e
    rw [← e'] at hc
    have c' : Value.type "list" = Value.type "tuple" := hc
    injection c' with c''
    exact absurd c'' (by decide)
  refine SK.plain_sort (r := r) ho h64 (fun h2 Q hQ => ?_) fun ps out h1 h2 h3 => ?_
  · refine kind_mixed (s := { s with heap := midHeap s.heap a vs }) hB h2 (x.keeps keep) r (fun v hv ns t => ?_) Q hQ
    obtain ⟨ns0, t0, _⟩ := x v hv
    have e : ns = ns0 := t.ints.symm.trans (t0.keeps keep).ints
    rw [e]
    exact hr v hv ns0 t0
  · obtain ⟨p, o⟩ := out_rank h1 h2 h3
    exact h out p o
theorem sorted_mixed {l : Addr} {vs : List Value} {m : Nat} {B : Int} {Q : Value → Shared → Prop} (hl : s.heap.IsList l vs.toArray) (h64 : vs.length < 64) (hB : 0 ≤ B) (x : TupsM s.heap m B vs)
    (h : ∀ out : Array Value, out.toList.Perm vs → out.toList.Pairwise (fun u v => cod B m (intsOf s.heap u) ≤ cod B m (intsOf s.heap v)) → Q (.ref (s.heap.objs.size + 1)) { s with heap := sortedAll s.heap vs out }) :
    wpAny (model prog w) A (call (.builtin "sorted") [.ref l]) Q E s := by
  refine Calls.call_function_entry kind_sorted plain_sorted entry_sorted (args_sorted1 _) ?_
  unfold Builtin.«sorted»
  refine wpAny_bind (m := checkCount "sorted" 1 1 _) (wpAny_pure ?_)
  refine wpAny_bind (collect_list hl ?_ (by rw [sizeLine_eq]; omega))
  refine wpAny_bind (wpAny_newList ?_ (by rw [sizeLine_eq]; omega))
  have hsz : ((s.heap.push (seqObj "list" #[] 0)).update s.heap.objs.size (Obj.mapSeq (· ++ vs.toArray))).objs.size = s.heap.objs.size + 1 := by
    rw [Heap.size_update, size_push']
  have hoL : (((s.heap.push (seqObj "list" #[] 0)).update s.heap.objs.size (Obj.mapSeq (· ++ vs.toArray))).push (seqObj "list" vs.toArray 0)).get? (s.heap.objs.size + 1) = some (seqObj "list" vs.toArray 0) := by
    rw [← hsz]; exact Heap.get?_push_size _ rfl
  have keep : ∀ b o, s.heap.get? b = some o → o.cls = .type "tuple" → (((s.heap.push (seqObj "list" #[] 0)).update s.heap.objs.size (Obj.mapSeq (· ++ vs.toArray))).push (seqObj "list" vs.toArray 0)).get? b = some o := fun b o q _ => by
    have hlt : b < s.heap.objs.size := Heap.lt_size q
    rw [Heap.get?_push_ne _ _ _ (by rw [hsz]; exact Nat.ne_of_lt (Nat.lt_succ_of_lt hlt)), Heap.get?_update_ne _ _ _ _ (Nat.ne_of_lt hlt), Heap.get?_push_ne _ _ _ (Nat.ne_of_lt hlt)]
    exact q
  show wpAny _ _ _ _ _ { s with heap := ((s.heap.push (seqObj "list" #[] 0)).update s.heap.objs.size (Obj.mapSeq (· ++ vs.toArray))).push (seqObj "list" vs.toArray 0) }
  rw [hsz]
  refine wpAny_bind (wpAny_holding (wpAny_call_entry slot_list_sort ⟨_, hoL, rfl⟩ entry_list_sort (sort_mixed hoL h64 hB (x.keeps keep) (fun v => cod B m (intsOf s.heap v)) (fun v hv ns t => ?_) fun out a1 a2 => ⟨_, rfl, ?_⟩) (args_list_sort _)))
  · obtain ⟨ns0, t0, _⟩ := x v hv
    have e : ns = ns0 := t.ints.symm.trans (t0.keeps keep).ints
    rw [e]
    show cod B m (intsOf s.heap v) = cod B m ns0
    rw [t0.ints]
  · exact wpAny_pure ⟨_, rfl, h out a1 a2⟩
end
end TM
namespace L2
open PySem PySem.Spec PyProof.Rows
section
variable {X : Cx}
def rSortM (K : PySem.W.Frag) (m : Nat) (B : Int) : List V → Hp → VK → Prop := fun vs H Q => ∃ (a : Addr) (xs : List V), vs = [V.ref a] ∧ SqL K H a xs ∧ xs.length < 64 ∧ (∀ x ∈ xs, ∃ ns, TupI K H x ns ∧ 1 ≤ ns.length ∧ ns.length ≤ m ∧ TS.Bd B ns) ∧
  ∀ (ys : List V) (p : Addr), ys.Perm xs → ys.Pairwise (fun x y => ∀ n k, TupI K H x n → TupI K H y k → TM.cod B m n ≤ TM.cod B m k) → H p = none → Q (.ref p) (upd H p (.lst ys))
theorem cr_sortM {m : Nat} {B : Int} (hB : 0 ≤ B) : CallR X (.builtin "sorted") (rSortM X.K m B) := by
  intro pins s σ H vs us Q I r h
  obtain ⟨a, xs, rfl, hs, h64, hx, q⟩ := h
  obtain ⟨its, rv, hl, hz⟩ := I.list hs
  rw [Vals.ref1 r]
  obtain ⟨e1, e2⟩ := bkV_refs rv fun x m => by
    obtain ⟨ns, ⟨t, e, _⟩, _⟩ := hx x m
    exact ⟨t, e⟩
  refine TM.sorted_mixed (m := m) (B := B) hl.isList (by rw [← rv.length]; exact h64) hB (fun v hv => ?_) fun out h1 h2 => ?_
  · obtain ⟨t, rfl⟩ := e2 v hv
    have hm : V.ref t ∈ xs := by
      rw [e1]
      exact List.mem_map.mpr ⟨_, hv, rfl⟩
    obtain ⟨ns, ⟨t', e, ht⟩, hn, hb⟩ := hx _ hm
    cases e
    exact ⟨ns, tupI_raw I ht, hn, hb⟩
  · obtain ⟨ep, he'⟩ := PyProof.Rows.sortedAll_at s.heap its out
    have h3 : ∀ u ∈ out.toList, ∃ a, u = Value.ref a := fun u hu => e2 u (h1.mem_iff.mp hu)
    have hp : (out.toList.map bkV).Perm xs := by
      rw [e1]
      exact h1.map bkV
    have hlen : (out.toList.map bkV).length ≤ sizeLine := by
      rw [hp.length_eq]
      exact hz
    refine ⟨.ref _, upd H (s.heap.objs.size + 1) (.lst (out.toList.map bkV)), I.laid (t' := s.toks) (fun _ _ => PyProof.Rows.sortedAll_old) (Nat.le_succ _) ⟨hlen, out.toList, ep, bkV_vals h3, he'⟩, rfl, q _ _ hp ?_ (I.hok.fresh (Nat.le_succ _))⟩
    rw [List.pairwise_map]
    refine List.Pairwise.imp (fun {u v} huv n m hn hm => ?_) h2
    obtain ⟨t, et, ht⟩ := hn
    obtain ⟨t', et', ht'⟩ := hm
    have eu := bkV_ref et
    have ev := bkV_ref et'
    have i1 : TS.intsOf s.heap u = n := by
      rw [eu]
      exact (tupI_raw I ht).ints
    have i2 : TS.intsOf s.heap v = m := by
      rw [ev]
      exact (tupI_raw I ht').ints
    rw [← i1, ← i2]
    exact huv
end
end L2

/-! general words: values of any kind, zips, bars, comparisons -/
namespace Gv
open PySem PySem.Spec PyProof.Rows L2 RZ L5
section
variable {K : PySem.W.Frag} {H H' : Hp}
inductive El (K : PySem.W.Frag) (H : Hp) : V → Option Int → Prop
  | int (i : Int) : El K H (.int i) (some i)
  | bl (b : Bool) : El K H (.bl b) none
  | non : El K H .non none
  | str (x : Str) (h : PyData.strOk x = true) : El K H (.str x) none
  | tup {a : Addr} {t : List Int} (h : SqT K H a (t.map V.int)) : El K H (.ref a) none
theorem El.same (s : Same H H') {v : V} {o : Option Int} (h : El K H v o) : El K H' v o := by
  cases h with
  | int i => exact .int i
  | bl b => exact .bl b
  | non => exact .non
  | str x h => exact .str x h
  | tup h => exact .tup (same_sqt s h)
theorem El.isi {v : V} {o : Option Int} (h : El K H v o) : ∃ t bi bb, TyX K H v t ∧ PySem.W.kitOne K t (.type "int") = some bi ∧ PySem.W.kitOne K t (.type "bool") = some bb ∧ o.isSome = (bi && !bb) ∧ ∀ i, o = some i → v = .int i := by
  cases h with
  | int i => exact ⟨_, true, false, .base (.int i), kit_ty (by decide +kernel), kit_ty (by decide +kernel), rfl, fun j e => by cases e; rfl⟩
  | bl b => exact ⟨_, true, true, .base (.bl b), kit_ty (by decide +kernel), kit_ty (by decide +kernel), rfl, fun j e => by cases e⟩
  | non => exact ⟨_, false, false, .base .non, kit_ty (by decide +kernel), kit_ty (by decide +kernel), rfl, fun j e => by cases e⟩
  | str x _ => exact ⟨_, false, false, .base (.str x), kit_ty (by decide +kernel), kit_ty (by decide +kernel), rfl, fun j e => by cases e⟩
  | tup h => exact ⟨_, false, false, sqt_ty h, kit_ty (by decide +kernel), kit_ty (by decide +kernel), rfl, fun j e => by cases e⟩
abbrev Els (K : PySem.W.Frag) (H : Hp) : List V → List (Option Int) → Prop := Paired (El K H)
theorem Els.same (s : Same H H') : ∀ {vs : List V} {os : List (Option Int)}, Els K H vs os → Els K H' vs os
  | _, _, .nil => .nil
  | _, _, .cons h t => .cons (h.same s) (Els.same s t)
theorem Els.length : ∀ {vs : List V} {os : List (Option Int)}, Els K H vs os → vs.length = os.length
  | _, _, .nil => rfl
  | _, _, .cons _ t => congrArg (· + 1) (Els.length t)
theorem Els.get : ∀ {vs : List V} {os : List (Option Int)} {i : Nat} {v : V}, Els K H vs os → vs[i]? = some v → ∃ o, os[i]? = some o ∧ El K H v o
  | _, _, _, _, .nil, e => by simp at e
  | _, _, 0, _, .cons h _, e => by simp at e; subst e; exact ⟨_, rfl, h⟩
  | _, _, i + 1, v, .cons _ t, e => by
    obtain ⟨u, h1, h2⟩ := Els.get (i := i) (v := v) t (by simpa using e)
    exact ⟨u, by simpa using h1, h2⟩
theorem Els.app : ∀ {vs us : List V} {os ps : List (Option Int)}, Els K H vs os → Els K H us ps → Els K H (vs ++ us) (os ++ ps)
  | _, _, _, _, .nil, s => s
  | _, _, _, _, .cons r t, s => .cons r (Els.app t s)
theorem els_nv : ∀ t : List Nat, Els K H (nv t) (t.map fun n => some ((n : Nat) : Int))
  | [] => .nil
  | n :: t => .cons (.int _) (els_nv t)
inductive Va (K : PySem.W.Frag) (H : Hp) : V → Option (List (Option Int)) → Prop
  | tup {a : Addr} {vs : List V} {os : List (Option Int)} (h : SqT K H a vs) (e : Els K H vs os) (hl : vs.length ≤ 1000) : Va K H (.ref a) (some os)
  | lst {a : Addr} {xs : List V} (h : SqL K H a xs) : Va K H (.ref a) none
  | dic {a : Addr} (h : H a = some (.dK [])) : Va K H (.ref a) none
  | non : Va K H .non none
  | int (i : Int) : Va K H (.int i) none
  | str (x : Str) : Va K H (.str x) none
  | own {a C dx : Addr} {fs : List (Str × V)} (h : H a = some (.ins C dx fs)) (t : ∀ H' : Hp, H' a = some (.ins C dx fs) → TyX K H' (.ref a) (.ref C)) (k : PySem.W.kitOne K (.ref C) (.type "tuple") = some false) : Va K H (.ref a) none
theorem same_sql {a : Addr} {xs : List V} (e : Same H H') (h : SqL K H a xs) : SqL K H' a xs := by
  rcases h with (h | ⟨o, h⟩) | h
  · exact .inl (.inl (e _ _ h))
  · exact .inl (.inr ⟨o, e _ _ h⟩)
  · exact .inr h
theorem sql_ty {a : Addr} {xs : List V} (h : SqL K H a xs) : TyX K H (.ref a) (.type "list") := by
  rcases h with (h | ⟨o, h⟩) | ⟨o, its, n, e, c, _⟩
  · exact .base (.lst h)
  · exact .base (.frz h)
  · exact .kList e c
theorem Va.same (s : Same H H') {v : V} {d : Option (List (Option Int))} (h : Va K H v d) : Va K H' v d := by
  cases h with
  | tup h e hl => exact .tup (same_sqt s h) (e.same s) hl
  | lst h => exact .lst (same_sql s h)
  | dic h => exact .dic (s _ _ h)
  | non => exact .non
  | int i => exact .int i
  | str x => exact .str x
  | own h t k => exact .own (s _ _ h) t k
theorem Va.isi {v : V} {d : Option (List (Option Int))} (h : Va K H v d) : ∃ t, TyX K H v t ∧ PySem.W.kitOne K t (.type "tuple") = some d.isSome := by
  cases h with
  | tup h e hl => exact ⟨_, sqt_ty h, kit_ty (show kitB "tuple" "tuple" = some true by decide +kernel)⟩
  | lst h => exact ⟨_, sql_ty h, kit_ty (by decide +kernel)⟩
  | dic h => exact ⟨_, .base (.dK h), kit_ty (by decide +kernel)⟩
  | non => exact ⟨_, .base .non, kit_ty (by decide +kernel)⟩
  | int i => exact ⟨_, .base (.int i), kit_ty (by decide +kernel)⟩
  | str x => exact ⟨_, .base (.str x), kit_ty (by decide +kernel)⟩
  | own h t k => exact ⟨_, t _ h, k⟩
theorem Va.get {v : V} {os : List (Option Int)} (h : Va K H v (some os)) : ∃ a vs, v = .ref a ∧ SqT K H a vs ∧ Els K H vs os ∧ vs.length ≤ 1000 := by
  cases h with
  | tup h e hl => exact ⟨_, _, rfl, h, e, hl⟩
def inB (o : Option Int) (a b : Int) : Bool := match o with
  | some i => decide (a ≤ i) && decide (i ≤ b)
  | none => false
theorem va_prod {a : Addr} {t : List Nat} (h : SqT K H a (nv t)) (hl : t.length ≤ 1000) : Va K H (.ref a) (some (t.map fun n => some ((n : Nat) : Int))) := .tup h (els_nv t) (by rw [nv_len]; exact hl)
theorem take_more {α : Type} {l : List α} {i : Nat} {x : α} (h : l[i]? = some x) : l.take (i + 1) = l.take i ++ [x] := by
  rw [List.take_add_one, h]
  rfl
abbrev lcTurn (D : Addr) (g : TG) (tt : TT) (te : TE) (vs : List Nat) (σ : L2.St) (Nx : Hp → Prop) (v : V) (H : Hp) : Prop := g v (wipe σ vs) H fun σ2 H2 => wipe σ2 vs = wipe σ vs ∧ tt σ2 H2 fun b H3 =>
  if b = true then te σ2 H3 fun y H4 => ∃ acc, H4 D = some (.lst acc) ∧ acc.length < sizeLine ∧ Nx (upd H4 D (.lst (acc ++ [y]))) else Nx H3
theorem lc_zipT {a b : Addr} {xs ys : List V} {g : TG} {tt : TT} {te : TE} {vs : List Nat} {σ : L2.St} {H1 : Hp} {D : Addr} {Qd : Hp → Prop} (hl : xs.length = ys.length) (Pv : Nat → Hp → Prop) (h0 : Pv 0 (upd H1 D (.lst []))) (hq : ∀ i H, Pv i H → SqT K H a xs ∧ SqT K H b ys)
    (hs : ∀ (i : Nat) (x y : V) (T : Addr) (H : Hp), xs[i]? = some x → ys[i]? = some y → Pv i H → H T = none → lcTurn D g tt te vs σ (Pv (i + 1)) (.ref T) (upd H T (.tup [x, y]))) (hd : ∀ H, Pv xs.length H → Qd H) :
    ∃ W : Nat → Nat → Hp → Prop, (∃ m, W 0 m (upd H1 D (.lst []))) ∧ ∀ i m H0, W i m H0 →
      ((ItzT K a b).stop i H0 ∧ Qd H0) ∨ ((ItzT K a b).go i H0 ∧ ∃ Nx : Hp → Prop, (∀ H', Nx H' → ∃ m', m' < m ∧ W (i + 1) m' H') ∧ ∀ v H', (ItzT K a b).yld i H0 v H' → lcTurn D g tt te vs σ Nx v H') := by
  refine ⟨fun i m H => i + m = xs.length ∧ Pv i H, ⟨xs.length, Nat.zero_add _, h0⟩, fun i m H0 hw => ?_⟩
  obtain ⟨em, pi⟩ := hw
  obtain ⟨ta, tb⟩ := hq i H0 pi
  cases m with
  | zero =>
    have ei : i = xs.length := em
    subst ei
    exact .inl ⟨⟨xs, ys, ta, tb, Or.inl (Nat.le_refl _)⟩, hd H0 pi⟩
  | succ m =>
    have i1 : i < xs.length := by omega
    have i2 : i < ys.length := hl ▸ i1
    refine .inr ⟨⟨xs, ys, _, _, ta, tb, List.getElem?_eq_getElem i1, List.getElem?_eq_getElem i2⟩, Pv (i + 1), fun H' p => ⟨m, Nat.lt_succ_self m, by omega, p⟩, fun v H' out => ?_⟩
    obtain ⟨T, _, _, rfl, free, rfl, fx, fy⟩ := out
    exact hs i _ _ T H0 (fx xs ta) (fy ys tb) pi free
theorem getD_at {t : List Nat} {i : Nat} (h : i < t.length) : t[i]? = some (t.getD i 0) := by
  rw [List.getD_eq_getElem?_getD, List.getElem?_eq_getElem h]
  rfl
theorem nv_take (t : List Nat) (k : Nat) : nv (t.take k) = (nv t).take k := List.map_take
theorem cut_to (xs : List V) (k : Nat) (h : k ≤ xs.length) : cutV xs none (some (k : Int)) = xs.take k := by
  unfold cutV
  rw [show HT.sIx xs.length xs.length (some (k : Int)) = min k xs.length from HT.sIx_nat xs.length xs.length k, HT.sIx_none, Nat.min_eq_left h]
  rfl
def rCatB (K : PySem.W.Frag) : R2 := fun x y H Q => ∃ a b xs ys, x = .ref a ∧ y = .ref b ∧ SqT K H a xs ∧ SqT K H b ys ∧ xs.length + ys.length ≤ sizeLine ∧ ∀ H' z, Same H H' → SqT K H' z (xs ++ ys) → Q (.ref z) H'
theorem op_catB {X : Cx} : OpR X (binaryOp .Add) (rCatB X.K) := by
  intro pins s σ H x y v u Q I rx ry h
  obtain ⟨a, b, xs, ys, rfl, rfl, hx, hy, hz, q⟩ := h
  refine op_catA pins s σ H _ _ v u Q I rx ry ⟨a, b, xs, ys, rfl, rfl, hx, hy, hz, fun e => ?_, fun _ e => ?_, fun _ _ p hp => q _ p (same_new hp _) (SqT.of upd_same)⟩
  · subst e
    exact q H b (Same.refl H) hy
  · subst e
    rw [List.append_nil] at q
    exact q H a (Same.refl H) hx
def rSlB (K : PySem.W.Frag) : V → Option Int → Option Int → Hp → VK → Prop := fun x lo hi H Q => ∃ a xs, x = .ref a ∧ SqT K H a xs ∧ ∀ H' z, Same H H' → SqT K H' z (cutV xs lo hi) → Q (.ref z) H'
theorem sl_tupB {X : Cx} : SlR X (rSlB X.K) := by
  intro pins s σ H x v vl vu lo hi sl Q I rx hs pl pu h
  obtain ⟨a, xs, rfl, hx, q⟩ := h
  refine sl_tupA pins s σ H _ v vl vu lo hi sl Q I rx hs pl pu ⟨a, xs, rfl, hx, fun e => ?_, fun _ p hp => q _ p (same_new hp _) (SqT.of upd_same)⟩
  have e2 : cutV xs lo hi = xs := by
    unfold cutV
    rw [e.1, e.2]
    exact List.take_length
  rw [e2] at q
  exact q H a (Same.refl H) hx
def Bar (p : Addr) (H H' : Hp) : Prop := ∀ b o, b ≠ p → H b = some o → H' b = some o
theorem Bar.trans {p : Addr} {A B C : Hp} (a : Bar p A B) (b : Bar p B C) : Bar p A C := fun c o n h => b c o n (a c o n h)
theorem Bar.same {p : Addr} {A B : Hp} (a : Same A B) : Bar p A B := fun c o _ h => a c o h
theorem Bar.upd {p : Addr} {A : Hp} {o : HO} : Bar p A (upd A p o) := fun c u n h => by
  rw [upd_ne n]
  exact h
theorem passG {X : Cx} : Passes (CX X.prog X.w) X E0 := fun _ _ _ _ _ _ _ c => by
  obtain ⟨_, _, _, _, _, _, _, _, _, _, _, _, no⟩ := c
  exact no.elim
theorem nostop : NoStop K E0 := fun _ _ _ no => no.elim
theorem ref_get {rs : List Addr} {i : Nat} {x : V} (h : (rs.map V.ref)[i]? = some x) : ∃ a, rs[i]? = some a ∧ x = .ref a := by
  rw [List.getElem?_map] at h
  cases e : rs[i]? with
  | none =>
    rw [e] at h
    cases h
  | some n =>
    rw [e] at h
    exact ⟨n, rfl, (Option.some.inj h).symm⟩
theorem mpos {j : Int} (h : (0 : Int) < j) : (0 : Int) < j := h
theorem same_back {H H' : Hp} (s : Same H H') {r : Addr} (h : H' r = none) : H r = none := s.free h
theorem PE.weak {X : Cx} {e : Expr} {t t' : TE} (h : PE X e t) (i : ∀ σ H Q, t' σ H Q → t σ H Q) : PE X e t' := ⟨fun pins s σ H Q I h' => h.run pins s σ H Q I (i σ H Q h')⟩
theorem PT.weak' {X : Cx} {e : Expr} {t t' : TT} (h : PT X e t) (i : ∀ σ H Q, t' σ H Q → t σ H Q) : PT X e t' := ⟨fun pins s σ H Q I h' => h.run pins s σ H Q I (i σ H Q h')⟩
theorem PS.weak' {X : Cx} {st : Stmt} {t t' : TS} (h : PS X st t) (i : ∀ D σ H, t' D σ H → t D σ H) : PS X st t' := ⟨fun pins s σ H D I h' => h.run pins s σ H D I (i D σ H h')⟩
theorem PS.ex {X : Cx} {st : Stmt} {α : Type} {t : α → TS} (h : ∀ x, PS X st (t x)) : PS X st (fun D σ H => ∃ x, t x D σ H) := ⟨fun pins s σ H D I ⟨x, h'⟩ => (h x).run pins s σ H D I h'⟩
theorem shaped_bool (b : Bool) : SeqAt.shaped (.bool b) = true := by cases b <;> decide +kernel
theorem eqv_bool (b : Bool) : PyData.eqv (.bool b) (.bool b) = true := by cases b <;> decide +kernel
theorem dp_ints {K : PySem.W.Frag} {H : Hp} : ∀ l : List Int, DpAll K H (l.map V.int) (l.map PyData.int)
  | [] => .nil
  | i :: l => .cons (.int i) (dp_ints l)
theorem can_ints : ∀ l : List Int, PyData.canLayAll0 (l.map PyData.int) = true ∧ PyData.depthAll (l.map PyData.int) = 0
  | [] => by simp [PyData.canLayAll0, PyData.depthAll]
  | i :: l => by
    obtain ⟨h1, h2⟩ := can_ints l
    constructor
    · rw [List.map_cons, PyData.canLayAll0, h1]
      simp [PyData.canLay0]
    · rw [List.map_cons, PyData.depthAll, h2]
      simp [PyData.depth]
theorem shaped_intsT (l : List Int) : SeqAt.shaped (.tuple (l.map PyData.int)) = true := by
  obtain ⟨h1, h2⟩ := can_ints l
  simp [SeqAt.shaped, PyData.canLay0, PyData.depth, h1, h2]
theorem eqv_intsT (l : List Int) : PyData.eqv (.tuple (l.map PyData.int)) (.tuple (l.map PyData.int)) = true := SeqAt.eqv_refl _ (by
  simp only [PyData.canLay0]
  exact (can_ints l).1)
theorem eqvAll_nats : ∀ t u : List Nat, PyData.eqvAll (t.map fun n => PyData.int ((n : Nat) : Int)) (u.map fun n => PyData.int ((n : Nat) : Int)) = decide (t = u)
  | [], [] => by simp [PyData.eqvAll]
  | [], _ :: _ => by simp [PyData.eqvAll]
  | _ :: _, [] => by simp [PyData.eqvAll]
  | a :: t, b :: u => by
    simp only [List.map_cons, PyData.eqvAll, PyData.eqv, eqvAll_nats t u]
    rw [show (((a : Nat) : Int) == ((b : Nat) : Int)) = decide (a = b) by
      rw [Bool.eq_iff_iff, beq_iff_eq, decide_eq_true_iff]
      omega, ← Bool.decide_and]
    exact decide_eq_decide.mpr (by simp)
theorem eqv_tupE (t u : List Nat) : PyData.eqv (encT t) (encT u) = decide (t = u) := by
  simp only [encT, PyData.eqv]
  exact eqvAll_nats t u
theorem tups_get {H : Hp} {rs : List Addr} {L : List (List Nat)} {i : Nat} {x : V} (hT : Tups K H rs L) (h : (rs.map V.ref)[i]? = some x) : ∃ a t, x = .ref a ∧ rs[i]? = some a ∧ L[i]? = some t ∧ SqT K H a (nv t) := by
  obtain ⟨a, ha, rfl⟩ := ref_get h
  obtain ⟨t, ht, hs⟩ := hT.get ha
  exact ⟨a, t, rfl, ha, ht, hs⟩
theorem any_take_step {l : List Bool} {i : Nat} {b : Bool} (h : l[i]? = some b) : (l.take (i + 1)).any id = ((l.take i).any id || b) := by
  rw [take_more h, List.any_append]
  simp
theorem any_drop {l : List Bool} {i : Nat} (h : (l.take i).any id = true) : l.any id = true := by
  rw [← List.take_append_drop i l, List.any_append, h, Bool.true_or]
theorem eqvAll_tups : ∀ L M : List (List Nat), PyData.eqvAll (L.map encT) (M.map encT) = decide (L = M)
  | [], [] => by simp [PyData.eqvAll]
  | [], _ :: _ => by simp [PyData.eqvAll]
  | _ :: _, [] => by simp [PyData.eqvAll]
  | t :: L, u :: M => by
    rw [List.map_cons, List.map_cons, PyData.eqvAll, eqv_tupE, eqvAll_tups L M, ← Bool.decide_and]
    exact decide_eq_decide.mpr (by simp)
theorem shaped_tupsT (L : List (List Nat)) : SeqAt.shaped (.tuple (L.map encT)) = true := by
  have h := can_tups L
  unfold SeqAt.shaped
  simp only [PyData.canLay0, PyData.depth, h.1, Bool.true_and]
  exact decide_eq_true (by omega)
theorem eqv_tupsSame (L : List (List Nat)) : PyData.eqv (.tuple (L.map encT)) (.tuple (L.map encT)) = true := SeqAt.eqv_refl _ (by
  simp only [PyData.canLay0]
  exact (can_tups L).1)
theorem shaped_natsL (t : List Nat) : SeqAt.shaped (.list (t.map fun n => PyData.int ((n : Nat) : Int))) = true := by
  have g := can_nats t
  unfold SeqAt.shaped
  simp only [PyData.canLay0, PyData.depth, g.1, g.2, Bool.true_and]
  exact decide_eq_true (by omega)
theorem eqv_nilL (l : List PyData) : PyData.eqv (.list l) (.list []) = decide (l = []) := by
  cases l with
  | nil => decide +kernel
  | cons a b =>
    rw [decide_eq_false (List.cons_ne_nil a b)]
    rfl
theorem sorted_one : ∀ {a b : List Int}, a.Perm b → a.Pairwise (· ≤ ·) → b.Pairwise (· ≤ ·) → a = b
  | [], b, p, _, _ => (List.nil_perm.mp p).symm
  | x :: a, [], p, _, _ => absurd p.length_eq (by simp)
  | x :: a, y :: b, p, ha, hb => by
    obtain ⟨a1, a2⟩ := List.pairwise_cons.mp ha
    obtain ⟨b1, b2⟩ := List.pairwise_cons.mp hb
    have e : x = y := by
      have h1 : x ∈ y :: b := p.mem_iff.mp List.mem_cons_self
      have h2 : y ∈ x :: a := p.mem_iff.mpr List.mem_cons_self
      rcases List.mem_cons.mp h1 with h1 | h1
      · exact h1
      · rcases List.mem_cons.mp h2 with h2 | h2
        · exact h2.symm
        · have := b1 x h1
          have := a1 y h2
          omega
    subst e
    rw [sorted_one (List.perm_cons x |>.mp p) a2 b2]
theorem bar_updL {p D : Addr} {o : HO} {H H' : Hp} (b : Bar p H H') (hD : H D = none) : Bar p H (upd H' D o) := fun c u n h => by
  rw [upd_ne (ne_of_none h hD)]
  exact b c u n h
theorem nat_of {i : Int} (h0 : 0 ≤ i) : ∃ n : Nat, i = ((n : Nat) : Int) := ⟨i.toNat, by omega⟩
theorem sqt_but {H H' : Hp} {z a : Addr} {xs ys : List V} (hz : H z = some (.lst ys)) (st : ∀ b o, b ≠ z → H b = some o → H' b = some o) (h : SqT K H a xs) : SqT K H' a xs := by
  have ne : ∀ {o : HO}, H a = some o → o ≠ .lst ys → a ≠ z := fun {o} e n k => by
    rw [k, hz] at e
    exact n (Option.some.inj e).symm
  rcases h with (h | ⟨o, h⟩) | h
  · exact .inl (.inl (st _ _ (ne h fun k => nomatch k) h))
  · exact .inl (.inr ⟨o, st _ _ (ne h fun k => nomatch k) h⟩)
  · exact .inr h
theorem tups_but {H H' : Hp} {z : Addr} {ys : List V} (hz : H z = some (.lst ys)) (st : ∀ b o, b ≠ z → H b = some o → H' b = some o) : ∀ {rs : List Addr} {L : List (List Nat)}, Tups K H rs L → Tups K H' rs L
  | _, _, .nil => .nil
  | _, _, .cons h t => .cons (sqt_but hz st h) (tups_but hz st t)
theorem all_take_step {l : List Bool} {i : Nat} {b : Bool} (h : l[i]? = some b) : (l.take (i + 1)).all id = ((l.take i).all id && b) := by
  rw [take_more h, List.all_append]
  show _ = _
  simp
end
end Gv

/-! tuples of ints, zips of unlike lengths -/
namespace Gv
open PySem PySem.Spec PyProof.Rows L2 RZ L5
section
variable {K : PySem.W.Frag} {H H' : Hp}
abbrev iv (t : List Int) : List V := t.map V.int
theorem iv_len (t : List Int) : (iv t).length = t.length := List.length_map _
theorem iv_app (t u : List Int) : iv (t ++ u) = iv t ++ iv u := List.map_append
theorem iv_get {t : List Int} {i : Nat} {x : V} (h : (iv t)[i]? = some x) : ∃ n, t[i]? = some n ∧ x = .int n := by
  rw [List.getElem?_map] at h
  cases e : t[i]? with
  | none => rw [e] at h; cases h
  | some n => rw [e] at h; exact ⟨n, rfl, (Option.some.inj h).symm⟩
theorem iv_at {t : List Int} {i : Nat} {n : Int} (h : t[i]? = some n) : atI (iv t) (i : Int) = some (.int n) := atI_nat (by rw [List.getElem?_map, h] <;> rfl)
theorem els_iv : ∀ t : List Int, Els K H (iv t) (t.map some)
  | [] => .nil
  | n :: t => .cons (.int n) (els_iv t)
theorem va_iv {a : Addr} {t : List Int} (h : SqT K H a (iv t)) (hl : t.length ≤ 1000) : Va K H (.ref a) (some (t.map some)) := .tup h (els_iv t) (by rw [iv_len]; exact hl)
def intsO (os : List (Option Int)) : List Int := os.map fun o => o.getD 0
theorem ints_back (t : List Int) : intsO (t.map some) = t := by
  unfold intsO
  rw [List.map_map]
  exact (List.map_congr_left fun n _ => rfl).trans (List.map_id _)
theorem els_all {f : Option Int → Bool} (hf : f none = false) : ∀ {vs : List V} {os : List (Option Int)}, Els K H vs os → os.all f = true → vs = iv (intsO os) ∧ os = (intsO os).map some
  | _, _, .nil, _ => ⟨rfl, rfl⟩
  | _, _, .cons (b := o) h t, ha => by
    rw [List.all_cons, Bool.and_eq_true] at ha
    obtain ⟨e1, e2⟩ := els_all hf t ha.2
    cases o with
    | none => rw [hf] at ha; exact absurd ha.1 Bool.false_ne_true
    | some i =>
      obtain ⟨_, _, _, _, _, _, _, e⟩ := h.isi
      obtain rfl := e i rfl
      refine ⟨?_, ?_⟩
      · show _ = V.int i :: iv (intsO _)
        rw [← e1]
      · show _ = some i :: (intsO _).map some
        rw [← e2]
/-! ### many tuples -/
def TupsI (K : PySem.W.Frag) (H : Hp) : List Addr → List (List Int) → Prop := Paired fun a t => SqT K H a (iv t)
theorem TupsI.same (e : Same H H') : ∀ {rs : List Addr} {L : List (List Int)}, TupsI K H rs L → TupsI K H' rs L
  | _, _, .nil => .nil
  | _, _, .cons h t => .cons (same_sqt e h) (TupsI.same e t)
theorem TupsI.updL {p : Addr} {ys : List V} {o : HO} (hp : H p = some (.lst ys)) : ∀ {rs : List Addr} {L : List (List Int)}, TupsI K H rs L → TupsI K (upd H p o) rs L
  | _, _, .nil => .nil
  | _, _, .cons h t => .cons (sqt_updL hp h) (TupsI.updL hp t)
theorem TupsI.length : ∀ {rs : List Addr} {L : List (List Int)}, TupsI K H rs L → rs.length = L.length
  | _, _, .nil => rfl
  | _, _, .cons _ t => congrArg (· + 1) (TupsI.length t)
theorem TupsI.app : ∀ {rs qs : List Addr} {L M : List (List Int)}, TupsI K H rs L → TupsI K H qs M → TupsI K H (rs ++ qs) (L ++ M)
  | _, _, _, _, .nil, s => s
  | _, _, _, _, .cons r t, s => .cons r (TupsI.app t s)
theorem tupsI_get {rs : List Addr} {L : List (List Int)} {i : Nat} {x : V} (hT : TupsI K H rs L) (h : (rs.map V.ref)[i]? = some x) : ∃ a t, x = .ref a ∧ rs[i]? = some a ∧ L[i]? = some t ∧ SqT K H a (iv t) := by
  obtain ⟨a, ha, rfl⟩ := ref_get h
  refine ⟨a, ?_⟩
  have key : ∀ {rs : List Addr} {L : List (List Int)} {i : Nat}, TupsI K H rs L → rs[i]? = some a → ∃ t, L[i]? = some t ∧ SqT K H a (iv t) := fun {rs L} => by
    induction rs generalizing L with
    | nil => intro i _ e; simp at e
    | cons r rs ih =>
      intro i hT e
      cases hT with
      | cons hh tt =>
        cases i with
        | zero =>
          have e2 : r = a := by simpa using e
          subst e2
          exact ⟨_, rfl, hh⟩
        | succ i =>
          obtain ⟨u, h1, h2⟩ := ih (i := i) tt (by simpa using e)
          exact ⟨u, by simpa using h1, h2⟩
  obtain ⟨t, h1, h2⟩ := key hT ha
  exact ⟨t, rfl, ha, h1, h2⟩
abbrev encI (t : List Int) : PyData := .tuple (t.map PyData.int)
theorem dp_tupI {a : Addr} {t : List Int} (h : SqT K H a (iv t)) : Dp K H (.ref a) (encI t) := .tup h (dp_ints t)
theorem dp_tupsI : ∀ {rs : List Addr} {L : List (List Int)}, TupsI K H rs L → DpAll K H (rs.map V.ref) (L.map encI)
  | _, _, .nil => .nil
  | _, _, .cons h t => .cons (dp_tupI h) (dp_tupsI t)
end
theorem can_tupsI : ∀ L : List (List Int), PyData.canLayAll0 (L.map encI) = true ∧ PyData.depthAll (L.map encI) ≤ 1
  | [] => by simp [PyData.canLayAll0, PyData.depthAll]
  | t :: L => by
    obtain ⟨h1, h2⟩ := can_tupsI L
    obtain ⟨h3, h4⟩ := can_ints t
    constructor
    · rw [List.map_cons, PyData.canLayAll0, h1, PyData.canLay0, h3]
      rfl
    · rw [List.map_cons, PyData.depthAll, PyData.depth, h4]
      omega
theorem shaped_tupsIT (L : List (List Int)) : SeqAt.shaped (.tuple (L.map encI)) = true := by
  obtain ⟨h1, h2⟩ := can_tupsI L
  simp [SeqAt.shaped, PyData.canLay0, PyData.depth, h1]
  omega
theorem shaped_tupsIL (L : List (List Int)) : SeqAt.shaped (.list (L.map encI)) = true := by
  obtain ⟨h1, h2⟩ := can_tupsI L
  simp [SeqAt.shaped, PyData.canLay0, PyData.depth, h1]
  omega
theorem eqvAll_ints : ∀ t u : List Int, PyData.eqvAll (t.map PyData.int) (u.map PyData.int) = decide (t = u)
  | [], [] => by simp [PyData.eqvAll]
  | [], _ :: _ => by simp [PyData.eqvAll]
  | _ :: _, [] => by simp [PyData.eqvAll]
  | a :: t, b :: u => by
    rw [List.map_cons, List.map_cons, PyData.eqvAll, eqvAll_ints t u]
    have e : PyData.eqv (.int a) (.int b) = decide (a = b) := by
      simp only [PyData.eqv]
      rfl
    rw [e, ← Bool.decide_and]
    exact decide_eq_decide.mpr ⟨fun h => by rw [h.1, h.2], fun h => by cases h; exact ⟨rfl, rfl⟩⟩
theorem eqv_tupIE (t u : List Int) : PyData.eqv (encI t) (encI u) = decide (t = u) := by
  simp only [PyData.eqv]
  exact eqvAll_ints t u
theorem eqv_tupsIT (L : List (List Int)) : PyData.eqv (.tuple (L.map encI)) (.tuple (L.map encI)) = true := SeqAt.eqv_refl _ (by
  simp only [PyData.canLay0]
  exact (can_tupsI L).1)
section
variable {K : PySem.W.Frag} {H H' : Hp}
/-! ### a comprehension over zip of two tuples -/
theorem lc_zipM {a b : Addr} {xs ys : List V} {g : TG} {tt : TT} {te : TE} {vs : List Nat} {σ : L2.St} {H1 : Hp} {D : Addr} {Qd : Hp → Prop} (n : Nat) (hn : n = min xs.length ys.length) (Pv : Nat → Hp → Prop) (h0 : Pv 0 (upd H1 D (.lst []))) (hq : ∀ i H, Pv i H → SqT K H a xs ∧ SqT K H b ys)
    (hs : ∀ (i : Nat) (x y : V) (T : Addr) (H : Hp), xs[i]? = some x → ys[i]? = some y → Pv i H → H T = none → lcTurn D g tt te vs σ (Pv (i + 1)) (.ref T) (upd H T (.tup [x, y]))) (hd : ∀ H, Pv n H → Qd H) :
    ∃ W : Nat → Nat → Hp → Prop, (∃ m, W 0 m (upd H1 D (.lst []))) ∧ ∀ i m H0, W i m H0 →
      ((ItzT K a b).stop i H0 ∧ Qd H0) ∨ ((ItzT K a b).go i H0 ∧ ∃ Nx : Hp → Prop, (∀ H', Nx H' → ∃ m', m' < m ∧ W (i + 1) m' H') ∧ ∀ v H', (ItzT K a b).yld i H0 v H' → lcTurn D g tt te vs σ Nx v H') := by
  refine ⟨fun i m H => i + m = n ∧ Pv i H, ⟨n, Nat.zero_add _, h0⟩, fun i m H0 hw => ?_⟩
  obtain ⟨em, pi⟩ := hw
  obtain ⟨ta, tb⟩ := hq i H0 pi
  cases m with
  | zero =>
    have ei : i = n := em
    subst ei
    exact .inl ⟨⟨xs, ys, ta, tb, by omega⟩, hd H0 pi⟩
  | succ m =>
    have i1 : i < xs.length := by omega
    have i2 : i < ys.length := by omega
    refine .inr ⟨⟨xs, ys, _, _, ta, tb, List.getElem?_eq_getElem i1, List.getElem?_eq_getElem i2⟩, Pv (i + 1), fun H' p => ⟨m, Nat.lt_succ_self m, by omega, p⟩, fun v H' out => ?_⟩
    obtain ⟨T, _, _, rfl, free, rfl, fx, fy⟩ := out
    exact hs i _ _ T H0 (fx xs ta) (fy ys tb) pi free
/-! ### pairs of ints -/
abbrev zbI (f : Int → Int → Bool) (t u : List Int) : List Bool := List.zipWith f t u
theorem zbI_get {f : Int → Int → Bool} {t u : List Int} {i : Nat} {n m : Int} (h1 : t[i]? = some n) (h2 : u[i]? = some m) : (zbI f t u)[i]? = some (f n m) := by
  rw [List.getElem?_zipWith, h1, h2]
theorem zbI_len {f : Int → Int → Bool} {t u : List Int} : (zbI f t u).length = min t.length u.length := List.length_zipWith
theorem cut_tailI (u : List Int) : cutV (iv u) (some 1) none = iv (u.drop 1) := by
  unfold cutV
  rw [show HT.sIx (iv u).length 0 (some 1) = min 1 (iv u).length from HT.sIx_nat _ _ 1, HT.sIx_none]
  cases u with
  | nil => rfl
  | cons a r =>
    show List.take _ (List.drop (min 1 (r.length.succ)) _) = _
    rw [iv_len]
    show List.take (r.length + 1 - min 1 (r.length + 1)) (List.drop (min 1 (r.length + 1)) (V.int _ :: iv r)) = iv r
    rw [show min 1 (r.length + 1) = 1 by omega]
    show List.take r.length (iv r) = iv r
    exact List.take_of_length_le (by rw [iv_len]; exact Nat.le_refl _)
theorem cut_toI (u : List Int) (k : Nat) (h : k ≤ u.length) : cutV (iv u) none (some (k : Int)) = iv (u.take k) := by
  rw [cut_to _ _ (by rw [iv_len]; exact h)]
  exact List.map_take.symm
theorem cut_fromI (u : List Int) (k : Nat) : cutV (iv u) (some (k : Int)) none = iv (u.drop k) := by
  unfold cutV
  rw [show HT.sIx (iv u).length 0 (some (k : Int)) = min k (iv u).length from HT.sIx_nat _ _ k, HT.sIx_none]
  by_cases h : k ≤ u.length
  · rw [iv_len, Nat.min_eq_left h, List.take_of_length_le (by rw [List.length_drop, iv_len]; exact Nat.le_refl _)]
    exact List.map_drop.symm
  · rw [iv_len, Nat.min_eq_right (by omega), Nat.sub_self, List.take_zero, List.drop_of_length_le (show u.length ≤ k by omega)]
    rfl
theorem cut_initI (u : List Int) : cutV (iv u) none (some (-1)) = iv (u.take (u.length - 1)) := by
  unfold cutV
  rw [HT.sIx_none, List.drop_zero, iv_len]
  show List.take _ _ = List.map _ _
  rw [List.map_take]
  congr 1
  show (if (-1 : Int) < 0 then ((-1 : Int) + ((u.length : Nat) : Int)).toNat else min (-1 : Int).toNat u.length) - 0 = _
  rw [if_pos (by decide)]
  omega
end
end Gv

namespace K14
open PySem PySem.Spec PyProof.Rows L2 RZ L5 R7 XX
section
variable {K : PySem.W.Frag} {H : Hp}
theorem els_ints : ∀ {vs : List V} {os : List (Option Int)}, Els K H vs os → (os.all fun o => o.isSome) = true → vs = (os.map fun o => o.getD 0).map V.int ∧ os = (os.map fun o => o.getD 0).map some
  | _, _, .nil, _ => ⟨rfl, rfl⟩
  | _, _, @Paired.cons _ _ _ v o vs os h t, ha => by
    rw [List.all_cons, Bool.and_eq_true] at ha
    obtain ⟨e1, e2⟩ := els_ints t ha.2
    cases o with
    | none => cases ha.1
    | some i =>
      obtain ⟨_, _, _, _, _, _, _, e⟩ := h.isi
      obtain rfl := e i rfl
      exact ⟨congrArg (V.int i :: ·) e1, congrArg (some i :: ·) e2⟩
end
def lensL (S : List (List Nat)) : List Int := S.map fun c => ((c.length : Nat) : Int)
theorem lens_big {S : List (List Nat)} {m : Int} (h0 : lensL S = [] → m = -1) (h : lensL S ≠ [] → m ∈ lensL S ∧ ∀ y ∈ lensL S, y ≤ m) : m = bigL S := by
  refine big_is (fun e => h0 (by rw [e]; rfl)) fun n => ?_
  obtain ⟨h1, h2⟩ := h (fun e => n (List.map_eq_nil_iff.mp e))
  obtain ⟨c, hc, e⟩ := List.mem_map.mp h1
  exact ⟨⟨c, hc, e.symm⟩, fun c hc => h2 _ (List.mem_map_of_mem hc)⟩
abbrev encN (c : List Nat) : List Int := c.map fun n => ((n : Nat) : Int)
theorem encT_I (c : List Nat) : encT c = Gv.encI (encN c) := by
  show PyData.tuple _ = PyData.tuple _
  rw [List.map_map]
  rfl
/-- what is_free_set tells of a value -/
def isfB (o : Option (List (Option Int))) (S : List (List Nat)) : Bool := match o with
  | none => false
  | some os => (os.all fun o => o.isSome) && S.any fun c => decide ((c.map fun n => some ((n : Nat) : Int)) = os)
theorem any_enc (S : List (List Nat)) (u : List Int) : ((S.map encT).any fun z => PyData.eqv z (Gv.encI u)) = S.any fun c => decide ((c.map fun n => some ((n : Nat) : Int)) = u.map some) := by
  rw [List.any_map]
  congr 1
  funext c
  show PyData.eqv (encT c) (Gv.encI u) = _
  rw [encT_I, Gv.eqv_tupIE]
  refine decide_eq_decide.mpr ⟨fun h => ?_, fun h => ?_⟩
  · rw [← h, List.map_map]
    rfl
  · have h2 := congrArg (List.map fun o : Option Int => o.getD 0) h
    rw [List.map_map, List.map_map] at h2
    have e : (u.map ((fun o : Option Int => o.getD 0) ∘ some)) = u := List.map_id' u
    rw [e] at h2
    exact h2
section
variable {P : Program} {w : World} {K : PySem.W.Frag} {mg : Str → Option Value} {base : Heap}
def sp_size (K : PySem.W.Frag) : Sp := fun vs H Q _ => ∃ (l : Addr) (rs : List Addr) (S : List (List Nat)), vs = [.ref l] ∧ SqL K H l (rs.map V.ref) ∧ Tups K H rs S ∧ S.length ≤ 256 ∧ ∀ H', Same H H' → Q (.int (bigL S)) H'
theorem ok_size (T : Txt K mg) : FnOk P w K mg base CX0 1 T.a_greatest_size T.d_greatest_size ["sets"] (sp_size K) := by
  refine T.F_greatest_size.ok sc_greatest_size (fun vs H Q E h => ?_) (fun cdv A outer s H vs Q E hr h => ?_)
  · obtain ⟨l, rs, S, rfl, _⟩ := h
    rfl
  · obtain ⟨l, rs, S, rfl, hA, hS, hn, q⟩ := h
    refine ⟨_, pss_one (ps_ret (pe_callBK (W14.cr_maxDef rfl hr.units) (by rfl) T.z_max boot_max (pa_cons
      (pe_lc (own := [("chosen", 1)]) (g := gName 1) (tt := tYes) rfl sc_greatest_size.nd (pi_list (pv 0)) (blkOk_by (own := [("chosen", 1)]) (N := N_greatest_size) (sc := defScope s_greatest_size) (by decide +kernel))
        (fun _ _ _ _ _ => pg_name (i := 1) sc_greatest_size.nd rfl (Or.inl rfl)) (fun _ _ _ _ _ => pts_nil)
        (fun _ _ _ _ _ => pe_callB (show CallR _ _ (fun xs H Q => ∃ p ys, xs = [V.ref p] ∧ (SqL K H p ys ∨ SqT K H p ys) ∧ Q (V.int ((ys.length : Nat) : Int)) H) from call_len_seq) (by rfl) T.z_len boot_len (pa_cons (pv 1) pa_nil))) pa_nil)
      (pk_cons (pe_un un_neg pe_int) pk_nil))), ?_⟩
    have hrl : rs.length = _ := hS.length
    refine ⟨_, rfl, l, rfl, ⟨_, hA⟩, fun D hD => ?_⟩
    have sD := same_new hD (.lst [])
    refine lc_list (K := K) (a := l) (xs := rs.map V.ref) (fun i H' => Same H H' ∧ H' D = some (.lst (((lensL S).take i).map V.int))) ⟨sD, upd_same⟩ (fun i H' _ hh => same_sql hh.1 hA) (fun i x H2 hx hh => ?_) (fun H2 hh => ?_)
    · obtain ⟨s4, eD⟩ := hh
      obtain ⟨c, t, rfl, _, ht, hs⟩ := tups_get (hS.same s4) hx
      have hlt : i < S.length := (List.getElem?_eq_some_iff.mp ht).1
      refine ⟨rfl, _, rfl, c, _, rfl, .inr hs, ?_⟩
      refine ⟨_, eD, by rw [List.length_map, List.length_take]; unfold lensL; rw [List.length_map]; exact sizeK (by omega), same_updL s4 hD, ?_⟩
      have hl : (lensL S)[i]? = some ((t.length : Nat) : Int) := by
        unfold lensL
        rw [List.getElem?_map, ht]
        rfl
      rw [upd_same, take_more hl, List.map_append, nv_len]
      rfl
    · obtain ⟨s4, eD⟩ := hh
      have el : (rs.map V.ref).length = (lensL S).length := by
        unfold lensL
        rw [List.length_map, List.length_map, hrl]
      rw [el, List.take_length] at eD
      refine ⟨_, rfl, D, lensL S, -1, rfl, rfl, SqL.of eD, fun m h0 h1 => ?_⟩
      rw [lens_big h0 h1]
      exact q H2 s4
def sp_fs (K : PySem.W.Frag) : Sp := fun vs H Q _ => ∃ (d : Nat) (l : Addr) (rs : List Addr) (L : List (List Nat)), vs = [.int ((d : Nat) : Int), .ref l] ∧ d ≤ 8 ∧ SqA K H l (rs.map V.ref) ∧ Tups K H rs L ∧ (∀ t ∈ L, t.length ≤ 8) ∧
  ∀ H' z qs, Same H H' → SqL K H' z (qs.map V.ref) → Tups K H' qs (freeS d L) → Q (.ref z) H'
theorem free_few {d : Nat} (L : List (List Nat)) (h : d ≤ 8) : (freeS d L).length ≤ 256 := Nat.le_trans (List.length_filter_le _ _) (sets_few h)
theorem ok_fs (T : Txt K mg) : FnOk P w K mg base CX0 2 T.a_free_sets T.d_free_sets ["letters", "members"] (sp_fs K) := by
  refine T.F_free_sets.ok sc_free_sets (fun vs H Q E h => ?_) (fun cdv A outer s H vs Q E hr h => ?_)
  · obtain ⟨d, l, rs, L, rfl, _⟩ := h
    rfl
  · obtain ⟨d, l, rs, L, rfl, hd, hA, hL, h8, q⟩ := h
    refine ⟨_, pss_one (ps_ret (pe_lc (own := [("chosen", 2)]) (g := gName 2) rfl sc_free_sets.nd (pi_list (pe_call (ok_sets T) hr (by rfl) T.m_letter_sets T.F_letter_sets.kp T.b_letter_sets .nil pass0 (pa_cons (pv 0) pa_nil))) (blkOk_by (own := [("chosen", 2)]) (N := N_free_sets) (sc := defScope s_free_sets) (by decide +kernel))
        (fun _ _ _ _ _ => pg_name (i := 2) sc_free_sets.nd rfl (Or.inl rfl))
        (fun _ _ _ _ _ => pts_one (pt_val (pe_call (ok_free T) hr (by rfl) T.m_is_free T.F_is_free.kp T.b_is_free .nil pass0 (pa_cons (pv 2) (pa_cons (pv 1) pa_nil)))))
        (fun _ _ _ _ _ => pv 2))), ?_⟩
    refine ⟨_, rfl, d, rfl, hd, fun H1 z es s1 hz hT => ?_⟩
    refine ⟨z, rfl, ⟨_, hz⟩, fun D hD => ?_⟩
    have sD := same_new hD (.lst [])
    have hel : es.length = _ := hT.length
    have hfew := sets_few hd
    refine lc_list (K := K) (a := z) (xs := es.map V.ref) (fun i H' => Same H1 H' ∧ ∃ qs : List Addr, H' D = some (.lst (qs.map V.ref)) ∧ Tups K H' qs (((setsL d).take i).filter fun c => freeB c L)) ⟨sD, [], upd_same, .nil⟩ (fun i H' _ hh => same_sql hh.1 hz) (fun i x H2 hx hh => ?_) (fun H2 hh => ?_)
    · obtain ⟨s4, qs, eD, hQ⟩ := hh
      obtain ⟨c, t, rfl, _, ht, hs⟩ := tups_get hT hx
      have hql : qs.length ≤ 256 := by
        have e1 : qs.length = _ := hQ.length
        have e2 := List.length_filter_le (fun c => freeB c L) ((setsL d).take i)
        rw [List.length_take] at e2
        omega
      have S4 := s1.trans s4
      refine ⟨rfl, _, rfl, _, rfl, c, l, t, rs, L, rfl, same_sqt s4 hs, hA.same S4, hL.same S4, h8, fun H3 s3 => ⟨_, rfl, ?_⟩⟩
      have hs3 := same_sqt (s4.trans s3) hs
      refine ite2 (fun cb => ?_) (fun cb => ?_)
      · refine ⟨_, rfl, _, s3 _ _ eD, by rw [List.length_map]; exact sizeK (by omega), same_updL (s4.trans s3) hD, qs ++ [c], by rw [upd_same, List.map_append]; rfl, ?_⟩
        rw [filtN_yes (f := fun c => freeB c L) ht cb]
        exact ((hQ.same s3).updL (s3 _ _ eD)).app (.cons (sqt_updL (s3 _ _ eD) hs3) .nil)
      · refine ⟨s4.trans s3, qs, s3 _ _ eD, ?_⟩
        rw [filtN_no (f := fun c => freeB c L) ht (Bool.eq_false_iff.mpr cb)]
        exact hQ.same s3
    · obtain ⟨s4, qs, eD, hQ⟩ := hh
      rw [List.length_map, hel, List.take_length] at hQ
      exact q H2 D qs (s1.trans s4) (SqL.of eD) hQ
end
end K14

namespace K14
open PySem PySem.Spec PyProof.Rows L2 RZ L5 R7 XX
theorem big_few {S : List (List Nat)} (h : S.length ≤ 256) : (bigS S).length ≤ 256 := Nat.le_trans (List.length_filter_le _ _) h
theorem lots_len {L : List (List Nat)} {d : Nat} (h8 : d ≤ 8) (h : ∀ t ∈ L, t.length = d) : ∀ t ∈ L, t.length ≤ 8 := fun t ht => by
  rw [h t ht]
  exact h8
section
variable {P : Program} {w : World} {K : PySem.W.Frag} {mg : Str → Option Value} {base : Heap}
/-- a lot of these members in d letters -/
def sp_gfs (K : PySem.W.Frag) (C CR : Addr) : Sp := fun vs H Q E => ∃ (a : Addr) (d : Nat) (L : List (List Nat)), vs = [.ref a] ∧ LotAt K C H a d L ∧ d ≤ 8 ∧ (∀ t ∈ L, t.length = d) ∧
  (freeS d L = [] → ∀ H' dd z, Same H H' → SqT K H' z [.str "all"] → H' dd = some (.xd [("reason", .ref z)]) → E (.ref CR) (some dd) H') ∧
  (freeS d L ≠ [] → ∀ H' z qs, Same H H' → SqL K H' z (qs.map V.ref) → Tups K H' qs (bigS (freeS d L)) → Q (.ref z) H')
theorem ok_gfs (G : LotsT K mg) : FnOk P w K mg base (L2.CX P w) 3 G.T.a_greatest_free_sets G.T.d_greatest_free_sets ["lot"] (sp_gfs K G.O.C G.T.C_Refused) := by
  refine G.T.F_greatest_free_sets.okX sc_greatest_free_sets (fun vs H Q E h => ?_) (fun cdv A outer s H vs Q E hr h => ?_)
  · obtain ⟨a, d, L, rfl, _⟩ := h
    rfl
  · obtain ⟨a, d, L, rfl, hA, hd, hl, qe, q⟩ := h
    refine ⟨_, pss_cons (ps_set (i := 1) sc_greatest_free_sets.nd rfl (Or.inl rfl) (pe_call (ok_fs G.T) hr (by rfl) G.T.m_free_sets G.T.F_free_sets.kp G.T.b_free_sets .nil pass0 (pa_cons (pe_prop (E := E0) (pv 0) G.O.cl G.R.PL (ok_ltr G.O G.R) (hr.mono (by decide)) G.R.bL .nil pass0 rfl) (pa_cons (pe_prop (E := E0) (pv 0) G.O.cl G.R.PM (ok_mem G.O G.R) (hr.mono (by decide)) G.R.bM .nil pass0 rfl) pa_nil))))
      (pss_cons (ps_if (pt_not (pt_truth (pv 1) (fun _ => rfl))) (pss_one (ps_raise rfl (takes_of rfl rfl rfl rfl) (pmk_oexB PySem.F.excBase_ArithmeticError G.T.o_Refused G.T.i_Refused G.T.ti_Refused (ok_iniR G.T) (hr.mono (by decide)) G.T.b_Refused .nil pass0 (by rfl) G.T.g_Refused (pa_cons (pe_tup (pa_cons pe_str pa_nil)) pa_nil)))) pss_nil)
      (pss_cons (ps_set (i := 2) sc_greatest_free_sets.nd rfl (Or.inr rfl) (pe_call (ok_size G.T) (hr.mono (by decide)) (by rfl) G.T.m_greatest_size G.T.F_greatest_size.kp G.T.b_greatest_size .nil pass0 (pa_cons (pv 1) pa_nil)))
      (pss_one (ps_ret (pe_lc (own := [("chosen", 3)]) (g := gName 3) rfl sc_greatest_free_sets.nd (pi_list (pv 1)) (blkOk_by (own := [("chosen", 3)]) (N := N_greatest_free_sets) (sc := defScope s_greatest_free_sets) (by decide +kernel))
        (fun _ _ _ _ _ => pg_name (i := 3) sc_greatest_free_sets.nd rfl (Or.inl rfl))
        (fun _ _ _ _ _ => pts_one (pt_cmpR (show OpR _ _ rEq from op_eq) (pe_callB (show CallR _ _ (fun xs H Q => ∃ p ys, xs = [V.ref p] ∧ (SqL K H p ys ∨ SqT K H p ys) ∧ Q (V.int ((ys.length : Nat) : Int)) H) from call_len_seq) (by rfl) G.T.z_len boot_len (pa_cons (pv 3) pa_nil)) (pv 2) (nomark _)))
        (fun _ _ _ _ _ => pv 3)))))), ?_⟩
    have hA0 := hA
    obtain ⟨dx, m, rs, h1, h2, h3⟩ := hA0
    refine ⟨_, rfl, a, dx, _, rfl, h1, a, d, L, rfl, hA, ?_⟩
    refine ⟨_, rfl, a, dx, _, rfl, h1, a, d, L, rfl, hA, fun m2 rs2 hm2 hT2 => ?_⟩
    refine ⟨d, m2, rs2, L, rfl, hd, .inr hm2, hT2, lots_len hd hl, fun H1 z qs s1 hz hQ => ?_⟩
    have hf := free_few L hd
    refine ⟨_, rfl, _, .inl ⟨_, hz, rfl⟩, ?_⟩
    have ee : (qs.map V.ref).isEmpty = (freeS d L).isEmpty := by
      have e1 : qs.length = (freeS d L).length := hQ.length
      rw [Bool.eq_iff_iff, List.isEmpty_iff_length_eq_zero, List.isEmpty_iff_length_eq_zero, List.length_map, e1]
    rw [ee]
    by_cases hn0 : freeS d L = []
    · have e0 : (freeS d L).isEmpty = true := by rw [hn0]; rfl
      rw [e0]
      refine iteT ⟨by show 1 ≤ sizeLine; decide, fun t ht => ⟨by show 1 ≤ 1000; decide, fun x hx => ini_made True.intro hx fun H' dd sm hd2 => ?_⟩⟩
      exact qe hn0 H' dd t (s1.trans ((same_new ht _).trans sm)) (same_sqt sm (SqT.of upd_same)) hd2
    · have hne : freeS d L ≠ [] := hn0
      have e0 : (freeS d L).isEmpty = false := by
        cases e1 : (freeS d L).isEmpty with
        | false => rfl
        | true => exact absurd (List.isEmpty_iff.mp e1) hn0
      rw [e0]
      refine iteF ⟨_, rfl, z, qs, freeS d L, rfl, hz, hQ, hf, fun H2 s2 => ?_⟩
      have hz2 := same_sql s2 hz
      have hQ2 := hQ.same s2
      have hql : qs.length = _ := hQ2.length
      refine ⟨_, rfl, z, rfl, ⟨_, hz2⟩, fun D hD => ?_⟩
      have sD := same_new hD (.lst [])
      refine lc_list (K := K) (a := z) (xs := qs.map V.ref) (fun i H' => Same H2 H' ∧ ∃ es : List Addr, H' D = some (.lst (es.map V.ref)) ∧ Tups K H' es (((freeS d L).take i).filter fun c => decide (((c.length : Nat) : Int) = bigL (freeS d L)))) ⟨sD, [], upd_same, .nil⟩ (fun i H' _ hh => same_sql hh.1 hz2) (fun i x H3 hx hh => ?_) (fun H3 hh => ?_)
      · obtain ⟨s4, es, eD, hE⟩ := hh
        obtain ⟨c, t, rfl, _, ht, hs⟩ := tups_get (hQ2.same s4) hx
        have hel : es.length ≤ 256 := by
          have e1 : es.length = _ := hE.length
          have e2 := List.length_filter_le (fun c : List Nat => decide (((c.length : Nat) : Int) = bigL (freeS d L))) ((freeS d L).take i)
          rw [List.length_take] at e2
          omega
        refine ⟨rfl, _, rfl, c, _, rfl, .inr hs, _, rfl, rfl, _, rfl, ?_⟩
        rw [nv_len]
        have ed : decide (V.int ((t.length : Nat) : Int) = V.int (bigL (freeS d L))) = decide (((t.length : Nat) : Int) = bigL (freeS d L)) := decide_eq_decide.mpr ⟨fun h => V.int.inj h, fun h => by rw [h]⟩
        rw [ed]
        refine ite2 (fun cb => ?_) (fun cb => ?_)
        · refine ⟨_, rfl, _, eD, by rw [List.length_map]; exact sizeK (by omega), same_updL s4 hD, es ++ [c], by rw [upd_same, List.map_append]; rfl, ?_⟩
          rw [filtN_yes (f := fun c : List Nat => decide (((c.length : Nat) : Int) = bigL (freeS d L))) ht cb]
          exact (hE.updL eD).app (.cons (sqt_updL eD hs) .nil)
        · refine ⟨s4, es, eD, ?_⟩
          rw [filtN_no (f := fun c : List Nat => decide (((c.length : Nat) : Int) = bigL (freeS d L))) ht (Bool.eq_false_iff.mpr cb)]
          exact hE
      · obtain ⟨s4, es, eD, hE⟩ := hh
        rw [List.length_map, hql, List.take_length] at hE
        exact q hne H3 D es (s1.trans (s2.trans s4)) (SqL.of eD) hE
def sp_dim (K : PySem.W.Frag) (C : Addr) : Sp := fun vs H Q _ => ∃ (a : Addr) (d : Nat) (L : List (List Nat)), vs = [.ref a] ∧ LotAt K C H a d L ∧ d ≤ 8 ∧ (∀ t ∈ L, t.length = d) ∧ ∀ H', Same H H' → Q (.int (bigL (freeS d L))) H'
theorem ok_dim (G : LotsT K mg) : FnOk P w K mg base CX0 3 G.T.a_dimension G.T.d_dimension ["lot"] (sp_dim K G.O.C) := by
  refine G.T.F_dimension.ok sc_dimension (fun vs H Q E h => ?_) (fun cdv A outer s H vs Q E hr h => ?_)
  · obtain ⟨a, d, L, rfl, _⟩ := h
    rfl
  · obtain ⟨a, d, L, rfl, hA, hd, hl, q⟩ := h
    refine ⟨_, pss_cons (ps_expr (pe_call (ok_chl G) (hr.mono (by decide)) (by rfl) G.T.m_check_lot G.T.F_check_lot.kp G.T.b_check_lot .nil pass0 (pa_cons (pv 0) pa_nil)))
      (pss_one (ps_ret (pe_call (ok_size G.T) (hr.mono (by decide)) (by rfl) G.T.m_greatest_size G.T.F_greatest_size.kp G.T.b_greatest_size .nil pass0 (pa_cons
        (pe_call (ok_fs G.T) hr (by rfl) G.T.m_free_sets G.T.F_free_sets.kp G.T.b_free_sets .nil pass0 (pa_cons (pe_prop (E := E0) (pv 0) G.O.cl G.R.PL (ok_ltr G.O G.R) (hr.mono (by decide)) G.R.bL .nil pass0 rfl) (pa_cons (pe_prop (E := E0) (pv 0) G.O.cl G.R.PM (ok_mem G.O G.R) (hr.mono (by decide)) G.R.bM .nil pass0 rfl) pa_nil))) pa_nil)))), ?_⟩
    have hA0 := hA
    obtain ⟨dx, m, rs, h1, h2, h3⟩ := hA0
    refine ⟨_, rfl, a, d, L, rfl, hA, ?_⟩
    refine ⟨_, rfl, a, dx, _, rfl, h1, a, d, L, rfl, hA, ?_⟩
    refine ⟨_, rfl, a, dx, _, rfl, h1, a, d, L, rfl, hA, fun m2 rs2 hm2 hT2 => ?_⟩
    refine ⟨d, m2, rs2, L, rfl, hd, .inr hm2, hT2, lots_len hd hl, fun H1 z qs s1 hz hQ => ?_⟩
    exact ⟨z, qs, freeS d L, rfl, hz, hQ, free_few L hd, fun H2 s2 => q H2 (s1.trans s2)⟩
def sp_fset (K : PySem.W.Frag) (C CR : Addr) : Sp := fun vs H Q E => ∃ (a : Addr) (d : Nat) (L : List (List Nat)), vs = [.ref a] ∧ LotAt K C H a d L ∧ d ≤ 8 ∧ (∀ t ∈ L, t.length = d) ∧
  (freeS d L = [] → ∀ H' dd z, Same H H' → SqT K H' z [.str "all"] → H' dd = some (.xd [("reason", .ref z)]) → E (.ref CR) (some dd) H') ∧
  (freeS d L ≠ [] → ∀ H' z c, Same H H' → SqT K H' z (nv c) → c ∈ bigS (freeS d L) → Q (.ref z) H')
theorem ok_fset (G : LotsT K mg) : FnOk P w K mg base (L2.CX P w) 4 G.T.a_free_set G.T.d_free_set ["lot"] (sp_fset K G.O.C G.T.C_Refused) := by
  refine G.T.F_free_set.okX sc_free_set (fun vs H Q E h => ?_) (fun cdv A outer s H vs Q E hr h => ?_)
  · obtain ⟨a, d, L, rfl, _⟩ := h
    rfl
  · obtain ⟨a, d, L, rfl, hA, hd, hl, qe, q⟩ := h
    refine ⟨_, pss_cons (ps_expr (pe_call (ok_chl G) (hr.mono (by decide)) (by rfl) G.T.m_check_lot G.T.F_check_lot.kp G.T.b_check_lot .nil pass0 (pa_cons (pv 0) pa_nil)))
      (pss_one (ps_ret (pe_ix ix_list (pe_call (ok_gfs G) hr (by rfl) G.T.m_greatest_free_sets G.T.F_greatest_free_sets.kp G.T.b_greatest_free_sets .nil (passes_call (takes_of rfl rfl rfl rfl) fun _ _ _ _ z => z) (pa_cons (pv 0) pa_nil)) pe_int (fun _ _ => rfl)))), ?_⟩
    refine ⟨_, rfl, a, d, L, rfl, hA, ?_⟩
    refine ⟨_, rfl, a, d, L, rfl, hA, hd, hl, qe, fun hne H1 z qs s1 hz hQ => ?_⟩
    obtain ⟨c, r, e⟩ := big_head hne
    rw [e] at hQ
    cases hQ with
    | @cons b _ bs _ hb hr2 =>
      refine ⟨z, _, _, .ref b, rfl, rfl, hz, atI_nat (xs := (b :: bs).map V.ref) (j := 0) (v := .ref b) rfl, ?_⟩
      exact q hne H1 b c s1 hb (by rw [e]; exact List.mem_cons_self)
theorem room65 {k : Nat} {B : Around} (r : Room k B) : B.units + 65 < cLine := by
  have := r.un
  omega
def sp_isf (K : PySem.W.Frag) (C : Addr) : Sp := fun vs H Q _ => ∃ (a : Addr) (v : V) (o : Option (List (Option Int))) (d : Nat) (L : List (List Nat)), vs = [.ref a, v] ∧ LotAt K C H a d L ∧ d ≤ 8 ∧ (∀ t ∈ L, t.length = d) ∧ freeS d L ≠ [] ∧ Va K H v o ∧ ∀ H', Same H H' → Q (.bl (isfB o (bigS (freeS d L)))) H'
theorem ok_isf (G : LotsT K mg) : FnOk P w K mg base CX0 4 G.T.a_is_free_set G.T.d_is_free_set ["lot", "value"] (sp_isf K G.O.C) := by
  refine G.T.F_is_free_set.ok sc_is_free_set (fun vs H Q E h => ?_) (fun cdv A outer s H vs Q E hr h => ?_)
  · obtain ⟨a, v, o, d, L, rfl, _⟩ := h
    rfl
  · obtain ⟨a, v, o, d, L, rfl, hA, hd, hl, hne, hv, q⟩ := h
    refine ⟨_, pss_cons (ps_expr (pe_call (ok_chl G) (hr.mono (by decide)) (by rfl) G.T.m_check_lot G.T.F_check_lot.kp G.T.b_check_lot .nil pass0 (pa_cons (pv 0) pa_nil)))
      (pss_cons (ps_set (i := 2) sc_is_free_set.nd rfl (Or.inl rfl) (pe_call (E := E0) (ok_gfs G) hr (by rfl) G.T.m_greatest_free_sets G.T.F_greatest_free_sets.kp G.T.b_greatest_free_sets .nil passG (pa_cons (pv 0) pa_nil)))
      (pss_cons (ps_if (pt_not (pt_val (pe_callB call_isi (by rfl) G.T.z_isinstance boot_isinstance (pa_cons (pv 1) (pa_cons (pe_bltn (v := .ty "tuple") (by rfl) G.T.z_tuple boot_tuple rfl) pa_nil))))) (pss_one (ps_ret pe_bl)) pss_nil)
      (pss_one (ps_ret (pe_and (pe_callB (cr_all rfl) (by rfl) G.T.z_all (by decide +kernel) (pa_cons
          (pe_lc (own := [("index", 3)]) (g := gName 3) (tt := tYes) rfl sc_is_free_set.nd (pi_tup (pv 1)) (blkOk_by (own := [("index", 3)]) (N := N_is_free_set) (sc := defScope s_is_free_set) (by decide +kernel))
            (fun _ _ _ _ _ => pg_name (i := 3) sc_is_free_set.nd rfl (Or.inl rfl)) (fun _ _ _ _ _ => pts_nil)
            (fun _ _ _ _ _ => pe_call (ok_num G.T) (hr.mono (by decide)) (by rfl) G.T.m_is_number G.T.F_is_number.kp G.T.b_is_number .nil pass0 (pa_cons (pv 3) pa_nil))) pa_nil))
        (pe_one (pe_cmpR (op_inD (room65 hr)) (pv 1) (pv 2) rfl))))))), ?_⟩
    refine ⟨_, rfl, a, d, L, rfl, hA, ?_⟩
    refine ⟨_, rfl, a, d, L, rfl, hA, hd, hl, fun e => absurd e hne, fun _ H1 z qs s1 hz hQ => ?_⟩
    have hv1 := hv.same s1
    obtain ⟨t, ty, et⟩ := hv1.isi
    refine ⟨_, rfl, _, _, _, _, _, rfl, .ty _, ty, et, _, rfl, ?_⟩
    cases o with
    | none => exact iteT (q H1 s1)
    | some os =>
      obtain ⟨p, xs, rfl, hT, hE, hz2⟩ := hv1.get
      have hlen := hE.length
      refine iteF ⟨_, rfl, p, rfl, ⟨_, hT⟩, fun D hD => ?_⟩
      have sD := same_new hD (.lst [])
      refine lc_tup (K := K) (a := p) (xs := xs) (fun i H' => Same H1 H' ∧ H' D = some (.lst (((os.take i).map fun o => o.isSome).map V.bl))) ⟨sD, upd_same⟩ (fun i H' _ h => same_sqt h.1 hT) (fun i x H' hi h => ?_) (fun H' h => ?_)
      · obtain ⟨sm, eD⟩ := h
        obtain ⟨o, ho, hx⟩ := hE.get hi
        have hlt : i < xs.length := (List.getElem?_eq_some_iff.mp hi).1
        refine ⟨rfl, _, rfl, x, o, rfl, hx.same sm, ?_⟩
        refine ⟨_, eD, by rw [List.length_map, List.length_map, List.length_take]; exact sizeK (by omega), same_updL sm hD, ?_⟩
        rw [upd_same, take_more ho, List.map_append, List.map_append]
        rfl
      · obtain ⟨sm, eD⟩ := h
        rw [hlen, List.take_length] at eD
        refine ⟨D, _, rfl, SqL.of eD, ?_⟩
        rw [List.all_map, show os.all (id ∘ fun o => o.isSome) = os.all fun o => o.isSome from rfl]
        have q2 := q H' (s1.trans sm)
        cases ha : os.all fun o => o.isSome with
        | false =>
          have e1 : isfB (some os) (bigS (freeS d L)) = false := by
            show (_ && _) = false
            rw [ha, Bool.false_and]
          rw [e1] at q2
          exact ⟨_, rfl, iteF q2⟩
        | true =>
          have e1 : isfB (some os) (bigS (freeS d L)) = (bigS (freeS d L)).any fun c => decide ((c.map fun n => some ((n : Nat) : Int)) = os) := by
            show (_ && _) = _
            rw [ha, Bool.true_and]
          rw [e1] at q2
          obtain ⟨x1, x2⟩ := els_ints hE ha
          generalize (os.map fun o => o.getD 0) = u at x1 x2
          subst x1
          subst x2
          rw [← any_enc] at q2
          exact ⟨_, rfl, iteT ⟨_, rfl, _, rfl, Gv.encI u, _, Gv.dp_tupI (same_sqt sm hT), .lst (same_sql sm hz) (dp_tups (hQ.same sm)), Gv.shaped_intsT u, shaped_tups _, q2⟩⟩
end
end K14

namespace K14
open PySem PySem.Spec PyProof.Rows L2 RZ L5 R7 XX
theorem bar_updL {p D : Addr} {o : HO} {H H' : Hp} (b : Bar p H H') (hD : H D = none) : Bar p H (upd H' D o) := fun c u n h => by
  rw [upd_ne (ne_of_none h hD)]
  exact b c u n h
theorem nat_of {i : Int} (h0 : 0 ≤ i) : ∃ n : Nat, i = ((n : Nat) : Int) := ⟨i.toNat, by omega⟩
def Pail (p : Addr) (H : Hp) : Prop := ∃ g x c : Int, H p = some (pailO g x c)
theorem Pail.same {p : Addr} {H H' : Hp} (s : Same H H') : Pail p H → Pail p H' := fun ⟨g, x, c, h⟩ => ⟨g, x, c, s _ _ h⟩
theorem ne_pail {p y : Addr} {H : Hp} (hp : Pail p H) (hy : H y = none) : y ≠ p := fun z => by
  obtain ⟨g, x, c, hp⟩ := hp
  rw [z, hp] at hy
  cases hy
theorem bar_sqt {K : PySem.W.Frag} {p a : Addr} {H H' : Hp} {xs : List V} (hp : Pail p H) (b : Bar p H H') (h : SqT K H a xs) : SqT K H' a xs := by
  obtain ⟨g, x, c, hp⟩ := hp
  exact sqt_but hp (fun c o n h => b c o n h) h
theorem bar_tups {K : PySem.W.Frag} {p : Addr} {H H' : Hp} {rs : List Addr} {L : List (List Nat)} (hp : Pail p H) (b : Bar p H H') (h : Tups K H rs L) : Tups K H' rs L := by
  obtain ⟨g, x, c, hp⟩ := hp
  exact tups_but hp (fun c o n h => b c o n h) h
theorem filter_yes {f : List Nat → Bool} {A : List (List Nat)} {i : Nat} {t : List Nat} (h : A[i]? = some t) (e : f t = true) : (A.take (i + 1)).filter f = (A.take i).filter f ++ [t] := filtN_yes h e
theorem filter_no {f : List Nat → Bool} {A : List (List Nat)} {i : Nat} {t : List Nat} (h : A[i]? = some t) (e : f t = false) : (A.take (i + 1)).filter f = (A.take i).filter f := filtN_no h e
theorem filter_nil_min (A : List (List Nat)) (t : List Nat) : decide ((A.filter fun q => decide (q ≠ t) && M7.fitB q t) = []) = M7.minB A t := by
  unfold M7.minB
  rw [Bool.eq_iff_iff, decide_eq_true_iff, List.filter_eq_nil_iff, Bool.not_eq_true', List.any_eq_false]
theorem least_short (L : List (List Nat)) : (M7.leastN L).length ≤ L.length := Nat.le_trans (List.length_filter_le _ _) (M7.canon_len L)
/-- ones, one for each -/
abbrev ones (c : Nat) : List Int := List.replicate c 1
theorem shaped_intsL (l : List Int) : SeqAt.shaped (.list (l.map PyData.int)) = true := by
  obtain ⟨h1, h2⟩ := Gv.can_ints l
  simp [SeqAt.shaped, PyData.canLay0, PyData.depth, h1, h2]
theorem eqv_nil_L (l : List PyData) : PyData.eqv (.list l) (.list []) = decide (l = []) := Gv.eqv_nilL l
theorem eqv_ones (c : Nat) : PyData.eqv (.list ((ones c).map PyData.int)) (.list []) = decide (c = 0) := by
  rw [eqv_nil_L]
  refine decide_eq_decide.mpr ?_
  cases c with
  | zero => simp
  | succ c => simp [List.replicate_succ]
theorem none_broken {l : List Bool} {i c : Nat} {b : Bool} (h : l[i]? = some b) (e : c = 0 ↔ (l.take i).all id = true) : (c + (if b = true then 0 else 1) = 0 ↔ (l.take (i + 1)).all id = true) := by
  rw [all_take_step h, Bool.and_eq_true, ← e]
  cases b <;> simp
section
variable {P : Program} {w : World} {K : PySem.W.Frag} {mg : Str → Option Value} {base : Heap}
def sp_wdiv (K : PySem.W.Frag) : Sp := fun vs H Q _ => ∃ (p r : Addr) (t u : List Nat), vs = [.ref p, .ref r] ∧ SqT K H p (nv t) ∧ SqT K H r (nv u) ∧ u.length = t.length ∧ t.length ≤ 1000 ∧ ∀ H', Same H H' → Q (.bl (M7.fitB t u)) H'
theorem ok_wdiv (T : Txt K mg) : FnOk P w K mg base CX0 1 T.a_w_divides T.d_w_divides ["_law_one", "_law_other"] (sp_wdiv K) := by
  refine T.F_w_divides.ok sc_w_divides (fun vs H Q E h => ?_) (fun cdv A outer s H vs Q E hr h => ?_)
  · obtain ⟨p, r, t, u, rfl, _⟩ := h
    rfl
  · obtain ⟨p, r, t, u, rfl, hT, hU, hl, hz, q⟩ := h
    refine ⟨_, pss_one (ps_ret (pe_cmpR (op_eqD hr.units)
        (pe_lc (own := [("_law_left", 2), ("_law_right_here", 3)]) (g := gTup K 2 (gCons (gName 2) (gCons (gName 3) gNil))) rfl sc_w_divides.nd (pi_zipA (by rfl) T.z_zip (pa_cons (pv 0) (pa_cons (pv 1) pa_nil)))
          (blkOk_by (own := [("_law_left", 2), ("_law_right_here", 3)]) (N := N_w_divides) (sc := defScope s_w_divides) (by decide +kernel))
          (fun _ _ _ _ _ => pg_tup (by rfl) (pgs_cons (pg_name (i := 2) sc_w_divides.nd rfl (Or.inl rfl)) (pgs_cons (pg_name (i := 3) sc_w_divides.nd rfl (Or.inl rfl)) pgs_nil)))
          (fun _ _ _ _ _ => pts_one (pt_cmpR op_gt (pv 2) (pv 3) (nomark _)))
          (fun _ _ _ _ _ => pe_int)) (pe_lst pa_nil) (nomark _))), ?_⟩
    have fin : (fitL t u).all id = M7.fitB t u := fit_eq t u
    refine ⟨_, rfl, _, rfl, p, r, nv t, nv u, rfl, .inr ⟨hT, hU, fun D hD => ?_⟩⟩
    have s3 := same_new hD (.lst [])
    refine lc_zipT (by rw [nv_len, nv_len, hl]) (fun i H3 => Same H H3 ∧ ∃ k : Nat, H3 D = some (.lst ((ones k).map V.int)) ∧ k ≤ i ∧ (k = 0 ↔ ((fitL t u).take i).all id = true)) ⟨s3, 0, upd_same, Nat.le_refl _, by simp⟩ (fun i H3 hh => ⟨same_sqt hh.1 hT, same_sqt hh.1 hU⟩) (fun i x y T' H3 hx hy hh hT3 => ?_) (fun H3 hh => ?_)
    · obtain ⟨s4, k, eD4, hk, hall⟩ := hh
      obtain ⟨n1, hn1, rfl⟩ := nv_get hx
      obtain ⟨n2, hn2, rfl⟩ := nv_get hy
      have hlt : i < t.length := (List.getElem?_eq_some_iff.mp hn1).1
      have sT : Same H3 (upd H3 T' (.tup [.int ((n1 : Nat) : Int), .int ((n2 : Nat) : Int)])) := same_new hT3 _
      have nb := none_broken (fit_get hn1 hn2) hall
      refine ⟨T', _, rfl, SqT.of upd_same, rfl, _, _, rfl, _, _, rfl, rfl, ?_⟩
      refine ⟨rfl, _, rfl, _, rfl, _, _, rfl, rfl, _, rfl, ite2 (fun cc => ?_) (fun cc => ?_)⟩
      · have c' := of_decide_eq_true cc
        rw [decide_eq_false (show ¬ n1 ≤ n2 by omega)] at nb
        refine ⟨_, sT _ _ eD4, by rw [List.length_map, List.length_replicate]; exact sizeK (by omega), same_updL (s4.trans sT) hD, k + 1, ?_, by omega, nb⟩
        rw [upd_same, show ones (k + 1) = ones k ++ [1] from List.replicate_succ', List.map_append]
        rfl
      · have c' : ¬ ((n1 : Nat) : Int) > ((n2 : Nat) : Int) := fun z => cc (decide_eq_true z)
        rw [decide_eq_true (show n1 ≤ n2 by omega)] at nb
        exact ⟨s4.trans sT, k, sT _ _ eD4, by omega, nb⟩
    · obtain ⟨s4, k, eD4, hk, hall⟩ := hh
      rw [List.take_of_length_le (by rw [nv_len, List.length_zipWith]; omega), fin] at hall
      refine ⟨Nat.zero_le _, fun z hz0 => ?_⟩
      have s5 := same_new hz0 (.lst [])
      refine ⟨_, .list [], .lst (SqL.of (s5 _ _ eD4)) (Gv.dp_ints (ones k)), .lst (SqL.of upd_same) .nil, shaped_intsL _, by decide, ?_⟩
      rw [eqv_ones]
      have e2 : decide (k = 0) = M7.fitB t u := by
        rw [Bool.eq_iff_iff, decide_eq_true_iff]
        exact hall
      rw [e2]
      exact q _ (s4.trans s5)
def sp_wleast (K : PySem.W.Frag) : Sp := fun vs H Q _ => ∃ (l : Addr) (rs : List Addr) (L : List (List Nat)) (d : Nat), vs = [.ref l] ∧ SqA K H l (rs.map V.ref) ∧ Tups K H rs L ∧ L.length < 64 ∧ 1 ≤ d ∧ d ≤ 8 ∧ (∀ t ∈ L, t.length = d) ∧ (∀ t ∈ L, ∀ e ∈ t, e ≤ 60) ∧
  ∀ H' q rs', Same H H' → SqT K H' q (rs'.map V.ref) → Tups K H' rs' (M7.leastN L) → Q (.ref q) H'
theorem ok_wleast (T : Txt K mg) : FnOk P w K mg base CX0 2 T.a_w_least T.d_w_least ["_law_products"] (sp_wleast K) := by
  refine T.F_w_least.ok sc_w_least (fun vs H Q E h => ?_) (fun cdv A outer s H vs Q E hr h => ?_)
  · obtain ⟨l, rs, L, d, rfl, _⟩ := h
    rfl
  · obtain ⟨l, rs, L, d, rfl, hA, hL, hz, hd1, hd8, hd, hB, q⟩ := h
    refine ⟨_, pss_cons (ps_set (i := 1) sc_w_least.nd rfl (Or.inl rfl) (pe_sset rfl hr.units (by rfl) T.z_sorted (by rfl) T.z_set (pv 0)))
      (pss_cons (ps_set (i := 2) sc_w_least.nd rfl (Or.inl rfl) (pe_lst pa_nil))
      (pss_cons (ps_for PassesOwn.never rfl (pi_list (pv 1)) (pg_name (i := 3) sc_w_least.nd rfl (Or.inr rfl))
        (pss_one (ps_if (pt_cmpR (op_eqD hr.units)
          (pe_lc (own := [("_law_other", 4)]) (g := gName 4) rfl sc_w_least.nd (pi_list (pv 1)) (blkOk_by (own := [("_law_other", 4)]) (N := N_w_least) (sc := defScope s_w_least) (by decide +kernel))
            (fun _ _ _ _ _ => pg_name (i := 4) sc_w_least.nd rfl (Or.inl rfl))
            (fun _ _ _ _ _ => pts_one (PW.pt (pw_and (pt_cmpR (show OpR _ _ (rNeD K) from op_neD hr.units) (pv 4) (pv 3) (nomark _)) (pw_and1 (pt_val (pe_call (ok_wdiv T) hr (by rfl) T.m_w_divides T.F_w_divides.kp T.b_w_divides .nil pass0 (pa_cons (pv 4) (pa_cons (pv 3) pa_nil))))))))
            (fun _ _ _ _ _ => pv 4)) (pe_lst pa_nil) (nomark _))
          (pss_one (ps_expr (pe_bm PySem.F.plainAttrs_list PySem.F.slot_list_append PySem.F.type_list_append mt_append (pv 2) (pa_cons (pv 3) pa_nil)))) pss_nil)))
      (pss_one (ps_ret (pe_callTy call_tuple_of (by rfl) T.z_tuple boot_tuple (pa_cons (pv 2) pa_nil)))))), ?_⟩
    refine ⟨_, rfl, l, rs, L, d, 61, rfl, hA, hL, hz, hd1, hd, fun t ht e he => Nat.lt_succ_of_le (hB t ht e he), fun H1 y qs s1 hyf hy hT => ?_⟩
    have hlc : qs.length = (M7.canonN L).length := hT.length
    have hcl := M7.canon_len L
    have hdc : ∀ t ∈ M7.canonN L, t.length = d := fun t ht => hd t (M7.mem_canon.mp ht)
    have e0 : M7.leastN L = (M7.canonN L).filter (M7.minB (M7.canonN L)) := rfl
    rw [e0] at q
    generalize M7.canonN L = B at hT hlc hcl hdc q
    have flen : ∀ (f : List Nat → Bool) (i : Nat), ((B.take i).filter f).length ≤ 1000000 := fun f i => by
      have h1 := List.length_filter_le f (B.take i)
      rw [List.length_take] at h1
      omega
    refine ⟨by show 0 ≤ sizeLine; exact Nat.zero_le _, fun D hD => ?_⟩
    have sD := same_new hD (.lst [])
    have hyD : (upd H1 D (.lst [])) y = some (.lst (qs.map V.ref)) := sD _ _ hy
    have hDy : D ≠ y := fun e => by rw [e, hy] at hD; cases hD
    refine ⟨_, rfl, y, rfl, ⟨_, SqL.of hyD⟩, for_list (K := K) (a := y) (xs := qs.map V.ref) (fun i σ H' => ∃ (v3 : Option V) (ds : List Addr), σ = [some (.ref l), some (.ref y), some (.ref D), v3, none] ∧ Same H1 H' ∧ H' D = some (.lst (ds.map V.ref)) ∧ Tups K H' ds ((B.take i).filter (M7.minB B))) ⟨none, [], rfl, sD, upd_same, .nil⟩ (fun i σ H' _ ⟨_, _, _, sm, _⟩ => SqL.of (sm _ _ hy)) ?_ ?_⟩
    · rintro i x σ H' hx ⟨v3, ds, rfl, sm, eD, hTd⟩
      obtain ⟨a, t, rfl, _, ht, hs⟩ := tups_get (hT.same sm) hx
      have htd := hdc t (List.mem_of_getElem? ht)
      refine ⟨_, rfl, y, rfl, ⟨_, SqL.of (sm _ _ hy)⟩, fun D2 hD2 => ?_⟩
      have sD2 := same_new hD2 (.lst [])
      refine lc_list (K := K) (a := y) (xs := qs.map V.ref) (fun j H2 => Same H' H2 ∧ ∃ es : List Addr, H2 D2 = some (.lst (es.map V.ref)) ∧ Tups K H2 es ((B.take j).filter fun q => decide (q ≠ t) && M7.fitB q t)) ⟨sD2, [], upd_same, .nil⟩ (fun j H2 _ h => SqL.of (h.1 _ _ (sm _ _ hy))) (fun j x H2 hx2 hh => ?_) (fun H2 hh => ?_)
      · obtain ⟨s2, es, eD2, hTe⟩ := hh
        obtain ⟨b, u, rfl, _, hu, hsu⟩ := tups_get ((hT.same sm).same s2) hx2
        have hud := hdc u (List.mem_of_getElem? hu)
        have hs2 := same_sqt s2 hs
        refine ⟨rfl, _, rfl, _, rfl, _, _, dp_tup hsu, dp_tup hs2, shaped_tup u, shaped_tup t, _, rfl, ?_⟩
        rw [eqv_tupE]
        by_cases hut : u = t
        · rw [decide_eq_true hut]
          refine iteF (iteF ⟨s2, es, eD2, ?_⟩)
          rw [filter_no hu (by rw [decide_eq_false (fun h => h hut), Bool.false_and])]
          exact hTe
        · rw [decide_eq_false hut]
          refine iteT ⟨_, rfl, _, rfl, b, a, u, t, rfl, hsu, hs2, by rw [hud, htd], by omega, fun H3 s3 => ⟨_, rfl, ?_⟩⟩
          have eD3 := s3 _ _ eD2
          cases hf : M7.fitB u t with
          | true =>
            refine iteT ⟨_, rfl, _, eD3, by rw [List.length_map, show es.length = _ from hTe.length]; exact sizeK (flen _ j), same_updL (s2.trans s3) hD2, es ++ [b], by rw [upd_same, List.map_append]; rfl, ?_⟩
            rw [filter_yes hu (by rw [hf, decide_eq_true (show u ≠ t from hut)]; rfl)]
            exact ((hTe.same s3).updL eD3).app (.cons (sqt_updL eD3 (same_sqt s3 hsu)) .nil)
          | false =>
            refine iteF ⟨s2.trans s3, es, eD3, ?_⟩
            rw [filter_no hu (by rw [hf, Bool.and_false])]
            exact hTe.same s3
      · obtain ⟨s2, es, eD2, hTe⟩ := hh
        rw [List.length_map, hlc, List.take_length] at hTe
        refine ⟨Nat.zero_le _, fun z hz8 => ?_⟩
        have s8 := same_new hz8 (.lst [])
        refine ⟨_, .list [], .lst (SqL.of (s8 _ _ eD2)) (dp_tups (hTe.same s8)), .lst (SqL.of upd_same) .nil, shaped_tups _, by decide, _, rfl, ?_⟩
        have S := s2.trans s8
        have eD3 := S _ _ eD
        have e3 : PyData.eqv (.list ((B.filter fun q => decide (q ≠ t) && M7.fitB q t).map encT)) (.list []) = M7.minB B t := by
          rw [eqv_nil_L, ← filter_nil_min]
          exact decide_eq_decide.mpr List.map_eq_nil_iff
        rw [e3]
        cases hf : M7.minB B t with
        | true =>
          refine iteT ⟨_, rfl, .inl ⟨rfl, _, SqL.of eD3⟩, _, rfl, D, _, _, rfl, rfl, eD3, by rw [List.length_map, show ds.length = _ from hTd.length]; exact sizeK (flen _ i), ?_⟩
          refine ⟨_, ds ++ [a], rfl, same_updL (sm.trans S) hD, by rw [upd_same, List.map_append]; rfl, ?_⟩
          rw [filter_yes ht hf]
          exact ((hTd.same S).updL eD3).app (.cons (sqt_updL eD3 (same_sqt S hs)) .nil)
        | false =>
          refine iteF ⟨_, ds, rfl, sm.trans S, eD3, ?_⟩
          rw [filter_no ht hf]
          exact hTd.same S
    · rintro σ H' ⟨v3, ds, rfl, sm, eD, hTd⟩
      rw [List.length_map, hlc, List.take_length] at hTd
      refine ⟨_, rfl, D, _, rfl, .inl ⟨SqL.of eD, fun z hz2 => ?_⟩⟩
      have s9 := same_new hz2 (.tup (ds.map V.ref))
      exact q _ z ds (s1.trans (sm.trans s9)) (SqT.of upd_same) (hTd.same s9)
end
end K14

namespace K14
open PySem PySem.Spec PyProof.Rows L2 RZ L5 R7 XX
section
variable {P : Program} {w : World} {K : PySem.W.Frag} {mg : Str → Option Value} {base : Heap}
/-! ### the law's own sets of letters, products and members by chance -/
theorem ok_wsets (T : Txt K mg) : FnOk P w K mg base CX0 1 T.a_w_sets T.d_w_sets ["_law_letters"] (sp_sets K) := by
  refine T.F_w_sets.ok sc_w_sets (fun vs H Q E h => ?_) (fun cdv A outer s H vs Q E hr h => ?_)
  · obtain ⟨d, rfl, _⟩ := h
    rfl
  · obtain ⟨d, rfl, hd, q⟩ := h
    refine ⟨_, pss_cons (ps_set (i := 1) sc_w_sets.nd rfl (Or.inl rfl) (pe_lst (pa_cons (pe_tup pa_nil) pa_nil)))
      (pss_cons (ps_for PassesOwn.never rfl (pi_range1 rfl T.z_range (pa_cons (pv 0) pa_nil)) (pg_name (i := 2) sc_w_sets.nd rfl (Or.inr rfl))
        (pss_one (ps_set (i := 1) sc_w_sets.nd rfl (Or.inl rfl) (pe_op op_cat (pv 1)
          (pe_lc (own := [("_law_chosen", 3)]) (g := gName 3) (tt := tYes) rfl sc_w_sets.nd (pi_list (pv 1)) (blkOk_by (own := [("_law_chosen", 3)]) (N := N_w_sets) (sc := defScope s_w_sets) (by decide +kernel))
            (fun _ _ _ _ _ => pg_name (i := 3) sc_w_sets.nd rfl (Or.inl rfl)) (fun _ _ _ _ _ => pts_nil)
            (fun _ _ _ _ _ => pe_op (show OpR _ _ (rCatB K) from op_catB) (pv 3) (pe_tup (pa_cons (pv 2) pa_nil))))))))
      (pss_one (ps_ret (pv 1)))), ?_⟩
    refine ⟨by show 0 ≤ sizeLine; exact Nat.zero_le _, fun z0 hz0 => ?_⟩
    have s2 := same_new hz0 (.tup [])
    refine ⟨by show 1 ≤ sizeLine; decide, fun la hla => ?_⟩
    have s3 := same_new hla (.lst [V.ref z0])
    refine ⟨_, rfl, _, rfl, by omega, by omega, ?_⟩
    refine for_range (lo := 0) (n := (((d : Nat) : Int)).toNat) (fun i σ H' => ∃ (v2 : Option V) (fa : Addr) (rs : List Addr), σ = [some (.int ((d : Nat) : Int)), some (.ref fa), v2, none] ∧ Same H H' ∧ H' fa = some (.lst (rs.map V.ref)) ∧ Tups K H' rs (setsL i))
      ⟨none, la, [z0], rfl, s2.trans s3, upd_same, .cons (same_sqt s3 (SqT.of upd_same)) .nil⟩ ?_ ?_
    · rintro i σ H1 hi ⟨v2, fa, rs, rfl, sm, hf, hfT⟩
      have hi8 : i < d := hi
      have w1 := sets_few (k := i) (by omega)
      have hrl : rs.length = _ := hfT.length
      rw [show (0 : Int) + ((i : Nat) : Int) = ((i : Nat) : Int) from Int.zero_add _]
      refine ⟨_, rfl, _, rfl, fa, rfl, ⟨_, SqL.of hf⟩, fun D hD => ?_⟩
      have sD := same_new hD (.lst [])
      refine lc_list (K := K) (a := fa) (xs := rs.map V.ref) (fun i2 H' => Same H1 H' ∧ ∃ es : List Addr, H' D = some (.lst (es.map V.ref)) ∧ Tups K H' es (((setsL i).take i2).map fun c => c ++ [i])) ⟨sD, [], upd_same, .nil⟩ (fun i2 H' _ hh => SqL.of (hh.1 _ _ hf)) (fun i2 x H2 hx hh => ?_) (fun H2 hh => ?_)
      · obtain ⟨s4, es, eD, hTe⟩ := hh
        obtain ⟨c, t, rfl, _, ht, hs⟩ := tups_get hfT hx
        have ht4 := (sets_short i t (List.mem_of_getElem? ht)).1
        have hel : es.length ≤ 256 := by
          have e1 : es.length = _ := hTe.length
          rw [List.length_map, List.length_take] at e1
          omega
        refine ⟨rfl, _, rfl, _, rfl, by show 1 ≤ sizeLine; decide, fun z1 hz1 => ?_⟩
        have s5 := same_new hz1 (.tup [V.int ((i : Nat) : Int)])
        refine ⟨c, z1, _, _, rfl, rfl, same_sqt (s4.trans s5) hs, SqT.of upd_same, by rw [nv_len]; exact Nat.le_of_lt (sizeK (by show _ + 1 ≤ _; omega)), fun H5 z5 s6 hz5 => ?_⟩
        have S6 := s5.trans s6
        have hz5' : SqT K H5 z5 (nv (t ++ [i])) := by
          unfold nv at hz5 ⊢
          rw [List.map_append]
          exact hz5
        refine ⟨_, S6 _ _ eD, by rw [List.length_map]; exact sizeK (by omega), same_updL (s4.trans S6) hD, es ++ [z5], by rw [upd_same, List.map_append]; rfl, ?_⟩
        rw [take_more ht, List.map_append]
        exact ((hTe.same S6).updL (S6 _ _ eD)).app (.cons (sqt_updL (S6 _ _ eD) hz5') .nil)
      · obtain ⟨s4, es, eD, hTe⟩ := hh
        rw [List.length_map, hrl, List.take_length] at hTe
        have hel : es.length = _ := hTe.length
        rw [List.length_map] at hel
        refine ⟨fa, D, _, _, rfl, rfl, s4 _ _ hf, eD, by rw [List.length_map, List.length_map]; exact Nat.le_of_lt (sizeK (by omega)), fun p hp => ?_⟩
        have s5 := same_new hp (.lst (rs.map V.ref ++ es.map V.ref))
        exact ⟨_, p, rs ++ es, rfl, sm.trans (s4.trans s5), by rw [upd_same, List.map_append], ((hfT.same s4).same s5).app (hTe.same s5)⟩
    · rintro σ H1 ⟨v2, fa, rs, rfl, sm, hf, hfT⟩
      have hfT' : Tups K H1 rs (setsL d) := hfT
      exact ⟨_, rfl, q H1 fa rs sm (SqL.of hf) hfT'⟩
def sp_wprod (K : PySem.W.Frag) : Sp := fun vs H Q _ => ∃ (p : Addr) (l mm : Nat), vs = [.ref p, .int ((l : Nat) : Int), .int ((mm : Nat) : Int)] ∧ Pail p H ∧ l ≤ 8 ∧ mm ≤ 60 ∧
  ∀ H' z t, Bar p H H' → Pail p H' → SqT K H' z (nv t) → t.length = l → (∀ e ∈ t, e ≤ mm) → Q (.ref z) H'
theorem ok_wprod (T : Txt K mg) : FnOk P w K mg base CX0 2 T.a_w_product T.d_w_product ["_law_jug_here", "_law_letters", "_law_most"] (sp_wprod K) := by
  refine T.F_w_product.ok sc_w_product (fun vs H Q E h => ?_) (fun cdv A outer s H vs Q E hr h => ?_)
  · obtain ⟨p, l, mm, rfl, _⟩ := h
    rfl
  · obtain ⟨p, l, mm, rfl, hp, h8, m10, q⟩ := h
    refine ⟨_, pss_cons (ps_set (i := 3) sc_w_product.nd rfl (Or.inl rfl) (pe_lst pa_nil))
      (pss_cons (ps_for PassesOwn.never rfl (pi_range1 rfl T.z_range (pa_cons (pv 1) pa_nil)) (pg_name (i := 4) sc_w_product.nd rfl (Or.inl rfl))
        (pss_one (ps_expr (pe_bm PySem.F.plainAttrs_list PySem.F.slot_list_append PySem.F.type_list_append mt_append (pv 3) (pa_cons
          (PE.weak (t' := fun σ' H' Q' => ∃ (a l4 v4 : Option V), σ' = [some (.ref p), a, some (.int ((mm : Nat) : Int)), l4, v4] ∧ Pail p H' ∧ ∀ (n : Nat) H2, n ≤ mm → Pail p H2 → (∀ b, b ≠ p → H2 b = H' b) → Q' (.int ((n : Nat) : Int)) H2)
            (pe_ifExp (pt_cmpR op_eq (pe_call (ok_dip T) hr (by rfl) T.m_w_pour T.F_w_pour.kp T.b_w_pour .nil pass0 (pa_cons (pv 0) (pa_cons pe_int pa_nil))) pe_int (nomark _)) pe_int
              (pe_call (ok_dip T) hr (by rfl) T.m_w_pour T.F_w_pour.kp T.b_w_pour .nil pass0 (pa_cons (pv 0) (pa_cons (pe_op op_add (pv 2) pe_int) pa_nil)))) ?imp) pa_nil)))))
      (pss_one (ps_ret (pe_callTy call_tuple_of (by rfl) T.z_tuple boot_tuple (pa_cons (pv 3) pa_nil))))), ?_⟩
    case imp =>
      rintro σ' H' Q' ⟨a, l4, v4, rfl, ⟨g, x, c, hp⟩, q'⟩
      refine ⟨_, rfl, p, _, g, x, c, rfl, hp, by decide, by decide, fun g2 x2 c2 r hr0 hr1 => ?_⟩
      refine ⟨rfl, _, rfl, ite2 (fun cc => ?_) (fun cc => ?_)⟩
      · exact q' 0 _ (Nat.zero_le _) ⟨_, _, _, upd_same⟩ fun b n => upd_ne n
      · refine ⟨_, rfl, _, rfl, _, _, rfl, rfl, p, _, g2, x2, c2, rfl, upd_same, by omega, by omega, fun g3 x3 c3 r2 h20 h21 => ?_⟩
        obtain ⟨n, rfl⟩ := nat_of h20
        exact q' n _ (by omega) ⟨_, _, _, upd_same⟩ fun b n => by rw [upd_ne n, upd_ne n]
    refine ⟨by show 0 ≤ sizeLine; exact Nat.zero_le _, fun D hD => ?_⟩
    have hDp := ne_pail hp hD
    have sD := same_new hD (.lst [])
    refine ⟨_, rfl, _, rfl, by omega, by omega, ?_⟩
    refine for_range (lo := 0) (n := (((l : Nat) : Int)).toNat) (fun i σ H' => ∃ (v4 : Option V) (t : List Nat), σ = [some (.ref p), some (.int ((l : Nat) : Int)), some (.int ((mm : Nat) : Int)), some (.ref D), v4] ∧ Bar p H H' ∧ Pail p H' ∧ H' D = some (.lst (nv t)) ∧ t.length = i ∧ ∀ e ∈ t, e ≤ mm)
      ⟨none, [], rfl, Bar.same sD, hp.same sD, upd_same, rfl, fun _ h => nomatch h⟩ ?_ ?_
    · rintro i σ H1 hi ⟨v4, t, rfl, b1, p1, hD1, hl1, ht1⟩
      have hi8 : i < l := hi
      refine ⟨_, rfl, .inl ⟨rfl, _, SqL.of hD1⟩, _, _, _, rfl, p1, fun n H2 hn p2 same => ?_⟩
      have hD2 : H2 D = some (.lst (nv t)) := by rw [same D hDp]; exact hD1
      have b2 : Bar p H H2 := b1.trans fun b o nb h => by rw [same b nb]; exact h
      refine ⟨D, _, _, rfl, rfl, hD2, by rw [nv_len]; exact sizeK (by omega), ?_⟩
      obtain ⟨g2, x2, c2, hp2⟩ := p2
      refine ⟨_, t ++ [n], rfl, bar_updL b2 hD, ⟨g2, x2, c2, by rw [upd_ne (Ne.symm hDp)]; exact hp2⟩, ?_, by rw [List.length_append, hl1]; rfl, fun e he => ?_⟩
      · rw [upd_same]
        unfold nv
        rw [List.map_append]
        rfl
      · rcases List.mem_append.mp he with he | he
        · exact ht1 e he
        · rw [List.mem_singleton.mp he]
          exact hn
    · rintro σ H1 ⟨v4, t, rfl, b1, p1, hD1, hl1, ht1⟩
      have hl2 : t.length = l := hl1
      refine ⟨_, rfl, D, _, rfl, .inl ⟨SqL.of hD1, fun z hz => ?_⟩⟩
      have s2 := same_new hz (.tup (nv t))
      exact q _ z t (b1.trans (Bar.same s2)) (p1.same s2) (SqT.of upd_same) hl2 ht1
def sp_wmem (K : PySem.W.Frag) : Sp := fun vs H Q _ => ∃ (p : Addr) (l many mm : Nat), vs = [.ref p, .int ((l : Nat) : Int), .int ((many : Nat) : Int), .int ((mm : Nat) : Int)] ∧ Pail p H ∧ 1 ≤ l ∧ l ≤ 8 ∧ many ≤ 10 ∧ mm ≤ 60 ∧
  ∀ H' z rs L, Bar p H H' → Pail p H' → SqT K H' z (rs.map V.ref) → Tups K H' rs (M7.leastN L) → L.length ≤ many → (∀ t ∈ L, t.length = l) → (∀ t ∈ L, ∀ e ∈ t, e ≤ mm) → Q (.ref z) H'
theorem ok_wmem (T : Txt K mg) : FnOk P w K mg base CX0 3 T.a_w_members T.d_w_members ["_law_jug_here", "_law_letters", "_law_total", "_law_most"] (sp_wmem K) := by
  refine T.F_w_members.ok sc_w_members (fun vs H Q E h => ?_) (fun cdv A outer s H vs Q E hr h => ?_)
  · obtain ⟨p, l, many, mm, rfl, _⟩ := h
    rfl
  · obtain ⟨p, l, many, mm, rfl, ⟨g, x, c, hp⟩, h1, h8, hmany, m10, q⟩ := h
    refine ⟨_, pss_one (ps_ret (pe_call (ok_wleast T) hr (by rfl) T.m_w_least T.F_w_least.kp T.b_w_least .nil pass0 (pa_cons
      (pe_lc (own := [("_law_turn", 4)]) (g := gName 4) (tt := tYes) rfl sc_w_members.nd (pi_range1 rfl T.z_range (pa_cons (pe_call (ok_dip T) (hr.mono (by decide)) (by rfl) T.m_w_pour T.F_w_pour.kp T.b_w_pour .nil pass0 (pa_cons (pv 0) (pa_cons (pe_op op_add (pv 2) pe_int) pa_nil))) pa_nil)) (blkOk_by (own := [("_law_turn", 4)]) (N := N_w_members) (sc := defScope s_w_members) (by decide +kernel))
        (fun _ _ _ _ _ => pg_name (i := 4) sc_w_members.nd rfl (Or.inl rfl)) (fun _ _ _ _ _ => pts_nil)
        (fun _ _ _ _ _ => pe_call (ok_wprod T) hr (by rfl) T.m_w_product T.F_w_product.kp T.b_w_product .nil pass0 (pa_cons (pv 0) (pa_cons (pv 1) (pa_cons (pv 3) pa_nil))))) pa_nil))), ?_⟩
    refine ⟨_, rfl, _, rfl, _, _, rfl, rfl, p, _, g, x, c, rfl, hp, by omega, by omega, fun g0 x0 c0 r hr0 hr1 => ?_⟩
    obtain ⟨n, rfl⟩ := nat_of hr0
    have hp0 : Pail p (upd H p (pailO g0 x0 c0)) := ⟨_, _, _, upd_same⟩
    have sb0 : Bar p H (upd H p (pailO g0 x0 c0)) := Bar.upd
    generalize upd H p (pailO g0 x0 c0) = H0 at hp0 sb0 ⊢
    refine ⟨_, rfl, by omega, by omega, fun D hD => ?_⟩
    have hDp := ne_pail hp0 hD
    have sD := same_new hD (.lst [])
    refine lc_range (lo := 0) (n := ((n : Nat) : Int).toNat) (fun i H' => ∃ (rs : List Addr) (L : List (List Nat)), Bar p H0 H' ∧ Pail p H' ∧ H' D = some (.lst (rs.map V.ref)) ∧ Tups K H' rs L ∧ L.length = i ∧ (∀ t ∈ L, t.length = l) ∧ ∀ t ∈ L, ∀ e ∈ t, e ≤ mm)
      ⟨[], [], Bar.same sD, hp0.same sD, upd_same, .nil, rfl, fun _ h => (nomatch h), fun _ h => (nomatch h)⟩ (fun i H' hi h => ?_) (fun H' h => ?_)
    · obtain ⟨rs, L, sb, hp1, eD, hT, hz, hl, ht⟩ := h
      refine ⟨rfl, _, rfl, _, rfl, _, rfl, p, l, mm, rfl, hp1, h8, m10, fun H2 z t b2 hp2 hz2 hzl hzt => ?_⟩
      have eD2 : H2 D = some (.lst (rs.map V.ref)) := b2 D _ hDp eD
      have hrl : rs.length = L.length := hT.length
      have hin : i < n := by
        have : i < ((n : Nat) : Int).toNat := hi
        omega
      obtain ⟨g2, x2, c2, hq2⟩ := hp2
      refine ⟨_, eD2, by rw [List.length_map]; exact sizeK (by omega), rs ++ [z], L ++ [t], bar_updL (sb.trans b2) hD, ⟨g2, x2, c2, by rw [upd_ne (Ne.symm hDp)]; exact hq2⟩, by rw [upd_same, List.map_append]; rfl, ((bar_tups hp1 b2 hT).updL eD2).app (.cons (sqt_updL eD2 hz2) .nil), by rw [List.length_append, hz]; rfl, fun u hu => ?_, fun u hu => ?_⟩
      · rcases List.mem_append.mp hu with hu | hu
        · exact hl u hu
        · rw [List.mem_singleton.mp hu]
          exact hzl
      · rcases List.mem_append.mp hu with hu | hu
        · exact ht u hu
        · rw [List.mem_singleton.mp hu]
          exact hzt
    · obtain ⟨rs, L, sb, hp1, eD, hT, hz, hl, ht⟩ := h
      have hzn : L.length = n := hz
      refine ⟨D, rs, L, l, rfl, .inl (SqL.of eD), hT, by omega, h1, h8, hl, fun t htm e he => Nat.le_trans (ht t htm e he) m10, fun H2 z rs' s2 hz2 hT2 => ?_⟩
      exact q H2 z rs' L (sb0.trans (sb.trans (Bar.same s2))) (hp1.same s2) hz2 hT2 (by omega) hl ht
theorem ok_wfree (T : Txt K mg) : FnOk P w K mg base CX0 1 T.a_w_is_free T.d_w_is_free ["_law_members_here", "_law_chosen"] (fun vs H Q E => ∃ a l, vs = [l, a] ∧ sp_free K [a, l] H Q E) := by
  refine T.F_w_is_free.ok sc_w_is_free (fun vs H Q E h => ?_) (fun cdv A outer s H vs Q E hr h => ?_)
  · obtain ⟨a, l, rfl, _⟩ := h
    rfl
  · obtain ⟨a', l', rfl, a, l, c, rs, L, e, hC, hA, hL, h8, q⟩ := h
    obtain ⟨rfl, rfl⟩ : a' = .ref a ∧ l' = .ref l := by
      injection e with e1 e2
      injection e2 with e2 e3
      exact ⟨e1, e2⟩
    refine ⟨_, pss_cons (ps_for PassesOwn.never rfl (pi_any (pv 0)) (pg_name (i := 2) sc_w_is_free.nd rfl (Or.inl rfl))
        (pss_one (ps_if (pt_cmpR (op_eqD hr.units) (pe_lc (own := [("_law_letter", 3), ("_law_exponent", 4)]) (g := gTup K 2 (gCons (gName 3) (gCons (gName 4) gNil))) rfl sc_w_is_free.nd (show PI _ _ _ (iEnumT K _) from pi_enumT (by rfl) T.z_enumerate (pa_cons (pv 2) pa_nil)) (blkOk_by (own := [("_law_letter", 3), ("_law_exponent", 4)]) (N := N_w_is_free) (sc := defScope s_w_is_free) (by decide +kernel))
            (fun _ _ _ _ _ => pg_tup (by rfl) (pgs_cons (pg_name (i := 3) sc_w_is_free.nd rfl (Or.inl rfl)) (pgs_cons (pg_name (i := 4) sc_w_is_free.nd rfl (Or.inl rfl)) pgs_nil)))
            (fun _ _ _ _ _ => pts_one (PW.pt (pw_and (pt_cmpR op_gt (pv 4) pe_int (nomark _)) (pw_and1 (pt_cmpR (show OpR _ _ (rIn K true) from op_notIn_seq) (pv 3) (pv 1) (by rfl))))))
            (fun _ _ _ _ _ => pe_int)) (pe_lst pa_nil) (nomark _)) (pss_one (ps_ret pe_bl)) pss_nil)))
      (pss_one (ps_ret pe_bl)), ?_⟩
    have el : (L.map fun t => !(othN c t t.length).isEmpty).all id = freeB c L := by rw [List.all_map]; rfl
    refine ⟨_, rfl, l, rfl, for_any hA (fun i σ H' => ∃ v2 : Option V, σ = [some (.ref l), some (.ref a), v2, none, none] ∧ Same H H' ∧ ((L.map fun t => !(othN c t t.length).isEmpty).take i).all id = true) ⟨none, rfl, Same.refl H, rfl⟩ (fun i σ' H' ⟨_, _, s, _⟩ => s) ?_ ?_⟩
    · rintro i x σ H' hx ⟨v2, rfl, sm, ha⟩
      obtain ⟨b, u, rfl, _, hu, hs⟩ := tups_get (hL.same sm) hx
      have hul := h8 u (List.mem_of_getElem? hu)
      have st := all_take_step (l := L.map fun t => !(othN c t t.length).isEmpty) (i := i) (b := !(othN c u u.length).isEmpty) (by rw [List.getElem?_map, hu]; rfl)
      have hC' := same_sqt sm hC
      refine ⟨_, rfl, b, _, rfl, hs, fun D hD => ?_⟩
      have sD := same_new hD (.lst [])
      refine lc_enumT (K := K) (a := b) (xs := nv u) (fun j H2 => Same H' H2 ∧ H2 D = some (.lst ((ones (othN c u j).length).map V.int))) ⟨sD, upd_same⟩ (fun j H2 h => same_sqt h.1 hs) ?_ ?_
      · rintro j x D2 H2 hx ⟨s2, hD2⟩ hfree
        obtain ⟨e, he, rfl⟩ := nv_get hx
        have hj : j < u.length := (List.getElem?_eq_some_iff.mp he).1
        have hg : u.getD j 0 = e := by rw [List.getD_eq_getElem?_getD, he]; rfl
        have hlen := oth_len c u j
        have hstep := oth_step c u j
        rw [hg] at hstep
        have sT := same_new hfree (.tup [V.int ((j : Nat) : Int), V.int ((e : Nat) : Int)])
        have hD3 := sT _ _ hD2
        refine ⟨D2, _, rfl, SqT.of upd_same, rfl, _, _, rfl, _, _, rfl, rfl, ?_⟩
        refine ⟨rfl, _, rfl, _, _, rfl, rfl, _, rfl, ?_⟩
        by_cases h0 : 0 < e
        · rw [decide_eq_true (show (0 : Int) < ((e : Nat) : Int) by omega)]
          refine iteT ⟨_, rfl, _, rfl, a, nv c, rfl, .inr (same_sqt (s2.trans sT) hC'), rfl, flat_nv c, _, rfl, ?_⟩
          rw [inV_nv, show (if true = true then !c.contains j else c.contains j) = !c.contains j from rfl]
          rw [decide_eq_true h0, Bool.true_and] at hstep
          refine ite2 (fun cc => ?_) (fun cc => ?_)
          · rw [if_pos cc] at hstep
            refine ⟨_, hD3, by rw [List.length_map, List.length_replicate]; exact sizeK (by omega), same_updL (s2.trans sT) hD, ?_⟩
            rw [upd_same, hstep, List.length_append, show ones ((othN c u j).length + [j].length) = ones (othN c u j).length ++ [1] from List.replicate_succ', List.map_append]
            rfl
          · rw [if_neg cc] at hstep
            refine ⟨s2.trans sT, ?_⟩
            rw [hstep]
            exact hD3
        · rw [decide_eq_false (show ¬ (0 : Int) < ((e : Nat) : Int) by omega)]
          rw [decide_eq_false h0, Bool.false_and, if_neg (by decide)] at hstep
          refine iteF ⟨s2.trans sT, ?_⟩
          rw [hstep]
          exact hD3
      · rintro H2 ⟨s2, hD2⟩
        rw [nv_len] at hD2
        refine ⟨Nat.zero_le _, fun z hz0 => ?_⟩
        have s5 := same_new hz0 (.lst [])
        refine ⟨_, .list [], .lst (SqL.of (s5 _ _ hD2)) (Gv.dp_ints (ones _)), .lst (SqL.of upd_same) .nil, shaped_intsL _, by decide, _, rfl, ?_⟩
        rw [eqv_ones]
        have ee : decide ((othN c u u.length).length = 0) = (othN c u u.length).isEmpty := by
          rw [Bool.eq_iff_iff, decide_eq_true_iff, List.isEmpty_iff_length_eq_zero]
        rw [ee]
        have S5 := s2.trans s5
        cases ef : (othN c u u.length).isEmpty with
        | true =>
          rw [ha, ef] at st
          have hF : freeB c L = false := by
            rw [← el, ← List.take_append_drop (i + 1) (L.map fun t => !(othN c t t.length).isEmpty), List.all_append, st]
            rfl
          rw [hF] at q
          exact iteT (q _ (sm.trans S5))
        | false =>
          rw [ha, ef] at st
          exact iteF ⟨_, rfl, sm.trans S5, st⟩
    · rintro σ H' ⟨v2, rfl, sm, ha⟩
      have hlen : rs.length = L.length := hL.length
      rw [List.length_map, hlen, ← List.length_map (f := fun t => !(othN c t t.length).isEmpty) (as := L), List.take_length, el] at ha
      rw [ha] at q
      exact q _ sm
end
end K14

namespace K14
open PySem PySem.Spec PyProof.Rows L2 RZ L5 R7 XX
section
variable {X : Cx} {W : WX}
theorem takes_len (tk : Takes X W) : Takes X (fun cls d σ H => σ.length = X.N.length → W cls d σ H) := fun u s' x => by
  obtain ⟨a, B, sI, pins', σ', H', cls, d, e, J, nb, up, sky, na, os, ag, wish⟩ := x
  exact tk u s' ⟨a, B, sI, pins', σ', H', cls, d, e, J, nb, up, sky, na, os, ag, wish J.len⟩
end
section
variable {P : Program} {w : World} {K : PySem.W.Frag} {mg : Str → Option Value} {base : Heap}
/-! ### _law_told -/
def Mix (K : PySem.W.Frag) (CR : Addr) (Q : VK) : XK := fun cls d H' => cls = .ref CR ∧ ∃ dd v, d = some dd ∧ H' dd = some (.xd [("reason", v)]) ∧ ∀ r, H' r = none → Q (.ref r) (upd H' r (.tup [.str "refused", v]))
def sp_told (K : PySem.W.Frag) (C : Addr) : Sp := fun vs H Q _ => ∃ (a : Addr) (d : Nat) (L : List (List Nat)), vs = [.ref a] ∧ LotAt K C H a d L ∧ d ≤ 8 ∧ (∀ t ∈ L, t.length = d) ∧
  (freeS d L = [] → ∀ H' z y, Same H H' → SqT K H' z [.str "refused", .ref y] → SqT K H' y [.str "all"] → Q (.ref z) H') ∧
  (freeS d L ≠ [] → ∀ H' z c, Same H H' → SqT K H' z (nv c) → c ∈ bigS (freeS d L) → Q (.ref z) H')
theorem ok_told (G : LotsT K mg) : FnOk P w K mg base CX0 5 G.T.a_w_told G.T.d_w_told ["_law_lot"] (sp_told K G.O.C) := by
  refine G.T.F_w_told.ok sc_w_told (fun vs H Q E h => ?_) (fun cdv A outer s H vs Q E hr h => ?_)
  · obtain ⟨a, d, L, rfl, _⟩ := h
    rfl
  · obtain ⟨a, d, L, rfl, hA, hd, hl, qe, q⟩ := h
    refine ⟨_, pss_one (ps_try_mix (l := [⟨.ref G.T.C_Refused, some 1, fun a cls d => _⟩]) (out := fun _ _ _ _ => False)
      (tb := fun W D σ H => ∃ Ech : XK, (∀ cls d σ' H', Ech cls d H' → σ'.length = N_w_told.length → W cls d σ' H') ∧ ∃ a, σ[0]? = some (some (.ref a)) ∧ sp_fset K G.O.C G.T.C_Refused [.ref a] H D.rt Ech)
      rfl rfl sc_w_told.nd LamX.takes0 (fun W pn xe tk _ => ?_)
      (.cons ⟨rfl, by decide, .inl G.T.g_Refused⟩ ⟨rfl, rfl⟩ (fun a oe cls d pn hz hf => pss_one (ps_ret (pe_tup (pa_cons pe_str (pa_cons (pe_xf (X := (cxOf CX0 P w K mg base N_w_told "_law_told" (defScope s_w_told) G.T.a_w_told cdv A outer s H E).nox) G.T.x_Refused G.T.n_Refused hz hf (pv 1)) pa_nil))))) .nil)), ?_⟩
    · refine ⟨fun pins s' σ H' D I h' => ?_⟩
      obtain ⟨Ech, hW, a2, h1, h3⟩ := h'
      exact (pss_one (ps_ret (pe_call (sp := sp_fset K G.O.C G.T.C_Refused) (E := Ech) (ok_fset G) hr (by rfl) G.T.m_free_set G.T.F_free_set.kp G.T.b_free_set .nil (passes_call (takes_len tk) hW) (pa_cons (pv 0) pa_nil)))).run pins s' σ H' D I ⟨_, h1, h3⟩
    · refine ⟨Mix K G.T.C_Refused Q, fun cls d σ' H' hm hl2 => ?_, a, rfl, a, d, L, rfl, hA, hd, hl, fun e H' dd z s1 hz hdd => ?_, q⟩
      · obtain ⟨rfl, dd, v, rfl, hdd, q2⟩ := hm
        have set1 : ∀ a : Addr, (σ'.set 1 (some (V.ref a)))[1]? = some (some (V.ref a)) := fun a => by
          have hl3 : σ'.length = 2 := hl2
          rw [List.getElem?_set_self (by omega)]
        refine ⟨true, G.T.h_Refused_Refused, fun _ a na => ?_, fun z => nomatch z⟩
        exact ⟨.ref a, set1 a, rfl, rfl, dd, _, v, rfl, hdd, rfl, by show 2 ≤ sizeLine; decide, q2⟩
      · refine ⟨rfl, dd, .ref z, rfl, hdd, fun r hr2 => ?_⟩
        have s2 := same_new hr2 (.tup [.str "refused", .ref z])
        exact qe e _ r z (s1.trans s2) (SqT.of upd_same) (same_sqt s2 hz)
end
end K14

/-! what a list of tuples tells: the tuples above it; the least ones of lists that tell the same are the same -/
namespace M7
/-- above one of them -/
abbrev Up (L : List (List Nat)) (t : List Nat) : Prop := ∃ k ∈ L, fitB k t = true
abbrev Len (d : Nat) (L : List (List Nat)) : Prop := ∀ t ∈ L, t.length = d
theorem min_true {A : List (List Nat)} {p : List Nat} : minB A p = true ↔ ∀ q ∈ A, fitB q p = true → q = p := by
  constructor
  · intro h q hq hf
    cases e : decide (q = p) with
    | true => exact of_decide_eq_true e
    | false =>
      have := min_false.mpr ⟨q, hq, of_decide_eq_false e, hf⟩
      rw [h] at this
      cases this
  · intro h
    cases e : minB A p with
    | true => rfl
    | false =>
      obtain ⟨q, h1, h2, h3⟩ := min_false.mp e
      exact absurd (h q h1 h3) h2
theorem mem_least {L : List (List Nat)} {x : List Nat} : x ∈ leastN L ↔ x ∈ L ∧ ∀ q ∈ L, fitB q x = true → q = x := by
  unfold leastN
  rw [List.mem_filter, mem_canon, min_true]
  constructor
  · rintro ⟨h1, h2⟩
    exact ⟨h1, fun q hq => h2 q (mem_canon.mpr hq)⟩
  · rintro ⟨h1, h2⟩
    exact ⟨h1, fun q hq => h2 q (mem_canon.mp hq)⟩
theorem asc_least {d : Nat} {L : List (List Nat)} (h : Len d L) : Asc (leastN L) := (asc_canon h).filter _
theorem len_least {d : Nat} {L : List (List Nat)} (h : Len d L) : Len d (leastN L) := fun t ht => h t (mem_least.mp ht).1
theorem up_least {d : Nat} {L : List (List Nat)} (h : Len d L) {t : List Nat} : Up (leastN L) t ↔ Up L t := by
  constructor
  · rintro ⟨k, hk, hf⟩
    exact ⟨k, (mem_least.mp hk).1, hf⟩
  · rintro ⟨k, hk, hf⟩
    have hd : ∀ y ∈ canonN L, y.length = d := fun y hy => h y (mem_canon.mp hy)
    obtain ⟨m, h1, h2, h3⟩ := below hd k.sum k (Nat.le_refl _) (mem_canon.mpr hk)
    exact ⟨m, List.mem_filter.mpr ⟨h1, h2⟩, fit_trans (by rw [h k hk, hd m h1]) h3 hf⟩
theorem least_sub {d : Nat} {L M : List (List Nat)} (hL : Len d L) (hM : Len d M) (h : ∀ t, t.length = d → (Up L t ↔ Up M t)) {x : List Nat} (hx : x ∈ leastN L) : x ∈ leastN M := by
  obtain ⟨h1, h2⟩ := mem_least.mp hx
  have hxd := hL x h1
  -- whatever of M lies below x is x
  have key : ∀ m ∈ M, fitB m x = true → m = x := fun m hm hf => by
    obtain ⟨l, hl, hlm⟩ := (h m (hM m hm)).mpr ⟨m, hm, fit_refl m⟩
    have e := h2 l hl (fit_trans (by rw [hM m hm, hL l hl]) hlm hf)
    subst e
    exact (fit_anti (by rw [hM m hm, hxd]) hlm hf).symm
  obtain ⟨m, hm, hf⟩ := (h x hxd).mp ⟨x, h1, fit_refl x⟩
  have e := key m hm hf
  subst e
  exact mem_least.mpr ⟨hm, key⟩
/-- lists that tell the same have the same least ones -/
theorem least_ext {d : Nat} {L M : List (List Nat)} (hL : Len d L) (hM : Len d M) (h : ∀ t, t.length = d → (Up L t ↔ Up M t)) : leastN L = leastN M :=
  asc_unique (asc_least hL) (asc_least hM) fun x => ⟨least_sub hL hM h, least_sub hM hL fun t ht => (h t ht).symm⟩
theorem up_app {L M : List (List Nat)} {t : List Nat} : Up (L ++ M) t ↔ Up L t ∨ Up M t := by
  constructor
  · rintro ⟨k, hk, hf⟩
    rcases List.mem_append.mp hk with h | h
    · exact .inl ⟨k, h, hf⟩
    · exact .inr ⟨k, h, hf⟩
  · rintro (⟨k, hk, hf⟩ | ⟨k, hk, hf⟩)
    · exact ⟨k, List.mem_append_left _ hk, hf⟩
    · exact ⟨k, List.mem_append_right _ hk, hf⟩
/-- each of the one with each of the other -/
abbrev eachF (f : Nat → Nat → Nat) (L M : List (List Nat)) : List (List Nat) := L.flatMap fun t => M.map fun u => List.zipWith f t u
theorem up_each {f : Nat → Nat → Nat} {L M : List (List Nat)} {t : List Nat} : Up (eachF f L M) t ↔ ∃ a ∈ L, ∃ b ∈ M, fitB (List.zipWith f a b) t = true := by
  constructor
  · rintro ⟨k, hk, hf⟩
    obtain ⟨a, ha, h2⟩ := List.mem_flatMap.mp hk
    obtain ⟨b, hb, rfl⟩ := List.mem_map.mp h2
    exact ⟨a, ha, b, hb, hf⟩
  · rintro ⟨a, ha, b, hb, hf⟩
    exact ⟨_, List.mem_flatMap.mpr ⟨a, ha, List.mem_map.mpr ⟨b, hb, rfl⟩⟩, hf⟩
theorem len_each {f : Nat → Nat → Nat} {d : Nat} {L M : List (List Nat)} (hL : Len d L) (hM : Len d M) : Len d (eachF f L M) := fun t ht => by
  obtain ⟨a, ha, h2⟩ := List.mem_flatMap.mp ht
  obtain ⟨b, hb, rfl⟩ := List.mem_map.mp h2
  rw [List.length_zipWith, hL a ha, hM b hb, Nat.min_self]
/-- f grows in both places -/
structure Grows (f : Nat → Nat → Nat) : Prop where
  mono : ∀ a b c e, a ≤ c → b ≤ e → f a b ≤ f c e
theorem grows_add : Grows (· + ·) := ⟨fun _ _ _ _ h k => Nat.add_le_add h k⟩
theorem grows_max : Grows max := ⟨fun a b c e h k => by omega⟩
theorem zip_fit {f : Nat → Nat → Nat} (g : Grows f) : ∀ {a b c e : List Nat}, c.length = a.length → b.length = a.length → e.length = a.length → fitB a c = true → fitB b e = true → fitB (List.zipWith f a b) (List.zipWith f c e) = true
  | [], _, _, _, _, _, _, _, _ => by simp [fitB]
  | _ :: _, [], _, _, _, h, _, _, _ => by simp at h
  | _ :: _, _ :: _, [], _, h, _, _, _, _ => by simp at h
  | _ :: _, _ :: _, _ :: _, [], _, _, h, _, _ => by simp at h
  | x :: a, y :: b, z :: c, v :: e, h1, h2, h3, k1, k2 => by
    rw [fit_cons] at k1 k2
    show fitB (f x y :: List.zipWith f a b) (f z v :: List.zipWith f c e) = true
    rw [fit_cons]
    exact ⟨g.mono _ _ _ _ k1.1 k2.1, zip_fit g (by simpa using h1) (by simpa using h2) (by simpa using h3) k1.2 k2.2⟩
/-- least ones may be taken before or behind -/
theorem each_least {f : Nat → Nat → Nat} (g : Grows f) {d : Nat} {L M : List (List Nat)} (hL : Len d L) (hM : Len d M) : leastN (eachF f (leastN L) (leastN M)) = leastN (eachF f L M) := by
  refine least_ext (len_each (len_least hL) (len_least hM)) (len_each hL hM) fun t ht => ?_
  rw [up_each, up_each]
  constructor
  · rintro ⟨a, ha, b, hb, hf⟩
    exact ⟨a, (mem_least.mp ha).1, b, (mem_least.mp hb).1, hf⟩
  · rintro ⟨a, ha, b, hb, hf⟩
    obtain ⟨a', ha', fa⟩ := (up_least hL).mpr ⟨a, ha, fit_refl a⟩
    obtain ⟨b', hb', fb⟩ := (up_least hM).mpr ⟨b, hb, fit_refl b⟩
    have la := len_least hL a' ha'
    have lb := len_least hM b' hb'
    have l1 := hL a ha
    have l2 := hM b hb
    exact ⟨a', ha', b', hb', fit_trans (by rw [List.length_zipWith, List.length_zipWith, la, lb, l1, l2]) (zip_fit g (by rw [la, l1]) (by rw [la, lb]) (by rw [la, l2]) fa fb) hf⟩
theorem app_least {d : Nat} {L M : List (List Nat)} (hL : Len d L) (hM : Len d M) : leastN (leastN L ++ leastN M) = leastN (L ++ M) := by
  refine least_ext (d := d) (fun t ht => ?_) (fun t ht => ?_) fun t ht => ?_
  · rcases List.mem_append.mp ht with h | h
    · exact len_least hL t h
    · exact len_least hM t h
  · rcases List.mem_append.mp ht with h | h
    · exact hL t h
    · exact hM t h
  · rw [up_app, up_app, up_least hL, up_least hM]
theorem least_least {d : Nat} {L : List (List Nat)} (hL : Len d L) : leastN (leastN L) = leastN L := least_ext (len_least hL) hL fun t _ => up_least hL
end M7

/-! t[::-1] of a tuple -/
namespace W7
open PySem PySem.Spec PyProof.Rows L2 HT
section
variable {prog : Program} {w : World} {A : Around} {E : Value → Shared → Prop} {s : Shared}
theorem rev_pick (xs : Array Value) : ((List.range xs.size).filterMap fun (m : Nat) => xs[(((xs.size : Int) - 1) + (m : Int) * (-1)).toNat]?).toArray = xs.toList.reverse.toArray := by
  congr 1
  have e2 : ∀ (l : List Value), (List.range l.length).filterMap (fun m => l[m]?) = l := fun l => by
    induction l with
    | nil => rfl
    | cons x l ih =>
      rw [List.length_cons, List.range_succ_eq_map, List.filterMap_cons, List.filterMap_map]
      show x :: (List.range l.length).filterMap ((fun m => (x :: l)[m]?) ∘ Nat.succ) = _
      rw [show ((fun m => (x :: l)[m]?) ∘ Nat.succ) = (fun m => l[m]?) from rfl, ih]
  have e3 := e2 xs.toList.reverse
  rw [List.length_reverse, Array.length_toList] at e3
  rw [← e3]
  have cg : ∀ {l : List Nat} {f g : Nat → Option Value}, (∀ m ∈ l, f m = g m) → l.filterMap f = l.filterMap g := fun {l f g} h => by
    induction l with
    | nil => rfl
    | cons m l ih => rw [List.filterMap_cons, List.filterMap_cons, h m List.mem_cons_self, ih fun k hk => h k (List.mem_cons_of_mem _ hk)]
  refine cg fun m hm => ?_
  have hlt := List.mem_range.mp hm
  rw [List.getElem?_reverse (by rw [Array.length_toList]; exact hlt), Array.length_toList, show (((xs.size : Int) - 1) + (m : Int) * (-1)).toNat = xs.size - 1 - m by omega, Array.getElem?_toList]
theorem places_rev (n : Nat) : Builtin.Slice.slicePlaces ((n : Int) - 1) (-1) (-1) = n := by
  unfold Builtin.Slice.slicePlaces
  have h1 : ¬ (-1 : Int) > 0 := by omega
  simp only [h1, if_false, Int.neg_neg, Int.ediv_one]
  split <;> omega
theorem sliceApplied_rev {sl : Addr} {vl vu vs : Value} {n : Nat} {Q : Int × Int × Nat → Shared → Prop} (hs : s.heap.IsSliceOf sl vl vu vs) (pl : IsPart vl none) (pu : IsPart vu none) (ps : IsPart vs (some (-1)))
    (h : Q ((n : Int) - 1, -1, n) s) : wpAny (model prog w) A (Builtin.Slice.sliceApplied (.ref sl) (pure (n : Int))) Q E s := by
  obtain ⟨os, hos, hcs, hds⟩ := id hs
  unfold Builtin.Slice.sliceApplied Builtin.Slice.sliceFields
  refine wpAny_bind (wpAny_bind (wpAny_field hos hds (x := vl) rfl (wpAny_bind (wpAny_field hos hds (x := vu) rfl (wpAny_bind (wpAny_field hos hds (x := vs) rfl (wpAny_pure ?_)))))))
  refine wpAny_bind (slicePart_ ps ?_)
  show wpAny _ _ (if ((-1 : Int) == 0) = true then _ else _) _ _ s
  rw [if_neg (by decide)]
  refine wpAny_bind (slicePart_ pl (wpAny_bind (slicePart_ pu (wpAny_bind (wpAny_pure ?_)))))
  show wpAny _ _ (pure ((n : Int) - 1, (-1 : Int), Builtin.Slice.slicePlaces ((n : Int) - 1) (-1) (-1))) _ _ s
  rw [places_rev]
  exact wpAny_pure h
theorem getItem_tuple_rev {t sl : Addr} {items : Array Value} {vl vu vs : Value} {Q : Value → Shared → Prop} (ht : IsTup s.heap t items) (hs : s.heap.IsSliceOf sl vl vu vs) (pl : IsPart vl none) (pu : IsPart vu none) (ps : IsPart vs (some (-1)))
    (h : Q (.ref s.heap.objs.size) { s with heap := s.heap.push { cls := .type "tuple", data := .seq items.toList.reverse.toArray } })
    (hsz : items.size ≤ sizeLine) : wpAny (model prog w) A (getItem (.ref t) (.ref sl)) Q E s := by
  have htake : sizeOk (.seq items.toList.reverse.toArray) := by
    show items.toList.reverse.toArray.size ≤ sizeLine
    rw [List.size_toArray, List.length_reverse, Array.length_toList]
    exact hsz
  obtain ⟨os, hos, hcs, hds⟩ := id hs
  have hTs : s.TypeIs (.ref sl) "slice" := ⟨os, hos, hcs⟩
  unfold getItem
  try with_reducible refine wpAny_holding ?_
  first | refine wpAny_bind (wpAny_pure ?_) | skip
  refine wpAny_bind (wpAny_sequenceKey ht.typeIs (by decide) ?_)
  refine wpAny_bind (wpAny_callSpecial?_slot (name := Str.ofString "__getitem__") ht.typeIs PyProof.Rows.slot_tuple_getitem
    (wpAny_call_entry PyProof.Rows.slot_tuple_getitem ht.typeIs entry_tuple_getitem ?_ (args_tuple_getitem _ _)))
  show wpAny _ _ (Builtin.Tuple.tupleItemsOf (.ref t) >>= _) _ _ s
  refine wpAny_bind (tupleItemsOf_ ht ?_)
  refine wpAny_bind (wpAny_typeOf hTs ?_)
  rw [if_pos (by decide)]
  refine wpAny_bind (sliceApplied_rev hs pl pu ps ?_)
  have hno : ¬ (((((items.size : Nat) : Int) - 1) == 0 && (-1 : Int) == 1 && items.size == items.size) = true) := by
    rw [show ((-1 : Int) == 1) = false by decide, Bool.and_false, Bool.false_and]
    exact Bool.false_ne_true
  show wpAny _ _ (if ((((items.size : Nat) : Int) - 1) == 0 && (-1 : Int) == 1 && items.size == items.size) = true then _ else _) _ _ s
  rw [if_neg hno, rev_pick]
  first
    | exact wpAny_bind (m := Builtin.Tuple.tupleExact _) (wpAny_newObj_type (wpAny_pure ⟨_, rfl, wpAny_pure h⟩) htake)
    | exact wpAny_bind (m := Builtin.Tuple.tupleExact _) (wpAny_newObj_type (wpAny_bind (wpAny_pure (wpAny_pure ⟨_, rfl, wpAny_pure h⟩))) htake)
    | exact wpAny_bind (wpAny_bind (m := Builtin.Tuple.tupleExact _) (wpAny_newObj_type (wpAny_pure (wpAny_pure ⟨_, rfl, wpAny_pure h⟩)) htake))
    | exact wpAny_bind (wpAny_bind (m := Builtin.Tuple.tupleExact _) (wpAny_newObj_type (wpAny_pure ⟨_, rfl, wpAny_pure h⟩) htake))
end
section
variable {X : Cx}
def tRevT (K : PySem.W.Frag) (te : TE) : TE := fun σ H Q => te σ H fun x H1 => ∃ a xs, x = .ref a ∧ SqT K H1 a xs ∧ ∀ p, H1 p = none → Q (.ref p) (upd H1 p (.tup xs.reverse))
theorem pe_revT {e : Expr} {te : TE} {k : Nat} {p1 p2 p3 pos : Pos} (he : PE X e te) : PE X (.Subscript e (.Slice none none (some (.UnaryOp .USub (.Constant (.int 1) k p1) p2)) p3) pos) (tRevT X.K te) := by
  refine ⟨fun pins s σ H Q I h => ?_⟩
  refine Subscript_ (thn (he.run pins s σ H _ I h) fun v s1 ⟨x, H1, I1, r1, q1⟩ => ?_)
  obtain ⟨a, xs, ex, hx, q⟩ := q1
  subst ex
  cases r1
  have hst : PO X (some (.UnaryOp .USub (.Constant (.int 1) k p1) p2)) (tPart (tUn (rU fun i => .int (-i)) (tC (.int 1)))) := po_some (pe_un un_neg pe_int)
  refine wpAny_Slice (thn (po_none.run pins s1 σ H1 (fun o H2 => o = none ∧ H2 = H1) I1 ⟨rfl, rfl⟩) fun vl s2 ⟨l, H2, I2, pl, el, e2⟩ => ?_)
  subst el e2
  refine thn (po_none.run pins s2 σ H2 (fun o H3 => o = none ∧ H3 = H2) I2 ⟨rfl, rfl⟩) fun vu s3 ⟨u, H3, I3, pu, eu, e3⟩ => ?_
  subst eu e3
  refine thn (hst.run pins s3 σ H3 (fun o H4 => o = some (-1) ∧ H4 = H3) I3 ⟨1, rfl, -1, rfl, rfl, rfl⟩) fun vs s4 ⟨o, H4, I4, ps, eo, e4⟩ => ?_
  subst eo e4
  have I5 : Inv X pins σ H4 { s4 with heap := s4.heap.push { cls := .type "slice", data := .fields #[vl, vu, vs] } } := I4.kept (t' := s4.toks) fun b ob q => Heap.get?_push_of_some _ q
  obtain ⟨its, r, ht, hz⟩ := I5.tuple hx
  have hlen := r.length
  show wpAny (model X.prog X.w) X.A (subscriptTail e (.Slice none none (some (.UnaryOp .USub (.Constant (.int 1) k p1) p2)) p3) (.ref a) (.ref s4.heap.objs.size)) (EP X pins σ Q) X.xe { s4 with heap := s4.heap.push { cls := .type "slice", data := .fields #[vl, vu, vs] } }
  refine tail_any (ops := [.ref a, .ref s4.heap.objs.size]) ht.typeIs (PyProof.Rows.slot_tuple_getitem.lookup) ?_ (by with_unfolding_all rfl)
  refine getItem_tuple_rev ht (Heap.IsSliceOf.new _ vl vu vs) pl pu ps ?_ (by rw [List.size_toArray]; omega)
  refine ⟨.ref _, _, I5.laid (t' := s4.toks) (o := .tup xs.reverse) (fun b ob q => Heap.get?_push_of_some _ q) (Nat.le_refl _) ?_, rfl, q _ (I5.hok.fresh (Nat.le_refl _))⟩
  exact ⟨by rw [List.length_reverse]; exact hz, _, r.reverse, IsTup.new _ _⟩
end
end W7

namespace K14
open PySem PySem.Spec PyProof.Rows L2 RZ L5 R7 XX
/-! ### where no set is free -/
theorem free_none {d : Nat} {L : List (List Nat)} (hl : ∀ t ∈ L, t.length = d) (h : freeS d L = []) : ∃ t ∈ L, ∀ j, t.getD j 0 = 0 := by
  have h0 : freeB [] L = false := by
    cases e : freeB [] L with
    | false => rfl
    | true =>
      have : [] ∈ freeS d L := List.mem_filter.mpr ⟨sets_nil d, e⟩
      rw [h] at this
      cases this
  unfold freeB at h0
  rw [List.all_eq_false] at h0
  obtain ⟨t, ht, e⟩ := h0
  refine ⟨t, ht, fun j => ?_⟩
  have e2 : othN [] t t.length = [] := by
    have e3 : (othN [] t t.length).isEmpty = true := by
      cases e4 : (othN [] t t.length).isEmpty with
      | true => rfl
      | false =>
        rw [e4] at e
        exact absurd rfl e
    exact List.isEmpty_iff.mp e3
  by_cases hj : j < t.length
  · rcases Nat.eq_zero_or_pos (t.getD j 0) with z | z
    · exact z
    · have hm : j ∈ othN [] t t.length := List.mem_filter.mpr ⟨List.mem_range.mpr hj, by rw [decide_eq_true z]; rfl⟩
      rw [e2] at hm
      cases hm
  · rw [List.getD_eq_getElem?_getD, List.getElem?_eq_none (by omega)]
    rfl
theorem zero_fits : ∀ {t u : List Nat}, (∀ j, t.getD j 0 = 0) → u.length = t.length → M7.fitB t u = true
  | [], _, _, _ => rfl
  | _ :: _, [], _, h => by simp at h
  | a :: t, b :: u, h, hl => by
    have h0 : a = 0 := h 0
    rw [h0]
    exact M7.fit_cons.mpr ⟨Nat.zero_le _, zero_fits (fun j => h (j + 1)) (by simpa using hl)⟩
theorem zero_sum : ∀ {t : List Nat}, (∀ j, t.getD j 0 = 0) → t.sum = 0
  | [], _ => rfl
  | a :: t, h => by
    have h0 : a = 0 := h 0
    rw [List.sum_cons, h0, zero_sum (fun j => h (j + 1))]
theorem only_one {d : Nat} {L0 : List (List Nat)} (hl : ∀ t ∈ L0, t.length = d) (h : freeS d (M7.leastN L0) = []) : ∃ t, M7.leastN L0 = [t] ∧ t.sum = 0 := by
  have hL : ∀ t ∈ M7.leastN L0, t.length = d := fun t ht => hl t (M7.mem_least.mp ht).1
  obtain ⟨t, ht, hz⟩ := free_none hL h
  refine ⟨t, ?_, zero_sum hz⟩
  have all : ∀ u ∈ M7.leastN L0, u = t := fun u hu => ((M7.mem_least.mp hu).2 t (M7.mem_least.mp ht).1 (zero_fits hz (by rw [hL u hu, hL t ht]))).symm
  have asc : M7.Asc (M7.leastN L0) := (M7.asc_canon hl).filter _
  generalize M7.leastN L0 = A at ht all asc
  cases A with
  | nil => cases ht
  | cons a r =>
    have ea := all a List.mem_cons_self
    subst ea
    cases r with
    | nil => rfl
    | cons b r =>
      have eb := all b (List.mem_cons_of_mem _ List.mem_cons_self)
      have := (List.pairwise_cons.mp asc).1 b List.mem_cons_self
      rw [eb, M7.lt_irr] at this
      cases this
/-! ### what is judged -/
abbrev iv (t : List Int) : List V := t.map V.int
theorem nv_iv (c : List Nat) : nv c = iv (encN c) := by
  show _ = List.map _ (List.map _ _)
  rw [List.map_map]
  rfl
def jB (o : Option (List Int)) (S : List (List Nat)) : Bool := match o with
  | none => false
  | some t => (bigS S).any fun c => decide (encN c = t)
/-- a value: the integers of it where it is a tuple of them -/
inductive Jv (K : PySem.W.Frag) (H : Hp) (m : Int) : V → Option (List Int) → Prop
  | num {a : Addr} {t : List Int} (h : SqT K H a (iv t)) (hl : t.length ≤ 1000) : Jv K H m (.ref a) (some t)
  | other {v : V} (h : Va K H v none) : Jv K H m v none
  | odd {a : Addr} {vs : List V} {os : List (Option Int)} (h : SqT K H a vs) (e : Els K H vs os) (hl : vs.length ≤ 1000) (n : ((vs.length : Nat) : Int) ≠ m) (b : (os.all fun o => o.isSome) = false) : Jv K H m (.ref a) none
theorem Jv.same {K : PySem.W.Frag} {H H' : Hp} {m : Int} {v : V} {o : Option (List Int)} (s : Same H H') (h : Jv K H m v o) : Jv K H' m v o := by
  cases h with
  | num h hl => exact .num (same_sqt s h) hl
  | other h => exact .other (h.same s)
  | odd h e hl n b => exact .odd (same_sqt s h) (e.same s) hl n b
abbrev Jvs (K : PySem.W.Frag) (H : Hp) (m : Int) (xs : List V) : Prop := ∀ v ∈ xs, ∃ o, Jv K H m v o
theorem Jvs.same {K : PySem.W.Frag} {H H' : Hp} {m : Int} {xs : List V} (s : Same H H') (h : Jvs K H m xs) : Jvs K H' m xs := fun v hv => by
  obtain ⟨o, ho⟩ := h v hv
  exact ⟨o, ho.same s⟩
theorem Jvs.app {K : PySem.W.Frag} {H : Hp} {m : Int} {xs ys : List V} (h : Jvs K H m xs) (k : Jvs K H m ys) : Jvs K H m (xs ++ ys) := fun v hv => (List.mem_append.mp hv).elim (h v) (k v)
theorem els_iv {K : PySem.W.Frag} {H : Hp} : ∀ t : List Int, Els K H (iv t) (t.map some)
  | [] => .nil
  | i :: t => .cons (.int i) (els_iv t)
theorem all_somes : ∀ t : List Int, ((t.map some).all fun o : Option Int => o.isSome) = true
  | [] => rfl
  | i :: t => all_somes t
/-- told of a value by the program -/
theorem jv_va {K : PySem.W.Frag} {H : Hp} {m : Int} {v : V} {o : Option (List Int)} (h : Jv K H m v o) : ∃ r, Va K H v r ∧ ∀ S, isfB r (bigS S) = jB o S := by
  cases h with
  | @num a t h hl =>
    refine ⟨some (t.map some), .tup h (els_iv t) (by rw [List.length_map]; exact hl), fun S => ?_⟩
    show (((t.map some).all fun o => o.isSome) && _) = _
    rw [all_somes, Bool.true_and]
    show _ = (bigS S).any fun c => decide (encN c = t)
    congr 1
    funext c
    refine decide_eq_decide.mpr ⟨fun h => ?_, fun h => ?_⟩
    · have h2 := congrArg (List.map fun o : Option Int => o.getD 0) h
      rw [List.map_map, List.map_map] at h2
      have e : (t.map ((fun o : Option Int => o.getD 0) ∘ some)) = t := List.map_id' t
      rw [e] at h2
      exact h2
    · rw [← h, List.map_map]
      rfl
  | other h => exact ⟨none, h, fun S => rfl⟩
  | @odd a vs os h e hl n b =>
    refine ⟨some os, .tup h e hl, fun S => ?_⟩
    show ((os.all fun o => o.isSome) && _) = false
    rw [b, Bool.false_and]
/-- told by the law: the length, and among all free ones -/
theorem j_len {S : List (List Nat)} {t : List Int} (h : ((t.length : Nat) : Int) ≠ bigL S) : jB (some t) S = false := by
  show ((bigS S).any fun c => decide (encN c = t)) = false
  rw [List.any_eq_false]
  intro c hc e
  have e1 := of_decide_eq_true e
  refine h ?_
  rw [← e1, List.length_map]
  exact (mem_big.mp hc).2
theorem j_in {S : List (List Nat)} {t : List Int} (h : ((t.length : Nat) : Int) = bigL S) : (S.any fun c => decide (encN c = t)) = jB (some t) S := by
  show _ = (bigS S).any fun c => decide (encN c = t)
  rw [Bool.eq_iff_iff, List.any_eq_true, List.any_eq_true]
  constructor
  · rintro ⟨c, hc, e⟩
    have e1 := of_decide_eq_true e
    refine ⟨c, mem_big.mpr ⟨hc, ?_⟩, e⟩
    rw [← h, ← e1, List.length_map]
  · rintro ⟨c, hc, e⟩
    exact ⟨c, (mem_big.mp hc).1, e⟩
theorem any_encN (S : List (List Nat)) (u : List Int) : ((S.map encT).any fun z => PyData.eqv z (Gv.encI u)) = S.any fun c => decide (encN c = u) := by
  rw [List.any_map]
  congr 1
  funext c
  show PyData.eqv (encT c) (Gv.encI u) = _
  rw [encT_I, Gv.eqv_tupIE]
theorem in_self {S : List (List Nat)} {c : List Nat} (h : c ∈ S) : (S.any fun k => decide (encN k = encN c)) = true := List.any_eq_true.mpr ⟨c, h, decide_eq_true rfl⟩
theorem make_at {K : PySem.W.Frag} {C : Addr} {H : Hp} {QQ : Hp → Prop} {z : Addr} {d : Nat} {rs : List Addr} {L M : List (List Nat)} {y dx : Addr} (hz : SqT K H z (rs.map V.ref)) (hT : Tups K H rs L) (hf : Few d L) (h8 : d ≤ 8) (low : ∀ t ∈ L, ∀ e ∈ t, e ≤ 8) (he : M7.leastN L = M) (ny : H y = none) (nd : H dx = none) (ne : dx ≠ y)
    (q : ∀ H', Same H H' → LotAt K C H' y d M → QQ H') :
    sp_init K C [.ref y, .int ((d : Nat) : Int), .ref z] (upd (upd H dx (.own y)) y (.ins C dx [])) (fun v H' => v = .non ∧ QQ H') E0 := by
  have sy : Same H (upd (upd H dx (.own y)) y (.ins C dx [])) := (same_new nd (.own y)).trans (same_new (by rw [upd_ne (Ne.symm ne)]; exact ny) _)
  refine ⟨y, dx, z, d, rs, L, rfl, upd_same, same_sqt sy hz, hT.same sy, hf, h8, low, fun H2 m2 rs2 st2 hx2 hm2 hT2 => ⟨rfl, ?_⟩⟩
  have S2 : Same H H2 := fun b o h => st2 b o (ne_of_none h ny) (sy b o h)
  rw [he] at hT2
  exact q H2 S2 ⟨dx, m2, rs2, hx2, hm2, hT2⟩
theorem few_lt {d n m : Nat} {L : List (List Nat)} (h1 : 1 ≤ d) (hl : ∀ t ∈ L, t.length = d) (hm : ∀ t ∈ L, ∀ e ∈ t, e ≤ m) (hn : L.length ≤ n) (hm' : m ≤ 60) (hn' : n ≤ 24) : Few d L := ⟨h1, hl, fun t ht e he => Nat.le_trans (hm t ht e he) hm', by omega, Nat.le_trans (least_short L) (by omega)⟩
end K14

namespace K14
open PySem PySem.Spec PyProof.Rows L2 RZ L5 R7 XX
theorem PS.weak' {X : Cx} {st : Stmt} {t t' : TS} (h : PS X st t) (i : ∀ D σ H, t' D σ H → t D σ H) : PS X st t' := ⟨fun pins s σ H D I h' => h.run pins s σ H D I (i D σ H h')⟩
section
variable {P : Program} {w : World} {K : PySem.W.Frag} {mg : Str → Option Value} {base : Heap}
abbrev stR (i : Nat) : Stmt := (defBody s_w_right).getD i (.Pass ⟨0, 0, 0, 0⟩)
abbrev XR {K : PySem.W.Frag} {mg : Str → Option Value} (T : Txt K mg) (P : Program) (w : World) (base : Heap) (cdv : Value) (A : Around) (outer : List Env) (s : Shared) (H : Hp) (E : XK) : Cx :=
  (cxOf CX0 P w K mg base N_w_right "_law_right" (defScope s_w_right) T.a_w_right cdv A outer s H E).nox
variable {cdv : Value} {A : Around} {outer : List Env} {s : Shared} {H0 : Hp} {E : XK}
/-- what the law holds: the jug, its letters, members, lot, free sets -/
structure Dr where
  p : Addr
  d : Nat
  m : Addr
  l : Addr
  f : Addr
  ms : List Addr
  fs : List Addr
  L0 : List (List Nat)
abbrev Dr.L (t : Dr) : List (List Nat) := M7.leastN t.L0
abbrev Dr.S (t : Dr) : List (List Nat) := freeS t.d t.L
structure InR (K : PySem.W.Frag) (C : Addr) (t : Dr) (H : Hp) : Prop where
  lot : LotAt K C H t.l t.d t.L
  mem : SqT K H t.m (t.ms.map V.ref)
  memT : Tups K H t.ms t.L
  fre : SqL K H t.f (t.fs.map V.ref)
  freT : Tups K H t.fs t.S
  pos : 1 ≤ t.d
  few : t.d ≤ 8
  len : ∀ u ∈ t.L0, u.length = t.d
theorem InR.same {C : Addr} {t : Dr} {H H' : Hp} (s : Same H H') (h : InR K C t H) : InR K C t H' := ⟨h.lot.same s, same_sqt s h.mem, h.memT.same s, same_sql s h.fre, h.freT.same s, h.pos, h.few, h.len⟩
theorem InR.lenL {C : Addr} {t : Dr} {H : Hp} (h : InR K C t H) : ∀ u ∈ t.L, u.length = t.d := fun u hu => h.len u (M7.mem_least.mp hu).1
abbrev σR (t : Dr) (v5 v6 v7 v8 v9 : Option L2.V) : L2.St := [some (.ref t.p), some (.int ((t.d : Nat) : Int)), some (.ref t.m), some (.ref t.l), some (.ref t.f), v5, v6, v7, v8, v9, none]
abbrev σP (p : Addr) (v1 v2 : Option L2.V) : L2.St := [some (.ref p), v1, v2, none, none, none, none, none, none, none, none]
theorem st0 (G : LotsT K mg) (hr : Room 6 (XR G.T P w base cdv A outer s H0 E).A) : PS (XR G.T P w base cdv A outer s H0 E) (stR 0)
    (fun D σ H => ∃ p, σ = σP p none none ∧ Pail p H ∧ ∀ H' d, Bar p H H' → Pail p H' → 1 ≤ d → d ≤ 8 → D.nx (σP p (some (.int ((d : Nat) : Int))) none) H') := by
  refine PS.weak' (ps_set (i := 1) sc_w_right.nd rfl (Or.inl rfl) (pe_op op_add pe_int (pe_call (ok_dip G.T) (hr.mono (by decide)) (by rfl) G.T.m_w_pour G.T.F_w_pour.kp G.T.b_w_pour .nil pass0 (pa_cons (pv 0) (pa_cons pe_int pa_nil))))) ?i
  rintro D σ H ⟨p, rfl, ⟨g, x, c, hp⟩, q⟩
  refine ⟨_, rfl, p, _, g, x, c, rfl, hp, by decide, by decide, fun g2 x2 c2 r h0 h1 => ?_⟩
  obtain ⟨n, rfl⟩ := nat_of h0
  refine ⟨_, _, rfl, rfl, ?_⟩
  dsimp only
  rw [show (1 : Int) + ((n : Nat) : Int) = (((1 + n : Nat)) : Int) from rfl]
  exact q _ (1 + n) Bar.upd ⟨_, _, _, upd_same⟩ (by omega) (by omega)
theorem st1 (G : LotsT K mg) (hr : Room 6 (XR G.T P w base cdv A outer s H0 E).A) : PS (XR G.T P w base cdv A outer s H0 E) (stR 1)
    (fun D σ H => ∃ p d, σ = σP p (some (.int ((d : Nat) : Int))) none ∧ Pail p H ∧ 1 ≤ d ∧ d ≤ 8 ∧ ∀ H' z rs L, Bar p H H' → Pail p H' → SqT K H' z (rs.map V.ref) → Tups K H' rs (M7.leastN L) → L.length ≤ 7 → (∀ t ∈ L, t.length = d) → (∀ t ∈ L, ∀ e ∈ t, e ≤ 3) → D.nx (σP p (some (.int ((d : Nat) : Int))) (some (.ref z))) H') := by
  refine PS.weak' (ps_set (i := 2) sc_w_right.nd rfl (Or.inr rfl) (pe_call (ok_wmem G.T) (hr.mono (by decide)) (by rfl) G.T.m_w_members G.T.F_w_members.kp G.T.b_w_members .nil pass0 (pa_cons (pv 0) (pa_cons (pv 1) (pa_cons pe_int (pa_cons
    (pe_call (ok_some G.T) (hr.mono (by decide)) (by rfl) G.T.m_w_taken G.T.F_w_taken.kp G.T.b_w_taken .nil pass0 (pa_cons (pv 0) (pa_cons (pe_lst (pa_cons pe_int (pa_cons pe_int (pa_cons pe_int pa_nil)))) pa_nil))) pa_nil)))))) ?i
  rintro D σ H ⟨p, d, rfl, ⟨g, x, c, hp⟩, h1, h8, q⟩
  refine ⟨_, rfl, _, rfl, _, rfl, by show 3 ≤ sizeLine; decide, fun y hy => ?_⟩
  have sy := same_new hy (.lst [V.int 1, V.int 2, V.int 3])
  refine ⟨p, y, _, g, x, c, rfl, sy _ _ hp, ne_pail ⟨g, x, c, hp⟩ hy, SqL.of upd_same, by simp, by simp, fun g2 x2 c2 v hv => ?_⟩
  obtain ⟨n, rfl, hn⟩ : ∃ n : Nat, v = .int ((n : Nat) : Int) ∧ n ≤ 3 := by
    simp only [List.mem_cons, List.not_mem_nil, or_false] at hv
    rcases hv with rfl | rfl | rfl
    · exact ⟨1, rfl, by omega⟩
    · exact ⟨2, rfl, by omega⟩
    · exact ⟨3, rfl, by omega⟩
  refine ⟨p, d, 7, n, rfl, ⟨_, _, _, upd_same⟩, h1, h8, by decide, by omega, fun H' z rs L b hp' hz hT hn' hl hm => ?_⟩
  exact q H' z rs L ((Bar.same sy).trans (Bar.upd.trans b)) hp' hz hT hn' hl fun t ht e he => Nat.le_trans (hm t ht e he) hn
theorem st2 (G : LotsT K mg) (hr : Room 6 (XR G.T P w base cdv A outer s H0 E).A) : PS (XR G.T P w base cdv A outer s H0 E) (stR 2)
    (fun D σ H => ∃ p d z rs L, σ = σP p (some (.int ((d : Nat) : Int))) (some (.ref z)) ∧ 1 ≤ d ∧ d ≤ 8 ∧ SqT K H z (rs.map V.ref) ∧ Tups K H rs (M7.leastN L) ∧ L.length ≤ 7 ∧ (∀ t ∈ L, t.length = d) ∧ (∀ t ∈ L, ∀ e ∈ t, e ≤ 3) ∧
      ∀ H' t, Same H H' → t.p = p → InR K G.O.C t H' → D.nx (σR t none none none none none) H') := by
  refine PS.weak' (ps_par (i := 3) (j := 4) (by rfl) sc_w_right.nd rfl rfl (by decide) rfl rfl (pa_cons (pe_make G.O.M (ok_init G.T G.O) (hr.mono (by decide)) rfl G.O.gC G.O.bI .nil pass0 (pa_cons (pv 1) (pa_cons (pv 2) pa_nil)))
    (pa_cons (pe_lc (own := [("_law_chosen", 10)]) (g := gName 10) rfl sc_w_right.nd (pi_list (pe_call (ok_wsets G.T) (hr.mono (by decide)) (by rfl) G.T.m_w_sets G.T.F_w_sets.kp G.T.b_w_sets .nil pass0 (pa_cons (pv 1) pa_nil))) (blkOk_by (own := [("_law_chosen", 10)]) (N := N_w_right) (sc := defScope s_w_right) (by decide +kernel))
        (fun _ _ _ _ _ => pg_name (i := 10) sc_w_right.nd rfl (Or.inl rfl))
        (fun _ _ _ _ _ => pts_one (pt_val (pe_call (ok_wfree G.T) (hr.mono (by decide)) (by rfl) G.T.m_w_is_free G.T.F_w_is_free.kp G.T.b_w_is_free .nil pass0 (pa_cons (pv 2) (pa_cons (pv 10) pa_nil)))))
        (fun _ _ _ _ _ => pv 10)) pa_nil)) (by rfl)) ?i
  rintro D σ H ⟨p, d, z, rs, L, rfl, h1, h8, hz, hT, hn, hl, hm, q⟩
  have hlL : ∀ t ∈ M7.leastN L, t.length = d := fun t ht => hl t (M7.mem_least.mp ht).1
  have hmL : ∀ t ∈ M7.leastN L, ∀ e ∈ t, e ≤ 3 := fun t ht => hm t (M7.mem_least.mp ht).1
  have hnL : (M7.leastN L).length ≤ 7 := Nat.le_trans (least_short L) hn
  refine ⟨_, rfl, _, rfl, ?_⟩
  intro y dx ny nd ne
  refine make_at (K := K) (C := G.O.C) (d := d) (rs := rs) (L := M7.leastN L) (M := M7.leastN L) hz hT (few_lt h1 hlL hmL hnL (by decide) (by decide)) h8 (fun t ht e he => Nat.le_trans (hmL t ht e he) (by decide)) (M7.least_least hl) ny nd ne (fun H2 s2 hE => ?_)
  refine ⟨_, rfl, d, rfl, h8, fun H3 zs es s3 hzs hes => ?_⟩
  have S3 := s2.trans s3
  refine ⟨zs, rfl, ⟨_, hzs⟩, fun Dd hD => ?_⟩
  have sD := same_new hD (.lst [])
  have hel : es.length = _ := hes.length
  have hfew := sets_few h8
  refine lc_list (K := K) (a := zs) (xs := es.map V.ref) (fun i H' => Same H3 H' ∧ ∃ qs : List Addr, H' Dd = some (.lst (qs.map V.ref)) ∧ Tups K H' qs (((setsL d).take i).filter fun c => freeB c (M7.leastN L))) ⟨sD, [], upd_same, .nil⟩ (fun i H' _ hh => same_sql hh.1 hzs) (fun i x H4 hx hh => ?_) (fun H4 hh => ?_)
  · obtain ⟨s4, qs, eD, hQ⟩ := hh
    obtain ⟨c, t, rfl, _, ht, hs⟩ := tups_get hes hx
    have hql : qs.length ≤ 256 := by
      have e1 : qs.length = _ := hQ.length
      have e2 := List.length_filter_le (fun c => freeB c (M7.leastN L)) ((setsL d).take i)
      rw [List.length_take] at e2
      omega
    have S4 := S3.trans s4
    refine ⟨rfl, _, rfl, _, rfl, .ref c, .ref z, rfl, c, z, t, rs, _, rfl, same_sqt s4 hs, .inr (same_sqt S4 hz), hT.same S4, lots_len h8 hlL, fun H5 s5 => ⟨_, rfl, ?_⟩⟩
    have hs5 := same_sqt (s4.trans s5) hs
    refine ite2 (fun cb => ?_) (fun cb => ?_)
    · refine ⟨_, rfl, _, s5 _ _ eD, by rw [List.length_map]; exact sizeK (by omega), same_updL (s4.trans s5) hD, qs ++ [c], by rw [upd_same, List.map_append]; rfl, ?_⟩
      rw [filtN_yes (f := fun c => freeB c (M7.leastN L)) ht cb]
      exact ((hQ.same s5).updL (s5 _ _ eD)).app (.cons (sqt_updL (s5 _ _ eD) hs5) .nil)
    · refine ⟨s4.trans s5, qs, s5 _ _ eD, ?_⟩
      rw [filtN_no (f := fun c => freeB c (M7.leastN L)) ht (Bool.eq_false_iff.mpr cb)]
      exact hQ.same s5
  · obtain ⟨s4, qs, eD, hQ⟩ := hh
    rw [List.length_map, hel, List.take_length] at hQ
    have S4 := S3.trans s4
    exact ⟨_, _, rfl, q H4 ⟨p, d, z, y, Dd, rs, qs, L⟩ S4 rfl ⟨hE.same (s3.trans s4), same_sqt S4 hz, hT.same S4, SqL.of eD, hQ, h1, h8, hl⟩⟩
theorem st3 (G : LotsT K mg) : PS (XR G.T P w base cdv A outer s H0 E) (stR 3)
    (fun D σ H => ∃ t, σ = σR t none none none none none ∧ InR K G.O.C t H ∧ ∀ H', Same H H' → D.nx (σR t (some (.int (bigL t.S))) none none none none) H') := by
  refine PS.weak' (ps_set (i := 5) sc_w_right.nd rfl (Or.inl rfl) (pe_callB (cr_max rfl) (by rfl) G.T.z_max boot_max (pa_cons (pe_op op_cat
    (pe_lc (own := [("_law_chosen", 10)]) (g := gName 10) (tt := tYes) rfl sc_w_right.nd (pi_list (pv 4)) (blkOk_by (own := [("_law_chosen", 10)]) (N := N_w_right) (sc := defScope s_w_right) (by decide +kernel))
      (fun _ _ _ _ _ => pg_name (i := 10) sc_w_right.nd rfl (Or.inl rfl)) (fun _ _ _ _ _ => pts_nil)
      (fun _ _ _ _ _ => pe_callB (show CallR _ _ (fun xs H Q => ∃ p ys, xs = [V.ref p] ∧ (SqL K H p ys ∨ SqT K H p ys) ∧ Q (V.int ((ys.length : Nat) : Int)) H) from call_len_seq) (by rfl) G.T.z_len boot_len (pa_cons (pv 10) pa_nil)))
    (pe_lst (pa_cons (pe_un un_neg pe_int) pa_nil))) pa_nil))) ?i
  rintro D σ H ⟨t, rfl, I, q⟩
  have hrl : t.fs.length = _ := I.freT.length
  have hfew : t.S.length ≤ 256 := free_few t.L I.few
  refine ⟨_, rfl, t.f, rfl, ⟨_, I.fre⟩, fun Dd hD => ?_⟩
  have sD := same_new hD (.lst [])
  refine lc_list (K := K) (a := t.f) (xs := t.fs.map V.ref) (fun i H' => Same H H' ∧ H' Dd = some (.lst (((lensL t.S).take i).map V.int))) ⟨sD, upd_same⟩ (fun i H' _ hh => same_sql hh.1 I.fre) (fun i x H2 hx hh => ?_) (fun H2 hh => ?_)
  · obtain ⟨s4, eD⟩ := hh
    obtain ⟨c, u, rfl, _, hu, hs⟩ := tups_get (I.freT.same s4) hx
    have hlt : i < t.S.length := (List.getElem?_eq_some_iff.mp hu).1
    refine ⟨rfl, _, rfl, c, _, rfl, .inr hs, ?_⟩
    refine ⟨_, eD, by rw [List.length_map, List.length_take]; unfold lensL; rw [List.length_map]; exact sizeK (by omega), same_updL s4 hD, ?_⟩
    have hl : (lensL t.S)[i]? = some ((u.length : Nat) : Int) := by
      unfold lensL
      rw [List.getElem?_map, hu]
      rfl
    rw [upd_same, take_more hl, List.map_append, nv_len]
    rfl
  · obtain ⟨s4, eD⟩ := hh
    have el : (t.fs.map V.ref).length = (lensL t.S).length := by
      unfold lensL
      rw [List.length_map, List.length_map, hrl]
    rw [el, List.take_length] at eD
    have hll : (lensL t.S).length ≤ 256 := by
      unfold lensL
      rw [List.length_map]
      exact hfew
    refine ⟨_, rfl, by show 1 ≤ sizeLine; decide, fun y hy => ?_⟩
    have s5 := same_new hy (.lst [V.int (-1)])
    refine ⟨Dd, y, _, _, rfl, rfl, s5 _ _ eD, upd_same, by rw [List.length_map]; exact Nat.le_of_lt (sizeK (by show _ + 1 ≤ _; omega)), fun z hz => ?_⟩
    have s6 := same_new hz (.lst ((lensL t.S).map V.int ++ [V.int (-1)]))
    refine ⟨z, lensL t.S ++ [-1], rfl, SqL.of (by rw [upd_same, List.map_append]; rfl), by rw [List.length_append]; show 0 < _ + 1; omega, fun m hm hmax => ?_⟩
    have hb := big_ge t.S
    have em : m = bigL t.S := by
      refine big_is (fun e => ?_) fun n => ?_
      · rw [e] at hm
        exact List.mem_singleton.mp hm
      · have ge : ∀ c ∈ t.S, ((c.length : Nat) : Int) ≤ m := fun c hc => hmax _ (List.mem_append.mpr (.inl (List.mem_map_of_mem hc)))
        refine ⟨?_, ge⟩
        rcases List.mem_append.mp hm with h | h
        · obtain ⟨c, hc, e⟩ := List.mem_map.mp h
          exact ⟨c, hc, e.symm⟩
        · have e1 := List.mem_singleton.mp h
          obtain ⟨c, hc, _⟩ := big_at t.S n
          have := ge c hc
          omega
    rw [em]
    exact q _ (s4.trans (s5.trans s6))
theorem st4 (G : LotsT K mg) (hr : Room 6 (XR G.T P w base cdv A outer s H0 E).A) : PS (XR G.T P w base cdv A outer s H0 E) (stR 4)
    (fun D σ H => ∃ t v5, σ = σR t v5 none none none none ∧ InR K G.O.C t H ∧ (t.S = [] → ∀ H' z y, Same H H' → SqT K H' z [.str "refused", .ref y] → SqT K H' y [.str "all"] → D.nx (σR t v5 (some (.ref z)) none none none) H') ∧
      (t.S ≠ [] → ∀ H' z c, Same H H' → SqT K H' z (nv c) → c ∈ bigS t.S → D.nx (σR t v5 (some (.ref z)) none none none) H')) := by
  refine PS.weak' (ps_set (i := 6) sc_w_right.nd rfl (Or.inl rfl) (pe_call (ok_told G) (hr.mono (by decide)) (by rfl) G.T.m_w_told G.T.F_w_told.kp G.T.b_w_told .nil pass0 (pa_cons (pv 3) pa_nil))) ?i
  rintro D σ H ⟨t, v5, rfl, I, q1, q2⟩
  exact ⟨_, rfl, t.l, t.d, t.L, rfl, I.lot, I.few, I.lenL, q1, q2⟩
theorem st5 (G : LotsT K mg) (hr : Room 6 (XR G.T P w base cdv A outer s H0 E).A) : PS (XR G.T P w base cdv A outer s H0 E) (stR 5)
    (fun D σ H => ∃ t v6, σ = σR t (some (.int (bigL t.S))) v6 none none none ∧ InR K G.O.C t H ∧ ∀ H', Same H H' → D.nx (σR t (some (.int (bigL t.S))) v6 none none none) H') := by
  refine PS.weak' (ps_if (pt_cmpR op_ne (pe_call (ok_dim G) (hr.mono (by decide)) (by rfl) G.T.m_dimension G.T.F_dimension.kp G.T.b_dimension .nil pass0 (pa_cons (pv 3) pa_nil)) (pv 5) (nomark _)) (pss_one (ps_ret pe_bl)) pss_nil) ?i
  rintro D σ H ⟨t, v6, rfl, I, q⟩
  refine ⟨_, rfl, t.l, t.d, t.L, rfl, I.lot, I.few, I.lenL, fun H1 s1 => ⟨_, rfl, rfl, _, rfl, ?_⟩⟩
  rw [decide_eq_true rfl]
  exact iteF (q H1 s1)
end
end K14

namespace K14
open PySem PySem.Spec PyProof.Rows L2 RZ L5 R7 XX
theorem short_big {d : Nat} {L : List (List Nat)} {c : List Nat} (h8 : d ≤ 8) (h : c ∈ bigS (freeS d L)) : c.length ≤ 8 ∧ ((c.length : Nat) : Int) = bigL (freeS d L) ∧ c ∈ freeS d L := by
  obtain ⟨h1, h2⟩ := mem_big.mp h
  exact ⟨Nat.le_trans (sets_short d c (List.mem_filter.mp h1).1).1 h8, h2, h1⟩
theorem j_self {S : List (List Nat)} {c : List Nat} (h : c ∈ bigS S) : jB (some (encN c)) S = true := List.any_eq_true.mpr ⟨c, h, decide_eq_true rfl⟩
theorem encN_len (c : List Nat) : (encN c).length = c.length := List.length_map _
def refE : PyData := .tuple [.str "refused", .tuple [.str "all"]]
theorem cut_any (t : List Int) (lo hi : Option Int) : ∃ u, cutV (iv t) lo hi = iv u ∧ u.length ≤ t.length := by
  refine ⟨(t.drop (HT.sIx (iv t).length 0 lo)).take (HT.sIx (iv t).length (iv t).length hi - HT.sIx (iv t).length 0 lo), ?_, ?_⟩
  · unfold cutV
    show _ = List.map _ _
    rw [List.map_take, List.map_drop]
  · rw [List.length_take, List.length_drop]
    omega
theorem cut_set (xs : List V) (lo hi : Option Int) : ∀ v ∈ cutV xs lo hi, v ∈ xs := fun v hv => by
  unfold cutV at hv
  exact List.mem_of_mem_drop (List.mem_of_mem_take hv)
theorem cut_short (xs : List V) (lo hi : Option Int) : (cutV xs lo hi).length ≤ xs.length := by
  unfold cutV
  rw [List.length_take, List.length_drop]
  omega
theorem rg_iv (a b : Int) : rgV a b = iv ((List.range (b - a).toNat).map fun i => a + ((i : Nat) : Int)) := by
  unfold rgV
  show _ = List.map _ _
  rw [List.map_map]
  rfl
theorem iv_app (t u : List Int) : iv (t ++ u) = iv t ++ iv u := List.map_append
theorem iv_len (t : List Int) : (iv t).length = t.length := List.length_map _
section
variable {P : Program} {w : World} {K : PySem.W.Frag} {mg : Str → Option Value} {base : Heap} {cdv : Value} {A : Around} {outer : List Env} {s : Shared} {H0 : Hp} {E : XK}
theorem st6 (G : LotsT K mg) (hr : Room 6 (XR G.T P w base cdv A outer s H0 E).A) : PS (XR G.T P w base cdv A outer s H0 E) (stR 6)
    (fun D σ H => ∃ t z, σ = σR t (some (.int (bigL t.S))) (some (.ref z)) none none none ∧ InR K G.O.C t H ∧ (t.S = [] → ∃ y, SqT K H z [.str "refused", .ref y] ∧ SqT K H y [.str "all"] ∧ ∀ H', Same H H' → D.rt (.bl true) H') ∧
      (t.S ≠ [] → D.nx (σR t (some (.int (bigL t.S))) (some (.ref z)) none none none) H)) := by
  refine PS.weak' (ps_if (pt_cmpR op_eq (pv 5) (pe_un un_neg pe_int) (nomark _)) (pss_one (ps_ret (pe_and (pe_cmpR (op_eqD hr.units) (pv 6) (pe_tup (pa_cons pe_str (pa_cons (pe_tup (pa_cons pe_str pa_nil)) pa_nil))) (nomark _))
    (pe_and (pe_cmpR op_eq (pe_callB call_len_seq (by rfl) G.T.z_len boot_len (pa_cons (pv 2) pa_nil)) pe_int (nomark _))
    (pe_one (pe_cmpR op_eq (pe_callB (cr_sumT rfl) (by rfl) G.T.z_sum boot_sum (pa_cons (pe_ix ix_tup (pv 2) pe_int (fun _ _ => rfl)) pa_nil)) pe_int (nomark _))))))) pss_nil) ?i
  rintro D σ H ⟨t, z, rfl, I, q1, q2⟩
  refine ⟨_, rfl, _, rfl, rfl, _, rfl, ?_⟩
  by_cases hS : t.S = []
  · obtain ⟨y, hz, hy, q⟩ := q1 hS
    have e1 : bigL t.S = -1 := big_none.mpr hS
    rw [e1, decide_eq_true (show V.int (-1) = V.int (-1) from rfl)]
    obtain ⟨u, eu, su⟩ := only_one I.len hS
    refine iteT ⟨_, rfl, by show 1 ≤ sizeLine; decide, fun k1 hk1 => ⟨by show 2 ≤ sizeLine; decide, fun k2 hk2 => ?_⟩⟩
    have s1 := same_new hk1 (.tup [V.str "all"])
    have s2 := same_new hk2 (.tup [V.str "refused", V.ref k1])
    have S2 := s1.trans s2
    refine ⟨refE, refE, .tup (same_sqt S2 hz) (.cons (.str _) (.cons (.tup (same_sqt S2 hy) (.cons (.str _) .nil)) .nil)), .tup (SqT.of upd_same) (.cons (.str _) (.cons (.tup (SqT.of (s2 _ _ upd_same)) (.cons (.str _) .nil)) .nil)), by decide +kernel, by decide +kernel, ?_⟩
    rw [show PyData.eqv refE refE = true by decide +kernel]
    have hm := same_sqt S2 I.mem
    have hmT := I.memT.same S2
    have hlen : t.ms.length = t.L.length := hmT.length
    refine ⟨_, rfl, iteT ⟨_, rfl, t.m, _, rfl, .inr hm, rfl, ?_⟩⟩
    rw [List.length_map, hlen, show t.L = [u] from eu]
    refine ⟨_, rfl, iteT ?_⟩
    have hmT2 : Tups K (upd (upd H k1 (.tup [V.str "all"])) k2 (.tup [V.str "refused", V.ref k1])) t.ms [u] := by
      rw [← show t.L = [u] from eu]
      exact hmT
    generalize t.ms = ms at hm hmT2
    cases hmT2 with
    | @cons b _ bs _ hb hr2 =>
      refine ⟨_, rfl, t.m, _, _, .ref b, rfl, rfl, hm, atI_nat (xs := (b :: bs).map V.ref) (j := 0) (v := .ref b) rfl, b, encN u, rfl, by rw [← show nv u = (encN u).map V.int from nv_iv u]; exact hb, rfl, ?_⟩
      have es : (encN u).sum = 0 := by
        have e3 : ∀ c : List Nat, (encN c).sum = ((c.sum : Nat) : Int) := fun c => by
          induction c with
          | nil => rfl
          | cons a c ih =>
            show ((a : Nat) : Int) + (encN c).sum = _
            rw [ih, List.sum_cons]
            omega
        rw [e3, su]
        rfl
      rw [es]
      exact q _ S2
  · have e1 : bigL t.S ≠ -1 := fun e => hS (big_none.mp e)
    rw [decide_eq_false (fun e => e1 (V.int.inj e))]
    exact iteF (q2 hS)
theorem st7 (G : LotsT K mg) (hr : Room 6 (XR G.T P w base cdv A outer s H0 E).A) : PS (XR G.T P w base cdv A outer s H0 E) (stR 7)
    (fun D σ H => ∃ t z c, σ = σR t (some (.int (bigL t.S))) (some (.ref z)) none none none ∧ InR K G.O.C t H ∧ SqT K H z (nv c) ∧ c ∈ bigS t.S ∧ ∀ H', Same H H' → D.nx (σR t (some (.int (bigL t.S))) (some (.ref z)) none none none) H') := by
  refine PS.weak' (ps_if (PW.pt (pw_or (pt_cmpR (op_notInD (room65 hr)) (pv 6) (pv 4) (by rfl)) (pw_or (pt_cmpR op_ne (pe_callB call_len_seq (by rfl) G.T.z_len boot_len (pa_cons (pv 6) pa_nil)) (pv 5) (nomark _))
    (pw_or1 (pt_not (pt_val (pe_call (ok_isf G) (hr.mono (by decide)) (by rfl) G.T.m_is_free_set G.T.F_is_free_set.kp G.T.b_is_free_set .nil pass0 (pa_cons (pv 3) (pa_cons (pv 6) pa_nil))))))))) (pss_one (ps_ret pe_bl)) pss_nil) ?i
  rintro D σ H ⟨t, z, c, rfl, I, hz, hc, q⟩
  obtain ⟨l8, le, hin⟩ := short_big I.few hc
  have hz' : SqT K H z (Gv.iv (encN c)) := by
    rw [← show nv c = Gv.iv (encN c) from nv_iv c]
    exact hz
  refine ⟨_, rfl, _, rfl, Gv.encI (encN c), _, Gv.dp_tupI hz', .lst I.fre (dp_tups I.freT), Gv.shaped_intsT _, shaped_tups _, _, rfl, ?_⟩
  rw [any_encN, in_self hin]
  refine iteF ⟨_, rfl, z, _, rfl, .inr hz, _, rfl, rfl, _, rfl, ?_⟩
  rw [nv_len, le, decide_eq_true rfl]
  refine iteF ?_
  obtain ⟨r, hv, hj⟩ := jv_va (K := K) (H := H) (m := 0) (Jv.num (t := encN c) hz' (by rw [encN_len]; omega))
  have hne : t.S ≠ [] := fun e => by
    rw [show freeS t.d t.L = [] from e] at hin
    cases hin
  refine ⟨_, rfl, _, rfl, t.l, .ref z, r, t.d, t.L, rfl, I.lot, I.few, I.lenL, hne, hv, fun H1 s1 => ⟨_, rfl, ?_⟩⟩
  rw [hj, j_self hc]
  exact iteF (q H1 s1)
end
end K14

namespace K14
open PySem PySem.Spec PyProof.Rows L2 RZ L5 R7 XX
section
variable {P : Program} {w : World} {K : PySem.W.Frag} {mg : Str → Option Value} {base : Heap} {cdv : Value} {A : Around} {outer : List Env} {s : Shared} {H0 : Hp} {E : XK}
def tCond (K : PySem.W.Frag) : TE := fun σ H Q => ∃ t v5 z u, σ = σR t v5 (some (.ref z)) none none none ∧ SqT K H z (iv u) ∧ u.length ≤ 8 ∧ ∀ H2 y, Same H H2 → ((u ≠ [] ∧ ∃ t' : List Int, SqT K H2 y (iv t') ∧ t'.length ≤ 9) ∨ (u = [] ∧ SqT K H2 y [.bl true])) → Q (.ref y) H2
theorem st8 (G : LotsT K mg) (hr : Room 6 (XR G.T P w base cdv A outer s H0 E).A) : PS (XR G.T P w base cdv A outer s H0 E) (stR 8)
    (fun D σ H => ∃ t z c, σ = σR t (some (.int (bigL t.S))) (some (.ref z)) none none none ∧ InR K G.O.C t H ∧ SqT K H z (nv c) ∧ c ∈ bigS t.S ∧ ∀ H' fa xs, Same H H' → H' fa = some (.lst xs) → xs.length ≤ 10 → Jvs K H' (bigL t.S) xs → D.nx (σR t (some (.int (bigL t.S))) (some (.ref z)) (some (.ref fa)) none none) H') := by
  refine PS.weak' (ps_set (i := 7) sc_w_right.nd rfl (Or.inl rfl) (pe_lst (pa_cons pe_non (pa_cons pe_int (pa_cons (pe_callTy call_list_of (by rfl) G.T.z_list boot_list (pa_cons (pv 6) pa_nil)) (pa_cons (pe_op op_catB (pv 6) (pe_tup (pa_cons pe_int pa_nil)))
    (pa_cons (pe_slice sl_tupB (pv 6) (po_some pe_int) po_none) (pa_cons (pe_op op_catB (pv 6) (pe_tup (pa_cons (pv 1) pa_nil)))
    (pa_cons (PE.weak (t' := tCond K) (pe_ifExp (pt_cmpR (op_neD hr.units) (pv 6) (pe_tup pa_nil) (nomark _)) (pe_op op_catB (pv 6) (pe_tup (pa_cons (pe_ix ix_tup (pv 6) (pe_un un_neg pe_int) (fun _ _ => rfl)) pa_nil))) (pe_tup (pa_cons pe_bl pa_nil))) ?c)
    (pa_cons (pe_tup (pa_cons pe_int (pa_cons pe_int pa_nil))) (pa_cons pe_str (pa_cons pe_dnewK pa_nil)))))))))))) ?i
  case c =>
    rintro σ H Q ⟨t, v5, z, u, rfl, hz, hu, q⟩
    refine ⟨_, rfl, by show 0 ≤ sizeLine; exact Nat.zero_le _, fun y hy => ?_⟩
    have s1 := same_new hy (.tup [])
    refine ⟨Gv.encI u, Gv.encI [], Gv.dp_tupI (same_sqt s1 hz), Gv.dp_tupI (t := []) (SqT.of upd_same), Gv.shaped_intsT _, Gv.shaped_intsT _, _, rfl, ?_⟩
    rw [Gv.eqv_tupIE]
    rcases List.eq_nil_or_concat u with rfl | ⟨r, x, rfl⟩
    · refine iteF ⟨by show 1 ≤ sizeLine; decide, fun y2 hy2 => ?_⟩
      have s2 := same_new hy2 (.tup [V.bl true])
      exact q _ y2 (s1.trans s2) (.inr ⟨rfl, SqT.of upd_same⟩)
    · have hne : r.concat x ≠ [] := by simp
      rw [decide_eq_false hne]
      have hz1 := same_sqt s1 hz
      have hz2 : SqT K (upd H y (.tup [])) z (iv r ++ [V.int x]) := by
        rw [List.concat_eq_append, iv_app] at hz1
        exact hz1
      refine iteT ⟨_, rfl, _, rfl, _, rfl, z, _, _, .int x, rfl, rfl, hz2, atI_last (iv r) (.int x), by show 1 ≤ sizeLine; decide, fun y2 hy2 => ?_⟩
      have s2 := same_new hy2 (.tup [V.int x])
      refine ⟨z, y2, _, _, rfl, rfl, same_sqt s2 hz1, SqT.of upd_same, by rw [iv_len]; exact Nat.le_of_lt (sizeK (by show _ + 1 ≤ _; omega)), fun H3 y3 s3 hy3 => ?_⟩
      refine q H3 y3 (s1.trans (s2.trans s3)) (.inl ⟨hne, r.concat x ++ [x], ?_, by rw [List.length_append]; show _ + 1 ≤ _; omega⟩)
      rw [iv_app]
      exact hy3
  rintro D σ H ⟨t, z, c, rfl, I, hz, hc, q⟩
  obtain ⟨l8, le, hin⟩ := short_big I.few hc
  rw [nv_iv] at hz
  have hul := encN_len c
  have he0 : encN c = [] → bigL t.S = 0 := fun e => by
    rw [e] at hul
    rw [show bigL t.S = bigL (freeS t.d t.L) from rfl, ← le, ← hul]
    rfl
  generalize encN c = u at hz hul he0
  have hu8 : u.length ≤ 8 := by omega
  refine ⟨_, rfl, z, _, rfl, .inr hz, fun z1 hz1 => ?_⟩
  have t1 := same_new hz1 (.lst (iv u))
  refine ⟨_, rfl, by show 1 ≤ sizeLine; decide, fun z2 hz2 => ?_⟩
  have t2 := same_new hz2 (.tup [V.int 0])
  have S2 := t1.trans t2
  refine ⟨z, z2, _, _, rfl, rfl, same_sqt S2 hz, SqT.of upd_same, by rw [iv_len]; exact Nat.le_of_lt (sizeK (by show _ + 1 ≤ _; omega)), fun H3 y3 t3 hy3 => ?_⟩
  have S3 := S2.trans t3
  refine ⟨_, rfl, _, rfl, z, _, rfl, same_sqt S3 hz, fun H4 y4 t4 hy4 => ?_⟩
  obtain ⟨u4, e4, l4⟩ := cut_any u (some 1) none
  rw [show cutV (iv u) (some 1) none = iv u4 from e4] at hy4
  have S4 := S3.trans t4
  refine ⟨_, rfl, _, rfl, by show 1 ≤ sizeLine; decide, fun z5 hz5 => ?_⟩
  have t5 := same_new hz5 (.tup [V.int ((t.d : Nat) : Int)])
  have S5 := S4.trans t5
  refine ⟨z, z5, _, _, rfl, rfl, same_sqt S5 hz, SqT.of upd_same, by rw [iv_len]; exact Nat.le_of_lt (sizeK (by show _ + 1 ≤ _; omega)), fun H6 y6 t6 hy6 => ?_⟩
  have S6 := S5.trans t6
  refine ⟨t, _, z, u, rfl, same_sqt S6 hz, hu8, fun H7 y7 t7 hy7 => ?_⟩
  have S7 := S6.trans t7
  refine ⟨by show 2 ≤ sizeLine; decide, fun z8 hz8 => ?_⟩
  have t8 := same_new hz8 (.tup [V.int 0, V.int 0])
  intro z9 hz9
  have t9 := same_new hz9 (.dK [])
  refine ⟨by show 10 ≤ sizeLine; decide, fun fa hfa => ?_⟩
  have tF := same_new hfa (.lst [V.non, V.int 0, V.ref z1, V.ref y3, V.ref y4, V.ref y6, V.ref y7, V.ref z8, V.str "", V.ref z9])
  have T9 := t9.trans tF
  have T8 := t8.trans T9
  have T6 := t7.trans T8
  have T4 := t5.trans (t6.trans T6)
  have T3 := t4.trans T4
  have T1 := t2.trans (t3.trans T3)
  refine q _ fa _ (S7.trans T8) upd_same (Nat.le_refl 10) fun v hv => ?_
  simp only [List.mem_cons, List.not_mem_nil, or_false] at hv
  rcases hv with rfl | rfl | rfl | rfl | rfl | rfl | rfl | rfl | rfl | rfl
  · exact ⟨_, .other .non⟩
  · exact ⟨_, .other (.int 0)⟩
  · exact ⟨_, .other (.lst (SqL.of (T1 _ _ upd_same)))⟩
  · have h3 : SqT K H3 y3 (iv (u ++ [0])) := by rw [iv_app]; exact hy3
    exact ⟨_, .num (same_sqt T3 h3) (by rw [List.length_append]; show _ + 1 ≤ _; omega)⟩
  · exact ⟨_, .num (same_sqt T4 hy4) (by omega)⟩
  · have h6 : SqT K H6 y6 (iv (u ++ [((t.d : Nat) : Int)])) := by rw [iv_app]; exact hy6
    exact ⟨_, .num (same_sqt T6 h6) (by rw [List.length_append]; show _ + 1 ≤ _; omega)⟩
  · rcases hy7 with ⟨_, t', ht', hl'⟩ | ⟨e, ht'⟩
    · exact ⟨_, .num (same_sqt T8 ht') (by omega)⟩
    · exact ⟨_, .odd (os := [none]) (same_sqt T8 ht') (.cons (.bl true) .nil) (by show 1 ≤ 1000; decide) (by rw [he0 e]; show ((1 : Nat) : Int) ≠ 0; decide) rfl⟩
  · exact ⟨_, .num (t := [0, 0]) (SqT.of (T9 _ _ upd_same)) (by show 2 ≤ 1000; decide)⟩
  · exact ⟨_, .other (.str "")⟩
  · exact ⟨_, .other (.dic (tF _ _ upd_same))⟩
theorem st9 (G : LotsT K mg) (hr : Room 6 (XR G.T P w base cdv A outer s H0 E).A) : PS (XR G.T P w base cdv A outer s H0 E) (stR 9)
    (fun D σ H => ∃ t v5 z c fa xs m, σ = σR t v5 (some (.ref z)) (some (.ref fa)) none none ∧ InR K G.O.C t H ∧ SqT K H z (nv c) ∧ c.length ≤ 8 ∧ H fa = some (.lst xs) ∧ xs.length ≤ 10 ∧ Jvs K H m xs ∧ ∀ H' fb ys, Same H H' → H' fb = some (.lst ys) → Jvs K H' m ys → D.nx (σR t v5 (some (.ref z)) (some (.ref fb)) none none) H') := by
  refine PS.weak' (ps_set (i := 7) sc_w_right.nd rfl (Or.inl rfl) (pe_op op_cat (pe_op op_cat (pv 7) (pe_slice sl_list (pe_call (ok_wsets G.T) (hr.mono (by decide)) (by rfl) G.T.m_w_sets G.T.F_w_sets.kp G.T.b_w_sets .nil pass0 (pa_cons (pv 1) pa_nil)) po_none (po_some pe_int)))
    (pe_lst (pa_cons (W7.pe_revT (pv 6)) (pa_cons (pe_tup (pa_cons (pe_op op_sub pe_int pe_int) pa_nil)) (pa_cons (pe_tupRg rfl (by rfl) G.T.z_tuple (prg_1 (by rfl) G.T.z_range (pv 1))) pa_nil)))))) ?i
  rintro D σ H ⟨t, v5, z, c, fa, xs, m, rfl, I, hz, l8, hfa, hxl, hV, q⟩
  rw [nv_iv] at hz
  have hul := encN_len c
  generalize encN c = u at hz hul
  refine ⟨_, rfl, _, rfl, t.d, rfl, I.few, fun H1 y es s1 hy hes => ?_⟩
  refine ⟨_, rfl, y, _, rfl, hy, fun D1 hD1 => ?_⟩
  have t1 := same_new hD1 (.lst (cutV (es.map V.ref) none (some 64)))
  have S1 := s1.trans t1
  have hcl := cut_short (es.map V.ref) none (some 64)
  have hel : es.length = _ := hes.length
  have hfew := sets_few I.few
  rw [List.length_map] at hcl
  refine ⟨fa, D1, _, _, rfl, rfl, S1 _ _ hfa, upd_same, Nat.le_of_lt (sizeK (by omega)), fun D2 hD2 => ?_⟩
  have t2 := same_new hD2 (.lst (xs ++ cutV (es.map V.ref) none (some 64)))
  have S2 := S1.trans t2
  refine ⟨_, rfl, z, _, rfl, same_sqt S2 hz, fun z3 hz3 => ?_⟩
  have t3 := same_new hz3 (.tup (iv u).reverse)
  refine ⟨_, _, rfl, rfl, by show 1 ≤ sizeLine; decide, fun z4 hz4 => ?_⟩
  have t4 := same_new hz4 (.tup [V.int (0 - 1)])
  refine ⟨_, rfl, _, rfl, RgOk.of_le (by have := I.few; omega) (by have := I.few; omega) (by have := I.few; omega) (by have := I.few; omega), fun z5 hz5 => ?_⟩
  have t5 := same_new hz5 (.tup (rgV 0 ((t.d : Nat) : Int)))
  refine ⟨by show 3 ≤ sizeLine; decide, fun z6 hz6 => ?_⟩
  have t6 := same_new hz6 (.lst [V.ref z3, V.ref z4, V.ref z5])
  have T5 := t5.trans t6
  have T4 := t4.trans T5
  have T3 := t3.trans T4
  refine ⟨D2, z6, _, _, rfl, rfl, T3 _ _ upd_same, upd_same, by rw [List.length_append]; exact Nat.le_of_lt (sizeK (by show _ + 3 ≤ _; omega)), fun fb hfb => ?_⟩
  have t7 := same_new hfb (.lst (xs ++ cutV (es.map V.ref) none (some 64) ++ [V.ref z3, V.ref z4, V.ref z5]))
  have S7 := S2.trans (T3.trans t7)
  refine q _ fb _ S7 upd_same (((hV.same S7).app fun v hv => ?_).app fun v hv => ?_)
  · have hm := cut_set _ _ _ v hv
    obtain ⟨i, hi⟩ := List.getElem?_of_mem hm
    obtain ⟨a, k, rfl, _, hk, hs⟩ := tups_get hes hi
    have hs2 := same_sqt (t1.trans (t2.trans (T3.trans t7))) hs
    rw [nv_iv] at hs2
    exact ⟨_, .num hs2 (by rw [encN_len]; have := (sets_short t.d k (List.mem_of_getElem? hk)).1; have := I.few; omega)⟩
  · simp only [List.mem_cons, List.not_mem_nil, or_false] at hv
    rcases hv with rfl | rfl | rfl
    · exact ⟨_, .num (t := u.reverse) (by rw [show iv u.reverse = (iv u).reverse from List.map_reverse]; exact SqT.of ((T4.trans t7) _ _ upd_same)) (by rw [List.length_reverse]; omega)⟩
    · exact ⟨_, .num (t := [0 - 1]) (SqT.of ((T5.trans t7) _ _ upd_same)) (by show 1 ≤ 1000; decide)⟩
    · exact ⟨_, .num (t := (List.range ((((t.d : Nat) : Int)) - 0).toNat).map fun i => 0 + ((i : Nat) : Int)) (by rw [← rg_iv]; exact SqT.of ((t6.trans t7) _ _ upd_same)) (by rw [List.length_map, List.length_range]; have := I.few; omega)⟩
end
end K14

namespace K14
open PySem PySem.Spec PyProof.Rows L2 RZ L5 R7 XX
section
variable {P : Program} {w : World} {K : PySem.W.Frag} {mg : Str → Option Value} {base : Heap} {cdv : Value} {A : Around} {outer : List Env} {s : Shared} {H0 : Hp} {E : XK}
def tJudge (K : PySem.W.Frag) (C : Addr) : TE := fun σ H Q => ∃ t : Dr, ∃ z v7 v9 v o, σ = σR t (some (.int (bigL t.S))) z v7 (some v) v9 ∧ InR K C t H ∧ Jv K H (bigL t.S) v o ∧ ∀ H2, Same H H2 → Q (.bl (jB o t.S)) H2
theorem st10 (G : LotsT K mg) (hr : Room 6 (XR G.T P w base cdv A outer s H0 E).A) : PS (XR G.T P w base cdv A outer s H0 E) (stR 10)
    (fun D σ H => ∃ t z fa xs, σ = σR t (some (.int (bigL t.S))) z (some (.ref fa)) none none ∧ InR K G.O.C t H ∧ t.S ≠ [] ∧ H fa = some (.lst xs) ∧ Jvs K H (bigL t.S) xs ∧ ∀ H' v8 v9, Same H H' → D.nx (σR t (some (.int (bigL t.S))) z (some (.ref fa)) v8 v9) H') := by
  refine PS.weak' (ps_for PassesOwn.never rfl (pi_list (pv 7)) (pg_name (i := 8) sc_w_right.nd rfl (Or.inl rfl))
    (pss_cons (ps_set (i := 9) sc_w_right.nd rfl (Or.inl rfl) (PE.weak (t' := tJudge K G.O.C) (pe_and (pe_callB call_isi (by rfl) G.T.z_isinstance boot_isinstance (pa_cons (pv 8) (pa_cons (pe_bltn (v := .ty "tuple") (by rfl) G.T.z_tuple boot_tuple rfl) pa_nil)))
        (pe_and (pe_cmpR op_eq (pe_callB call_len_seq (by rfl) G.T.z_len boot_len (pa_cons (pv 8) pa_nil)) (pv 5) (nomark _))
        (pe_one (pe_cmpR (op_inD (room65 hr)) (pv 8) (pv 4) (by rfl))))) ?j))
    (pss_one (ps_if (pt_cmpR op_ne (pe_call (ok_isf G) (hr.mono (by decide)) (by rfl) G.T.m_is_free_set G.T.F_is_free_set.kp G.T.b_is_free_set .nil pass0 (pa_cons (pv 3) (pa_cons (pv 8) pa_nil))) (pv 9) (nomark _)) (pss_one (ps_ret pe_bl)) pss_nil)))) ?i
  case j =>
    rintro σ H Q ⟨t, z, v7, v9, v, o, rfl, I, hj, q⟩
    have q0 := q H (Same.refl H)
    cases hj with
    | @num a u h hl =>
      refine ⟨_, rfl, _, _, _, _, true, rfl, .ty _, sqt_ty h, kit_ty (by decide +kernel), true, rfl, iteT ?_⟩
      refine ⟨_, rfl, a, _, rfl, .inr h, _, rfl, rfl, _, rfl, ?_⟩
      rw [iv_len]
      by_cases hm : ((u.length : Nat) : Int) = bigL t.S
      · rw [decide_eq_true (congrArg V.int hm)]
        refine iteT ⟨_, rfl, _, rfl, Gv.encI u, _, Gv.dp_tupI h, .lst I.fre (dp_tups I.freT), Gv.shaped_intsT u, shaped_tups _, ?_⟩
        rw [any_encN, j_in hm]
        exact q0
      · rw [decide_eq_false (fun e => hm (V.int.inj e))]
        rw [j_len hm] at q0
        exact iteF q0
    | other h =>
      obtain ⟨tt, ty, et⟩ := h.isi
      refine ⟨_, rfl, _, _, _, _, _, rfl, .ty _, ty, et, _, rfl, ?_⟩
      exact iteF q0
    | @odd a vs os h e hl n b =>
      refine ⟨_, rfl, _, _, _, _, true, rfl, .ty _, sqt_ty h, kit_ty (by decide +kernel), true, rfl, iteT ?_⟩
      refine ⟨_, rfl, a, _, rfl, .inr h, _, rfl, rfl, _, rfl, ?_⟩
      rw [decide_eq_false (fun e => n (V.int.inj e))]
      exact iteF q0
  rintro D σ H ⟨t, z, fa, xs, rfl, I, hne, hfa, hV, q⟩
  refine ⟨_, rfl, fa, rfl, ⟨_, SqL.of hfa⟩, for_list (K := K) (a := fa) (xs := xs) (fun i σ H' => (∃ v8 v9, σ = σR t (some (.int (bigL t.S))) z (some (.ref fa)) v8 v9) ∧ Same H H') ⟨⟨none, none, rfl⟩, Same.refl H⟩ (fun i σ H' _ hh => SqL.of (hh.2 _ _ hfa)) ?_ ?_⟩
  · rintro i v σ H1 hi ⟨⟨v8, v9, rfl⟩, s1⟩
    obtain ⟨o, ho⟩ := (hV.same s1) v (List.mem_of_getElem? hi)
    have I1 := I.same s1
    refine ⟨t, z, _, v9, v, o, rfl, I1, ho, fun H2 s2 => ?_⟩
    have I2 := I1.same s2
    obtain ⟨r, hv, hj⟩ := jv_va (ho.same s2)
    refine ⟨_, rfl, _, rfl, t.l, v, r, t.d, t.L, rfl, I2.lot, I2.few, I2.lenL, hne, hv, fun H3 s3 => ⟨_, rfl, rfl, _, rfl, ?_⟩⟩
    rw [show isfB r (bigS (freeS t.d t.L)) = jB o t.S from hj t.S, decide_eq_true rfl]
    exact iteF ⟨⟨_, _, rfl⟩, s1.trans (s2.trans s3)⟩
  · rintro σ H1 ⟨⟨v8, v9, rfl⟩, s1⟩
    exact q H1 v8 v9 s1
def sp_right (K : PySem.W.Frag) : Sp := fun vs H Q _ => ∃ p : Addr, vs = [.ref p] ∧ Pail p H ∧ ∀ H', Bar p H H' → Q (.bl true) H'
theorem ok_right (G : LotsT K mg) : FnOk P w K mg base CX0 7 G.T.a_w_right G.T.d_w_right ["_law_jug_here"] (sp_right K) := by
  refine G.T.F_w_right.ok sc_w_right (fun vs H Q E h => ?_) (fun cdv A outer s H vs Q E hr h => ?_)
  · obtain ⟨p, rfl, _⟩ := h
    rfl
  · obtain ⟨p, rfl, hp, q⟩ := h
    refine ⟨_, pss_cons (st0 G hr) (pss_cons (st1 G hr) (pss_cons (st2 G hr) (pss_cons (st3 G) (pss_cons (st4 G hr) (pss_cons (st5 G hr) (pss_cons (st6 G hr) (pss_cons (st7 G hr) (pss_cons (st8 G hr) (pss_cons (st9 G hr) (pss_cons (st10 G hr) (pss_one (ps_ret pe_bl)))))))))))), ?_⟩
    refine ⟨p, rfl, hp, fun H1 d b1 p1 h1 h8 => ?_⟩
    refine ⟨p, d, rfl, p1, h1, h8, fun H2 z rs L b2 p2 hz hT hn hl hm => ?_⟩
    refine ⟨p, d, z, rs, L, rfl, h1, h8, hz, hT, hn, hl, hm, fun H3 t s3 ep I => ?_⟩
    have b3 := b1.trans (b2.trans (Bar.same s3))
    refine ⟨t, rfl, I, fun H4 s4 => ?_⟩
    have I4 := I.same s4
    have b4 := b3.trans (Bar.same s4)
    refine ⟨t, _, rfl, I4, fun hS H5 z5 y5 s5 hz5 hy5 => ?_, fun hS H5 z5 c s5 hz5 hc => ?_⟩
    · have I5 := I4.same s5
      refine ⟨t, _, rfl, I5, fun H6 s6 => ?_⟩
      refine ⟨t, z5, rfl, I5.same s6, fun _ => ⟨y5, same_sqt s6 hz5, same_sqt s6 hy5, fun H7 s7 => ?_⟩, fun n => absurd hS n⟩
      exact q H7 (b4.trans (Bar.same (s5.trans (s6.trans s7))))
    · have I5 := I4.same s5
      refine ⟨t, _, rfl, I5, fun H6 s6 => ?_⟩
      have I6 := I5.same s6
      have hz6 := same_sqt s6 hz5
      refine ⟨t, z5, rfl, I6, fun e => absurd e hS, fun _ => ?_⟩
      refine ⟨t, z5, c, rfl, I6, hz6, hc, fun H7 s7 => ?_⟩
      have I7 := I6.same s7
      refine ⟨t, z5, c, rfl, I7, same_sqt s7 hz6, hc, fun H8 fa xs s8 hfa hxl hV => ?_⟩
      have I8 := I7.same s8
      have hz8 := same_sqt (s7.trans s8) hz6
      refine ⟨t, _, z5, c, fa, xs, _, rfl, I8, hz8, (short_big I.few hc).1, hfa, hxl, hV, fun H9 fb ys s9 hfb hV9 => ?_⟩
      refine ⟨t, _, fb, ys, rfl, I8.same s9, hS, hfb, hV9, fun H10 v8 v9 s10 => ?_⟩
      exact q H10 (b4.trans (Bar.same (s5.trans (s6.trans (s7.trans (s8.trans (s9.trans s10)))))))
end
end K14

namespace K14
open PySem PySem.Spec PyProof.Rows L2 RZ L5 R7 XX
theorem bar_back {p : Addr} {H H1 H2 : Hp} (s1 : Same H H1) (b : Bar p H1 H2) (hp : H p = none) : Same H H2 := fun c o h => b c o (fun e => by rw [e, hp] at h; cases h) (s1 c o h)
abbrev edgeL : List (List Nat) := [[1, 1, 0, 0], [0, 1, 1, 0], [0, 0, 1, 1]]
abbrev powL : List (List Nat) := [[2, 0], [0, 3]]
theorem edge_f : freeS 4 (M7.leastN edgeL) ≠ [] ∧ isfB (some [some 0, some 2]) (bigS (freeS 4 (M7.leastN edgeL))) = true ∧ isfB (some [some 0, some 1]) (bigS (freeS 4 (M7.leastN edgeL))) = false ∧ isfB (some [some 0, none]) (bigS (freeS 4 (M7.leastN edgeL))) = false := by decide +kernel
theorem pow_f : freeS 2 (M7.leastN powL) ≠ [] ∧ isfB (some []) (bigS (freeS 2 (M7.leastN powL))) = true := by decide +kernel
theorem non_f : freeS 3 (M7.leastN []) ≠ [] ∧ bigS (freeS 3 (M7.leastN [])) = [[0, 1, 2]] := by decide +kernel
theorem edge_l : ∀ t ∈ M7.leastN edgeL, t.length = 4 := by decide +kernel
theorem pow_l : ∀ t ∈ M7.leastN powL, t.length = 2 := by decide +kernel
section
variable {P : Program} {w : World} {K : PySem.W.Frag} {mg : Str → Option Value} {base : Heap}
def sp_law (K : PySem.W.Frag) : Sp := fun vs H Q _ => ∃ (a : Addr) (ns : List Int), vs = [.ref a] ∧ SqL K H a (ns.map V.int) ∧ ns.length ≤ 63 ∧ ∀ H', Q (.bl true) H'
abbrev stL (i : Nat) : Stmt := (defBody s_law).getD i (.Pass ⟨0, 0, 0, 0⟩)
theorem ok_law (G : LotsT K mg) : FnOk P w K mg base CX0 8 G.T.a_law G.T.d_law ["_law_script"] (sp_law K) := by
  refine G.T.F_law.ok sc_law (fun vs H Q E h => ?_) (fun cdv A outer s H vs Q E hr h => ?_)
  · obtain ⟨a, ns, rfl, _⟩ := h
    rfl
  · obtain ⟨a, ns, rfl, hS, hn, q⟩ := h
    refine ⟨_, pss_cons (ps_for PassesOwn.never rfl (pi_range1 rfl G.T.z_range (pa_cons (pe_callB (call_max2 rfl) (by rfl) G.T.z_max boot_max (pa_cons pe_int (pa_cons (pe_callB (call_min2 rfl) (by rfl) G.T.z_min (by decide +kernel) (pa_cons pe_int (pa_cons (pe_callB call_len_seq (by rfl) G.T.z_len boot_len (pa_cons (pv 0) pa_nil)) pa_nil))) pa_nil))) pa_nil)) (pg_name (i := 1) sc_law.nd rfl (Or.inl rfl))
        (pss_one (ps_if (pt_not (pt_val (pe_call (ok_right G) hr (by rfl) G.T.m_w_right G.T.F_w_right.kp G.T.b_w_right .nil pass0 (pa_cons (pe_call (ok_jug G.T) (hr.mono (by decide)) (by rfl) G.T.m_w_jug G.T.F_w_jug.kp G.T.b_w_jug .nil pass0 (pa_cons (pv 0) (pa_cons (pv 1) pa_nil))) pa_nil)))) (pss_one (ps_ret pe_bl)) pss_nil)))
      (pss_cons (ps_set (i := 2) sc_law.nd rfl (Or.inl rfl) (pe_make G.O.M (ok_init G.T G.O) (hr.mono (by decide)) rfl G.O.gC G.O.bI .nil pass0 (pa_cons pe_int (pa_cons (pe_tup (pa_cons (pe_tup (pa_cons pe_int (pa_cons pe_int (pa_cons pe_int (pa_cons pe_int pa_nil))))) (pa_cons (pe_tup (pa_cons pe_int (pa_cons pe_int (pa_cons pe_int (pa_cons pe_int pa_nil))))) (pa_cons (pe_tup (pa_cons pe_int (pa_cons pe_int (pa_cons pe_int (pa_cons pe_int pa_nil))))) pa_nil)))) pa_nil))))
      (pss_cons (ps_set (i := 3) sc_law.nd rfl (Or.inl rfl) (pe_lst
        (pa_cons (pe_call (ok_isf G) (hr.mono (by decide)) (by rfl) G.T.m_is_free_set G.T.F_is_free_set.kp G.T.b_is_free_set .nil pass0 (pa_cons (pv 2) (pa_cons (pe_tup (pa_cons pe_int (pa_cons pe_int pa_nil))) pa_nil)))
        (pa_cons (pe_call (ok_isf G) (hr.mono (by decide)) (by rfl) G.T.m_is_free_set G.T.F_is_free_set.kp G.T.b_is_free_set .nil pass0 (pa_cons (pv 2) (pa_cons (pe_tup (pa_cons pe_int (pa_cons pe_int pa_nil))) pa_nil)))
        (pa_cons (pe_call (ok_isf G) (hr.mono (by decide)) (by rfl) G.T.m_is_free_set G.T.F_is_free_set.kp G.T.b_is_free_set .nil pass0 (pa_cons (pv 2) (pa_cons (pe_tup (pa_cons pe_int (pa_cons pe_bl pa_nil))) pa_nil)))
        (pa_cons (pe_call (ok_isf G) (hr.mono (by decide)) (by rfl) G.T.m_is_free_set G.T.F_is_free_set.kp G.T.b_is_free_set .nil pass0 (pa_cons (pe_make G.O.M (ok_init G.T G.O) (hr.mono (by decide)) rfl G.O.gC G.O.bI .nil pass0 (pa_cons pe_int (pa_cons (pe_tup (pa_cons (pe_tup (pa_cons pe_int (pa_cons pe_int pa_nil))) (pa_cons (pe_tup (pa_cons pe_int (pa_cons pe_int pa_nil))) pa_nil))) pa_nil))) (pa_cons (pe_tup pa_nil) pa_nil))) pa_nil))))))
      (pss_one (ps_ret (pe_and (pe_cmpR (op_eqD hr.units) (pv 3) (pe_lst (pa_cons pe_bl (pa_cons pe_bl (pa_cons pe_bl (pa_cons pe_bl pa_nil))))) (nomark _))
        (pe_one (pe_cmpR (op_eqD hr.units) (pe_call (E := E0) (ok_fset G) (hr.mono (by decide)) (by rfl) G.T.m_free_set G.T.F_free_set.kp G.T.b_free_set .nil passG (pa_cons (pe_make G.O.M (ok_init G.T G.O) (hr.mono (by decide)) rfl G.O.gC G.O.bI .nil pass0 (pa_cons pe_int (pa_cons (pe_tup pa_nil) pa_nil))) pa_nil))
          (pe_tup (pa_cons pe_int (pa_cons pe_int (pa_cons pe_int pa_nil)))) (nomark _)))))))), ?_⟩
    have hm1 : ∀ m : Int, (if (if ((ns.map V.int).length : Int) < 3 then ((ns.map V.int).length : Int) else 3) > 1 then (if ((ns.map V.int).length : Int) < 3 then ((ns.map V.int).length : Int) else 3) else 1) = m → 1 ≤ m ∧ m ≤ 3 := fun m e => by
      rw [← e]
      split <;> split <;> omega
    refine ⟨_, rfl, a, _, rfl, .inl hS, _, _, rfl, _, _, rfl, _, rfl, ?_⟩
    have hb := hm1 _ rfl
    refine ⟨Int.le_trans (by decide) hb.1, Int.lt_of_le_of_lt hb.2 (by decide), ?_⟩
    refine for_range (lo := 0) (n := _) (fun i σ H' => ∃ v1 : Option V, σ = [some (.ref a), v1, none, none] ∧ Same H H') ⟨none, rfl, Same.refl H⟩ ?_ ?_
    · rintro i σ H1 hi ⟨v1, rfl, s1⟩
      have hi3 : i < 1000 := by
        have := hb.2
        omega
      refine ⟨_, rfl, _, rfl, a, ns, i, by rw [Int.zero_add]; rfl, s1.seq hS, hi3, fun H2 z g x c s2 hz hz2 => ?_⟩
      have hzn : H z = none := Same.free s1 hz
      refine ⟨z, rfl, ⟨g, x, c, hz2⟩, fun H3 b3 => ⟨true, rfl, iteF ?_⟩⟩
      exact ⟨_, rfl, bar_back (s1.trans s2) b3 hzn⟩
    · rintro σ H1 ⟨v1, rfl, s1⟩
      refine ⟨by show 4 ≤ sizeLine; decide, fun k1 hk1 => ⟨by show 4 ≤ sizeLine; decide, fun k2 hk2 => ⟨by show 4 ≤ sizeLine; decide, fun k3 hk3 => ⟨by show 3 ≤ sizeLine; decide, fun k4 hk4 => ?_⟩⟩⟩⟩
      have t1 := same_new hk1 (.tup (nv [1, 1, 0, 0]))
      have t2 := same_new hk2 (.tup (nv [0, 1, 1, 0]))
      have t3 := same_new hk3 (.tup (nv [0, 0, 1, 1]))
      have t4 := same_new hk4 (.tup [V.ref k1, V.ref k2, V.ref k3])
      have T3 := t3.trans t4
      have T2 := t2.trans T3
      intro y dx ny nd ne
      refine make_at (K := K) (C := G.O.C) (d := 4) (rs := [k1, k2, k3]) (L := edgeL) (M := M7.leastN edgeL) (SqT.of upd_same) (.cons (SqT.of (T2 _ _ upd_same)) (.cons (SqT.of (T3 _ _ upd_same)) (.cons (SqT.of (t4 _ _ upd_same)) .nil))) (few_lt (n := 3) (m := 1) (by decide) (by decide) (by decide) (by decide) (by decide) (by decide)) (by decide) (by decide) rfl ny nd ne (fun H2 s2 hE => ?_)
      obtain ⟨f1, f2, f3, f4⟩ := edge_f
      refine ⟨_, rfl, by show 2 ≤ sizeLine; decide, fun a1 ha1 => ?_⟩
      have u1 := same_new ha1 (.tup [V.int 0, V.int 2])
      refine ⟨y, .ref a1, some [some 0, some 2], 4, _, rfl, hE.same u1, by decide, edge_l, f1, .tup (SqT.of upd_same) (.cons (.int 0) (.cons (.int 2) .nil)) (by show 2 ≤ 1000; decide), fun H3 s3 => ?_⟩
      rw [f2]
      have E3 := (hE.same u1).same s3
      refine ⟨_, rfl, by show 2 ≤ sizeLine; decide, fun a2 ha2 => ?_⟩
      have u2 := same_new ha2 (.tup [V.int 0, V.int 1])
      refine ⟨y, .ref a2, some [some 0, some 1], 4, _, rfl, E3.same u2, by decide, edge_l, f1, .tup (SqT.of upd_same) (.cons (.int 0) (.cons (.int 1) .nil)) (by show 2 ≤ 1000; decide), fun H4 s4 => ?_⟩
      rw [f3]
      have E4 := (E3.same u2).same s4
      refine ⟨_, rfl, by show 2 ≤ sizeLine; decide, fun a3 ha3 => ?_⟩
      have u3 := same_new ha3 (.tup [V.int 0, V.bl true])
      refine ⟨y, .ref a3, some [some 0, none], 4, _, rfl, E4.same u3, by decide, edge_l, f1, .tup (SqT.of upd_same) (.cons (.int 0) (.cons (.bl true) .nil)) (by show 2 ≤ 1000; decide), fun H5 s5 => ?_⟩
      rw [f4]
      refine ⟨by show 2 ≤ sizeLine; decide, fun k5 hk5 => ⟨by show 2 ≤ sizeLine; decide, fun k6 hk6 => ⟨by show 2 ≤ sizeLine; decide, fun k7 hk7 => ?_⟩⟩⟩
      have t5 := same_new hk5 (.tup (nv [2, 0]))
      have t6 := same_new hk6 (.tup (nv [0, 3]))
      have t7 := same_new hk7 (.tup [V.ref k5, V.ref k6])
      intro y2 dx2 ny2 nd2 ne2
      refine make_at (K := K) (C := G.O.C) (d := 2) (rs := [k5, k6]) (L := powL) (M := M7.leastN powL) (SqT.of upd_same) (.cons (SqT.of ((t6.trans t7) _ _ upd_same)) (.cons (SqT.of (t7 _ _ upd_same)) .nil)) (few_lt (n := 2) (m := 3) (by decide) (by decide) (by decide) (by decide) (by decide) (by decide)) (by decide) (by decide) rfl ny2 nd2 ne2 (fun H6 s6 hE6 => ?_)
      obtain ⟨g1, g2⟩ := pow_f
      refine ⟨by show 0 ≤ sizeLine; exact Nat.zero_le _, fun a4 ha4 => ?_⟩
      have u4 := same_new ha4 (.tup [])
      refine ⟨y2, .ref a4, some [], 2, _, rfl, hE6.same u4, by decide, pow_l, g1, .tup (SqT.of upd_same) .nil (by show 0 ≤ 1000; decide), fun H7 s7 => ?_⟩
      rw [g2]
      refine ⟨by show 4 ≤ sizeLine; decide, fun o ho => ?_⟩
      have v1 := same_new ho (.lst [V.bl true, V.bl false, V.bl false, V.bl true])
      have ho2 : (upd H7 o (.lst [V.bl true, V.bl false, V.bl false, V.bl true])) o = some (.lst [V.bl true, V.bl false, V.bl false, V.bl true]) := upd_same
      generalize (upd H7 o (.lst [V.bl true, V.bl false, V.bl false, V.bl true])) = H8 at ho2 v1 ⊢
      refine ⟨_, rfl, by show 4 ≤ sizeLine; decide, fun o2 ho3 => ?_⟩
      have v2 := same_new ho3 (.lst [V.bl true, V.bl false, V.bl false, V.bl true])
      refine ⟨.list [.bool true, .bool false, .bool false, .bool true], .list [.bool true, .bool false, .bool false, .bool true], .lst (SqL.of (v2 _ _ ho2)) (.cons (.bl _) (.cons (.bl _) (.cons (.bl _) (.cons (.bl _) .nil)))), .lst (SqL.of upd_same) (.cons (.bl _) (.cons (.bl _) (.cons (.bl _) (.cons (.bl _) .nil)))), by decide +kernel, by decide +kernel, ?_⟩
      rw [show PyData.eqv (.list [.bool true, .bool false, .bool false, .bool true]) (.list [.bool true, .bool false, .bool false, .bool true]) = true by decide +kernel]
      generalize (upd H8 o2 (.lst [V.bl true, V.bl false, V.bl false, V.bl true])) = H9
      refine ⟨_, rfl, iteT ⟨by show 0 ≤ sizeLine; exact Nat.zero_le _, fun a5 ha5 => ?_⟩⟩
      have u5 := same_new ha5 (.tup [])
      intro y3 dx3 ny3 nd3 ne3
      refine make_at (K := K) (C := G.O.C) (d := 3) (rs := []) (L := []) (M := M7.leastN []) (SqT.of upd_same) .nil (few_lt (n := 0) (m := 0) (by decide) (fun _ h => nomatch h) (fun _ h => nomatch h) (by decide) (by decide) (by decide)) (by decide) (fun _ h => nomatch h) rfl ny3 nd3 ne3 (fun H10 s10 hE10 => ?_)
      obtain ⟨n1, n2⟩ := non_f
      refine ⟨y3, 3, _, rfl, hE10, by decide, (fun _ h => nomatch h), fun e => absurd e n1, fun _ H11 z c s11 hz hc => ?_⟩
      rw [n2] at hc
      have ec : c = [0, 1, 2] := List.mem_singleton.mp hc
      subst ec
      refine ⟨by show 3 ≤ sizeLine; decide, fun a6 ha6 => ?_⟩
      have u6 := same_new ha6 (.tup (nv [0, 1, 2]))
      refine ⟨encT [0, 1, 2], encT [0, 1, 2], dp_tup (same_sqt u6 hz), dp_tup (t := [0, 1, 2]) (SqT.of upd_same), shaped_tup _, shaped_tup _, ?_⟩
      rw [eqv_tupE, decide_eq_true rfl]
      exact q _
end
end K14

namespace K14
open PySem PySem.Spec PyProof.Rows L2 RZ L5 R7 XX
/-! ### the end -/
theorem exm_b {K : PySem.W.Frag} {S C : Addr} {b : Bool} (h1 : PySem.W.subIn K (.ref C) (.type "BaseException") = some true) (h2 : PySem.W.isClsIn K C = true) (h3 : PySem.W.typeIn K (.ref C) = some (.type "type")) (h4 : PySem.W.subIn K (.ref S) (.ref C) = some b) : PySem.W.exmOne K (.ref S) (.ref C) = some b := by
  have e1 : (PySem.W.subIn K (.ref C) (.type "BaseException") == some true) = true := by rw [h1] <;> rfl
  have h5 : PySem.W.kitCls K (.ref S) (.ref C) = some b := by
    have h2' : (PySem.W.clsIn K C).isSome = true := h2
    have e2 : ((PySem.W.clsIn K C).isSome && PySem.W.typeIn K (.ref C) == some (.type "type")) = true := by rw [h2', h3] <;> rfl
    exact (if_pos e2).trans h4
  exact (if_pos e1).trans h5
theorem all_mk {l : PySem.W.OpenLaw} {w : World} {K : PySem.W.Frag} {h : Heap} {mg : Str → Option Value} {fa C : Addr} (X : K.In h) (G : h.Ns mainGlobals mg) (hfa : mg "law" = some (.ref fa))
    {od_is_number an_is_number : Option Addr} {sl_is_number : Array (Option Value)} {oc_is_number kV_is_number dc_is_number pm_is_number cd_is_number ct_is_number : Value} {f_is_number : Addr}
    (a_is_number : PySem.W.nsIn K mainGlobals "is_number" = some (some (.ref f_is_number))) (l_is_number : K.lookup f_is_number = some ⟨oc_is_number, od_is_number, .func (PySem.W.fnOf "is_number" "is_number" (defArgs s_is_number) (defBody s_is_number) (defScope s_is_number) .none kV_is_number dc_is_number pm_is_number an_is_number cd_is_number ct_is_number), sl_is_number⟩) (cc_is_number : PySem.W.codeIn K cd_is_number "is_number" = true) (k_is_number : PySem.W.keepIn K (.ref f_is_number) = true)
    {od_is_within an_is_within : Option Addr} {sl_is_within : Array (Option Value)} {oc_is_within kV_is_within dc_is_within pm_is_within cd_is_within ct_is_within : Value} {f_is_within : Addr}
    (a_is_within : PySem.W.nsIn K mainGlobals "is_within" = some (some (.ref f_is_within))) (l_is_within : K.lookup f_is_within = some ⟨oc_is_within, od_is_within, .func (PySem.W.fnOf "is_within" "is_within" (defArgs s_is_within) (defBody s_is_within) (defScope s_is_within) .none kV_is_within dc_is_within pm_is_within an_is_within cd_is_within ct_is_within), sl_is_within⟩) (cc_is_within : PySem.W.codeIn K cd_is_within "is_within" = true) (k_is_within : PySem.W.keepIn K (.ref f_is_within) = true)
    {od_check_within an_check_within : Option Addr} {sl_check_within : Array (Option Value)} {oc_check_within kV_check_within dc_check_within pm_check_within cd_check_within ct_check_within : Value} {f_check_within : Addr}
    (a_check_within : PySem.W.nsIn K mainGlobals "check_within" = some (some (.ref f_check_within))) (l_check_within : K.lookup f_check_within = some ⟨oc_check_within, od_check_within, .func (PySem.W.fnOf "check_within" "check_within" (defArgs s_check_within) (defBody s_check_within) (defScope s_check_within) .none kV_check_within dc_check_within pm_check_within an_check_within cd_check_within ct_check_within), sl_check_within⟩) (cc_check_within : PySem.W.codeIn K cd_check_within "check_within" = true) (k_check_within : PySem.W.keepIn K (.ref f_check_within) = true)
    {od_are_exponents an_are_exponents : Option Addr} {sl_are_exponents : Array (Option Value)} {oc_are_exponents kV_are_exponents dc_are_exponents pm_are_exponents cd_are_exponents ct_are_exponents : Value} {f_are_exponents : Addr}
    (a_are_exponents : PySem.W.nsIn K mainGlobals "are_exponents" = some (some (.ref f_are_exponents))) (l_are_exponents : K.lookup f_are_exponents = some ⟨oc_are_exponents, od_are_exponents, .func (PySem.W.fnOf "are_exponents" "are_exponents" (defArgs s_are_exponents) (defBody s_are_exponents) (defScope s_are_exponents) .none kV_are_exponents dc_are_exponents pm_are_exponents an_are_exponents cd_are_exponents ct_are_exponents), sl_are_exponents⟩) (cc_are_exponents : PySem.W.codeIn K cd_are_exponents "are_exponents" = true) (k_are_exponents : PySem.W.keepIn K (.ref f_are_exponents) = true)
    {od_fits an_fits : Option Addr} {sl_fits : Array (Option Value)} {oc_fits kV_fits dc_fits pm_fits cd_fits ct_fits : Value} {f_fits : Addr}
    (a_fits : PySem.W.nsIn K mainGlobals "fits" = some (some (.ref f_fits))) (l_fits : K.lookup f_fits = some ⟨oc_fits, od_fits, .func (PySem.W.fnOf "fits" "fits" (defArgs s_fits) (defBody s_fits) (defScope s_fits) .none kV_fits dc_fits pm_fits an_fits cd_fits ct_fits), sl_fits⟩) (cc_fits : PySem.W.codeIn K cd_fits "fits" = true) (k_fits : PySem.W.keepIn K (.ref f_fits) = true)
    {od_is_divided an_is_divided : Option Addr} {sl_is_divided : Array (Option Value)} {oc_is_divided kV_is_divided dc_is_divided pm_is_divided cd_is_divided ct_is_divided : Value} {f_is_divided : Addr}
    (a_is_divided : PySem.W.nsIn K mainGlobals "is_divided" = some (some (.ref f_is_divided))) (l_is_divided : K.lookup f_is_divided = some ⟨oc_is_divided, od_is_divided, .func (PySem.W.fnOf "is_divided" "is_divided" (defArgs s_is_divided) (defBody s_is_divided) (defScope s_is_divided) .none kV_is_divided dc_is_divided pm_is_divided an_is_divided cd_is_divided ct_is_divided), sl_is_divided⟩) (cc_is_divided : PySem.W.codeIn K cd_is_divided "is_divided" = true) (k_is_divided : PySem.W.keepIn K (.ref f_is_divided) = true)
    {od_is_least_of an_is_least_of : Option Addr} {sl_is_least_of : Array (Option Value)} {oc_is_least_of kV_is_least_of dc_is_least_of pm_is_least_of cd_is_least_of ct_is_least_of : Value} {f_is_least_of : Addr}
    (a_is_least_of : PySem.W.nsIn K mainGlobals "is_least_of" = some (some (.ref f_is_least_of))) (l_is_least_of : K.lookup f_is_least_of = some ⟨oc_is_least_of, od_is_least_of, .func (PySem.W.fnOf "is_least_of" "is_least_of" (defArgs s_is_least_of) (defBody s_is_least_of) (defScope s_is_least_of) .none kV_is_least_of dc_is_least_of pm_is_least_of an_is_least_of cd_is_least_of ct_is_least_of), sl_is_least_of⟩) (cc_is_least_of : PySem.W.codeIn K cd_is_least_of "is_least_of" = true) (k_is_least_of : PySem.W.keepIn K (.ref f_is_least_of) = true)
    {tt_least_of : Addr} {tc_least_of : Value} {td_least_of : Option Addr} {tn_least_of : Nat} {ts_least_of : Array (Option Value)}
    {od_least_of an_least_of : Option Addr} {sl_least_of : Array (Option Value)} {oc_least_of kV_least_of dc_least_of pm_least_of cd_least_of ct_least_of : Value} {f_least_of : Addr}
    (a_least_of : PySem.W.nsIn K mainGlobals "least_of" = some (some (.ref f_least_of))) (l_least_of : K.lookup f_least_of = some ⟨oc_least_of, od_least_of, .func (PySem.W.fnOf "least_of" "least_of" (defArgs s_least_of) (defBody s_least_of) (defScope s_least_of) (.ref tt_least_of) kV_least_of dc_least_of pm_least_of an_least_of cd_least_of ct_least_of), sl_least_of⟩) (cc_least_of : PySem.W.codeIn K cd_least_of "least_of" = true) (k_least_of : PySem.W.keepIn K (.ref f_least_of) = true) (t_least_of : K.lookup tt_least_of = some ⟨tc_least_of, td_least_of, .seq #[.none] tn_least_of, ts_least_of⟩)
    {od_are_products an_are_products : Option Addr} {sl_are_products : Array (Option Value)} {oc_are_products kV_are_products dc_are_products pm_are_products cd_are_products ct_are_products : Value} {f_are_products : Addr}
    (a_are_products : PySem.W.nsIn K mainGlobals "are_products" = some (some (.ref f_are_products))) (l_are_products : K.lookup f_are_products = some ⟨oc_are_products, od_are_products, .func (PySem.W.fnOf "are_products" "are_products" (defArgs s_are_products) (defBody s_are_products) (defScope s_are_products) .none kV_are_products dc_are_products pm_are_products an_are_products cd_are_products ct_are_products), sl_are_products⟩) (cc_are_products : PySem.W.codeIn K cd_are_products "are_products" = true) (k_are_products : PySem.W.keepIn K (.ref f_are_products) = true)
    {od_check_lot an_check_lot : Option Addr} {sl_check_lot : Array (Option Value)} {oc_check_lot kV_check_lot dc_check_lot pm_check_lot cd_check_lot ct_check_lot : Value} {f_check_lot : Addr}
    (a_check_lot : PySem.W.nsIn K mainGlobals "check_lot" = some (some (.ref f_check_lot))) (l_check_lot : K.lookup f_check_lot = some ⟨oc_check_lot, od_check_lot, .func (PySem.W.fnOf "check_lot" "check_lot" (defArgs s_check_lot) (defBody s_check_lot) (defScope s_check_lot) .none kV_check_lot dc_check_lot pm_check_lot an_check_lot cd_check_lot ct_check_lot), sl_check_lot⟩) (cc_check_lot : PySem.W.codeIn K cd_check_lot "check_lot" = true) (k_check_lot : PySem.W.keepIn K (.ref f_check_lot) = true)
    {od_limited_members an_limited_members : Option Addr} {sl_limited_members : Array (Option Value)} {oc_limited_members kV_limited_members dc_limited_members pm_limited_members cd_limited_members ct_limited_members : Value} {f_limited_members : Addr}
    (a_limited_members : PySem.W.nsIn K mainGlobals "limited_members" = some (some (.ref f_limited_members))) (l_limited_members : K.lookup f_limited_members = some ⟨oc_limited_members, od_limited_members, .func (PySem.W.fnOf "limited_members" "limited_members" (defArgs s_limited_members) (defBody s_limited_members) (defScope s_limited_members) .none kV_limited_members dc_limited_members pm_limited_members an_limited_members cd_limited_members ct_limited_members), sl_limited_members⟩) (cc_limited_members : PySem.W.codeIn K cd_limited_members "limited_members" = true) (k_limited_members : PySem.W.keepIn K (.ref f_limited_members) = true)
    {od_has_great_exponent an_has_great_exponent : Option Addr} {sl_has_great_exponent : Array (Option Value)} {oc_has_great_exponent kV_has_great_exponent dc_has_great_exponent pm_has_great_exponent cd_has_great_exponent ct_has_great_exponent : Value} {f_has_great_exponent : Addr}
    (a_has_great_exponent : PySem.W.nsIn K mainGlobals "has_great_exponent" = some (some (.ref f_has_great_exponent))) (l_has_great_exponent : K.lookup f_has_great_exponent = some ⟨oc_has_great_exponent, od_has_great_exponent, .func (PySem.W.fnOf "has_great_exponent" "has_great_exponent" (defArgs s_has_great_exponent) (defBody s_has_great_exponent) (defScope s_has_great_exponent) .none kV_has_great_exponent dc_has_great_exponent pm_has_great_exponent an_has_great_exponent cd_has_great_exponent ct_has_great_exponent), sl_has_great_exponent⟩) (cc_has_great_exponent : PySem.W.codeIn K cd_has_great_exponent "has_great_exponent" = true) (k_has_great_exponent : PySem.W.keepIn K (.ref f_has_great_exponent) = true)
    {od_letter_sets an_letter_sets : Option Addr} {sl_letter_sets : Array (Option Value)} {oc_letter_sets kV_letter_sets dc_letter_sets pm_letter_sets cd_letter_sets ct_letter_sets : Value} {f_letter_sets : Addr}
    (a_letter_sets : PySem.W.nsIn K mainGlobals "letter_sets" = some (some (.ref f_letter_sets))) (l_letter_sets : K.lookup f_letter_sets = some ⟨oc_letter_sets, od_letter_sets, .func (PySem.W.fnOf "letter_sets" "letter_sets" (defArgs s_letter_sets) (defBody s_letter_sets) (defScope s_letter_sets) .none kV_letter_sets dc_letter_sets pm_letter_sets an_letter_sets cd_letter_sets ct_letter_sets), sl_letter_sets⟩) (cc_letter_sets : PySem.W.codeIn K cd_letter_sets "letter_sets" = true) (k_letter_sets : PySem.W.keepIn K (.ref f_letter_sets) = true)
    {od_is_free an_is_free : Option Addr} {sl_is_free : Array (Option Value)} {oc_is_free kV_is_free dc_is_free pm_is_free cd_is_free ct_is_free : Value} {f_is_free : Addr}
    (a_is_free : PySem.W.nsIn K mainGlobals "is_free" = some (some (.ref f_is_free))) (l_is_free : K.lookup f_is_free = some ⟨oc_is_free, od_is_free, .func (PySem.W.fnOf "is_free" "is_free" (defArgs s_is_free) (defBody s_is_free) (defScope s_is_free) .none kV_is_free dc_is_free pm_is_free an_is_free cd_is_free ct_is_free), sl_is_free⟩) (cc_is_free : PySem.W.codeIn K cd_is_free "is_free" = true) (k_is_free : PySem.W.keepIn K (.ref f_is_free) = true)
    {od_free_sets an_free_sets : Option Addr} {sl_free_sets : Array (Option Value)} {oc_free_sets kV_free_sets dc_free_sets pm_free_sets cd_free_sets ct_free_sets : Value} {f_free_sets : Addr}
    (a_free_sets : PySem.W.nsIn K mainGlobals "free_sets" = some (some (.ref f_free_sets))) (l_free_sets : K.lookup f_free_sets = some ⟨oc_free_sets, od_free_sets, .func (PySem.W.fnOf "free_sets" "free_sets" (defArgs s_free_sets) (defBody s_free_sets) (defScope s_free_sets) .none kV_free_sets dc_free_sets pm_free_sets an_free_sets cd_free_sets ct_free_sets), sl_free_sets⟩) (cc_free_sets : PySem.W.codeIn K cd_free_sets "free_sets" = true) (k_free_sets : PySem.W.keepIn K (.ref f_free_sets) = true)
    {od_greatest_size an_greatest_size : Option Addr} {sl_greatest_size : Array (Option Value)} {oc_greatest_size kV_greatest_size dc_greatest_size pm_greatest_size cd_greatest_size ct_greatest_size : Value} {f_greatest_size : Addr}
    (a_greatest_size : PySem.W.nsIn K mainGlobals "greatest_size" = some (some (.ref f_greatest_size))) (l_greatest_size : K.lookup f_greatest_size = some ⟨oc_greatest_size, od_greatest_size, .func (PySem.W.fnOf "greatest_size" "greatest_size" (defArgs s_greatest_size) (defBody s_greatest_size) (defScope s_greatest_size) .none kV_greatest_size dc_greatest_size pm_greatest_size an_greatest_size cd_greatest_size ct_greatest_size), sl_greatest_size⟩) (cc_greatest_size : PySem.W.codeIn K cd_greatest_size "greatest_size" = true) (k_greatest_size : PySem.W.keepIn K (.ref f_greatest_size) = true)
    {od_dimension an_dimension : Option Addr} {sl_dimension : Array (Option Value)} {oc_dimension kV_dimension dc_dimension pm_dimension cd_dimension ct_dimension : Value} {f_dimension : Addr}
    (a_dimension : PySem.W.nsIn K mainGlobals "dimension" = some (some (.ref f_dimension))) (l_dimension : K.lookup f_dimension = some ⟨oc_dimension, od_dimension, .func (PySem.W.fnOf "dimension" "dimension" (defArgs s_dimension) (defBody s_dimension) (defScope s_dimension) .none kV_dimension dc_dimension pm_dimension an_dimension cd_dimension ct_dimension), sl_dimension⟩) (cc_dimension : PySem.W.codeIn K cd_dimension "dimension" = true) (k_dimension : PySem.W.keepIn K (.ref f_dimension) = true)
    {od_free_set an_free_set : Option Addr} {sl_free_set : Array (Option Value)} {oc_free_set kV_free_set dc_free_set pm_free_set cd_free_set ct_free_set : Value} {f_free_set : Addr}
    (a_free_set : PySem.W.nsIn K mainGlobals "free_set" = some (some (.ref f_free_set))) (l_free_set : K.lookup f_free_set = some ⟨oc_free_set, od_free_set, .func (PySem.W.fnOf "free_set" "free_set" (defArgs s_free_set) (defBody s_free_set) (defScope s_free_set) .none kV_free_set dc_free_set pm_free_set an_free_set cd_free_set ct_free_set), sl_free_set⟩) (cc_free_set : PySem.W.codeIn K cd_free_set "free_set" = true) (k_free_set : PySem.W.keepIn K (.ref f_free_set) = true)
    {od_is_free_set an_is_free_set : Option Addr} {sl_is_free_set : Array (Option Value)} {oc_is_free_set kV_is_free_set dc_is_free_set pm_is_free_set cd_is_free_set ct_is_free_set : Value} {f_is_free_set : Addr}
    (a_is_free_set : PySem.W.nsIn K mainGlobals "is_free_set" = some (some (.ref f_is_free_set))) (l_is_free_set : K.lookup f_is_free_set = some ⟨oc_is_free_set, od_is_free_set, .func (PySem.W.fnOf "is_free_set" "is_free_set" (defArgs s_is_free_set) (defBody s_is_free_set) (defScope s_is_free_set) .none kV_is_free_set dc_is_free_set pm_is_free_set an_is_free_set cd_is_free_set ct_is_free_set), sl_is_free_set⟩) (cc_is_free_set : PySem.W.codeIn K cd_is_free_set "is_free_set" = true) (k_is_free_set : PySem.W.keepIn K (.ref f_is_free_set) = true)
    {od_greatest_free_sets an_greatest_free_sets : Option Addr} {sl_greatest_free_sets : Array (Option Value)} {oc_greatest_free_sets kV_greatest_free_sets dc_greatest_free_sets pm_greatest_free_sets cd_greatest_free_sets ct_greatest_free_sets : Value} {f_greatest_free_sets : Addr}
    (a_greatest_free_sets : PySem.W.nsIn K mainGlobals "greatest_free_sets" = some (some (.ref f_greatest_free_sets))) (l_greatest_free_sets : K.lookup f_greatest_free_sets = some ⟨oc_greatest_free_sets, od_greatest_free_sets, .func (PySem.W.fnOf "greatest_free_sets" "greatest_free_sets" (defArgs s_greatest_free_sets) (defBody s_greatest_free_sets) (defScope s_greatest_free_sets) .none kV_greatest_free_sets dc_greatest_free_sets pm_greatest_free_sets an_greatest_free_sets cd_greatest_free_sets ct_greatest_free_sets), sl_greatest_free_sets⟩) (cc_greatest_free_sets : PySem.W.codeIn K cd_greatest_free_sets "greatest_free_sets" = true) (k_greatest_free_sets : PySem.W.keepIn K (.ref f_greatest_free_sets) = true)
    {od_w_jug an_w_jug : Option Addr} {sl_w_jug : Array (Option Value)} {oc_w_jug kV_w_jug dc_w_jug pm_w_jug cd_w_jug ct_w_jug : Value} {f_w_jug : Addr}
    (a_w_jug : PySem.W.nsIn K mainGlobals "_law_jug" = some (some (.ref f_w_jug))) (l_w_jug : K.lookup f_w_jug = some ⟨oc_w_jug, od_w_jug, .func (PySem.W.fnOf "_law_jug" "_law_jug" (defArgs s_w_jug) (defBody s_w_jug) (defScope s_w_jug) .none kV_w_jug dc_w_jug pm_w_jug an_w_jug cd_w_jug ct_w_jug), sl_w_jug⟩) (cc_w_jug : PySem.W.codeIn K cd_w_jug "_law_jug" = true) (k_w_jug : PySem.W.keepIn K (.ref f_w_jug) = true)
    {od_w_pour an_w_pour : Option Addr} {sl_w_pour : Array (Option Value)} {oc_w_pour kV_w_pour dc_w_pour pm_w_pour cd_w_pour ct_w_pour : Value} {f_w_pour : Addr}
    (a_w_pour : PySem.W.nsIn K mainGlobals "_law_pour" = some (some (.ref f_w_pour))) (l_w_pour : K.lookup f_w_pour = some ⟨oc_w_pour, od_w_pour, .func (PySem.W.fnOf "_law_pour" "_law_pour" (defArgs s_w_pour) (defBody s_w_pour) (defScope s_w_pour) .none kV_w_pour dc_w_pour pm_w_pour an_w_pour cd_w_pour ct_w_pour), sl_w_pour⟩) (cc_w_pour : PySem.W.codeIn K cd_w_pour "_law_pour" = true) (k_w_pour : PySem.W.keepIn K (.ref f_w_pour) = true)
    {od_w_taken an_w_taken : Option Addr} {sl_w_taken : Array (Option Value)} {oc_w_taken kV_w_taken dc_w_taken pm_w_taken cd_w_taken ct_w_taken : Value} {f_w_taken : Addr}
    (a_w_taken : PySem.W.nsIn K mainGlobals "_law_taken" = some (some (.ref f_w_taken))) (l_w_taken : K.lookup f_w_taken = some ⟨oc_w_taken, od_w_taken, .func (PySem.W.fnOf "_law_taken" "_law_taken" (defArgs s_w_taken) (defBody s_w_taken) (defScope s_w_taken) .none kV_w_taken dc_w_taken pm_w_taken an_w_taken cd_w_taken ct_w_taken), sl_w_taken⟩) (cc_w_taken : PySem.W.codeIn K cd_w_taken "_law_taken" = true) (k_w_taken : PySem.W.keepIn K (.ref f_w_taken) = true)
    {od_w_divides an_w_divides : Option Addr} {sl_w_divides : Array (Option Value)} {oc_w_divides kV_w_divides dc_w_divides pm_w_divides cd_w_divides ct_w_divides : Value} {f_w_divides : Addr}
    (a_w_divides : PySem.W.nsIn K mainGlobals "_law_divides" = some (some (.ref f_w_divides))) (l_w_divides : K.lookup f_w_divides = some ⟨oc_w_divides, od_w_divides, .func (PySem.W.fnOf "_law_divides" "_law_divides" (defArgs s_w_divides) (defBody s_w_divides) (defScope s_w_divides) .none kV_w_divides dc_w_divides pm_w_divides an_w_divides cd_w_divides ct_w_divides), sl_w_divides⟩) (cc_w_divides : PySem.W.codeIn K cd_w_divides "_law_divides" = true) (k_w_divides : PySem.W.keepIn K (.ref f_w_divides) = true)
    {od_w_least an_w_least : Option Addr} {sl_w_least : Array (Option Value)} {oc_w_least kV_w_least dc_w_least pm_w_least cd_w_least ct_w_least : Value} {f_w_least : Addr}
    (a_w_least : PySem.W.nsIn K mainGlobals "_law_least" = some (some (.ref f_w_least))) (l_w_least : K.lookup f_w_least = some ⟨oc_w_least, od_w_least, .func (PySem.W.fnOf "_law_least" "_law_least" (defArgs s_w_least) (defBody s_w_least) (defScope s_w_least) .none kV_w_least dc_w_least pm_w_least an_w_least cd_w_least ct_w_least), sl_w_least⟩) (cc_w_least : PySem.W.codeIn K cd_w_least "_law_least" = true) (k_w_least : PySem.W.keepIn K (.ref f_w_least) = true)
    {od_w_product an_w_product : Option Addr} {sl_w_product : Array (Option Value)} {oc_w_product kV_w_product dc_w_product pm_w_product cd_w_product ct_w_product : Value} {f_w_product : Addr}
    (a_w_product : PySem.W.nsIn K mainGlobals "_law_product" = some (some (.ref f_w_product))) (l_w_product : K.lookup f_w_product = some ⟨oc_w_product, od_w_product, .func (PySem.W.fnOf "_law_product" "_law_product" (defArgs s_w_product) (defBody s_w_product) (defScope s_w_product) .none kV_w_product dc_w_product pm_w_product an_w_product cd_w_product ct_w_product), sl_w_product⟩) (cc_w_product : PySem.W.codeIn K cd_w_product "_law_product" = true) (k_w_product : PySem.W.keepIn K (.ref f_w_product) = true)
    {od_w_members an_w_members : Option Addr} {sl_w_members : Array (Option Value)} {oc_w_members kV_w_members dc_w_members pm_w_members cd_w_members ct_w_members : Value} {f_w_members : Addr}
    (a_w_members : PySem.W.nsIn K mainGlobals "_law_members" = some (some (.ref f_w_members))) (l_w_members : K.lookup f_w_members = some ⟨oc_w_members, od_w_members, .func (PySem.W.fnOf "_law_members" "_law_members" (defArgs s_w_members) (defBody s_w_members) (defScope s_w_members) .none kV_w_members dc_w_members pm_w_members an_w_members cd_w_members ct_w_members), sl_w_members⟩) (cc_w_members : PySem.W.codeIn K cd_w_members "_law_members" = true) (k_w_members : PySem.W.keepIn K (.ref f_w_members) = true)
    {od_w_is_free an_w_is_free : Option Addr} {sl_w_is_free : Array (Option Value)} {oc_w_is_free kV_w_is_free dc_w_is_free pm_w_is_free cd_w_is_free ct_w_is_free : Value} {f_w_is_free : Addr}
    (a_w_is_free : PySem.W.nsIn K mainGlobals "_law_is_free" = some (some (.ref f_w_is_free))) (l_w_is_free : K.lookup f_w_is_free = some ⟨oc_w_is_free, od_w_is_free, .func (PySem.W.fnOf "_law_is_free" "_law_is_free" (defArgs s_w_is_free) (defBody s_w_is_free) (defScope s_w_is_free) .none kV_w_is_free dc_w_is_free pm_w_is_free an_w_is_free cd_w_is_free ct_w_is_free), sl_w_is_free⟩) (cc_w_is_free : PySem.W.codeIn K cd_w_is_free "_law_is_free" = true) (k_w_is_free : PySem.W.keepIn K (.ref f_w_is_free) = true)
    {od_w_sets an_w_sets : Option Addr} {sl_w_sets : Array (Option Value)} {oc_w_sets kV_w_sets dc_w_sets pm_w_sets cd_w_sets ct_w_sets : Value} {f_w_sets : Addr}
    (a_w_sets : PySem.W.nsIn K mainGlobals "_law_sets" = some (some (.ref f_w_sets))) (l_w_sets : K.lookup f_w_sets = some ⟨oc_w_sets, od_w_sets, .func (PySem.W.fnOf "_law_sets" "_law_sets" (defArgs s_w_sets) (defBody s_w_sets) (defScope s_w_sets) .none kV_w_sets dc_w_sets pm_w_sets an_w_sets cd_w_sets ct_w_sets), sl_w_sets⟩) (cc_w_sets : PySem.W.codeIn K cd_w_sets "_law_sets" = true) (k_w_sets : PySem.W.keepIn K (.ref f_w_sets) = true)
    {od_w_told an_w_told : Option Addr} {sl_w_told : Array (Option Value)} {oc_w_told kV_w_told dc_w_told pm_w_told cd_w_told ct_w_told : Value} {f_w_told : Addr}
    (a_w_told : PySem.W.nsIn K mainGlobals "_law_told" = some (some (.ref f_w_told))) (l_w_told : K.lookup f_w_told = some ⟨oc_w_told, od_w_told, .func (PySem.W.fnOf "_law_told" "_law_told" (defArgs s_w_told) (defBody s_w_told) (defScope s_w_told) .none kV_w_told dc_w_told pm_w_told an_w_told cd_w_told ct_w_told), sl_w_told⟩) (cc_w_told : PySem.W.codeIn K cd_w_told "_law_told" = true) (k_w_told : PySem.W.keepIn K (.ref f_w_told) = true)
    {od_w_right an_w_right : Option Addr} {sl_w_right : Array (Option Value)} {oc_w_right kV_w_right dc_w_right pm_w_right cd_w_right ct_w_right : Value} {f_w_right : Addr}
    (a_w_right : PySem.W.nsIn K mainGlobals "_law_right" = some (some (.ref f_w_right))) (l_w_right : K.lookup f_w_right = some ⟨oc_w_right, od_w_right, .func (PySem.W.fnOf "_law_right" "_law_right" (defArgs s_w_right) (defBody s_w_right) (defScope s_w_right) .none kV_w_right dc_w_right pm_w_right an_w_right cd_w_right ct_w_right), sl_w_right⟩) (cc_w_right : PySem.W.codeIn K cd_w_right "_law_right" = true) (k_w_right : PySem.W.keepIn K (.ref f_w_right) = true)
    {od_law an_law : Option Addr} {sl_law : Array (Option Value)} {oc_law kV_law dc_law pm_law cd_law ct_law : Value} {f_law : Addr}
    (a_law : PySem.W.nsIn K mainGlobals "law" = some (some (.ref f_law))) (l_law : K.lookup f_law = some ⟨oc_law, od_law, .func (PySem.W.fnOf "law" "law" (defArgs s_law) (defBody s_law) (defScope s_law) .none kV_law dc_law pm_law an_law cd_law ct_law), sl_law⟩) (cc_law : PySem.W.codeIn K cd_law "law" = true) (k_law : PySem.W.keepIn K (.ref f_law) = true)
    (aC : PySem.W.nsIn K mainGlobals "Lot" = some (some (.ref C)))
    {od_init an_init : Option Addr} {sl_init : Array (Option Value)} {oc_init kV_init dc_init pm_init cd_init ct_init : Value} {f_init : Addr}
    (a_init : PySem.W.findIn K (.ref C) "__init__" = some (some (.ref f_init))) (i_init : PySem.W.isFn K (.ref f_init) = true) (l_init : K.lookup f_init = some ⟨oc_init, od_init, .func (PySem.W.fnOf "__init__" "Lot.__init__" (defArgs s_init) (defBody s_init) (defScope s_init) .none kV_init dc_init pm_init an_init cd_init ct_init), sl_init⟩) (cc_init : PySem.W.codeIn K cd_init "Lot.__init__" = true) (k_init : PySem.W.keepIn K (.ref f_init) = true)
    {pp_letters : Addr} {re_letters : List Value}
    {od_letters an_letters : Option Addr} {sl_letters : Array (Option Value)} {oc_letters kV_letters dc_letters pm_letters cd_letters ct_letters : Value} {f_letters : Addr}
    (a_letters : PySem.W.findIn K (.ref C) "letters" = some (some (.ref pp_letters))) (g_letters : PySem.W.specialIn K (.ref pp_letters) "__get__" = some (some (.builtin "property.__get__"))) (tk_letters : PySem.W.takesIn K (.ref pp_letters) = some true) (r_letters : PySem.W.recIn K pp_letters "property" = some (.ref f_letters :: re_letters)) (l_letters : K.lookup f_letters = some ⟨oc_letters, od_letters, .func (PySem.W.fnOf "letters" "Lot.letters" (defArgs s_letters) (defBody s_letters) (defScope s_letters) .none kV_letters dc_letters pm_letters an_letters cd_letters ct_letters), sl_letters⟩) (cc_letters : PySem.W.codeIn K cd_letters "Lot.letters" = true) (k_letters : PySem.W.keepIn K (.ref f_letters) = true)
    {pp_members : Addr} {re_members : List Value}
    {od_members an_members : Option Addr} {sl_members : Array (Option Value)} {oc_members kV_members dc_members pm_members cd_members ct_members : Value} {f_members : Addr}
    (a_members : PySem.W.findIn K (.ref C) "members" = some (some (.ref pp_members))) (g_members : PySem.W.specialIn K (.ref pp_members) "__get__" = some (some (.builtin "property.__get__"))) (tk_members : PySem.W.takesIn K (.ref pp_members) = some true) (r_members : PySem.W.recIn K pp_members "property" = some (.ref f_members :: re_members)) (l_members : K.lookup f_members = some ⟨oc_members, od_members, .func (PySem.W.fnOf "members" "Lot.members" (defArgs s_members) (defBody s_members) (defScope s_members) .none kV_members dc_members pm_members an_members cd_members ct_members), sl_members⟩) (cc_members : PySem.W.codeIn K cd_members "Lot.members" = true) (k_members : PySem.W.keepIn K (.ref f_members) = true)
    (pgC : PySem.W.plainGet K C Str.empty = true)
    (hdC : PySem.W.hasDictIn K C = true)
    (poC : PySem.W.plainOver K C = true)
    (saC : PySem.W.findIn K (.ref C) "__setattr__" = some (some (.builtin "object.__setattr__")))
    (mkC : PySem.W.makesIn K C = true)
    (kcC : PySem.W.keepIn K (.ref C) = true)
    (nL : PySem.W.findIn K (.ref C) "_letters" = some none)
    (nM : PySem.W.findIn K (.ref C) "_members" = some none)
    (c1 : PySem.W.findIn K (.ref C) "__class__" = some (some (.builtin "object.__class__")))
    (c2 : PySem.W.specialIn K (.builtin "object.__class__") "__get__" = some (some (.builtin "getset_descriptor.__get__")))
    (c3 : PySem.W.takesIn K (.builtin "object.__class__") = some true)
    (hm : PySem.W.mroIn K C (.type "object") = some true)
    (kit : PySem.W.kitOne K (.ref C) (.ref C) = some true)
    (z_isinstance : PySem.W.nsIn K mainGlobals "isinstance" = some none)
    (z_int : PySem.W.nsIn K mainGlobals "int" = some none)
    (z_bool : PySem.W.nsIn K mainGlobals "bool" = some none)
    (z_tuple : PySem.W.nsIn K mainGlobals "tuple" = some none)
    (z_len : PySem.W.nsIn K mainGlobals "len" = some none)
    (z_all : PySem.W.nsIn K mainGlobals "all" = some none)
    (z_zip : PySem.W.nsIn K mainGlobals "zip" = some none)
    (z_sorted : PySem.W.nsIn K mainGlobals "sorted" = some none)
    (z_set : PySem.W.nsIn K mainGlobals "set" = some none)
    (z_enumerate : PySem.W.nsIn K mainGlobals "enumerate" = some none)
    (z_range : PySem.W.nsIn K mainGlobals "range" = some none)
    (z_max : PySem.W.nsIn K mainGlobals "max" = some none)
    (z_sum : PySem.W.nsIn K mainGlobals "sum" = some none)
    (z_abs : PySem.W.nsIn K mainGlobals "abs" = some none)
    (z_list : PySem.W.nsIn K mainGlobals "list" = some none)
    (z_min : PySem.W.nsIn K mainGlobals "min" = some none)
    {t_MAX_LETTERS : Nat} (g_MAX_LETTERS : PySem.W.nsIn K mainGlobals "MAX_LETTERS" = some (some (.int 8 t_MAX_LETTERS)))
    {t_MAX_EXPONENT : Nat} (g_MAX_EXPONENT : PySem.W.nsIn K mainGlobals "MAX_EXPONENT" = some (some (.int 60 t_MAX_EXPONENT)))
    {t_LONGEST_EXPONENT : Nat} (g_LONGEST_EXPONENT : PySem.W.nsIn K mainGlobals "LONGEST_EXPONENT" = some (some (.int 2 t_LONGEST_EXPONENT)))
    {t_MAX_MEMBER_EXPONENT : Nat} (g_MAX_MEMBER_EXPONENT : PySem.W.nsIn K mainGlobals "MAX_MEMBER_EXPONENT" = some (some (.int 8 t_MAX_MEMBER_EXPONENT)))
    {t_MAX_MEMBERS : Nat} (g_MAX_MEMBERS : PySem.W.nsIn K mainGlobals "MAX_MEMBERS" = some (some (.int 24 t_MAX_MEMBERS)))
    {t_MAX_PASSED : Nat} (g_MAX_PASSED : PySem.W.nsIn K mainGlobals "MAX_PASSED" = some (some (.int 200 t_MAX_PASSED)))
    {t_MAX_POWER : Nat} (g_MAX_POWER : PySem.W.nsIn K mainGlobals "MAX_POWER" = some (some (.int 4 t_MAX_POWER)))
    {C_Refused : Addr}
    (aC_Refused : PySem.W.nsIn K mainGlobals "Refused" = some (some (.ref C_Refused)))
    {nm_Refused q_Refused : Str} {N_Refused : Addr} {bs_Refused : List Value} {sn_Refused : List Str} {sub_Refused : List Value} {ab_Refused : Bool} {col_Refused : Option Bool} {dd_Refused : Option Addr} {m0_Refused m1_Refused m2_Refused m3_Refused m5_Refused : Option Value}
    (xL_Refused : K.lookup C_Refused = some (excClassObj nm_Refused q_Refused C_Refused N_Refused bs_Refused [.type "ArithmeticError", .type "Exception", .type "BaseException", .type "object"] true sn_Refused sub_Refused ab_Refused col_Refused dd_Refused m0_Refused m1_Refused m2_Refused m3_Refused m5_Refused "ArithmeticError.__new__"))
    (sa_Refused : PySem.W.findIn K (.ref C_Refused) "__setattr__" = some (some (.builtin "object.__setattr__"))) (ga_Refused : PySem.W.findIn K (.ref C_Refused) "__getattribute__" = some (some (.builtin "BaseException.__getattribute__"))) (gg_Refused : PySem.W.findIn K (.ref C_Refused) "__getattr__" = some none) (nf_Refused : PySem.W.findIn K (.ref C_Refused) "reason" = some none)
    {fi_Refused : Addr} {odi_Refused ani_Refused : Option Addr} {sli_Refused : Array (Option Value)} {oci_Refused kVi_Refused dci_Refused pmi_Refused cdi_Refused cti_Refused : Value}
    (ai_Refused : PySem.W.findIn K (.ref C_Refused) "__init__" = some (some (.ref fi_Refused))) (ti_Refused : PySem.W.typeIn K (.ref fi_Refused) = some (.type "function"))
    (li_Refused : K.lookup fi_Refused = some ⟨oci_Refused, odi_Refused, .func (PySem.W.fnOf "__init__" "Refused.__init__" (defArgs si_Refused) (defBody si_Refused) (defScope si_Refused) .none kVi_Refused dci_Refused pmi_Refused ani_Refused cdi_Refused cti_Refused), sli_Refused⟩) (ci_Refused : PySem.W.codeIn K cdi_Refused "Refused.__init__" = true) (ki_Refused : PySem.W.keepIn K (.ref fi_Refused) = true)
    (hC_Refused : PySem.W.hasDictIn K C_Refused = true)
    (bE_Refused : PySem.W.subIn K (.ref C_Refused) (.type "BaseException") = some true) (tE_Refused : PySem.W.typeIn K (.ref C_Refused) = some (.type "type")) (kC_Refused : PySem.W.keepIn K (.ref C_Refused) = true) (iC_Refused : PySem.W.isClsIn K C_Refused = true)
    (s_Refused_Refused : PySem.W.subIn K (.ref C_Refused) (.ref C_Refused) = some true)
    : ∃ fd : FuncData, (∀ (s : Shared) (v : Value), BindsTo s fd ⟨[v], []⟩ [("_law_script", v)]) ∧ ∀ base : Heap, K.In base → base.Ns mainGlobals mg → FnOk l.prog w K mg base CX0 8 fa fd ["_law_script"] (sp_law K) := by
  have e := hfa.symm.trans (PySem.W.mg_of X G a_law)
  cases e
  have F_is_number := fun_mk (st := s_is_number) l_is_number cc_is_number k_is_number
  have b_is_number := F_is_number.binds (ps := ["value"]) fun _ _ _ _ _ _ us hl => match us, hl with | [_], _ => rfl
  have F_is_within := fun_mk (st := s_is_within) l_is_within cc_is_within k_is_within
  have b_is_within := F_is_within.binds (ps := ["value", "least", "most"]) fun _ _ _ _ _ _ us hl => match us, hl with | [_, _, _], _ => rfl
  have F_check_within := fun_mk (st := s_check_within) l_check_within cc_check_within k_check_within
  have b_check_within := F_check_within.binds (ps := ["value", "least", "most"]) fun _ _ _ _ _ _ us hl => match us, hl with | [_, _, _], _ => rfl
  have F_are_exponents := fun_mk (st := s_are_exponents) l_are_exponents cc_are_exponents k_are_exponents
  have b_are_exponents := F_are_exponents.binds (ps := ["value", "letters", "most"]) fun _ _ _ _ _ _ us hl => match us, hl with | [_, _, _], _ => rfl
  have F_fits := fun_mk (st := s_fits) l_fits cc_fits k_fits
  have b_fits := F_fits.binds (ps := ["one", "other"]) fun _ _ _ _ _ _ us hl => match us, hl with | [_, _], _ => rfl
  have F_is_divided := fun_mk (st := s_is_divided) l_is_divided cc_is_divided k_is_divided
  have b_is_divided := F_is_divided.binds (ps := ["product", "products"]) fun _ _ _ _ _ _ us hl => match us, hl with | [_, _], _ => rfl
  have F_is_least_of := fun_mk (st := s_is_least_of) l_is_least_of cc_is_least_of k_is_least_of
  have b_is_least_of := F_is_least_of.binds (ps := ["product", "products"]) fun _ _ _ _ _ _ us hl => match us, hl with | [_, _], _ => rfl
  have F_least_of : FunD K "least_of" "least_of" (defArgs s_least_of) (defBody s_least_of) (defScope s_least_of) [.non] [] f_least_of _ := ⟨⟨_, _, _, _, _, _, _, _, _, _, rfl, l_least_of, cc_least_of, .inr ⟨by simp, _, _, [.none], _, rfl, t_least_of, rfl, .cons rfl .nil⟩, .inl rfl⟩, k_least_of⟩
  obtain ⟨ds_least_of, hv_least_of, b_least_of⟩ := F_least_of.binds1 (ps := ["products", "most"]) 2 1 (by simp) rfl (fun T kV doc pm an cdv ct us its h1 h2 => match us, its, h1, h2 with | [_, _], [_], _, _ => ⟨_, rfl, rfl⟩)
  cases hv_least_of
  have F_are_products := fun_mk (st := s_are_products) l_are_products cc_are_products k_are_products
  have b_are_products := F_are_products.binds (ps := ["value", "letters"]) fun _ _ _ _ _ _ us hl => match us, hl with | [_, _], _ => rfl
  have F_check_lot := fun_mk (st := s_check_lot) l_check_lot cc_check_lot k_check_lot
  have b_check_lot := F_check_lot.binds (ps := ["value"]) fun _ _ _ _ _ _ us hl => match us, hl with | [_], _ => rfl
  have F_limited_members := fun_mk (st := s_limited_members) l_limited_members cc_limited_members k_limited_members
  have b_limited_members := F_limited_members.binds (ps := ["products"]) fun _ _ _ _ _ _ us hl => match us, hl with | [_], _ => rfl
  have F_has_great_exponent := fun_mk (st := s_has_great_exponent) l_has_great_exponent cc_has_great_exponent k_has_great_exponent
  have b_has_great_exponent := F_has_great_exponent.binds (ps := ["products"]) fun _ _ _ _ _ _ us hl => match us, hl with | [_], _ => rfl
  have F_letter_sets := fun_mk (st := s_letter_sets) l_letter_sets cc_letter_sets k_letter_sets
  have b_letter_sets := F_letter_sets.binds (ps := ["letters"]) fun _ _ _ _ _ _ us hl => match us, hl with | [_], _ => rfl
  have F_is_free := fun_mk (st := s_is_free) l_is_free cc_is_free k_is_free
  have b_is_free := F_is_free.binds (ps := ["chosen", "members"]) fun _ _ _ _ _ _ us hl => match us, hl with | [_, _], _ => rfl
  have F_free_sets := fun_mk (st := s_free_sets) l_free_sets cc_free_sets k_free_sets
  have b_free_sets := F_free_sets.binds (ps := ["letters", "members"]) fun _ _ _ _ _ _ us hl => match us, hl with | [_, _], _ => rfl
  have F_greatest_size := fun_mk (st := s_greatest_size) l_greatest_size cc_greatest_size k_greatest_size
  have b_greatest_size := F_greatest_size.binds (ps := ["sets"]) fun _ _ _ _ _ _ us hl => match us, hl with | [_], _ => rfl
  have F_dimension := fun_mk (st := s_dimension) l_dimension cc_dimension k_dimension
  have b_dimension := F_dimension.binds (ps := ["lot"]) fun _ _ _ _ _ _ us hl => match us, hl with | [_], _ => rfl
  have F_free_set := fun_mk (st := s_free_set) l_free_set cc_free_set k_free_set
  have b_free_set := F_free_set.binds (ps := ["lot"]) fun _ _ _ _ _ _ us hl => match us, hl with | [_], _ => rfl
  have F_is_free_set := fun_mk (st := s_is_free_set) l_is_free_set cc_is_free_set k_is_free_set
  have b_is_free_set := F_is_free_set.binds (ps := ["lot", "value"]) fun _ _ _ _ _ _ us hl => match us, hl with | [_, _], _ => rfl
  have F_greatest_free_sets := fun_mk (st := s_greatest_free_sets) l_greatest_free_sets cc_greatest_free_sets k_greatest_free_sets
  have b_greatest_free_sets := F_greatest_free_sets.binds (ps := ["lot"]) fun _ _ _ _ _ _ us hl => match us, hl with | [_], _ => rfl
  have F_w_jug := fun_mk (st := s_w_jug) l_w_jug cc_w_jug k_w_jug
  have b_w_jug := F_w_jug.binds (ps := ["_law_script", "_law_turn"]) fun _ _ _ _ _ _ us hl => match us, hl with | [_, _], _ => rfl
  have F_w_pour := fun_mk (st := s_w_pour) l_w_pour cc_w_pour k_w_pour
  have b_w_pour := F_w_pour.binds (ps := ["_law_jug_here", "_law_total"]) fun _ _ _ _ _ _ us hl => match us, hl with | [_, _], _ => rfl
  have F_w_taken := fun_mk (st := s_w_taken) l_w_taken cc_w_taken k_w_taken
  have b_w_taken := F_w_taken.binds (ps := ["_law_jug_here", "_law_items"]) fun _ _ _ _ _ _ us hl => match us, hl with | [_, _], _ => rfl
  have F_w_divides := fun_mk (st := s_w_divides) l_w_divides cc_w_divides k_w_divides
  have b_w_divides := F_w_divides.binds (ps := ["_law_one", "_law_other"]) fun _ _ _ _ _ _ us hl => match us, hl with | [_, _], _ => rfl
  have F_w_least := fun_mk (st := s_w_least) l_w_least cc_w_least k_w_least
  have b_w_least := F_w_least.binds (ps := ["_law_products"]) fun _ _ _ _ _ _ us hl => match us, hl with | [_], _ => rfl
  have F_w_product := fun_mk (st := s_w_product) l_w_product cc_w_product k_w_product
  have b_w_product := F_w_product.binds (ps := ["_law_jug_here", "_law_letters", "_law_most"]) fun _ _ _ _ _ _ us hl => match us, hl with | [_, _, _], _ => rfl
  have F_w_members := fun_mk (st := s_w_members) l_w_members cc_w_members k_w_members
  have b_w_members := F_w_members.binds (ps := ["_law_jug_here", "_law_letters", "_law_total", "_law_most"]) fun _ _ _ _ _ _ us hl => match us, hl with | [_, _, _, _], _ => rfl
  have F_w_is_free := fun_mk (st := s_w_is_free) l_w_is_free cc_w_is_free k_w_is_free
  have b_w_is_free := F_w_is_free.binds (ps := ["_law_members_here", "_law_chosen"]) fun _ _ _ _ _ _ us hl => match us, hl with | [_, _], _ => rfl
  have F_w_sets := fun_mk (st := s_w_sets) l_w_sets cc_w_sets k_w_sets
  have b_w_sets := F_w_sets.binds (ps := ["_law_letters"]) fun _ _ _ _ _ _ us hl => match us, hl with | [_], _ => rfl
  have F_w_told := fun_mk (st := s_w_told) l_w_told cc_w_told k_w_told
  have b_w_told := F_w_told.binds (ps := ["_law_lot"]) fun _ _ _ _ _ _ us hl => match us, hl with | [_], _ => rfl
  have F_w_right := fun_mk (st := s_w_right) l_w_right cc_w_right k_w_right
  have b_w_right := F_w_right.binds (ps := ["_law_jug_here"]) fun _ _ _ _ _ _ us hl => match us, hl with | [_], _ => rfl
  have F_law := fun_mk (st := s_law) l_law cc_law k_law
  have b_law := F_law.binds (ps := ["_law_script"]) fun _ _ _ _ _ _ us hl => match us, hl with | [_], _ => rfl
  have F_init := fun_mk (st := s_init) l_init cc_init k_init
  have b_init := F_init.binds (ps := ["self", "letters", "members"]) fun _ _ _ _ _ _ us hl => match us, hl with | [_, _, _], _ => rfl
  have F_letters := fun_mk (st := s_letters) l_letters cc_letters k_letters
  have b_letters := F_letters.binds (ps := ["self"]) fun _ _ _ _ _ _ us hl => match us, hl with | [_], _ => rfl
  have F_members := fun_mk (st := s_members) l_members cc_members k_members
  have b_members := F_members.binds (ps := ["self"]) fun _ _ _ _ _ _ us hl => match us, hl with | [_], _ => rfl
  have F_Refused := fun_mk (st := si_Refused) li_Refused ci_Refused ki_Refused
  have b_Refused := F_Refused.binds (ps := ["self", "reason"]) fun _ _ _ _ _ _ us hl => match us, hl with | [_, _], _ => rfl
  let T : Txt K mg := ⟨_, _, F_is_number, b_is_number, PySem.W.mg_of X G a_is_number, _, _, F_is_within, b_is_within, PySem.W.mg_of X G a_is_within, _, _, F_check_within, b_check_within, PySem.W.mg_of X G a_check_within, _, _, F_are_exponents, b_are_exponents, PySem.W.mg_of X G a_are_exponents, _, _, F_fits, b_fits, PySem.W.mg_of X G a_fits, _, _, F_is_divided, b_is_divided, PySem.W.mg_of X G a_is_divided, _, _, F_is_least_of, b_is_least_of, PySem.W.mg_of X G a_is_least_of, _, _, F_least_of, k_least_of, b_least_of, PySem.W.mg_of X G a_least_of, _, _, F_are_products, b_are_products, PySem.W.mg_of X G a_are_products, _, _, F_check_lot, b_check_lot, PySem.W.mg_of X G a_check_lot, _, _, F_limited_members, b_limited_members, PySem.W.mg_of X G a_limited_members, _, _, F_has_great_exponent, b_has_great_exponent, PySem.W.mg_of X G a_has_great_exponent, _, _, F_letter_sets, b_letter_sets, PySem.W.mg_of X G a_letter_sets, _, _, F_is_free, b_is_free, PySem.W.mg_of X G a_is_free, _, _, F_free_sets, b_free_sets, PySem.W.mg_of X G a_free_sets, _, _, F_greatest_size, b_greatest_size, PySem.W.mg_of X G a_greatest_size, _, _, F_dimension, b_dimension, PySem.W.mg_of X G a_dimension, _, _, F_free_set, b_free_set, PySem.W.mg_of X G a_free_set, _, _, F_is_free_set, b_is_free_set, PySem.W.mg_of X G a_is_free_set, _, _, F_greatest_free_sets, b_greatest_free_sets, PySem.W.mg_of X G a_greatest_free_sets, _, _, F_w_jug, b_w_jug, PySem.W.mg_of X G a_w_jug, _, _, F_w_pour, b_w_pour, PySem.W.mg_of X G a_w_pour, _, _, F_w_taken, b_w_taken, PySem.W.mg_of X G a_w_taken, _, _, F_w_divides, b_w_divides, PySem.W.mg_of X G a_w_divides, _, _, F_w_least, b_w_least, PySem.W.mg_of X G a_w_least, _, _, F_w_product, b_w_product, PySem.W.mg_of X G a_w_product, _, _, F_w_members, b_w_members, PySem.W.mg_of X G a_w_members, _, _, F_w_is_free, b_w_is_free, PySem.W.mg_of X G a_w_is_free, _, _, F_w_sets, b_w_sets, PySem.W.mg_of X G a_w_sets, _, _, F_w_told, b_w_told, PySem.W.mg_of X G a_w_told, _, _, F_w_right, b_w_right, PySem.W.mg_of X G a_w_right, _, _, F_law, b_law, PySem.W.mg_of X G a_law, PySem.W.mg_none_of X G z_isinstance, PySem.W.mg_none_of X G z_int, PySem.W.mg_none_of X G z_bool, PySem.W.mg_none_of X G z_tuple, PySem.W.mg_none_of X G z_len, PySem.W.mg_none_of X G z_all, PySem.W.mg_none_of X G z_zip, PySem.W.mg_none_of X G z_sorted, PySem.W.mg_none_of X G z_set, PySem.W.mg_none_of X G z_enumerate, PySem.W.mg_none_of X G z_range, PySem.W.mg_none_of X G z_max, PySem.W.mg_none_of X G z_sum, PySem.W.mg_none_of X G z_abs, PySem.W.mg_none_of X G z_list, PySem.W.mg_none_of X G z_min, _, PySem.W.mg_of X G g_MAX_LETTERS, _, PySem.W.mg_of X G g_MAX_EXPONENT, _, PySem.W.mg_of X G g_LONGEST_EXPONENT, _, PySem.W.mg_of X G g_MAX_MEMBER_EXPONENT, _, PySem.W.mg_of X G g_MAX_MEMBERS, _, PySem.W.mg_of X G g_MAX_PASSED, _, PySem.W.mg_of X G g_MAX_POWER, _, PySem.W.mg_of X G aC_Refused, bE_Refused, tE_Refused, kC_Refused, ⟨⟨_, _, _, _, _, _, _, _, _, _, _, _, _, _, _, xL_Refused, by decide +kernel⟩, sa_Refused, bE_Refused, tE_Refused, kC_Refused⟩, _, _, ai_Refused, ti_Refused, F_Refused, b_Refused, nf_Refused, ⟨ga_Refused, gg_Refused, bE_Refused, hC_Refused⟩, exm_b bE_Refused iC_Refused tE_Refused s_Refused_Refused⟩
  have clC : Cls K C := ⟨pgC, hdC, poC, saC⟩
  let O : LotT K mg := ⟨C, clC, nL, nM, PySem.W.mg_of X G aC, _, _, F_init, b_init, ⟨mkC, a_init, i_init, kcC⟩⟩
  let R : LotP K C := ⟨_, _, _, ⟨a_letters, g_letters, tk_letters, ⟨_, r_letters⟩⟩, F_letters, b_letters, _, _, _, ⟨a_members, g_members, tk_members, ⟨_, r_members⟩⟩, F_members, b_members⟩
  let W : LotO K mg C := ⟨fun H a dx fs h => .base (.ins h clC c1 c2 c3 hm), kit⟩
  let GG : LotsT K mg := ⟨T, O, R, W⟩
  exact ⟨_, fun s v => .of_eq rfl, fun base _ _ => ok_law GG⟩
end K14

open PySem PySem.W PyProof.Rows
set_option maxRecDepth 100000 in
set_option maxHeartbeats 0 in
theorem PySem.Challenge.cw_pureladders_k14_whole_free_sets_holds : PySem.Challenge.rw_pureladders_k14_whole_free_sets.Holds := by
  w_on; o_law; k_head; (case hw => w_witness2)
  k_fill
  refine L2.walk_of (l := PySem.Challenge.rw_pureladders_k14_whole_free_sets) (n := 63) (k := 8) (x := "_law_script") (CX := fun _ => L2.CX0) (sp := fun w => K14.sp_law _) rfl (by decide) rfl ⟨rfl, by decide, by decide⟩ (fun w h Y => PySem.W.kIn_of Y) ?F (fun _ _ a ns hl _ hS => ⟨a, ns, rfl, hS, hl, fun _ => rfl⟩) (fun _ _ _ _ _ h => h)
  case F =>
    intro w mg fa h KX G hmg
    refine' K14.all_mk KX G hmg ?a_is_number ?l_is_number ?cc_is_number ?k_is_number ?a_is_within ?l_is_within ?cc_is_within ?k_is_within ?a_check_within ?l_check_within ?cc_check_within ?k_check_within ?a_are_exponents ?l_are_exponents ?cc_are_exponents ?k_are_exponents ?a_fits ?l_fits ?cc_fits ?k_fits ?a_is_divided ?l_is_divided ?cc_is_divided ?k_is_divided ?a_is_least_of ?l_is_least_of ?cc_is_least_of ?k_is_least_of ?a_least_of ?l_least_of ?cc_least_of ?k_least_of ?t_least_of ?a_are_products ?l_are_products ?cc_are_products ?k_are_products ?a_check_lot ?l_check_lot ?cc_check_lot ?k_check_lot ?a_limited_members ?l_limited_members ?cc_limited_members ?k_limited_members ?a_has_great_exponent ?l_has_great_exponent ?cc_has_great_exponent ?k_has_great_exponent ?a_letter_sets ?l_letter_sets ?cc_letter_sets ?k_letter_sets ?a_is_free ?l_is_free ?cc_is_free ?k_is_free ?a_free_sets ?l_free_sets ?cc_free_sets ?k_free_sets ?a_greatest_size ?l_greatest_size ?cc_greatest_size ?k_greatest_size ?a_dimension ?l_dimension ?cc_dimension ?k_dimension ?a_free_set ?l_free_set ?cc_free_set ?k_free_set ?a_is_free_set ?l_is_free_set ?cc_is_free_set ?k_is_free_set ?a_greatest_free_sets ?l_greatest_free_sets ?cc_greatest_free_sets ?k_greatest_free_sets ?a_w_jug ?l_w_jug ?cc_w_jug ?k_w_jug ?a_w_pour ?l_w_pour ?cc_w_pour ?k_w_pour ?a_w_taken ?l_w_taken ?cc_w_taken ?k_w_taken ?a_w_divides ?l_w_divides ?cc_w_divides ?k_w_divides ?a_w_least ?l_w_least ?cc_w_least ?k_w_least ?a_w_product ?l_w_product ?cc_w_product ?k_w_product ?a_w_members ?l_w_members ?cc_w_members ?k_w_members ?a_w_is_free ?l_w_is_free ?cc_w_is_free ?k_w_is_free ?a_w_sets ?l_w_sets ?cc_w_sets ?k_w_sets ?a_w_told ?l_w_told ?cc_w_told ?k_w_told ?a_w_right ?l_w_right ?cc_w_right ?k_w_right ?a_law ?l_law ?cc_law ?k_law ?aC ?a_init ?i_init ?l_init ?cc_init ?k_init ?a_letters ?g_letters ?tk_letters ?r_letters ?l_letters ?cc_letters ?k_letters ?a_members ?g_members ?tk_members ?r_members ?l_members ?cc_members ?k_members ?pgC ?hdC ?poC ?saC ?mkC ?kcC ?nL ?nM ?c1 ?c2 ?c3 ?hm ?kit ?z_isinstance ?z_int ?z_bool ?z_tuple ?z_len ?z_all ?z_zip ?z_sorted ?z_set ?z_enumerate ?z_range ?z_max ?z_sum ?z_abs ?z_list ?z_min ?g_MAX_LETTERS ?g_MAX_EXPONENT ?g_LONGEST_EXPONENT ?g_MAX_MEMBER_EXPONENT ?g_MAX_MEMBERS ?g_MAX_PASSED ?g_MAX_POWER ?aC_Refused ?xL_Refused ?sa_Refused ?ga_Refused ?gg_Refused ?nf_Refused ?ai_Refused ?ti_Refused ?li_Refused ?ci_Refused ?ki_Refused ?hC_Refused ?bE_Refused ?tE_Refused ?kC_Refused ?iC_Refused ?s_Refused_Refused
    (case a_is_number => first | k_is | kernel_rfl | rfl)
    (case l_is_number => first | k_is | kernel_rfl | rfl)
    (case cc_is_number => first | k_is | kernel_rfl | rfl)
    (case k_is_number => first | k_is | kernel_rfl | rfl)
    (case a_is_within => first | k_is | kernel_rfl | rfl)
    (case l_is_within => first | k_is | kernel_rfl | rfl)
    (case cc_is_within => first | k_is | kernel_rfl | rfl)
    (case k_is_within => first | k_is | kernel_rfl | rfl)
    (case a_check_within => first | k_is | kernel_rfl | rfl)
    (case l_check_within => first | k_is | kernel_rfl | rfl)
    (case cc_check_within => first | k_is | kernel_rfl | rfl)
    (case k_check_within => first | k_is | kernel_rfl | rfl)
    (case a_are_exponents => first | k_is | kernel_rfl | rfl)
    (case l_are_exponents => first | k_is | kernel_rfl | rfl)
    (case cc_are_exponents => first | k_is | kernel_rfl | rfl)
    (case k_are_exponents => first | k_is | kernel_rfl | rfl)
    (case a_fits => first | k_is | kernel_rfl | rfl)
    (case l_fits => first | k_is | kernel_rfl | rfl)
    (case cc_fits => first | k_is | kernel_rfl | rfl)
    (case k_fits => first | k_is | kernel_rfl | rfl)
    (case a_is_divided => first | k_is | kernel_rfl | rfl)
    (case l_is_divided => first | k_is | kernel_rfl | rfl)
    (case cc_is_divided => first | k_is | kernel_rfl | rfl)
    (case k_is_divided => first | k_is | kernel_rfl | rfl)
    (case a_is_least_of => first | k_is | kernel_rfl | rfl)
    (case l_is_least_of => first | k_is | kernel_rfl | rfl)
    (case cc_is_least_of => first | k_is | kernel_rfl | rfl)
    (case k_is_least_of => first | k_is | kernel_rfl | rfl)
    (case a_least_of => first | k_is | kernel_rfl | rfl)
    (case l_least_of => first | k_is | kernel_rfl | rfl)
    (case cc_least_of => first | k_is | kernel_rfl | rfl)
    (case k_least_of => first | k_is | kernel_rfl | rfl)
    (case t_least_of => first | k_is | kernel_rfl | rfl)
    (case a_are_products => first | k_is | kernel_rfl | rfl)
    (case l_are_products => first | k_is | kernel_rfl | rfl)
    (case cc_are_products => first | k_is | kernel_rfl | rfl)
    (case k_are_products => first | k_is | kernel_rfl | rfl)
    (case a_check_lot => first | k_is | kernel_rfl | rfl)
    (case l_check_lot => first | k_is | kernel_rfl | rfl)
    (case cc_check_lot => first | k_is | kernel_rfl | rfl)
    (case k_check_lot => first | k_is | kernel_rfl | rfl)
    (case a_limited_members => first | k_is | kernel_rfl | rfl)
    (case l_limited_members => first | k_is | kernel_rfl | rfl)
    (case cc_limited_members => first | k_is | kernel_rfl | rfl)
    (case k_limited_members => first | k_is | kernel_rfl | rfl)
    (case a_has_great_exponent => first | k_is | kernel_rfl | rfl)
    (case l_has_great_exponent => first | k_is | kernel_rfl | rfl)
    (case cc_has_great_exponent => first | k_is | kernel_rfl | rfl)
    (case k_has_great_exponent => first | k_is | kernel_rfl | rfl)
    (case a_letter_sets => first | k_is | kernel_rfl | rfl)
    (case l_letter_sets => first | k_is | kernel_rfl | rfl)
    (case cc_letter_sets => first | k_is | kernel_rfl | rfl)
    (case k_letter_sets => first | k_is | kernel_rfl | rfl)
    (case a_is_free => first | k_is | kernel_rfl | rfl)
    (case l_is_free => first | k_is | kernel_rfl | rfl)
    (case cc_is_free => first | k_is | kernel_rfl | rfl)
    (case k_is_free => first | k_is | kernel_rfl | rfl)
    (case a_free_sets => first | k_is | kernel_rfl | rfl)
    (case l_free_sets => first | k_is | kernel_rfl | rfl)
    (case cc_free_sets => first | k_is | kernel_rfl | rfl)
    (case k_free_sets => first | k_is | kernel_rfl | rfl)
    (case a_greatest_size => first | k_is | kernel_rfl | rfl)
    (case l_greatest_size => first | k_is | kernel_rfl | rfl)
    (case cc_greatest_size => first | k_is | kernel_rfl | rfl)
    (case k_greatest_size => first | k_is | kernel_rfl | rfl)
    (case a_dimension => first | k_is | kernel_rfl | rfl)
    (case l_dimension => first | k_is | kernel_rfl | rfl)
    (case cc_dimension => first | k_is | kernel_rfl | rfl)
    (case k_dimension => first | k_is | kernel_rfl | rfl)
    (case a_free_set => first | k_is | kernel_rfl | rfl)
    (case l_free_set => first | k_is | kernel_rfl | rfl)
    (case cc_free_set => first | k_is | kernel_rfl | rfl)
    (case k_free_set => first | k_is | kernel_rfl | rfl)
    (case a_is_free_set => first | k_is | kernel_rfl | rfl)
    (case l_is_free_set => first | k_is | kernel_rfl | rfl)
    (case cc_is_free_set => first | k_is | kernel_rfl | rfl)
    (case k_is_free_set => first | k_is | kernel_rfl | rfl)
    (case a_greatest_free_sets => first | k_is | kernel_rfl | rfl)
    (case l_greatest_free_sets => first | k_is | kernel_rfl | rfl)
    (case cc_greatest_free_sets => first | k_is | kernel_rfl | rfl)
    (case k_greatest_free_sets => first | k_is | kernel_rfl | rfl)
    (case a_w_jug => first | k_is | kernel_rfl | rfl)
    (case l_w_jug => first | k_is | kernel_rfl | rfl)
    (case cc_w_jug => first | k_is | kernel_rfl | rfl)
    (case k_w_jug => first | k_is | kernel_rfl | rfl)
    (case a_w_pour => first | k_is | kernel_rfl | rfl)
    (case l_w_pour => first | k_is | kernel_rfl | rfl)
    (case cc_w_pour => first | k_is | kernel_rfl | rfl)
    (case k_w_pour => first | k_is | kernel_rfl | rfl)
    (case a_w_taken => first | k_is | kernel_rfl | rfl)
    (case l_w_taken => first | k_is | kernel_rfl | rfl)
    (case cc_w_taken => first | k_is | kernel_rfl | rfl)
    (case k_w_taken => first | k_is | kernel_rfl | rfl)
    (case a_w_divides => first | k_is | kernel_rfl | rfl)
    (case l_w_divides => first | k_is | kernel_rfl | rfl)
    (case cc_w_divides => first | k_is | kernel_rfl | rfl)
    (case k_w_divides => first | k_is | kernel_rfl | rfl)
    (case a_w_least => first | k_is | kernel_rfl | rfl)
    (case l_w_least => first | k_is | kernel_rfl | rfl)
    (case cc_w_least => first | k_is | kernel_rfl | rfl)
    (case k_w_least => first | k_is | kernel_rfl | rfl)
    (case a_w_product => first | k_is | kernel_rfl | rfl)
    (case l_w_product => first | k_is | kernel_rfl | rfl)
    (case cc_w_product => first | k_is | kernel_rfl | rfl)
    (case k_w_product => first | k_is | kernel_rfl | rfl)
    (case a_w_members => first | k_is | kernel_rfl | rfl)
    (case l_w_members => first | k_is | kernel_rfl | rfl)
    (case cc_w_members => first | k_is | kernel_rfl | rfl)
    (case k_w_members => first | k_is | kernel_rfl | rfl)
    (case a_w_is_free => first | k_is | kernel_rfl | rfl)
    (case l_w_is_free => first | k_is | kernel_rfl | rfl)
    (case cc_w_is_free => first | k_is | kernel_rfl | rfl)
    (case k_w_is_free => first | k_is | kernel_rfl | rfl)
    (case a_w_sets => first | k_is | kernel_rfl | rfl)
    (case l_w_sets => first | k_is | kernel_rfl | rfl)
    (case cc_w_sets => first | k_is | kernel_rfl | rfl)
    (case k_w_sets => first | k_is | kernel_rfl | rfl)
    (case a_w_told => first | k_is | kernel_rfl | rfl)
    (case l_w_told => first | k_is | kernel_rfl | rfl)
    (case cc_w_told => first | k_is | kernel_rfl | rfl)
    (case k_w_told => first | k_is | kernel_rfl | rfl)
    (case a_w_right => first | k_is | kernel_rfl | rfl)
    (case l_w_right => first | k_is | kernel_rfl | rfl)
    (case cc_w_right => first | k_is | kernel_rfl | rfl)
    (case k_w_right => first | k_is | kernel_rfl | rfl)
    (case a_law => first | k_is | kernel_rfl | rfl)
    (case l_law => first | k_is | kernel_rfl | rfl)
    (case cc_law => first | k_is | kernel_rfl | rfl)
    (case k_law => first | k_is | kernel_rfl | rfl)
    (case aC => first | k_is | kernel_rfl | rfl)
    (case a_init => first | k_is | kernel_rfl | rfl)
    (case i_init => first | k_is | kernel_rfl | rfl)
    (case l_init => first | k_is | kernel_rfl | rfl)
    (case cc_init => first | k_is | kernel_rfl | rfl)
    (case k_init => first | k_is | kernel_rfl | rfl)
    (case a_letters => first | k_is | kernel_rfl | rfl)
    (case g_letters => first | k_is | kernel_rfl | rfl)
    (case tk_letters => first | k_is | kernel_rfl | rfl)
    (case r_letters => first | k_is | kernel_rfl | rfl)
    (case l_letters => first | k_is | kernel_rfl | rfl)
    (case cc_letters => first | k_is | kernel_rfl | rfl)
    (case k_letters => first | k_is | kernel_rfl | rfl)
    (case a_members => first | k_is | kernel_rfl | rfl)
    (case g_members => first | k_is | kernel_rfl | rfl)
    (case tk_members => first | k_is | kernel_rfl | rfl)
    (case r_members => first | k_is | kernel_rfl | rfl)
    (case l_members => first | k_is | kernel_rfl | rfl)
    (case cc_members => first | k_is | kernel_rfl | rfl)
    (case k_members => first | k_is | kernel_rfl | rfl)
    (case pgC => first | k_is | kernel_rfl | rfl)
    (case hdC => first | k_is | kernel_rfl | rfl)
    (case poC => first | k_is | kernel_rfl | rfl)
    (case saC => first | k_is | kernel_rfl | rfl)
    (case mkC => first | k_is | kernel_rfl | rfl)
    (case kcC => first | k_is | kernel_rfl | rfl)
    (case nL => first | k_is | kernel_rfl | rfl)
    (case nM => first | k_is | kernel_rfl | rfl)
    (case c1 => first | k_is | kernel_rfl | rfl)
    (case c2 => first | k_is | kernel_rfl | rfl)
    (case c3 => first | k_is | kernel_rfl | rfl)
    (case hm => first | k_is | kernel_rfl | rfl)
    (case kit => first | k_is | kernel_rfl | rfl)
    (case z_isinstance => first | k_is | kernel_rfl | rfl)
    (case z_int => first | k_is | kernel_rfl | rfl)
    (case z_bool => first | k_is | kernel_rfl | rfl)
    (case z_tuple => first | k_is | kernel_rfl | rfl)
    (case z_len => first | k_is | kernel_rfl | rfl)
    (case z_all => first | k_is | kernel_rfl | rfl)
    (case z_zip => first | k_is | kernel_rfl | rfl)
    (case z_sorted => first | k_is | kernel_rfl | rfl)
    (case z_set => first | k_is | kernel_rfl | rfl)
    (case z_enumerate => first | k_is | kernel_rfl | rfl)
    (case z_range => first | k_is | kernel_rfl | rfl)
    (case z_max => first | k_is | kernel_rfl | rfl)
    (case z_sum => first | k_is | kernel_rfl | rfl)
    (case z_abs => first | k_is | kernel_rfl | rfl)
    (case z_list => first | k_is | kernel_rfl | rfl)
    (case z_min => first | k_is | kernel_rfl | rfl)
    (case g_MAX_LETTERS => first | k_is | kernel_rfl | rfl)
    (case g_MAX_EXPONENT => first | k_is | kernel_rfl | rfl)
    (case g_LONGEST_EXPONENT => first | k_is | kernel_rfl | rfl)
    (case g_MAX_MEMBER_EXPONENT => first | k_is | kernel_rfl | rfl)
    (case g_MAX_MEMBERS => first | k_is | kernel_rfl | rfl)
    (case g_MAX_PASSED => first | k_is | kernel_rfl | rfl)
    (case g_MAX_POWER => first | k_is | kernel_rfl | rfl)
    (case aC_Refused => first | k_is | kernel_rfl | rfl)
    (case xL_Refused => first | k_is | kernel_rfl | rfl)
    (case sa_Refused => first | k_is | kernel_rfl | rfl)
    (case ga_Refused => first | k_is | kernel_rfl | rfl)
    (case gg_Refused => first | k_is | kernel_rfl | rfl)
    (case nf_Refused => first | k_is | kernel_rfl | rfl)
    (case ai_Refused => first | k_is | kernel_rfl | rfl)
    (case ti_Refused => first | k_is | kernel_rfl | rfl)
    (case li_Refused => first | k_is | kernel_rfl | rfl)
    (case ci_Refused => first | k_is | kernel_rfl | rfl)
    (case ki_Refused => first | k_is | kernel_rfl | rfl)
    (case hC_Refused => first | k_is | kernel_rfl | rfl)
    (case bE_Refused => first | k_is | kernel_rfl | rfl)
    (case tE_Refused => first | k_is | kernel_rfl | rfl)
    (case kC_Refused => first | k_is | kernel_rfl | rfl)
    (case iC_Refused => first | k_is | kernel_rfl | rfl)
    (case s_Refused_Refused => first | k_is | kernel_rfl | rfl)
